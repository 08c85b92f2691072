/-
  The reader of a module's bytes: a number; one within limits.
-/
import Derived.Test.YticaoekmlaipnaaDoorM16
set_option linter.unusedSimpArgs false
set_option linter.unusedVariables false
namespace Go.Proofs.YticaoekmlaipnaaDoor
open Go.RowKit
open Wire

/-- Any number. -/
def numU : Rd Nat := fun base c => match num c with
  | none => .inl (6, base - c.length)
  | some p => .inr p
theorem numU_tidy : Tidy numU := by
  refine ⟨fun {base l f} h => ?_, fun {base l x r} h => ?_⟩
  · unfold numU at h
    split at h
    · simp only [Sum.inl.injEq] at h; subst h; exact ⟨by simp, by simp, Nat.sub_le _ _⟩
    · cases h
  · unfold numU at h
    split at h
    · cases h
    · rename_i p hp
      simp only [Sum.inr.injEq] at h
      subst h
      exact ⟨_, (num_some hp).1⟩

theorem bl_extract (b : ByteArray) (a e : Nat) : bl (b.extract a e) = seg (bl b) a e := by
  unfold bl seg
  rw [ByteArray.data_extract, Array.toList_extract, List.drop_take]

theorem num_nil : num [] = none := rfl

theorem stA_le {b : ByteArray} {s : Sta} (h : okSta (bl b) s) : stA b.size s ≤ stE b.size s ∧ stE b.size s ≤ b.size := by
  have hL := bl_length b
  rcases s with ⟨x, y⟩ | ⟨x, y⟩
  · exact ⟨Nat.le_refl _, Nat.le_refl _⟩
  · obtain ⟨h1, h2⟩ := h
    exact ⟨h1, by simp only [stE]; omega⟩

set_option maxRecDepth 100000 in
set_option maxHeartbeats 1000000 in
theorem number_any {w : World} {r : Nat} {b : ByteArray} {s : Sta} (h : RdS w r b s) (hs : b.size ≤ 40000) :
    Calls Tryd.prog 88 #[.pointer (some ⟨r, 0, none⟩)] w fun ee w' => ee = .returned (.int .i64 (outR numU (bl b) 0 s : Nat)) ∧ RdS w' r b (nextR numU (bl b) s) ∧ Fr [r] w w' := by
  have hm : Tryd.prog.follows Departure.mixedOrders = true := by kernel_rfl
  have hL := bl_length b
  obtain ⟨l1, l2⟩ := stA_le h.ok
  have hfail := fun (W : World) (hW : RdS W r b s) => failU_any (place := stA b.size s) (no := 6) rfl hW hs (by omega) (by omega) (by omega)
  have hseg : (bl (b.extract (stA b.size s) (stE b.size s))).length = stE b.size s - stA b.size s := by rw [bl_extract, seg_length (by omega)]
  have hx : (b.extract (stA b.size s) (stE b.size s)).size = stE b.size s - stA b.size s := by rw [← bl_length]; exact hseg
  have hread := fun (W : World) => numRead_any (b.extract (stA b.size s) (stE b.size s)) (by omega) W
  have K := h
  obtain ⟨⟨c0, c1, c2, c3, c4, f1, f2, f3, f4⟩, hok⟩ := h
  have g1 : (0 : Int) ≤ (stA b.size s : Int) := by omega
  have g2 : (stA b.size s : Int) ≤ (stE b.size s : Int) := by omega
  have g3 : (stE b.size s : Int) ≤ (b.size : Int) := by omega
  cases hn : num (bl (b.extract (stA b.size s) (stE b.size s))) with
  | none =>
    have hnext : nextR numU (bl b) s = failS 6 (stA b.size s) s := by
      rcases s with ⟨x, y⟩ | ⟨x, y⟩
      · rfl
      · rw [bl_extract] at hn hseg
        simp only [stA, stE] at hn hseg l1
        simp only [nextR, failS, numU, hn, stA, hseg]
        congr 2
        omega
    have hout : outR numU (bl b) 0 s = 0 := by
      rcases s with ⟨x, y⟩ | ⟨x, y⟩
      · rfl
      · rw [bl_extract] at hn
        simp only [stA, stE] at hn
        simp only [outR, numU, hn]
    rw [hnext, hout]
    have hV : numV (bl (b.extract (stA b.size s) (stE b.size s))) = 0 := by simp only [numV, hn]
    have hK : numK (bl (b.extract (stA b.size s) (stE b.size s))) = 0 := by simp only [numK, hn]
    simp only [hV, hK] at hread
    have HF : Hid _ := hfail
    have HR : Hid _ := hread
    generalize stA b.size s = a at *
    generalize stE b.size s = e at *
    clear hfail hread hnext hout hV hK hn hseg hx hok
    go_enter Tryd.func88, Tryd.ntmps88
    go_wp2
    go_quiet (first | (go_at_call 99; refine Calls.quiet_of_same (HR.out _)))
    go_wp2_with fail
    refine (HF.out _ ?hk).mono ?_
    case hk => exact K.heap rfl
    rintro ee w1 ⟨rfl, K1, F1⟩
    go_wp2
    go_ret
    exact ⟨rfl, K1, ⟨F1.os, F1.tape, F1.output, F1.size, F1.block⟩⟩
  | some p =>
    obtain ⟨n, q⟩ := p
    obtain ⟨e1, hlt⟩ := num_some hn
    rcases s with ⟨x, y⟩ | ⟨a, e⟩
    · exfalso
      rw [bl_extract] at hn
      simp only [stA, stE, seg_nil, num_nil] at hn
      cases hn
    · simp only [stA, stE] at *
      have hdn : 0 < (digs n).length := by
        cases hd : digs n with
        | nil => exact absurd hd (digs_ne _ (by omega))
        | cons a r => simp
      have hlen := congrArg List.length e1
      rw [hseg, List.length_append] at hlen
      have hn2 := hn
      rw [bl_extract] at hn2
      have hnext : nextR numU (bl b) (.inr (a, e)) = .inr (e - q.length, e) := by simp only [nextR, numU, hn2]
      have hout : outR numU (bl b) 0 (.inr (a, e)) = n := by simp only [outR, numU, hn2]
      have hV : numV (bl (b.extract a e)) = n := by simp only [numV, hn]
      have hK : numK (bl (b.extract a e)) = (digs n).length := by simp only [numK, hn, hseg]; omega
      simp only [hV, hK] at hread
      rw [hnext, hout]
      have HR : Hid _ := hread
      have ea : e - q.length = a + (digs n).length := by omega
      rw [ea]
      have hb10 := digs_len n
      obtain ⟨k, hk⟩ : ∃ k, (digs n).length = k := ⟨_, rfl⟩
      rw [hk] at hdn HR hlen hb10 ⊢
      have K1 : RdS (w.setCell ⟨r, 1, none⟩ (.int .i64 ((a + k : Nat) : Int))) r b (.inr (a + k, e)) := ⟨K.c.set1 (a + k), by show a + k ≤ e ∧ _; exact ⟨by omega, hok.2⟩⟩
      rw [Int.natCast_add] at K1
      have g4 : ((k : Int) == 0) = false := by simp; omega
      clear hfail hread hnext hout hV hK hn hn2 hseg hx hok K ea hk e1 hlen
      go_enter Tryd.func88, Tryd.ntmps88
      go_wp2
      go_quiet (first | (go_at_call 99; refine Calls.quiet_of_same (HR.out _)))
      go_wp2
      go_ret
      exact ⟨rfl, K1.heap rfl, ((Fr.refl [r] w).setCell (p := ⟨r, 1, none⟩) (.inl (by simp)) _).drewN _⟩

theorem numberR_next (lo hi : Nat) (b : ByteArray) (s : Sta) (hok : okSta (bl b) s) :
    nextR (numberR lo hi) (bl b) s = (if outR numU (bl b) 0 s < lo ∨ hi < outR numU (bl b) 0 s then failS 4 (stA b.size s) (nextR numU (bl b) s) else nextR numU (bl b) s) ∧
    outR (numberR lo hi) (bl b) 0 s = (if outR numU (bl b) 0 s < lo ∨ hi < outR numU (bl b) 0 s then 0 else outR numU (bl b) 0 s) := by
  have hL := bl_length b
  rcases s with ⟨x, y⟩ | ⟨a, e⟩
  · refine ⟨?_, ?_⟩
    · exact (ite_self (Sum.inl (x, y))).symm
    · exact (ite_self 0).symm
  · obtain ⟨o1, o2⟩ := hok
    cases hn : num (seg (bl b) a e) with
    | none =>
      refine ⟨?_, ?_⟩
      · simp only [nextR, outR, numU, numberR, hn, failS]; rw [ite_self]
      · simp only [nextR, outR, numU, numberR, hn, failS]; rw [ite_self]
    | some p =>
      obtain ⟨n, q⟩ := p
      simp only [nextR, outR, numU, numberR, hn, stA]
      by_cases hc : n < lo ∨ hi < n
      · simp only [if_pos hc, failS, seg_length o2]
        exact ⟨by congr 2; omega, trivial⟩
      · simp only [if_neg hc]
        exact ⟨trivial, trivial⟩

theorem numU_small (b : ByteArray) (s : Sta) : outR numU (bl b) 0 s < 34359738368 := by
  rcases s with ⟨x, y⟩ | ⟨a, e⟩
  · simp [outR]
  · simp only [outR, numU]
    cases hn : num (seg (bl b) a e) with
    | none => simp
    | some p => exact (num_some hn).2

set_option maxRecDepth 100000 in
set_option maxHeartbeats 1000000 in
theorem limited_any {w : World} {r : Nat} {b : ByteArray} {s : Sta} {lo hi : Nat} {loI hiI : Int} (hlo : loI = (lo : Int)) (hhi : hiI = (hi : Int)) (h : RdS w r b s) (hs : b.size ≤ 40000) (h1 : lo ≤ 1000) (h2 : hi ≤ 100000) :
    Calls Tryd.prog 68 #[.pointer (some ⟨r, 0, none⟩), .int .i64 loI, .int .i64 hiI] w fun ee w' => ee = .returned (.int .i64 (outR (numberR lo hi) (bl b) 0 s : Nat)) ∧ RdS w' r b (nextR (numberR lo hi) (bl b) s) ∧ Fr [r] w w' := by
  subst hlo hhi
  obtain ⟨e1, e2⟩ := numberR_next lo hi b s h.ok
  rw [e1, e2]
  obtain ⟨l1, l2⟩ := stA_le h.ok
  have hsm := numU_small b s
  have hnum := number_any h hs
  have hfail := fun (W : World) (hW : RdS W r b (nextR numU (bl b) s)) => failU_any (place := stA b.size s) (no := 4) rfl hW hs (by omega) (by omega) (by omega)
  have c1 := h.c.c1
  obtain ⟨x, hx⟩ : ∃ x, outR numU (bl b) 0 s = x := ⟨_, rfl⟩
  obtain ⟨s', hs'⟩ : ∃ s', nextR numU (bl b) s = s' := ⟨_, rfl⟩
  rw [hx] at hsm hnum ⊢
  rw [hs'] at hnum hfail ⊢
  have HF : Hid _ := hfail
  generalize stA b.size s = a at *
  clear hfail e1 e2 hx hs' h
  by_cases q1 : x < lo
  · rw [if_pos (.inl q1), if_pos (.inl q1)]
    have g1 : (x : Int) < lo := by omega
    go_enter Tryd.func68, Tryd.ntmps68
    go_wp2_with fail
    refine hnum.mono ?_
    rintro ee w1 ⟨rfl, K1, F1⟩
    go_wp2_with fail
    refine (HF.out _ K1).mono ?_
    rintro ee w2 ⟨rfl, K2, F2⟩
    go_wp2
    go_ret
    exact ⟨rfl, K2, F1.trans F2⟩
  · have g1 : ¬ (x : Int) < lo := by omega
    by_cases q2 : hi < x
    · rw [if_pos (.inr q2), if_pos (.inr q2)]
      have g2 : (hi : Int) < x := by omega
      go_enter Tryd.func68, Tryd.ntmps68
      go_wp2_with fail
      refine hnum.mono ?_
      rintro ee w1 ⟨rfl, K1, F1⟩
      go_wp2_with fail
      refine (HF.out _ K1).mono ?_
      rintro ee w2 ⟨rfl, K2, F2⟩
      go_wp2
      go_ret
      exact ⟨rfl, K2, F1.trans F2⟩
    · have q3 : ¬ (x < lo ∨ hi < x) := by omega
      rw [if_neg q3, if_neg q3]
      have g2 : ¬ (hi : Int) < x := by omega
      go_enter Tryd.func68, Tryd.ntmps68
      go_wp2_with fail
      refine hnum.mono ?_
      rintro ee w1 ⟨rfl, K1, F1⟩
      go_wp2
      go_ret
      exact ⟨rfl, K1, F1⟩
end Go.Proofs.YticaoekmlaipnaaDoor

