/-
  The reader of a module's bytes: so many bytes; a text; a pattern.
-/
import Derived.Test.YticaoekmlaipnaaDoorM17
import Derived.Test.YticaoekmlaipnaaDoorM18
set_option linter.unusedSimpArgs false
set_option linter.unusedVariables false
namespace Go.Proofs.YticaoekmlaipnaaDoor
open Go.RowKit
open Wire

set_option maxHeartbeats 400000 in
theorem cloneU_any (s : ByteArray) (w : World) (hs : s.size ≤ 100000) : Calls Tryd.prog 44 #[.string s] w fun e w' => e = .returned (.string s) ∧ Fr [] w w' := by
  have hc := Tryd.stringslite_Clone s w (by omega)
  go_enter Tryd.func44, Tryd.ntmps44
  go_wp2_with fail
  refine hc.mono ?_
  rintro e w1 ⟨rfl, lo⟩
  go_wp2
  go_ret
  exact ⟨rfl, Fr.of_below lo⟩

/-- So many bytes further. -/
def advS (x : Nat) : Sta → Sta
  | .inl f => .inl f
  | .inr p => .inr (p.1 + x, p.2)

theorem seg_take (l : List UInt8) (a e x : Nat) (h : a + x ≤ e) : (seg l a e).take x = seg l a (a + x) := by
  unfold seg
  rw [List.drop_take, List.drop_take, List.take_take]
  congr 1
  omega

theorem bytesR_next (lim : Nat) (b : ByteArray) (s : Sta) (hok : okSta (bl b) s) (x : Nat) (s' : Sta) (hx : outR (numberR 0 lim) (bl b) 0 s = x) (hs' : nextR (numberR 0 lim) (bl b) s = s') :
    nextR (bytesR lim) (bl b) s = (if stE b.size s' - stA b.size s' < x then failS 7 (stA b.size s) s' else advS x s') ∧
    outR (bytesR lim) (bl b) ⟨#[]⟩ s = (if stE b.size s' - stA b.size s' < x then ⟨#[]⟩ else b.extract (stA b.size s') (stA b.size s' + x)) := by
  have hL := bl_length b
  rcases s with ⟨f, y⟩ | ⟨a, e⟩
  · subst hx hs'
    have c0 : ¬ (stE b.size (nextR (numberR 0 lim) (bl b) (.inl (f, y))) - stA b.size (nextR (numberR 0 lim) (bl b) (.inl (f, y))) < outR (numberR 0 lim) (bl b) 0 (.inl (f, y))) := by
      show ¬ (b.size - b.size < 0)
      omega
    rw [if_neg c0, if_neg c0]
    refine ⟨rfl, ?_⟩
    apply bl_inj
    rw [bl_extract]
    show _ = seg (bl b) b.size (b.size + 0)
    rw [Nat.add_zero, seg_nil]
    rfl
  · obtain ⟨o1, o2⟩ := hok
    have hsl := seg_length (l := bl b) (a := a) o2
    cases hn : numberR 0 lim e (seg (bl b) a e) with
    | inl f =>
      rw [outR_inl hn] at hx
      rw [nextR_inl hn] at hs'
      subst hx hs'
      have hb : bytesR lim e (seg (bl b) a e) = .inl f := by simp only [bytesR, hn, bnd]
      rw [nextR_inl hb, outR_inl hb]
      have c0 : ¬ (stE b.size (.inl f) - stA b.size (.inl f) < 0) := by omega
      rw [if_neg c0, if_neg c0]
      refine ⟨rfl, ?_⟩
      apply bl_inj
      rw [bl_extract]
      show _ = seg (bl b) b.size (b.size + 0)
      rw [Nat.add_zero, seg_nil]
      rfl
    | inr p =>
      obtain ⟨n, q⟩ := p
      rw [outR_inr hn] at hx
      rw [nextR_inr hn] at hs'
      subst hx hs'
      obtain ⟨t1, t2, t3⟩ := (numberR_tidy 0 lim).seg o1 o2 hn
      by_cases hq : q.length < n
      · have hb : bytesR lim e (seg (bl b) a e) = .inl (7, e - (seg (bl b) a e).length) := by simp only [bytesR, hn, bnd, if_pos hq]
        have c0 : stE b.size (.inr (e - q.length, e)) - stA b.size (.inr (e - q.length, e)) < n := by simp only [stA, stE]; omega
        rw [nextR_inl hb, outR_inl hb, if_pos c0, if_pos c0]
        refine ⟨?_, rfl⟩
        simp only [failS, stA, hsl]
        congr 2
        omega
      · have hb : bytesR lim e (seg (bl b) a e) = .inr (⟨(q.take n).toArray⟩, q.drop n) := by simp only [bytesR, hn, bnd, if_neg hq]
        have c0 : ¬ stE b.size (.inr (e - q.length, e)) - stA b.size (.inr (e - q.length, e)) < n := by simp only [stA, stE]; omega
        rw [nextR_inr hb, outR_inr hb, if_neg c0, if_neg c0]
        refine ⟨?_, ?_⟩
        · simp only [advS, List.length_drop]
          congr 2
          omega
        · apply bl_inj
          rw [bl_extract, bl_mk]
          simp only [stA]
          rw [← seg_take (bl b) (e - q.length) e n (by omega), t1]

theorem outN_le (lim : Nat) (b : ByteArray) (s : Sta) : outR (numberR 0 lim) (bl b) 0 s ≤ lim := by
  rcases s with ⟨x, y⟩ | ⟨a, e⟩
  · simp [outR]
  · cases hn : numberR 0 lim e (seg (bl b) a e) with
    | inl f => rw [outR_inl hn]; omega
    | inr p => rw [outR_inr (x := p.1) (r := p.2) hn]; exact (numberR_inr (n := p.1) (r := p.2) hn).2.2

set_option maxRecDepth 100000 in
set_option maxHeartbeats 1000000 in
theorem bytesOf_any {w : World} {r : Nat} {b : ByteArray} {s : Sta} {lim : Nat} {lI : Int} (hlim : lI = (lim : Int)) (h : RdS w r b s) (hs : b.size ≤ 40000) (h2 : lim ≤ 20000) :
    Calls Tryd.prog 89 #[.pointer (some ⟨r, 0, none⟩), .int .i64 lI] w fun ee w' => ee = .returned (.string (outR (bytesR lim) (bl b) ⟨#[]⟩ s)) ∧ RdS w' r b (nextR (bytesR lim) (bl b) s) ∧ Fr [r] w w' := by
  subst hlim
  have hm : Tryd.prog.follows Departure.mixedOrders = true := by kernel_rfl
  have hL := bl_length b
  have hlm := limited_any (lo := 0) (hi := lim) rfl rfl h hs (by omega) (by omega)
  have hok' := (numberR_tidy 0 lim).next h.ok
  have hle := outN_le lim b s
  obtain ⟨x, hx⟩ : ∃ x, outR (numberR 0 lim) (bl b) 0 s = x := ⟨_, rfl⟩
  obtain ⟨s', hs'⟩ : ∃ s', nextR (numberR 0 lim) (bl b) s = s' := ⟨_, rfl⟩
  obtain ⟨e1, e2⟩ := bytesR_next lim b s h.ok x s' hx hs'
  rw [e1, e2]
  rw [hx] at hlm hle
  rw [hs'] at hlm hok'
  obtain ⟨l1, l2⟩ := stA_le h.ok
  obtain ⟨m1, m2⟩ := stA_le hok'
  have hfail := fun (W : World) (hW : RdS W r b s') => failU_any (place := stA b.size s) (no := 7) rfl hW hs (by omega) (by omega) (by omega)
  have c1 := h.c.c1
  have HF : Hid _ := hfail
  clear hfail e1 e2 hx hs' h
  generalize stA b.size s = a at *
  change Calls Tryd.prog 68 #[.pointer (some ⟨r, 0, none⟩), .int .i64 0, .int .i64 lim] w _ at hlm
  by_cases q1 : stE b.size s' - stA b.size s' < x
  · rw [if_pos q1, if_pos q1]
    have g1 : (stE b.size s' : Int) - (stA b.size s' : Int) < x := by omega
    go_enter Tryd.func89, Tryd.ntmps89
    go_wp2_with fail
    refine hlm.mono ?_
    rintro ee w1 ⟨rfl, K1, F1⟩
    obtain ⟨d0, d1, d2, d3, d4, f1, f2, f3, f4⟩ := K1.c
    clear hlm
    go_wp2
    go_quiet (fail)
    go_wp2_with fail
    refine (HF.out _ ?hk).mono ?_
    case hk => exact K1.heap rfl
    rintro ee w2 ⟨rfl, K2, F2⟩
    have F2 : Fr [r] w1 w2 := ⟨F2.os, F2.tape, F2.output, F2.size, F2.block⟩
    go_wp2
    go_ret
    exact ⟨rfl, K2, F1.trans F2⟩
  · rw [if_neg q1, if_neg q1]
    have g1 : ¬ (stE b.size s' : Int) - (stA b.size s' : Int) < x := by omega
    have hK : ∀ W : World, RdS W r b s' → RdS (W.setCell ⟨r, 1, none⟩ (.int .i64 ((stA b.size s' + x : Nat) : Int))) r b (advS x s') := fun W hW => by
      refine ⟨?_, ?_⟩
      · have := hW.c.set1 (stA b.size s' + x)
        rcases s' with ⟨f, y⟩ | ⟨a, e⟩
        · have hx0 : x = 0 := by simp only [stA, stE] at q1; omega
          subst hx0
          exact this
        · exact this
      · rcases s' with ⟨f, y⟩ | ⟨a, e⟩
        · exact hok'
        · simp only [stA, stE] at q1 m1
          exact ⟨by simp only; omega, hok'.2⟩
    have HK : Hid _ := hK
    have g2 : (stA b.size s' : Int) + x ≤ b.size := by omega
    have hcl := fun (W : World) => cloneU_any (b.extract (stA b.size s') (stA b.size s' + x)) W (by rw [ByteArray.size_extract]; omega)
    have HC : Hid _ := hcl
    clear hK hcl
    go_enter Tryd.func89, Tryd.ntmps89
    go_wp2_with fail
    refine hlm.mono ?_
    rintro ee w1 ⟨rfl, K1, F1⟩
    obtain ⟨d0, d1, d2, d3, d4, f1, f2, f3, f4⟩ := K1.c
    clear hlm
    go_wp2
    go_quiet (fail)
    go_wp2
    have K1' : RdS (w1.drewN nq) r b s' := K1.heap rfl
    have K2 := HK.out _ K1'
    have C2 := K1'.c.set1 (stA b.size s' + x)
    have F2 : Fr [r] w1 ((w1.drewN nq).setCell ⟨r, 1, none⟩ (.int .i64 ((stA b.size s' + x : Nat) : Int))) := ((Fr.refl [r] w1).drewN nq).setCell (p := ⟨r, 1, none⟩) (.inl (by simp)) _
    rw [Int.natCast_add] at K2 C2 F2
    generalize (w1.drewN nq).setCell ⟨r, 1, none⟩ (.int .i64 ((stA b.size s' : Int) + (x : Int))) = W2 at *
    obtain ⟨d0, d1, d2, d3, d4, f1, f2, f3, f4⟩ := C2
    have F2 := F1.trans F2
    clear K1' K1 F1 HK HF m1 m2 l1 l2 q1 g1 hok'
    rw [Int.natCast_add] at d1
    have g3 : (0 : Int) ≤ (stA b.size s' : Int) + x - x := by omega
    have g4 : (stA b.size s' : Int) + x - x = stA b.size s' := by omega
    have g5 : IntKind.i64.wrap (stA b.size s' : Int) = stA b.size s' := by rw [IntKind.wrap_i64]; omega
    have g6 : (stA b.size s' : Int) ≤ (stA b.size s' : Int) + x := by omega
    have g7 : (0 : Int) ≤ (stA b.size s' : Int) := by omega
    refine wp_region_tail 15 hm (by kernel_rfl) ?_
    simp only [List.take_succ_cons, List.take_zero, List.drop_succ_cons, List.drop_zero]
    repeat still_step
    refine wpStill_nil ?_
    go_wp2_with fail
    refine (HC.out _).mono ?_
    rintro ee w3 ⟨rfl, F3⟩
    have F3 : Fr [] W2 w3 := ⟨F3.os, F3.tape, F3.output, F3.size, F3.block⟩
    clear HC d0 d1 d2 d3 d4 f1 f2 f3 f4 g4 g5
    go_wp2
    go_ret
    exact ⟨rfl, K2.fr F3 (by simp), F2.trans (F3.mono (by simp))⟩

set_option maxHeartbeats 400000 in
theorem text_any {w : World} {r : Nat} {b : ByteArray} {s : Sta} (h : RdS w r b s) (hs : b.size ≤ 40000) :
    Calls Tryd.prog 64 #[.pointer (some ⟨r, 0, none⟩)] w fun ee w' => ee = .returned (.string (outR (bytesR 100) (bl b) ⟨#[]⟩ s)) ∧ RdS w' r b (nextR (bytesR 100) (bl b) s) ∧ Fr [r] w w' := by
  have hb := bytesOf_any (lim := 100) rfl h hs (by omega)
  change Calls Tryd.prog 89 #[.pointer (some ⟨r, 0, none⟩), .int .i64 100] w _ at hb
  generalize outR (bytesR 100) (bl b) ⟨#[]⟩ s = o at *
  generalize nextR (bytesR 100) (bl b) s = s' at *
  clear h
  go_enter Tryd.func64, Tryd.ntmps64
  go_wp2_with fail
  refine hb.mono ?_
  rintro ee w1 ⟨rfl, K1, F1⟩
  clear hb
  go_wp2
  go_ret
  exact ⟨rfl, K1, F1⟩

/-- One text, which must be so. -/
def oneR (ip : ByteArray → Bool) (most : Nat) : Rd ByteArray := fun base c =>
  bnd (bytesR most base c) fun p => if ip p.1 = true then .inr p else .inl (2, base - p.2.length - p.1.size)
theorem oneR_tidy (ip : ByteArray → Bool) (most : Nat) : Tidy (oneR ip most) := by
  refine ⟨fun {base c f} h => ?_, fun {base c x r} h => ?_⟩
  · rcases bnd_inl h with h | ⟨⟨s, u⟩, h1, h2⟩
    · exact (bytesR_tidy _).bad h
    · simp only at h2
      split at h2
      · cases h2
      · simp only [Sum.inl.injEq] at h2; subst h2; exact ⟨by simp, by simp, by simp only; omega⟩
  · obtain ⟨⟨s, u⟩, h1, h2⟩ := bnd_inr h
    simp only at h2
    split at h2
    · simp only [Sum.inr.injEq, Prod.mk.injEq] at h2
      obtain ⟨rfl, rfl⟩ := h2
      exact (bytesR_tidy _).good h1
    · cases h2

theorem oneR_next (ip : ByteArray → Bool) (most : Nat) (b : ByteArray) (s : Sta) (hok : okSta (bl b) s) (h0 : ip ⟨#[]⟩ = true) (o : ByteArray) (s' : Sta) (ho : outR (bytesR most) (bl b) ⟨#[]⟩ s = o) (hs' : nextR (bytesR most) (bl b) s = s') :
    nextR (oneR ip most) (bl b) s = (if ip o = true then s' else failS 2 (stA b.size s' - o.size) s') ∧ (ip o = true → outR (oneR ip most) (bl b) ⟨#[]⟩ s = o) := by
  rcases s with ⟨f, y⟩ | ⟨a, e⟩
  · subst ho hs'
    have c0 : ip (outR (bytesR most) (bl b) ⟨#[]⟩ (.inl (f, y))) = true := h0
    rw [if_pos c0]
    exact ⟨rfl, fun _ => rfl⟩
  · cases hn : bytesR most e (seg (bl b) a e) with
    | inl f =>
      rw [outR_inl hn] at ho
      rw [nextR_inl hn] at hs'
      subst ho hs'
      have hb : oneR ip most e (seg (bl b) a e) = .inl f := by simp only [oneR, hn, bnd]
      rw [nextR_inl hb, outR_inl hb, if_pos h0]
      exact ⟨rfl, fun _ => rfl⟩
    | inr p =>
      obtain ⟨n, q⟩ := p
      rw [outR_inr hn] at ho
      rw [nextR_inr hn] at hs'
      subst ho hs'
      by_cases hi : ip n = true
      · have hb : oneR ip most e (seg (bl b) a e) = .inr (n, q) := by simp only [oneR, hn, bnd, if_pos hi]
        rw [nextR_inr hb, outR_inr hb, if_pos hi]
        exact ⟨rfl, fun _ => rfl⟩
      · have hb : oneR ip most e (seg (bl b) a e) = .inl (2, e - q.length - n.size) := by simp only [oneR, hn, bnd, if_neg hi]
        rw [nextR_inl hb, if_neg hi]
        exact ⟨rfl, fun h => absurd h hi⟩

theorem bytes_place {lim : Nat} {b : ByteArray} {s s' : Sta} {o : ByteArray} (ho : outR (bytesR lim) (bl b) ⟨#[]⟩ s = o) (hs' : nextR (bytesR lim) (bl b) s = s') (hok : okSta (bl b) s) : o.size ≤ stA b.size s' ∧ o.size ≤ lim := by
  have e0 : (⟨#[]⟩ : ByteArray).size = 0 := rfl
  rcases s with ⟨f, y⟩ | ⟨a, e⟩
  · subst ho hs'
    exact ⟨by show (⟨#[]⟩ : ByteArray).size ≤ _; omega, by show (⟨#[]⟩ : ByteArray).size ≤ _; omega⟩
  · obtain ⟨o1, o2⟩ := hok
    cases hn : bytesR lim e (seg (bl b) a e) with
    | inl f =>
      rw [outR_inl hn] at ho
      subst ho
      omega
    | inr p =>
      obtain ⟨n, q⟩ := p
      rw [outR_inr hn] at ho
      rw [nextR_inr hn] at hs'
      subst ho hs'
      obtain ⟨h1, h2⟩ := bytesR_inr hn
      have hl := congrArg List.length h1
      rw [seg_length o2, List.length_append, textB, List.length_append, bl_length] at hl
      exact ⟨by simp only [stA]; omega, h2⟩

theorem ipF_empty : ipF ⟨#[]⟩ = true := by decide +kernel

end Go.Proofs.YticaoekmlaipnaaDoor

namespace Go.Proofs.YticaoekmlaipnaaDoor
open Go.RowKit
open Wire

set_option maxHeartbeats 400000 in
theorem pattern_any {w : World} {r : Nat} {b : ByteArray} {s : Sta} (h : RdS w r b s) (hs : b.size ≤ 40000) (hT : Tab w) (hr0 : r ≠ 0) :
    Calls Tryd.prog 66 #[.pointer (some ⟨r, 0, none⟩)] w fun ee w' => (∃ o, ee = .returned (.string o) ∧ ((∃ p, nextR (oneR ipF 50) (bl b) s = .inr p) → o = outR (oneR ipF 50) (bl b) ⟨#[]⟩ s)) ∧ RdS w' r b (nextR (oneR ipF 50) (bl b) s) ∧ Fr [r] w w' := by
  have hb := bytesOf_any (lim := 50) rfl h hs (by omega)
  change Calls Tryd.prog 89 #[.pointer (some ⟨r, 0, none⟩), .int .i64 50] w _ at hb
  obtain ⟨o, ho⟩ : ∃ o, outR (bytesR 50) (bl b) ⟨#[]⟩ s = o := ⟨_, rfl⟩
  obtain ⟨s', hs'⟩ : ∃ s', nextR (bytesR 50) (bl b) s = s' := ⟨_, rfl⟩
  obtain ⟨e1, e2⟩ := oneR_next ipF 50 b s h.ok ipF_empty o s' ho hs'
  have hok' := (bytesR_tidy 50).next h.ok
  rw [ho, hs'] at hb
  rw [hs'] at hok'
  obtain ⟨m1, m2⟩ := stA_le hok'
  have hosz : o.size ≤ stA b.size s' ∧ o.size ≤ 50 := bytes_place ho hs' h.ok
  have hfail := fun (W : World) (hW : RdS W r b s') => failU_any (place := stA b.size s' - o.size) (no := 2) rfl hW hs (by omega) (by omega) (by omega)
  have hip := fun (W : World) (hW : Tab W) => isPattern_any o W (by unfold maxLen; omega) hW
  have hT' := fun (W : World) (f : Fr [r] w W) => hT.fr f (by simpa using fun e => hr0 e.symm)
  have HF : Hid _ := hfail
  have HT : Hid _ := hT'
  have hg1 : (0 : Int) ≤ (stA b.size s' : Int) - (o.size : Int) := by omega
  cases hi : ipF o with
  | true =>
    simp only [hi] at hip
    rw [if_pos hi] at e1
    have e3 := e2 hi
    rw [e1]
    have HI : Hid _ := hip
    clear hfail hip hT' e2 ho hs' h hok'
    go_enter Tryd.func66, Tryd.ntmps66
    go_wp2_with fail
    refine hb.mono ?_
    rintro ee w1 ⟨rfl, K1, F1⟩
    clear hb
    go_wp2_with fail
    refine (HI.out w1 (HT.out _ F1)).mono ?_
    rintro ee w2 ⟨rfl, F2⟩
    go_wp2
    go_ret
    exact ⟨⟨o, rfl, fun _ => e3.symm⟩, K1.fr F2 (by simp), F1.trans (F2.mono (by simp))⟩
  | false =>
    simp only [hi] at hip
    rw [if_neg (by rw [hi]; simp)] at e1
    rw [e1]
    have HI : Hid _ := hip
    have e4 : ∀ p, failS 2 (stA b.size s' - o.size) s' ≠ .inr p := fun p => by
      rcases s' with ⟨f, y⟩ | ⟨a, e⟩ <;> simp [failS]
    have H4 : Hid _ := e4
    have esub : ((stA b.size s' - o.size : Nat) : Int) = (stA b.size s' : Int) - (o.size : Int) := by omega
    rw [esub] at HF
    clear hfail hip hT' e2 ho hs' h hok' e1 e4 esub
    go_enter Tryd.func66, Tryd.ntmps66
    go_wp2_with fail
    refine hb.mono ?_
    rintro ee w1 ⟨rfl, K1, F1⟩
    clear hb
    go_wp2_with fail
    refine (HI.out w1 (HT.out _ F1)).mono ?_
    rintro ee w2 ⟨rfl, F2⟩
    have K2 := K1.fr F2 (by simp)
    obtain ⟨d0, d1, d2, d3, d4, f1, f2, f3, f4⟩ := K2.c
    go_wp2_with fail
    refine (HF.out w2 K2).mono ?_
    rintro ee w3 ⟨rfl, K3, F3⟩
    go_wp2
    go_ret
    exact ⟨⟨o, rfl, fun ⟨p, hp⟩ => absurd hp (H4.out p)⟩, K3, (F1.trans (F2.mono (by simp))).trans F3⟩

end Go.Proofs.YticaoekmlaipnaaDoor

namespace Go.Proofs.YticaoekmlaipnaaDoor
open Go.RowKit
open Wire

theorem infoS : (Tryd.prog.info? 9).map (fun i => (i.zero, i.size, i.bytes)) = some (some (.string ⟨#[]⟩), 1, 16) := by kernel_rfl

/-- How a list ends, with what was read already. -/
def finR {α : Type} (acc : List α) (e : Nat) : ((Nat × Nat) ⊕ (List α × List UInt8)) → Sta × List α
  | .inl f => (.inl f, [])
  | .inr p => (.inr (e - p.2.length, e), acc ++ p.1)

theorem textsR_one (ip : ByteArray → Bool) (most base k : Nat) (c : List UInt8) : textsR ip most base (k + 1) c = bnd (oneR ip most base c) fun p => bnd (textsR ip most base k p.2) fun q => .inr (p.1 :: q.1, q.2) := by
  rw [textsR, oneR]
  cases bytesR most base c with
  | inl f => rfl
  | inr p =>
    simp only [bnd]
    by_cases hi : ip p.1 = true
    · rw [if_pos hi, if_pos hi]
    · rw [if_neg hi, if_neg hi]

/-- What is known in the midst of a list. -/
def MidT (ip : ByteArray → Bool) (most n : Nat) (l : List UInt8) (R : Sta × List ByteArray) (acc : List ByteArray) : Sta → Prop
  | .inl f => R.1 = .inl f
  | .inr p => finR acc p.2 (textsR ip most p.2 (n - acc.length) (seg l p.1 p.2)) = R

theorem MidT.start (ip : ByteArray → Bool) (most : Nat) (b : ByteArray) (s : Sta) (hok : okSta (bl b) s) :
    MidT ip most (outR (numberR 0 1000) (bl b) 0 s) (bl b) (nextR (listR ip most) (bl b) s, outR (listR ip most) (bl b) [] s) [] (nextR (numberR 0 1000) (bl b) s) := by
  rcases s with ⟨f, y⟩ | ⟨a, e⟩
  · rfl
  · obtain ⟨o1, o2⟩ := hok
    cases hn : numberR 0 1000 e (seg (bl b) a e) with
    | inl f =>
      have hl : listR ip most e (seg (bl b) a e) = .inl f := by simp only [listR, hn, bnd]
      rw [nextR_inl hn, nextR_inl hl]
      rfl
    | inr p =>
      obtain ⟨n, q⟩ := p
      rw [nextR_inr hn, outR_inr hn]
      obtain ⟨t1, t2, t3⟩ := (numberR_tidy 0 1000).seg o1 o2 hn
      simp only [MidT, t1, List.length_nil, Nat.sub_zero]
      have hl : listR ip most e (seg (bl b) a e) = textsR ip most e n q := by simp only [listR, hn, bnd]
      cases ht : textsR ip most e n q with
      | inl f =>
        rw [ht] at hl
        rw [nextR_inl hl, outR_inl hl]
        rfl
      | inr p =>
        obtain ⟨x, y⟩ := p
        rw [ht] at hl
        rw [nextR_inr hl, outR_inr hl]
        rfl

theorem MidT.step {ip : ByteArray → Bool} {most n : Nat} {b : ByteArray} {R : Sta × List ByteArray} {acc : List ByteArray} {s : Sta} (h : MidT ip most n (bl b) R acc s) (hok : okSta (bl b) s) (hlt : acc.length < n) (o : ByteArray)
    (ho : (∃ p, nextR (oneR ip most) (bl b) s = .inr p) → o = outR (oneR ip most) (bl b) ⟨#[]⟩ s) : MidT ip most n (bl b) R (acc ++ [o]) (nextR (oneR ip most) (bl b) s) := by
  rcases s with f | ⟨a, e⟩
  · exact h
  · obtain ⟨o1, o2⟩ := hok
    simp only [MidT] at h
    rw [show n - acc.length = (n - (acc.length + 1)) + 1 by omega, textsR_one] at h
    cases hn : oneR ip most e (seg (bl b) a e) with
    | inl f =>
      rw [hn] at h
      simp only [bnd, finR] at h
      rw [nextR_inl hn, ← h]
      rfl
    | inr p =>
      obtain ⟨x, q⟩ := p
      rw [hn] at h
      have hox : o = x := by rw [ho ⟨_, nextR_inr hn⟩, outR_inr hn]
      subst hox
      obtain ⟨t1, t2, t3⟩ := (oneR_tidy ip most).seg o1 o2 hn
      rw [nextR_inr hn]
      simp only [MidT, t1, List.length_append, List.length_cons, List.length_nil, Nat.zero_add]
      rw [← h]
      simp only [bnd]
      cases textsR ip most e (n - (acc.length + 1)) q with
      | inl f => rfl
      | inr p => simp [finR]

theorem MidT.stop {ip : ByteArray → Bool} {most n : Nat} {b : ByteArray} {R : Sta × List ByteArray} {acc : List ByteArray} {s : Sta} (h : MidT ip most n (bl b) R acc s) (hok : okSta (bl b) s) (hd : acc.length = n ∨ ∃ f, s = .inl f) :
    s = R.1 ∧ ((∃ p, R.1 = .inr p) → acc = R.2) := by
  rcases s with f | ⟨a, e⟩
  · simp only [MidT] at h
    exact ⟨h.symm, fun ⟨p, hp⟩ => by rw [h] at hp; cases hp⟩
  · obtain ⟨o1, o2⟩ := hok
    rcases hd with hd | ⟨f, hf⟩
    · simp only [MidT, hd, Nat.sub_self, textsR, finR] at h
      rw [seg_length o2] at h
      rw [← h]
      refine ⟨?_, fun _ => by simp⟩
      simp only
      congr 2
      omega
    · cases hf

/-- A list of texts that the call has made of its own since w0, the reader's block aside. -/
structure OwnT (r : Nat) (w0 : World) (L : List ByteArray) (v : Value) (W : World) : Prop where
  own : W.ownsRow w0.heap.size 9 1 v L.length (L.map Value.string)
  fr : Fr [r] w0 W
theorem OwnT.start {r : Nat} {w0 w1 : World} (hf : Fr [r] w0 w1) : OwnT r w0 [] (.slice none 0 0) w1 := ⟨World.ownsRow_nil _ _ _ _, hf⟩
theorem own_kept {r : Nat} {w0 W W' : World} {e : TypeId} {size n : Nat} {xs : List Value} {v : Value} (h : W.ownsRow w0.heap.size e size v n xs) (hr : r < w0.heap.size) (hf : Fr [r] W W') : W'.ownsRow w0.heap.size e size v n xs := by
  refine h.kept (row := some r) ⟨hf.os, hf.tape, hf.output, hf.size, fun k hk hn => hf.block k hk (by simpa using fun e => hn (by rw [e]))⟩ ?_
  cases hv : v.ownBlock with
  | none => exact .inl rfl
  | some k =>
    refine .inr fun e => ?_
    have := (h.lt k hv).1
    simp only [Option.some.injEq] at e
    omega
theorem OwnT.kept {r : Nat} {w0 : World} {L : List ByteArray} {v : Value} {W W' : World} (h : OwnT r w0 L v W) (hr : r < w0.heap.size) (hf : Fr [r] W W') : OwnT r w0 L v W' := ⟨own_kept h.own hr hf, h.fr.trans hf⟩
theorem fr_grown {r : Nat} {w0 W W' : World} {e : TypeId} {size n : Nat} {xs : List Value} {v : Value} (h : W.ownsRow w0.heap.size e size v n xs) (hf : Fr [r] w0 W) (hg : W.grownBy W' v.ownBlock) : Fr [r] w0 W' := by
  refine ⟨hg.os.trans hf.os, hg.tape.trans hf.tape, hg.output.trans hf.output, Nat.le_trans hf.size hg.size, fun k hk hn => ?_⟩
  have h1 := hf.size
  rw [hg.block k (by omega) (fun e => by have := (h.lt k e.symm).1; omega), hf.block k hk hn]
theorem OwnT.grown {r : Nat} {w0 : World} {L : List ByteArray} {v v' : Value} {W W' : World} {s : ByteArray} (h : OwnT r w0 L v W) (hown : W'.ownsRow w0.heap.size 9 1 v' (L.length + 1) (L.map Value.string ++ [.string s])) (hg : W.grownBy W' v.ownBlock) : OwnT r w0 (L ++ [s]) v' W' :=
  ⟨by rw [List.length_append, List.map_append]; exact hown, fr_grown h.own h.fr hg⟩
/-- As a caller sees it: in a block beyond B. -/
def StrsFar (B : Nat) (W : World) (v : Value) (L : List ByteArray) : Prop :=
  ∃ (a0 : Option Addr) (cap g off : Nat), v = .slice a0 L.length cap ∧ L.length ≤ cap ∧ (0 < L.length → a0 = some ⟨g, off, none⟩ ∧ g < W.heap.size ∧ B ≤ g) ∧
    ∀ (i : Nat) (x : ByteArray), L[i]? = some x → W.cell? ⟨g, off + i, none⟩ = some (.string x)
theorem StrsFar.strs {B : Nat} {W : World} {v : Value} {L : List ByteArray} (h : StrsFar B W v L) : StrsIn W v L := by
  obtain ⟨a0, cap, g, off, h1, h2, h3, h4⟩ := h
  exact ⟨a0, cap, g, off, h1, h2, fun h => ⟨(h3 h).1, (h3 h).2.1⟩, h4⟩
theorem StrsFar.fr {B : Nat} {S : List Nat} {W W' : World} {v : Value} {L : List ByteArray} (h : StrsFar B W v L) (hf : Fr S W W') (hS : ∀ x, x ∈ S → x < B) : StrsFar B W' v L := by
  obtain ⟨a0, cap, g, off, h1, h2, h3, h4⟩ := h
  refine ⟨a0, cap, g, off, h1, h2, fun h => ⟨(h3 h).1, Nat.lt_of_lt_of_le (h3 h).2.1 hf.size, (h3 h).2.2⟩, fun i x hi => ?_⟩
  have h0 : 0 < L.length := by have := (List.getElem?_eq_some_iff.1 hi).1; omega
  exact (hf.cell (p := ⟨g, off + i, none⟩) (h3 h0).2.1 (fun hm => by have := hS g hm; have := (h3 h0).2.2; omega)).trans (h4 i x hi)
theorem OwnT.far {r : Nat} {w0 : World} {L : List ByteArray} {v : Value} {W : World} (h : OwnT r w0 L v W) : StrsFar w0.heap.size W v L := by
  rcases h.own.2 with ⟨hv, h0⟩ | ⟨g, cap, cur, hv, hb, hg, hn, _⟩
  · have hL := List.eq_nil_of_length_eq_zero h0
    subst hL
    exact ⟨none, 0, 0, 0, hv, Nat.le_refl _, fun h => absurd h (Nat.lt_irrefl _), fun i x hx => by cases hx⟩
  · refine ⟨some ⟨g, 0, none⟩, cap, g, 0, hv, hn, fun _ => ⟨rfl, (Array.getElem?_eq_some_iff.1 hg).1, hb⟩, fun i x hx => ?_⟩
    have := h.own.cells (g := g) (by rw [hv]; rfl) i (.string x) (by rw [List.getElem?_map, hx]; rfl)
    rcases i with _ | i
    · simpa [Addr.add] using this
    · simpa [Addr.add] using this
def slLen : Value → Nat
  | .slice _ n _ => n
  | _ => 0
theorem OwnT.form {r : Nat} {w0 : World} {L : List ByteArray} {v : Value} {W : World} (h : OwnT r w0 L v W) : ∃ a0 cap, v = .slice a0 L.length cap := by
  rcases h.own.2 with ⟨hv, h0⟩ | ⟨g, cap, cur, hv, _⟩
  · exact ⟨none, 0, by rw [hv, h0]⟩
  · exact ⟨_, cap, hv⟩
theorem one_text (s : ByteArray) : ∀ u ∈ [Value.string s], u.oneCell' = true := by intro u hu; simp at hu; subst hu; rfl

theorem outN_le2 (lo lim : Nat) (b : ByteArray) (s : Sta) : outR (numberR lo lim) (bl b) 0 s ≤ lim := by
  rcases s with ⟨x, y⟩ | ⟨a, e⟩
  · simp [outR]
  · cases hn : numberR lo lim e (seg (bl b) a e) with
    | inl f => rw [outR_inl hn]; omega
    | inr p => rw [outR_inr (x := p.1) (r := p.2) hn]; exact (numberR_inr (n := p.1) (r := p.2) hn).2.2

set_option maxRecDepth 100000 in
set_option maxHeartbeats 1000000 in
theorem texts64_any {w : World} {r : Nat} {b : ByteArray} {s : Sta} (ip : ByteArray → Bool) (most : Nat) (h : RdS w r b s) (hs : b.size ≤ 40000) (hT : Tab w) (hr0 : r ≠ 0)
    (hone : ∀ (W : World) (s : Sta), RdS W r b s → Tab W → Calls Tryd.prog 64 #[.pointer (some ⟨r, 0, none⟩)] W fun ee w' => (∃ o, ee = .returned (.string o) ∧ ((∃ p, nextR (oneR ip most) (bl b) s = .inr p) → o = outR (oneR ip most) (bl b) ⟨#[]⟩ s)) ∧ RdS w' r b (nextR (oneR ip most) (bl b) s) ∧ Fr [r] W w') :
    Calls Tryd.prog 63 #[.pointer (some ⟨r, 0, none⟩), .func (.func 64) #[.pointer (some ⟨r, 0, none⟩)] #[]] w fun ee w' =>
      (∃ v L, ee = .returned v ∧ StrsFar w.heap.size w' v L ∧ ((∃ p, nextR (listR ip most) (bl b) s = .inr p) → L = outR (listR ip most) (bl b) [] s)) ∧ RdS w' r b (nextR (listR ip most) (bl b) s) ∧ Fr [r] w w' := by
  obtain ⟨i0, hi, hz0, hz1, hz2⟩ := info_parts infoS
  have hlm := limited_any (lo := 0) (hi := 1000) rfl rfl h hs (by omega) (by omega)
  change Calls Tryd.prog 68 #[.pointer (some ⟨r, 0, none⟩), .int .i64 0, .int .i64 1000] w _ at hlm
  have M0 := MidT.start ip most b s h.ok
  have hn := outN_le2 0 1000 b s
  have hrl := h.lt
  have hT' := fun (W : World) (f : Fr [r] w W) => hT.fr f (by simpa using fun e => hr0 e.symm)
  generalize outR (numberR 0 1000) (bl b) 0 s = n at *
  generalize nextR (numberR 0 1000) (bl b) s = s1 at *
  generalize outR (listR ip most) (bl b) [] s = RL at *
  generalize nextR (listR ip most) (bl b) s = RS at *
  have HO : Hid _ := hone
  have HT : Hid _ := hT'
  have HM0 : Hid _ := M0
  clear hone hT' M0 h hT
  go_enter Tryd.func63, Tryd.ntmps63
  go_wp2_with fail
  refine hlm.mono ?_
  rintro ee w1 ⟨rfl, K1, F1⟩
  clear hlm
  go_wp2
  go_loopw [5] (fun u wr => ∃ (acc : List ByteArray) (sj : Sta), acc.length ≤ n ∧ RdS wr r b sj ∧ OwnT r w acc u wr ∧ Hid (MidT ip most n (bl b) (RS, RL) acc sj)) (fun u _ => n - slLen u)
  case atStart => exact ⟨[], s1, by simp, K1, OwnT.start F1, HM0⟩
  case round =>
    clear HM0 K1 F1
    obtain ⟨acc, sj, hacc, K, J, hM⟩ := hrel
    obtain ⟨a0, cap, rfl⟩ := J.form
    obtain ⟨d0, d1, d2, d3, d4, f1, f2, f3, f4⟩ := K.c
    by_cases hlt : acc.length < n
    · have g1 : (acc.length : Int) < n := by omega
      rcases sj with ⟨x, y⟩ | ⟨a, e⟩
      · have k0 : 0 < x := K.ok.1
        simp only [stR] at d4
        have g2 : ((x : Int) == 0) = false := by simp; omega
        obtain ⟨q1, q2⟩ := hM.out.stop K.ok (.inr ⟨_, rfl⟩)
        simp only at q1 q2
        subst q1
        have Q2 : Hid _ := q2
        clear q2 hM
        go_wp2
        go_ret
        exact ⟨⟨_, acc, rfl, J.far, Q2.out⟩, K, J.fr⟩
      · simp only [stR] at d4
        have g2 : (((0 : Nat) : Int) == 0) = true := by simp
        go_wp2_with fail
        refine (HO.out wr _ K (HT.out _ J.fr)).mono ?_
        rintro ee w2 ⟨⟨o, rfl, ho⟩, K2, F2⟩
        have J2 := J.kept hrl F2
        have M2 := hM.out.step K.ok hlt o ho
        have HM2 : Hid _ := M2
        have hown := J2.own
        have hsz2 := J2.fr.size
        have ha1000 : acc.length ≤ 1000 := by omega
        clear M2 ho hM K J F2 d0 d1 d2 d3 d4 f1 f2 f3 f4
        generalize nextR (oneR ip most) (bl b) (Sum.inr (a, e)) = s2 at *
        go_wp2_with (at_builtin; refine wpList_append_own _ rfl _ _ 31 rfl w.heap.size 9 i0 (.string ⟨#[]⟩) 1 16 Tryd.underlying31 hi hz0 hz1 hz2 rfl (by decide) _ _ _ rfl (hown.alloc _) ⟨w2.heap.size, 0, none⟩ 1 1 [.string o] rfl rfl (cell_one_new _ _ _) (one_text _) (by unfold maxLen; omega) (by omega) (le_alloc _ hsz2) ?_)
        intro v' w3 hown' hgrow _
        have J3 := (J2.kept hrl ((Fr.refl [r] w2).alloc _)).grown hown' hgrow
        have K3 : RdS w3 r b s2 := by
          refine ⟨K2.c.of_block ?_, K2.ok⟩
          rw [hgrow.block r (by have := K2.lt; simp; omega) (fun e => by have := (hown.lt r e.symm).1; omega)]
          exact Below.heap_alloc _ _ _ K2.lt
        clear hown hown' hgrow J2 K2
        have hl3 : (acc ++ [o]).length = acc.length + 1 := by simp
        obtain ⟨b0, cap3, rfl⟩ := J3.form
        go_wp2
        refine ⟨⟨acc ++ [o], s2, by omega, K3, J3, HM2⟩, ?_⟩
        simp [slLen]
        omega
    · obtain rfl : n = acc.length := by omega
      have g1 : ¬ (acc.length : Int) < acc.length := by omega
      obtain ⟨q1, q2⟩ := hM.out.stop K.ok (.inl rfl)
      simp only at q1 q2
      subst q1
      have Q2 : Hid _ := q2
      clear q2 hM
      go_wp2
      go_ret
      exact ⟨⟨_, rfl, acc, J.far, fun x y hxy => Q2.out ⟨_, hxy⟩⟩, K, J.fr⟩
set_option maxRecDepth 100000 in
set_option maxHeartbeats 1000000 in
theorem texts66_any {w : World} {r : Nat} {b : ByteArray} {s : Sta} (ip : ByteArray → Bool) (most : Nat) (h : RdS w r b s) (hs : b.size ≤ 40000) (hT : Tab w) (hr0 : r ≠ 0)
    (hone : ∀ (W : World) (s : Sta), RdS W r b s → Tab W → Calls Tryd.prog 66 #[.pointer (some ⟨r, 0, none⟩)] W fun ee w' => (∃ o, ee = .returned (.string o) ∧ ((∃ p, nextR (oneR ip most) (bl b) s = .inr p) → o = outR (oneR ip most) (bl b) ⟨#[]⟩ s)) ∧ RdS w' r b (nextR (oneR ip most) (bl b) s) ∧ Fr [r] W w') :
    Calls Tryd.prog 63 #[.pointer (some ⟨r, 0, none⟩), .func (.func 66) #[.pointer (some ⟨r, 0, none⟩)] #[]] w fun ee w' =>
      (∃ v L, ee = .returned v ∧ StrsFar w.heap.size w' v L ∧ ((∃ p, nextR (listR ip most) (bl b) s = .inr p) → L = outR (listR ip most) (bl b) [] s)) ∧ RdS w' r b (nextR (listR ip most) (bl b) s) ∧ Fr [r] w w' := by
  obtain ⟨i0, hi, hz0, hz1, hz2⟩ := info_parts infoS
  have hlm := limited_any (lo := 0) (hi := 1000) rfl rfl h hs (by omega) (by omega)
  change Calls Tryd.prog 68 #[.pointer (some ⟨r, 0, none⟩), .int .i64 0, .int .i64 1000] w _ at hlm
  have M0 := MidT.start ip most b s h.ok
  have hn := outN_le2 0 1000 b s
  have hrl := h.lt
  have hT' := fun (W : World) (f : Fr [r] w W) => hT.fr f (by simpa using fun e => hr0 e.symm)
  generalize outR (numberR 0 1000) (bl b) 0 s = n at *
  generalize nextR (numberR 0 1000) (bl b) s = s1 at *
  generalize outR (listR ip most) (bl b) [] s = RL at *
  generalize nextR (listR ip most) (bl b) s = RS at *
  have HO : Hid _ := hone
  have HT : Hid _ := hT'
  have HM0 : Hid _ := M0
  clear hone hT' M0 h hT
  go_enter Tryd.func63, Tryd.ntmps63
  go_wp2_with fail
  refine hlm.mono ?_
  rintro ee w1 ⟨rfl, K1, F1⟩
  clear hlm
  go_wp2
  go_loopw [5] (fun u wr => ∃ (acc : List ByteArray) (sj : Sta), acc.length ≤ n ∧ RdS wr r b sj ∧ OwnT r w acc u wr ∧ Hid (MidT ip most n (bl b) (RS, RL) acc sj)) (fun u _ => n - slLen u)
  case atStart => exact ⟨[], s1, by simp, K1, OwnT.start F1, HM0⟩
  case round =>
    clear HM0 K1 F1
    obtain ⟨acc, sj, hacc, K, J, hM⟩ := hrel
    obtain ⟨a0, cap, rfl⟩ := J.form
    obtain ⟨d0, d1, d2, d3, d4, f1, f2, f3, f4⟩ := K.c
    by_cases hlt : acc.length < n
    · have g1 : (acc.length : Int) < n := by omega
      rcases sj with ⟨x, y⟩ | ⟨a, e⟩
      · have k0 : 0 < x := K.ok.1
        simp only [stR] at d4
        have g2 : ((x : Int) == 0) = false := by simp; omega
        obtain ⟨q1, q2⟩ := hM.out.stop K.ok (.inr ⟨_, rfl⟩)
        simp only at q1 q2
        subst q1
        have Q2 : Hid _ := q2
        clear q2 hM
        go_wp2
        go_ret
        exact ⟨⟨_, acc, rfl, J.far, Q2.out⟩, K, J.fr⟩
      · simp only [stR] at d4
        have g2 : (((0 : Nat) : Int) == 0) = true := by simp
        go_wp2_with fail
        refine (HO.out wr _ K (HT.out _ J.fr)).mono ?_
        rintro ee w2 ⟨⟨o, rfl, ho⟩, K2, F2⟩
        have J2 := J.kept hrl F2
        have M2 := hM.out.step K.ok hlt o ho
        have HM2 : Hid _ := M2
        have hown := J2.own
        have hsz2 := J2.fr.size
        have ha1000 : acc.length ≤ 1000 := by omega
        clear M2 ho hM K J F2 d0 d1 d2 d3 d4 f1 f2 f3 f4
        generalize nextR (oneR ip most) (bl b) (Sum.inr (a, e)) = s2 at *
        go_wp2_with (at_builtin; refine wpList_append_own _ rfl _ _ 31 rfl w.heap.size 9 i0 (.string ⟨#[]⟩) 1 16 Tryd.underlying31 hi hz0 hz1 hz2 rfl (by decide) _ _ _ rfl (hown.alloc _) ⟨w2.heap.size, 0, none⟩ 1 1 [.string o] rfl rfl (cell_one_new _ _ _) (one_text _) (by unfold maxLen; omega) (by omega) (le_alloc _ hsz2) ?_)
        intro v' w3 hown' hgrow _
        have J3 := (J2.kept hrl ((Fr.refl [r] w2).alloc _)).grown hown' hgrow
        have K3 : RdS w3 r b s2 := by
          refine ⟨K2.c.of_block ?_, K2.ok⟩
          rw [hgrow.block r (by have := K2.lt; simp; omega) (fun e => by have := (hown.lt r e.symm).1; omega)]
          exact Below.heap_alloc _ _ _ K2.lt
        clear hown hown' hgrow J2 K2
        have hl3 : (acc ++ [o]).length = acc.length + 1 := by simp
        obtain ⟨b0, cap3, rfl⟩ := J3.form
        go_wp2
        refine ⟨⟨acc ++ [o], s2, by omega, K3, J3, HM2⟩, ?_⟩
        simp [slLen]
        omega
    · obtain rfl : n = acc.length := by omega
      have g1 : ¬ (acc.length : Int) < acc.length := by omega
      obtain ⟨q1, q2⟩ := hM.out.stop K.ok (.inl rfl)
      simp only at q1 q2
      subst q1
      have Q2 : Hid _ := q2
      clear q2 hM
      go_wp2
      go_ret
      exact ⟨⟨_, rfl, acc, J.far, fun x y hxy => Q2.out ⟨_, hxy⟩⟩, K, J.fr⟩
end Go.Proofs.YticaoekmlaipnaaDoor

