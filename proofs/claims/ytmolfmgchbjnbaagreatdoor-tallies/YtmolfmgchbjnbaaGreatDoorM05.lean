import Derived.Test.YtmolfmgchbjnbaaGreatDoorM04
set_option linter.unusedSimpArgs false
set_option linter.unusedVariables false
namespace Go.Proofs.YtmolfmgchbjnbaaGreatDoor
namespace Mach
open Wire Flow
def Plays (E : Env) : Nat → St → St → Prop
 | 0, s, s' => s = s'
 | n + 1, s, s' => (s.st ≠ 0 ∧ s = s') ∨ (s.st = 0 ∧ ∃ low fr i rest top, Ready E s low fr i rest top ∧ Plays E n (does E s low fr i rest top) s')
theorem Plays.ended {E : Env} {n : Nat} {s s' : St} (h : Plays E n s s') (hs : s.st ≠ 0) : s' = s := by
 cases n with
 | zero => exact h.symm
 | succ n =>
  rcases h with ⟨-, h⟩ | ⟨h, -⟩
  ·exact h.symm
  ·exact absurd h hs
theorem plays_ended (E : Env) (n : Nat) {s : St} (hs : s.st ≠ 0) : Plays E n s s := by
 cases n with
 | zero => rfl
 | succ n => exact Or.inl ⟨hs, rfl⟩
theorem Plays.unique {E : Env} {n : Nat} {s a b : St} (h : Plays E n s a) (g : Plays E n s b) : a = b := by
 induction n generalizing s with
 | zero => exact h.symm.trans g
 | succ n ih =>
  rcases h with ⟨h1, h2⟩ | ⟨h1, low, fr, i, rest, top, h2, h3⟩
  ·exact h2.symm.trans ((Plays.ended g h1).symm)
  ·rcases g with ⟨g1, g2⟩ | ⟨g1, low', fr', i', rest', top', g2, g3⟩
   ·exact absurd h1 g1
   ·obtain ⟨rfl, rfl, rfl, rfl, rfl⟩ := h2.unique g2
    exact ih h3 g3
theorem Plays.append {E : Env} {m n : Nat} {s a b : St} (h : Plays E m s a) (g : Plays E n a b) : Plays E (m + n) s b := by
 induction m generalizing s with
 | zero =>
  have e : s = a := h
  subst e
  rw [Nat.zero_add]
  exact g
 | succ m ih =>
  rcases h with ⟨h1, h2⟩ | ⟨h1, low, fr, i, rest, top, h2, h3⟩
  ·subst h2
   rw [Plays.ended g h1]
   exact plays_ended E _ h1
  ·rw [show m + 1 + n = (m + n) + 1 by omega]
   exact Or.inr ⟨h1, low, fr, i, rest, top, h2, ih h3⟩
theorem Plays.more {E : Env} {n : Nat} {s a : St} (h : Plays E n s a) (ha : a.st = 0) {low : List Frm} {fr : Frm} {i : Stp} {rest top : List Cell} (hR : Ready E a low fr i rest top) : Plays E (n + 1) s (does E a low fr i rest top) :=
 h.append (n := 1) (Or.inr ⟨ha, low, fr, i, rest, top, hR, rfl⟩)
structure ModOk (m : Mo) : Prop where
 three : 3 ≤ m.fns.length
 fns : ∀ f, f < m.fns.length → FnOk m f
 par : ∀ f, f < m.fns.length → parOf m f ≤ locsOf m f
theorem operand_call {m : Mo} {f locs : Nat} {c : List UInt8} {i : Nat} {s : Stp} (h : decodeL m f locs c i = .inr s) : ∀ sort, sortsT.getD s.op 0 = sort → sort ≠ 0 → fitN m locs sort s.a = true := by
 unfold decodeL at h
 split at h
 ·split at h
  ·rename_i h0
   simp only [Sum.inr.injEq] at h
   subst h
   intro sort hs hne
   simp only at hs
   exact absurd (hs.symm.trans h0) hne
  ·split at h
   ·cases h
   ·rename_i n j hop
    obtain ⟨-, -, hf⟩ := operandL_next hop
    split at h
    ·split at h
     ·cases h
     ·simp only [Sum.inr.injEq] at h
      subst h
      intro sort hs hne
      simp only at hs ⊢
      rw [← hs]; exact hf
    ·simp only [Sum.inr.injEq] at h
     subst h
     intro sort hs hne
     simp only at hs ⊢
     rw [← hs]; exact hf
 ·cases h
theorem fitN_iff {m : Mo} {locs sort n : Nat} (h : fitN m locs sort n = true) : low sort ≤ n ∧ n < above m locs sort := by
 unfold fitN at h
 simpa using h
theorem Ready.call {E : Env} {s : St} {low : List Frm} {fr : Frm} {i : Stp} {rest top : List Cell} (hR : Ready E s low fr i rest top) (h : i.op = 50) : 3 ≤ i.a ∧ i.a < E.mo.fns.length := by
 have := fitN_iff (operand_call hR.dec 9 (by rw [h]; rfl) (by decide))
 simpa [Flow.low, above] using this
theorem Ready.num {E : Env} {s : St} {low : List Frm} {fr : Frm} {i : Stp} {rest top : List Cell} (hR : Ready E s low fr i rest top) (h : i.op = 0) : i.a < 2000000001 := by
 have := fitN_iff (operand_call hR.dec 1 (by rw [h]; rfl) (by decide))
 simpa [Flow.low, above] using this
def SmF (frs : List Frm) : Prop := ∀ g ∈ frs, (∀ v ∈ g.locs, SmV v) ∧ ∀ c ∈ g.stk, SmC c
structure Good (E : Env) (s : St) : Prop where
 w : SmW s.w
 arrs : s.w.arrs.length = E.mo.arrs.toNat
 globs : s.w.globs.length = E.mo.globs.toNat
 inv : s.st = 0 → Inv E.mo s.frs ∧ SmF s.frs ∧ s.frs.length ≤ 21
theorem eff_size {E : Env} {w : Wd} {locs : List Val} {op a b : Nat} {top : List Cell} : (eff E w locs op a b top).w.arrs.length = w.arrs.length ∧ (eff E w locs op a b top).w.globs.length = w.globs.length := by
 have n1 : (nextR w).1.arrs = w.arrs ∧ (nextR w).1.globs = w.globs := by
  unfold nextR
  split <;> exact ⟨rfl, rfl⟩
 have n2 : ∀ n s, (setFieldW w n s).1.arrs = w.arrs ∧ (setFieldW w n s).1.globs = w.globs := by
  intro n s
  unfold setFieldW
  split
  ·exact ⟨rfl, rfl⟩
  ·split
   ·exact ⟨rfl, rfl⟩
   ·split <;> exact ⟨rfl, rfl⟩
 have n3 : ∀ l, (printW w l).1.arrs = w.arrs ∧ (printW w l).1.globs = w.globs := by
  intro l
  unfold printW
  split <;> exact ⟨rfl, rfl⟩
 unfold eff
 split <;> (try exact ⟨rfl, rfl⟩)
 ·simp [Eff.off]
 ·simp only [Eff.off]
  rw [(n2 _ _).1, (n2 _ _).2]
  exact ⟨rfl, rfl⟩
 ·split <;> (try split) <;> simp [Eff.put, Eff.bad]
 ·split <;> simp [Eff.off, Eff.bad]
 ·simp [Eff.off]
 ·simp [Eff.off]
 ·split <;> exact ⟨rfl, rfl⟩
 ·split <;> exact ⟨rfl, rfl⟩
 ·split <;> exact ⟨rfl, rfl⟩
 ·split <;> simp [Eff.put, Eff.bad]
 ·simp only [Eff.put]
  rw [n1.1, n1.2]
  exact ⟨rfl, rfl⟩
 ·split <;> exact ⟨rfl, rfl⟩
 ·simp only [Eff.off]
  rw [(n3 _).1, (n3 _).2]
  exact ⟨rfl, rfl⟩
theorem smF_enter (m : Mo) (f : Nat) {args : List Val} (h : ∀ v ∈ args, SmV v) : (∀ v ∈ (enter m f args).locs, SmV v) ∧ ∀ c ∈ (enter m f args).stk, SmC c := by
 refine ⟨?_, by simp [enter]⟩
 intro v hv
 simp only [enter] at hv
 rcases List.mem_append.1 hv with hv | hv
 ·exact h v hv
 ·rw [List.eq_of_mem_replicate hv]
  exact smV_nothing
theorem Good.does {E : Env} (hE : SmE E) (hM : ModOk E.mo) {s : St} (hG : Good E s) (hs : s.st = 0) {low : List Frm} {fr : Frm} {i : Stp} {rest top : List Cell} (hR : Ready E s low fr i rest top) : Good E (does E s low fr i rest top) := by
  obtain ⟨hI, hF, hn⟩ := hG.inv hs
  have hinv := fun hst => Inv.does hI hM.fns hM.three hM.par hR.call hR hst
  have hop : i.op < 54 := by
    obtain ⟨-, -, -, -, hm⟩ := decodeL_next hR.at_ hR.dec
    exact mayOp_lt hm
  have hfr := hF fr (by rw [hR.frs]; simp)
  have hlow : ∀ g ∈ low, (∀ v ∈ g.locs, SmV v) ∧ ∀ c ∈ g.stk, SmC c := fun g hg => hF g (by rw [hR.frs]; simp [hg])
  have hrest : ∀ c ∈ rest, SmC c := fun c hc => hfr.2 c (by rw [hR.stk]; simp [hc])
  have htop : ∀ c ∈ top, SmC c := fun c hc => hfr.2 c (by rw [hR.stk]; simp [hc])
  have hlen : low.length + 1 ≤ 21 := by
    rw [hR.frs] at hn
    simpa using hn
  obtain ⟨e1, e2, e3⟩ := eff_sm hE hG.w (locs := fr.locs) hfr.1 (b := i.b) hop hR.num htop
  revert hinv
  unfold Mach.does
  split
  · split
    · intro _
      exact ⟨hG.w, hG.arrs, hG.globs, fun h => by cases h⟩
    · rename_i h20
      intro hinv
      refine ⟨hG.w, hG.arrs, hG.globs, fun h => ⟨hinv h, ?_, ?_⟩⟩
      · intro g hg
        rcases List.mem_append.1 hg with hg | hg
        · exact hlow g hg
        · simp only [List.mem_cons, List.not_mem_nil, or_false] at hg
          rcases hg with rfl | rfl
          · exact ⟨hfr.1, hrest⟩
          · refine smF_enter _ _ ?_
            intro v hv
            obtain ⟨c, hc, rfl⟩ := List.mem_map.1 hv
            exact (htop c hc).1
      · simp only [List.length_append, List.length_cons, List.length_nil]
        omega
  · split
    · intro hinv
      rcases List.eq_nil_or_concat low with h0 | ⟨low2, g, h0⟩
      · subst h0
        simp only [List.getLast?_nil]
        exact hG
      · have h0' : low = low2 ++ [g] := by simpa using h0
        subst h0'
        simp only [List.getLast?_append, List.getLast?_singleton, Option.some_or, List.dropLast_concat] at hinv ⊢
        refine ⟨hG.w, hG.arrs, hG.globs, fun h => ⟨hinv h, ?_, ?_⟩⟩
        · intro x hx
          rcases List.mem_append.1 hx with hx | hx
          · exact hlow x (by simp [hx])
          · simp only [List.mem_singleton] at hx
            subst hx
            have hg := hlow g (by simp)
            refine ⟨hg.1, ?_⟩
            intro c hc
            rcases List.mem_append.1 hc with hc | hc
            · exact hg.2 c hc
            · simp only [List.mem_singleton] at hc
              subst hc
              exact smC_cv (cell_sm htop 0).1
        · simp only [List.length_append, List.length_cons, List.length_nil] at hlen ⊢
          omega
    · split
      · intro hinv
        unfold over at hinv ⊢
        have n1 : (nextR s.w).1.arrs = s.w.arrs ∧ (nextR s.w).1.globs = s.w.globs := by
          unfold nextR
          split <;> exact ⟨rfl, rfl⟩
        split
        · exact ⟨hG.w, hG.arrs, hG.globs, fun h => by cases h⟩
        · rename_i h2
          rw [if_neg h2] at hinv
          split
          · rename_i h3
            rw [if_pos h3] at hinv
            refine ⟨nextR_sm hG.w, by rw [← hG.arrs]; exact congrArg _ n1.1, by rw [← hG.globs]; exact congrArg _ n1.2, fun h => ⟨hinv h, ?_, by simp⟩⟩
            intro g hg
            simp only [List.mem_singleton] at hg
            subst hg
            exact smF_enter _ _ (by simp)
          · rename_i h3
            rw [if_neg h3] at hinv
            refine ⟨hG.w, hG.arrs, hG.globs, fun h => ⟨hinv h, ?_, by simp⟩⟩
            intro g hg
            simp only [List.mem_singleton] at hg
            subst hg
            exact smF_enter _ _ (by simp)
      · split
        · rename_i hne
          intro _
          exact ⟨e1, by rw [← hG.arrs]; exact eff_size.1, by rw [← hG.globs]; exact eff_size.2, fun h => absurd h hne⟩
        · intro hinv
          refine ⟨e1, by rw [← hG.arrs]; exact eff_size.1, by rw [← hG.globs]; exact eff_size.2, fun h => ⟨hinv h, ?_, ?_⟩⟩
          · intro g hg
            rcases List.mem_append.1 hg with hg | hg
            · exact hlow g hg
            · simp only [List.mem_singleton] at hg
              subst hg
              refine ⟨e2, ?_⟩
              intro c hc
              rcases List.mem_append.1 hc with hc | hc
              · exact hrest c hc
              · exact e3 c hc
          · simp only [List.length_append, List.length_cons, List.length_nil]
            omega
def begin_ (m : Mo) (recs : List ByteArray) (draws : List Int) : St :=
 ⟨⟨recs, 0, draws, 0, none0, [], none0, List.replicate m.globs.toNat nothing, List.replicate m.arrs.toNat []⟩, [enter m 0 []], 0, 0, 0⟩
theorem good_begin {E : Env} (hM : ModOk E.mo) {recs : List ByteArray} {draws : List Int} (h1 : recs.length ≤ 50) (h2 : ∀ s ∈ recs, s.size ≤ 100) (h3 : draws.length ≤ 50) (h4 : ∀ n ∈ draws, -1000000000 ≤ n ∧ n ≤ 1000000000) : Good E (begin_ E.mo recs draws) where
 w := {
  recs := h2
  nr := Nat.zero_le _
  nrec := h1
  draws := h4
  ndr := h3
  drawn := Nat.zero_le _
  rcd := (by decide : none0.size ≤ 100)
  flds := by simp [begin_]
  nf := by simp [begin_]
  out := (by decide : none0.size ≤ 1000)
  globs := by
   intro v hv
   rw [List.eq_of_mem_replicate hv]
   exact smV_nothing
  arrs := by
   intro v hv
   rw [List.eq_of_mem_replicate hv]
   exact ⟨by simp, by simp [keysA], by simp⟩ }
 arrs := by simp [begin_]
 globs := by simp [begin_]
 inv := fun _ => ⟨inv_enter (by omega) (by have := hM.three; omega) (hM.fns 0 (by have := hM.three; omega)), by
  intro g hg
  simp only [begin_, List.mem_singleton] at hg
  subst hg
  exact smF_enter _ _ (by simp), by simp [begin_]⟩
end Mach
end Go.Proofs.YtmolfmgchbjnbaaGreatDoor
