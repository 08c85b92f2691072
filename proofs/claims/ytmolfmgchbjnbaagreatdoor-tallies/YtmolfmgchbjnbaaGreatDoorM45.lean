import Derived.Test.YtmolfmgchbjnbaaGreatDoorM44
set_option linter.unusedSimpArgs false
set_option linter.unusedVariables false
namespace Go.Proofs.YtmolfmgchbjnbaaGreatDoor
namespace Mach
open Wire Flow
section
variable {E : Env} {recs : List ByteArray} {nr : Nat} {draws : List Int} {drawn : Nat} {rcd : ByteArray}
theorem count_tell (e : E.mo = countM) : TellC E := by
 refine ⟨?_, ?_, ?_, ?_, ?_, ?_, ?_, ?_, ?_, ?_, ?_, ?_⟩ <;> rw [e] <;> kernel_rfl
theorem toggle_tell (e : E.mo = toggleM) : TellC E := by
 refine ⟨?_, ?_, ?_, ?_, ?_, ?_, ?_, ?_, ?_, ?_, ?_, ?_⟩ <;> rw [e] <;> kernel_rfl
theorem sg2 : signedN 2 = 1 := by decide
theorem add_one (hE : SmE E) {n : Nat} (hn : n ≤ 1000) : sumOp E 18 (n : Int) 1 = (((n + 1 : Nat) : Int), 0) := by
 unfold sumOp
 rw [if_neg (by simp)]
 have := hE.wr ((n : Int) + 1) (by omega) (by omega)
 simp only [if_true, this]
 rw [if_neg (by omega)]
 simp
theorem key_three (hE : SmE E) (hM : ModOk E.mo) {n : Nat} {S : St} {at_ a1 a2 a3 : Nat} {out : ByteArray} {g : Val} {A : List (ByteArray × Val)} {c : Int} {u : Nat} (h : Steps E n S ⟨⟨recs, nr, draws, drawn, rcd, cutF rcd, out, [g], [A]⟩, [⟨1, at_, [], []⟩], 0, c, u⟩)
  (d0 : decodeL E.mo 1 (locsOf E.mo 1) (codeOf E.mo 1) at_ = .inr ⟨at_, a1, 0, 2, 0⟩) (d1 : decodeL E.mo 1 (locsOf E.mo 1) (codeOf E.mo 1) a1 = .inr ⟨a1, a2, 7, 0, 0⟩) (d2 : decodeL E.mo 1 (locsOf E.mo 1) (codeOf E.mo 1) a2 = .inr ⟨a2, a3, 27, 0, 0⟩) :
  Steps E (n + 3) S ⟨⟨recs, nr, draws, drawn, rcd, cutF rcd, out, [g], [A]⟩, [⟨1, a3, [], [cv (words (wordL rcd))]⟩], 0, c, u + 3⟩ := by
 obtain ⟨v, hv, ht⟩ := field_one (E := E) ⟨recs, nr, draws, drawn, rcd, cutF rcd, out, [g], [A]⟩
 have h1 := h.op (rest := []) (top := []) hE hM d0 rfl rfl (w' := ⟨recs, nr, draws, drawn, rcd, cutF rcd, out, [g], [A]⟩) (locs' := []) (top' := [cv (whole 1)]) (go := none) (by
   show Eff.put _ _ (whole (signedN 2)) = _
   rw [sg2]
   rfl)
 have h2 := h1.op (rest := []) (top := [cv (whole 1)]) hE hM d1 rfl rfl (w' := ⟨recs, nr, draws, drawn, rcd, cutF rcd, out, [g], [A]⟩) (locs' := []) (top' := [cv v]) (go := none) (by
  show Eff.mk _ _ [cv (fieldW _ 1).1] (fieldW _ 1).2 _ _ = _
  rw [hv])
 have h3 := h2.op (rest := []) (top := [cv v]) hE hM d2 rfl rfl (w' := ⟨recs, nr, draws, drawn, rcd, cutF rcd, out, [g], [A]⟩) (locs' := []) (top' := [cv (words (wordL rcd))]) (go := none) (by
  show Eff.put _ _ (words (textV E v)) = _
  rw [ht]
  rfl)
 exact h3
theorem count_one (hE : SmE E) (hM : ModOk E.mo) (e : E.mo = countM) {out : ByteArray} {g : Val} {L : Tl} {u : Nat} (hb : ∀ x ∈ L, x.2 ≤ 1000) (hG : Good E ⟨⟨recs, nr, draws, drawn, rcd, cutF rcd, out, [g], [toA L]⟩, [⟨1, 0, [], []⟩], 0, 0, u⟩) :
    (∀ L', cntS L (wordL rcd) = some L' → Steps E 11 ⟨⟨recs, nr, draws, drawn, rcd, cutF rcd, out, [g], [toA L]⟩, [⟨1, 0, [], []⟩], 0, 0, u⟩ ⟨⟨recs, nr, draws, drawn, rcd, cutF rcd, out, [g], [toA L']⟩, [⟨1, 15, [], []⟩], 0, 0, u + 11⟩) ∧
    (cntS L (wordL rcd) = none → ∃ w frs, Steps E 5 ⟨⟨recs, nr, draws, drawn, rcd, cutF rcd, out, [g], [toA L]⟩, [⟨1, 0, [], []⟩], 0, 0, u⟩ ⟨w, frs, 7, 0, u + 5⟩ ∧ w.out = out) := by
  have h3 := key_three hE hM (Steps.refl hG) (a1 := 2) (a2 := 3) (a3 := 4) (by rw [e]; kernel_rfl) (by rw [e]; kernel_rfl) (by rw [e]; kernel_rfl)
  generalize wordL rcd = t at h3 ⊢
  have h4 := h3.op (rest := []) (top := [cv (words t)]) hE hM (show decodeL E.mo 1 (locsOf E.mo 1) (codeOf E.mo 1) _ = .inr ⟨4, 5, 45, 0, 0⟩ by rw [e]; kernel_rfl) rfl rfl (w' := ⟨recs, nr, draws, drawn, rcd, cutF rcd, out, [g], [toA L]⟩) (locs' := []) (top' := [cv (words t), cv (words t)]) (go := none) rfl
  have d5 : decodeL E.mo 1 (locsOf E.mo 1) (codeOf E.mo 1) 5 = .inr ⟨5, 7, 11, 0, 0⟩ := by rw [e]; kernel_rfl
  have tail : ∀ (A : List (ByteArray × Val)) (v : Val) (n : Nat), n ≤ 1000 → numV v = (n : Int) → (hasK A t = true) → Steps E 5 ⟨⟨recs, nr, draws, drawn, rcd, cutF rcd, out, [g], [toA L]⟩, [⟨1, 0, [], []⟩], 0, 0, u⟩ ⟨⟨recs, nr, draws, drawn, rcd, cutF rcd, out, [g], [A]⟩, [⟨1, 7, [], [cv (words t), cv v]⟩], 0, 0, u + 5⟩ →
      Steps E 11 ⟨⟨recs, nr, draws, drawn, rcd, cutF rcd, out, [g], [toA L]⟩, [⟨1, 0, [], []⟩], 0, 0, u⟩ ⟨⟨recs, nr, draws, drawn, rcd, cutF rcd, out, [g], [setK A t (whole ((n + 1 : Nat) : Int))]⟩, [⟨1, 15, [], []⟩], 0, 0, u + 11⟩ := by
    intro A v n hn hv hk h5
    have h6 := h5.op (rest := [cv (words t)]) (top := [cv v]) hE hM (show decodeL E.mo 1 (locsOf E.mo 1) (codeOf E.mo 1) _ = .inr ⟨7, 8, 26, 0, 0⟩ by rw [e]; kernel_rfl) rfl rfl (w' := ⟨recs, nr, draws, drawn, rcd, cutF rcd, out, [g], [A]⟩) (locs' := []) (top' := [cv (whole (n : Int))]) (go := none) (by
      show Eff.put _ _ (whole (numV v)) = _
      rw [hv]
      rfl)
    have h7 := h6.op (rest := [cv (words t), cv (whole (n : Int))]) (top := []) hE hM (show decodeL E.mo 1 (locsOf E.mo 1) (codeOf E.mo 1) _ = .inr ⟨8, 10, 0, 2, 0⟩ by rw [e]; kernel_rfl) rfl rfl (w' := ⟨recs, nr, draws, drawn, rcd, cutF rcd, out, [g], [A]⟩) (locs' := []) (top' := [cv (whole 1)]) (go := none) (by
      show Eff.put _ _ (whole (signedN 2)) = _
      rw [sg2]
      rfl)
    have h8 := h7.op (rest := [cv (words t)]) (top := [cv (whole (n : Int)), cv (whole 1)]) hE hM (show decodeL E.mo 1 (locsOf E.mo 1) (codeOf E.mo 1) _ = .inr ⟨10, 11, 18, 0, 0⟩ by rw [e]; kernel_rfl) rfl rfl (w' := ⟨recs, nr, draws, drawn, rcd, cutF rcd, out, [g], [A]⟩) (locs' := []) (top' := [cv (whole ((n + 1 : Nat) : Int))]) (go := none) (by
      show Eff.mk _ _ [cv (whole (sumOp E 18 (n : Int) 1).1)] (sumOp E 18 (n : Int) 1).2 _ _ = _
      rw [add_one hE hn])
    have h9 := h8.op (rest := []) (top := [cv (words t), cv (whole ((n + 1 : Nat) : Int))]) hE hM (show decodeL E.mo 1 (locsOf E.mo 1) (codeOf E.mo 1) _ = .inr ⟨11, 12, 46, 0, 0⟩ by rw [e]; kernel_rfl) rfl rfl (w' := ⟨recs, nr, draws, drawn, rcd, cutF rcd, out, [g], [A]⟩) (locs' := []) (top' := [cv (whole ((n + 1 : Nat) : Int)), cv (words t), cv (whole ((n + 1 : Nat) : Int))]) (go := none) rfl
    have h10 := h9.op (rest := [cv (whole ((n + 1 : Nat) : Int))]) (top := [cv (words t), cv (whole ((n + 1 : Nat) : Int))]) hE hM (show decodeL E.mo 1 (locsOf E.mo 1) (codeOf E.mo 1) _ = .inr ⟨12, 14, 12, 0, 0⟩ by rw [e]; kernel_rfl) rfl rfl (w' := ⟨recs, nr, draws, drawn, rcd, cutF rcd, out, [g], [setK A t (whole ((n + 1 : Nat) : Int))]⟩) (locs' := []) (top' := []) (go := none) (by
      show (if hasK A t = false ∧ 30 ≤ A.length then _ else _) = _
      rw [if_neg (by rw [hk]; simp)]
      rfl)
    have h11 := h10.op (rest := []) (top := [cv (whole ((n + 1 : Nat) : Int))]) hE hM (show decodeL E.mo 1 (locsOf E.mo 1) (codeOf E.mo 1) _ = .inr ⟨14, 15, 47, 0, 0⟩ by rw [e]; kernel_rfl) rfl rfl (w' := ⟨recs, nr, draws, drawn, rcd, cutF rcd, out, [g], [setK A t (whole ((n + 1 : Nat) : Int))]⟩) (locs' := []) (top' := []) (go := none) rfl
    exact h11
  constructor
  · intro L' hL
    unfold cntS at hL
    by_cases hh : hasT L t = true
    · rw [if_pos hh] at hL
      cases hL
      obtain ⟨n, hm, hg, hs⟩ := bump_ok hh
      have hk : hasK (toA L) t = true := by rw [hasK_toA]; exact hh
      have h5 := h4.op (rest := [cv (words t)]) (top := [cv (words t)]) hE hM d5 rfl rfl (w' := ⟨recs, nr, draws, drawn, rcd, cutF rcd, out, [g], [toA L]⟩) (locs' := []) (top' := [cv (whole (n : Int))]) (go := none) (by
        show (if hasK (toA L) t = true then Eff.put _ _ (getK (toA L) t) else _) = _
        rw [if_pos hk, hg]
        rfl)
      have := tail (toA L) (whole (n : Int)) n (hb _ hm) rfl hk h5
      rw [hs] at this
      exact this
    · rw [if_neg hh] at hL
      by_cases hf : 30 ≤ L.length
      · rw [if_pos hf] at hL
        cases hL
      · rw [if_neg hf] at hL
        cases hL
        have hk : hasK (toA L) t = false := by rw [hasK_toA]; simpa using hh
        have h5 := h4.op (rest := [cv (words t)]) (top := [cv (words t)]) hE hM d5 rfl rfl (w' := ⟨recs, nr, draws, drawn, rcd, cutF rcd, out, [g], [setK (toA L) t nothing]⟩) (locs' := []) (top' := [cv nothing]) (go := none) (by
          show (if hasK (toA L) t = true then _ else if 30 ≤ (toA L).length then _ else _) = _
          rw [if_neg (by rw [hk]; decide), if_neg (by rw [toA_length]; exact hf)]
          rfl)
        have hk2 : hasK (setK (toA L) t nothing) t = true := by
          rw [setK_new hk]
          simp [hasK]
        have := tail (setK (toA L) t nothing) nothing 0 (by omega) rfl hk2 h5
        rw [setK_twice hk] at this
        rw [toA_snoc]
        exact this
  · intro hL
    unfold cntS at hL
    by_cases hh : hasT L t = true
    · rw [if_pos hh] at hL
      cases hL
    · rw [if_neg hh] at hL
      by_cases hf : 30 ≤ L.length
      · have hk : hasK (toA L) t = false := by rw [hasK_toA]; simpa using hh
        exact ⟨_, _, h4.fault (rest := [cv (words t)]) (top := [cv (words t)]) hE hM d5 rfl rfl (st := 7) (code := 0) (by decide) (w' := ⟨recs, nr, draws, drawn, rcd, cutF rcd, out, [g], [toA L]⟩) (locs' := []) (top' := []) (go := none) (by
          show (if hasK (toA L) t = true then _ else if 30 ≤ (toA L).length then _ else _) = _
          rw [if_neg (by rw [hk]; decide), if_pos (by rw [toA_length]; exact hf)]
          rfl), rfl⟩
      · rw [if_neg hf] at hL
        cases hL
theorem cntS_le {L L' : Tl} {t : ByteArray} {b : Nat} (hb : ∀ x ∈ L, x.2 ≤ b) (h : cntS L t = some L') : ∀ x ∈ L', x.2 ≤ b + 1 := by
 have hbump : ∀ (L : Tl), (∀ x ∈ L, x.2 ≤ b) → ∀ x ∈ bump L t, x.2 ≤ b + 1 := by
  intro L
  induction L with
  | nil => intro _ x hx; cases hx
  | cons e L ih =>
   intro hb x hx
   simp only [bump] at hx
   split at hx
   ·rcases List.mem_cons.1 hx with rfl | hx
    ·have := hb e (by simp)
     show e.2 + 1 ≤ b + 1
     omega
    ·have := hb x (by simp [hx]); omega
   ·rcases List.mem_cons.1 hx with rfl | hx
    ·have := hb x (by simp); omega
    ·exact ih (fun y hy => hb y (by simp [hy])) x hx
 unfold cntS at h
 split at h
 ·cases h
  exact hbump L hb
 ·split at h
  ·cases h
  ·cases h
   intro x hx
   rcases List.mem_append.1 hx with hx | hx
   ·have := hb x hx; omega
   ·simp at hx
    subst hx
    show 1 ≤ b + 1
    omega
def talE (E : Env) (out : ByteArray) : Option Tl → ByteArray × Nat
 | some L => linesL out (L.map (lineT E))
 | none => (out, 7)
theorem count_rest (hE : SmE E) (hM : ModOk E.mo) (e : E.mo = countM) : ∀ (l : List ByteArray) (nr : Nat) (rcd : ByteArray) (flds : List ByteArray) (L : Tl) (out : ByteArray) (g : Val) (fr : Frm) (u b : Nat), recs.drop nr = l → (fr = ⟨0, 0, [], []⟩ ∨ fr = ⟨1, 15, [], []⟩) → (∀ x ∈ L, x.2 ≤ b) → b + l.length ≤ 1000 → Good E ⟨⟨recs, nr, draws, drawn, rcd, flds, out, [g], [toA L]⟩, [fr], 0, 0, u⟩ →
  ∃ n D, n ≤ 12 * l.length + 400 ∧ Steps E n ⟨⟨recs, nr, draws, drawn, rcd, flds, out, [g], [toA L]⟩, [fr], 0, 0, u⟩ D ∧ D.st = (talE E out (cntF L l)).2 ∧ D.code = 0 ∧ D.w.out = (talE E out (cntF L l)).1 := by
 intro l
 induction l with
 | nil =>
  intro nr rcd flds L out g fr u b hl hf hb _ hG
  have h1 : Steps E 1 ⟨⟨recs, nr, draws, drawn, rcd, flds, out, [g], [toA L]⟩, [fr], 0, 0, u⟩ ⟨⟨recs, nr, draws, drawn, rcd, flds, out, [g], [toA L]⟩, [enter E.mo 2 []], 0, 0, u + 1⟩ := by
   rcases hf with rfl | rfl
   ·exact (Steps.refl hG).over_last hE hM (nx := 1) (by rw [e]; kernel_rfl) (by decide) hl
   ·exact (Steps.refl hG).over_last hE hM (nx := 16) (by rw [e]; kernel_rfl) (by decide) hl
  have h2 : enter E.mo 2 [] = ⟨2, 0, [], []⟩ := by rw [e]; rfl
  rw [h2] at h1
  obtain ⟨n, D, h3, h4, h5⟩ := tell_all hE hM (count_tell e) h1.2
  have hlen : L.length ≤ 30 := by
   have := (hG.w.arrs (toA L) (by simp)).len
   rwa [toA_length] at this
  exact ⟨1 + n, D, by simp; omega, h1.trans h4, h5⟩
 | cons r l ih =>
  intro nr rcd flds L out g fr u b hl hf hb hbl hG
  have h1 : Steps E 1 ⟨⟨recs, nr, draws, drawn, rcd, flds, out, [g], [toA L]⟩, [fr], 0, 0, u⟩ ⟨⟨recs, nr + 1, draws, drawn, r, cutF r, out, [g], [toA L]⟩, [enter E.mo 1 []], 0, 0, u + 1⟩ ∧ recs.drop (nr + 1) = l := by
   rcases hf with rfl | rfl
   ·exact (Steps.refl hG).over_next hE hM (nx := 1) (by rw [e]; kernel_rfl) (by decide) hl
   ·exact (Steps.refl hG).over_next hE hM (nx := 16) (by rw [e]; kernel_rfl) (by decide) hl
  obtain ⟨h1, hl2⟩ := h1
  have h2 : enter E.mo 1 [] = ⟨1, 0, [], []⟩ := by rw [e]; rfl
  rw [h2] at h1
  simp only [List.length_cons] at hbl
  obtain ⟨k1, k2⟩ := count_one hE hM e (fun x hx => Nat.le_trans (hb x hx) (by omega)) h1.2
  cases hc : cntS L (wordL r) with
  | none =>
   obtain ⟨w, frs, h3, h4⟩ := k2 hc
   refine ⟨1 + 5, _, by simp only [List.length_cons]; omega, h1.trans h3, ?_⟩
   have : cntF L (r :: l) = none := by simp only [cntF, hc]; rfl
   rw [this]
   exact ⟨rfl, rfl, h4⟩
  | some L' =>
   have h3 := h1.trans (k1 L' hc)
   obtain ⟨n, D, h4, h5, h6⟩ := ih _ _ _ L' out g _ _ (b + 1) hl2 (.inr rfl) (cntS_le hb hc) (by omega) h3.2
   have : cntF L (r :: l) = cntF L' l := by simp only [cntF, hc]; rfl
   rw [this]
   exact ⟨1 + 11 + n, D, by simp only [List.length_cons]; omega, h3.trans h5, h6⟩
end
end Mach
end Go.Proofs.YtmolfmgchbjnbaaGreatDoor
namespace Go.Proofs.YtmolfmgchbjnbaaGreatDoor
namespace Mach
open Wire Flow
section
variable {E : Env} {recs : List ByteArray} {nr : Nat} {draws : List Int} {drawn : Nat} {rcd : ByteArray}
theorem toggle_one (hE : SmE E) (hM : ModOk E.mo) (e : E.mo = toggleM) {out : ByteArray} {g : Val} {L : Tl} {u : Nat} (hG : Good E ⟨⟨recs, nr, draws, drawn, rcd, cutF rcd, out, [g], [toA L]⟩, [⟨1, 0, [], []⟩], 0, 0, u⟩) :
    (∀ L', togS L (wordL rcd) nr = some L' → ∃ k, k ≤ 12 ∧ Steps E k ⟨⟨recs, nr, draws, drawn, rcd, cutF rcd, out, [g], [toA L]⟩, [⟨1, 0, [], []⟩], 0, 0, u⟩ ⟨⟨recs, nr, draws, drawn, rcd, cutF rcd, out, [g], [toA L']⟩, [⟨1, 25, [], []⟩], 0, 0, u + k⟩) ∧
    (togS L (wordL rcd) nr = none → ∃ w frs, Steps E 11 ⟨⟨recs, nr, draws, drawn, rcd, cutF rcd, out, [g], [toA L]⟩, [⟨1, 0, [], []⟩], 0, 0, u⟩ ⟨w, frs, 7, 0, u + 11⟩ ∧ w.out = out) := by
  have d6 : decodeL E.mo 1 (locsOf E.mo 1) (codeOf E.mo 1) 6 = .inr ⟨6, 8, 49, 16, 0⟩ := by rw [e]; kernel_rfl
  have d22 : decodeL E.mo 1 (locsOf E.mo 1) (codeOf E.mo 1) 22 = .inr ⟨22, 24, 12, 0, 0⟩ := by rw [e]; kernel_rfl
  have h3 := key_three hE hM (Steps.refl hG) (a1 := 2) (a2 := 3) (a3 := 4) (by rw [e]; kernel_rfl) (by rw [e]; kernel_rfl) (by rw [e]; kernel_rfl)
  have h4 := h3.op (rest := []) (top := [cv (words (wordL rcd))]) hE hM (show decodeL E.mo 1 (locsOf E.mo 1) (codeOf E.mo 1) _ = .inr ⟨4, 6, 13, 0, 0⟩ by rw [e]; kernel_rfl) rfl rfl (w' := ⟨recs, nr, draws, drawn, rcd, cutF rcd, out, [g], [toA L]⟩) (locs' := []) (top' := [cv (whole (truth (hasT L (wordL rcd))))]) (go := none) (by
    show Eff.put _ _ (whole (truth (hasK (toA L) (wordL rcd)))) = _
    rw [hasK_toA]
    rfl)
  by_cases hh : hasT L (wordL rcd) = true
  · have ht : togS L (wordL rcd) nr = some (dropT L (wordL rcd)) := by unfold togS; rw [if_pos hh]
    rw [ht]
    refine ⟨fun L' hL => ?_, fun h => by cases h⟩
    cases hL
    rw [hh] at h4
    have h5 := h4.op (rest := []) (top := [cv (whole (truth true))]) hE hM d6 rfl rfl (w' := ⟨recs, nr, draws, drawn, rcd, cutF rcd, out, [g], [toA L]⟩) (locs' := []) (top' := []) (go := none) (by
      show Eff.mk _ _ [] 0 0 (if truth true = 0 then _ else _) = _
      rw [if_neg (by decide)])
    have h8 := key_three hE hM h5 (a1 := 10) (a2 := 11) (a3 := 12) (by rw [e]; kernel_rfl) (by rw [e]; kernel_rfl) (by rw [e]; kernel_rfl)
    have h9 := h8.op (rest := []) (top := [cv (words (wordL rcd))]) hE hM (show decodeL E.mo 1 (locsOf E.mo 1) (codeOf E.mo 1) _ = .inr ⟨12, 14, 14, 0, 0⟩ by rw [e]; kernel_rfl) rfl rfl (w' := ⟨recs, nr, draws, drawn, rcd, cutF rcd, out, [g], [toA (dropT L (wordL rcd))]⟩) (locs' := []) (top' := []) (go := none) (by
      rw [← dropK_toA]
      rfl)
    have h10 := h9.op (rest := []) (top := []) hE hM (show decodeL E.mo 1 (locsOf E.mo 1) (codeOf E.mo 1) _ = .inr ⟨14, 16, 48, 25, 0⟩ by rw [e]; kernel_rfl) rfl rfl (w' := ⟨recs, nr, draws, drawn, rcd, cutF rcd, out, [g], [toA (dropT L (wordL rcd))]⟩) (locs' := []) (top' := []) (go := some 25) rfl
    exact ⟨10, by omega, h10⟩
  · have hh' : hasT L (wordL rcd) = false := by simpa using hh
    rw [hh'] at h4
    have h5 := h4.op (rest := []) (top := [cv (whole (truth false))]) hE hM d6 rfl rfl (w' := ⟨recs, nr, draws, drawn, rcd, cutF rcd, out, [g], [toA L]⟩) (locs' := []) (top' := []) (go := some 16) (by
      show Eff.mk _ _ [] 0 0 (if truth false = 0 then _ else _) = _
      rw [if_pos (by decide)])
    have h8 := key_three hE hM h5 (a1 := 18) (a2 := 19) (a3 := 20) (by rw [e]; kernel_rfl) (by rw [e]; kernel_rfl) (by rw [e]; kernel_rfl)
    have h9 := h8.op (rest := [cv (words (wordL rcd))]) (top := []) hE hM (show decodeL E.mo 1 (locsOf E.mo 1) (codeOf E.mo 1) _ = .inr ⟨20, 21, 10, 0, 0⟩ by rw [e]; kernel_rfl) rfl rfl (w' := ⟨recs, nr, draws, drawn, rcd, cutF rcd, out, [g], [toA L]⟩) (locs' := []) (top' := [cv (whole (nr : Int))]) (go := none) rfl
    have h10 := h9.op (rest := []) (top := [cv (words (wordL rcd)), cv (whole (nr : Int))]) hE hM (show decodeL E.mo 1 (locsOf E.mo 1) (codeOf E.mo 1) _ = .inr ⟨21, 22, 46, 0, 0⟩ by rw [e]; kernel_rfl) rfl rfl (w' := ⟨recs, nr, draws, drawn, rcd, cutF rcd, out, [g], [toA L]⟩) (locs' := []) (top' := [cv (whole (nr : Int)), cv (words (wordL rcd)), cv (whole (nr : Int))]) (go := none) rfl
    have hk : hasK (toA L) (wordL rcd) = false := by rw [hasK_toA]; exact hh'
    by_cases hf : 30 ≤ L.length
    · have ht : togS L (wordL rcd) nr = none := by unfold togS; rw [if_neg hh, if_pos hf]
      rw [ht]
      refine ⟨fun L' hL => (by cases hL), fun _ => ⟨_, _, h10.fault (rest := [cv (whole (nr : Int))]) (top := [cv (words (wordL rcd)), cv (whole (nr : Int))]) hE hM d22 rfl rfl (st := 7) (code := 0) (by decide) (w' := ⟨recs, nr, draws, drawn, rcd, cutF rcd, out, [g], [toA L]⟩) (locs' := []) (top' := []) (go := none) (by
        show (if hasK (toA L) (wordL rcd) = false ∧ 30 ≤ (toA L).length then _ else _) = _
        rw [if_pos ⟨hk, by rw [toA_length]; exact hf⟩]
        rfl), rfl⟩⟩
    · have ht : togS L (wordL rcd) nr = some (L ++ [(wordL rcd, nr)]) := by unfold togS; rw [if_neg hh, if_neg hf]
      rw [ht]
      refine ⟨fun L' hL => ?_, fun h => by cases h⟩
      cases hL
      have h11 := h10.op (rest := [cv (whole (nr : Int))]) (top := [cv (words (wordL rcd)), cv (whole (nr : Int))]) hE hM d22 rfl rfl (w' := ⟨recs, nr, draws, drawn, rcd, cutF rcd, out, [g], [toA (L ++ [(wordL rcd, nr)])]⟩) (locs' := []) (top' := []) (go := none) (by
        show (if hasK (toA L) (wordL rcd) = false ∧ 30 ≤ (toA L).length then _ else _) = _
        rw [if_neg (by rw [toA_length]; omega), toA_snoc, ← setK_new hk]
        rfl)
      have h12 := h11.op (rest := []) (top := [cv (whole (nr : Int))]) hE hM (show decodeL E.mo 1 (locsOf E.mo 1) (codeOf E.mo 1) _ = .inr ⟨24, 25, 47, 0, 0⟩ by rw [e]; kernel_rfl) rfl rfl (w' := ⟨recs, nr, draws, drawn, rcd, cutF rcd, out, [g], [toA (L ++ [(wordL rcd, nr)])]⟩) (locs' := []) (top' := []) (go := none) rfl
      exact ⟨12, by omega, h12⟩
theorem toggle_rest (hE : SmE E) (hM : ModOk E.mo) (e : E.mo = toggleM) : ∀ (l : List ByteArray) (nr : Nat) (rcd : ByteArray) (flds : List ByteArray) (L : Tl) (out : ByteArray) (g : Val) (fr : Frm) (u : Nat), recs.drop nr = l → (fr = ⟨0, 0, [], []⟩ ∨ fr = ⟨1, 25, [], []⟩) → Good E ⟨⟨recs, nr, draws, drawn, rcd, flds, out, [g], [toA L]⟩, [fr], 0, 0, u⟩ →
  ∃ n D, n ≤ 13 * l.length + 400 ∧ Steps E n ⟨⟨recs, nr, draws, drawn, rcd, flds, out, [g], [toA L]⟩, [fr], 0, 0, u⟩ D ∧ D.st = (talE E out (togF nr L l)).2 ∧ D.code = 0 ∧ D.w.out = (talE E out (togF nr L l)).1 := by
 intro l
 induction l with
 | nil =>
  intro nr rcd flds L out g fr u hl hf hG
  have h1 : Steps E 1 ⟨⟨recs, nr, draws, drawn, rcd, flds, out, [g], [toA L]⟩, [fr], 0, 0, u⟩ ⟨⟨recs, nr, draws, drawn, rcd, flds, out, [g], [toA L]⟩, [enter E.mo 2 []], 0, 0, u + 1⟩ := by
   rcases hf with rfl | rfl
   ·exact (Steps.refl hG).over_last hE hM (nx := 1) (by rw [e]; kernel_rfl) (by decide) hl
   ·exact (Steps.refl hG).over_last hE hM (nx := 26) (by rw [e]; kernel_rfl) (by decide) hl
  have h2 : enter E.mo 2 [] = ⟨2, 0, [], []⟩ := by rw [e]; rfl
  rw [h2] at h1
  obtain ⟨n, D, h3, h4, h5⟩ := tell_all hE hM (toggle_tell e) h1.2
  have hlen : L.length ≤ 30 := by
   have := (hG.w.arrs (toA L) (by simp)).len
   rwa [toA_length] at this
  exact ⟨1 + n, D, by simp; omega, h1.trans h4, h5⟩
 | cons r l ih =>
  intro nr rcd flds L out g fr u hl hf hG
  have h1 : Steps E 1 ⟨⟨recs, nr, draws, drawn, rcd, flds, out, [g], [toA L]⟩, [fr], 0, 0, u⟩ ⟨⟨recs, nr + 1, draws, drawn, r, cutF r, out, [g], [toA L]⟩, [enter E.mo 1 []], 0, 0, u + 1⟩ ∧ recs.drop (nr + 1) = l := by
   rcases hf with rfl | rfl
   ·exact (Steps.refl hG).over_next hE hM (nx := 1) (by rw [e]; kernel_rfl) (by decide) hl
   ·exact (Steps.refl hG).over_next hE hM (nx := 26) (by rw [e]; kernel_rfl) (by decide) hl
  obtain ⟨h1, hl2⟩ := h1
  have h2 : enter E.mo 1 [] = ⟨1, 0, [], []⟩ := by rw [e]; rfl
  rw [h2] at h1
  obtain ⟨k1, k2⟩ := toggle_one hE hM e h1.2
  cases hc : togS L (wordL r) (nr + 1) with
  | none =>
   obtain ⟨w, frs, h3, h4⟩ := k2 hc
   refine ⟨1 + 11, _, by simp only [List.length_cons]; omega, h1.trans h3, ?_⟩
   have : togF nr L (r :: l) = none := by simp only [togF, hc]; rfl
   rw [this]
   exact ⟨rfl, rfl, h4⟩
  | some L' =>
   obtain ⟨k, hk, h3⟩ := k1 L' hc
   have h3 := h1.trans h3
   obtain ⟨n, D, h4, h5, h6⟩ := ih _ _ _ L' out g _ _ hl2 (.inr rfl) h3.2
   have : togF nr L (r :: l) = togF (nr + 1) L' l := by simp only [togF, hc]; rfl
   rw [this]
   exact ⟨1 + k + n, D, by simp only [List.length_cons]; omega, h3.trans h5, h6⟩
end
end Mach
end Go.Proofs.YtmolfmgchbjnbaaGreatDoor
