import Derived.Test.YtmolfmgchbjnbaaGreatDoorM43
set_option linter.unusedSimpArgs false
set_option linter.unusedVariables false
namespace Go.Proofs.YtmolfmgchbjnbaaGreatDoor
namespace Mach
open Wire Flow
theorem ed0 : decodeL everyM 0 (locsOf everyM 0) (codeOf everyM 0) 0 = .inr ⟨0, 1, 52, 0, 0⟩ := by kernel_rfl
theorem ed2 : decodeL everyM 2 (locsOf everyM 2) (codeOf everyM 2) 0 = .inr ⟨0, 1, 52, 0, 0⟩ := by kernel_rfl
theorem ea0 : decodeL everyM 1 (locsOf everyM 1) (codeOf everyM 1) 0 = .inr ⟨0, 2, 0, 0, 0⟩ := by kernel_rfl
theorem ea2 : decodeL everyM 1 (locsOf everyM 1) (codeOf everyM 1) 2 = .inr ⟨2, 3, 7, 0, 0⟩ := by kernel_rfl
theorem ea3 : decodeL everyM 1 (locsOf everyM 1) (codeOf everyM 1) 3 = .inr ⟨3, 4, 27, 0, 0⟩ := by kernel_rfl
theorem ea4 : decodeL everyM 1 (locsOf everyM 1) (codeOf everyM 1) 4 = .inr ⟨4, 6, 44, 1, 0⟩ := by kernel_rfl
theorem ea6 : decodeL everyM 1 (locsOf everyM 1) (codeOf everyM 1) 6 = .inr ⟨6, 7, 52, 0, 0⟩ := by kernel_rfl
section
variable {E : Env}
theorem every_one (hE : SmE E) (hM : ModOk E.mo) (e : E.mo = everyM) {w : Wd} {c : Int} {u : Nat} (hG : Good E ⟨w, [⟨1, 0, [], []⟩], 0, c, u⟩) :
    Steps E 4 ⟨w, [⟨1, 0, [], []⟩], 0, c, u⟩ (if w.out.size + w.rcd.size + 1 > 1000 then ⟨w, [⟨1, 4, [], [cv (words w.rcd)]⟩], 8, 0, u + 4⟩ else ⟨{ w with out := ⟨w.out.data ++ (bl w.rcd ++ [10]).toArray⟩ }, [⟨1, 6, [], []⟩], 0, c, u + 4⟩) := by
  have h1 := (Steps.refl hG).next hE hM rfl (low := []) (fr := ⟨1, 0, [], []⟩) rfl (by rw [e]; exact ea0) (rest := []) (top := []) rfl rfl
  change Steps E 1 _ ⟨w, [⟨1, 2, [], [cv (whole 0)]⟩], 0, c, u + 1⟩ at h1
  have h2 := h1.next hE hM rfl (low := []) (fr := ⟨1, 2, [], [cv (whole 0)]⟩) rfl (by rw [e]; exact ea2) (rest := []) (top := [cv (whole 0)]) rfl rfl
  change Steps E 2 _ ⟨w, [⟨1, 3, [], [cv (readV w.rcd)]⟩], 0, c, u + 2⟩ at h2
  have h3 := h2.next hE hM rfl (low := []) (fr := ⟨1, 3, [], [cv (readV w.rcd)]⟩) rfl (by rw [e]; exact ea3) (rest := []) (top := [cv (readV w.rcd)]) rfl rfl
  change Steps E 3 _ ⟨w, [⟨1, 4, [], [cv (words (textV E (readV w.rcd)))]⟩], 0, c, u + 3⟩ at h3
  rw [textV_read] at h3
  have h4 := h3.next hE hM rfl (low := []) (fr := ⟨1, 4, [], [cv (words w.rcd)]⟩) rfl (by rw [e]; exact ea4) (rest := []) (top := [cv (words w.rcd)]) rfl rfl
  have he : eff E w [] 44 1 0 [cv (words w.rcd)] = .off (printW w [w.rcd]).1 [] (printW w [w.rcd]).2 := rfl
  unfold Mach.does at h4
  rw [if_neg (by decide), if_neg (by decide), if_neg (by decide)] at h4
  simp only [he, print_one, Eff.off] at h4
  split
  · rename_i hc
    simp only [if_pos hc] at h4
    simpa using h4
  · rename_i hc
    simp only [if_neg hc] at h4
    simpa using h4
theorem every_rest (hE : SmE E) (hM : ModOk E.mo) (e : E.mo = everyM) : ∀ (l : List ByteArray) (w : Wd) (fr : Frm) (u : Nat), w.recs.drop w.nr = l → (fr = ⟨0, 0, [], []⟩ ∨ fr = ⟨1, 6, [], []⟩) → Good E ⟨w, [fr], 0, 0, u⟩ →
    ∃ n D, n ≤ 5 * l.length + 2 ∧ Steps E n ⟨w, [fr], 0, 0, u⟩ D ∧ D.st = (linesL w.out l).2 ∧ D.code = 0 ∧ D.w.out = (linesL w.out l).1 := by
  intro l
  induction l with
  | nil =>
    intro w fr u hl hf hG
    have h1 : Steps E 1 ⟨w, [fr], 0, 0, u⟩ ⟨w, [⟨2, 0, [], []⟩], 0, 0, u + 1⟩ := by
      have en := next_none hl
      rcases hf with rfl | rfl
      · have h := (Steps.refl hG).next hE hM rfl (low := []) (fr := ⟨0, 0, [], []⟩) rfl (by rw [e]; exact ed0) (rest := []) (top := []) rfl rfl
        unfold Mach.does at h
        rw [if_neg (by decide), if_neg (by decide), if_pos (by decide)] at h
        unfold over at h
        simp only [en, e] at h
        exact h
      · have h := (Steps.refl hG).next hE hM rfl (low := []) (fr := ⟨1, 6, [], []⟩) rfl (by rw [e]; exact ea6) (rest := []) (top := []) rfl rfl
        unfold Mach.does at h
        rw [if_neg (by decide), if_neg (by decide), if_pos (by decide)] at h
        unfold over at h
        simp only [en, e] at h
        exact h
    have h2 := h1.next hE hM rfl (low := []) (fr := ⟨2, 0, [], []⟩) rfl (by rw [e]; exact ed2) (rest := []) (top := []) rfl rfl
    change Steps E 2 _ ⟨w, [⟨2, 0, [], []⟩], 1, 0, u + 2⟩ at h2
    exact ⟨2, _, by simp, h2, rfl, rfl, rfl⟩
  | cons r l ih =>
    intro w fr u hl hf hG
    obtain ⟨en, hl2⟩ := next_some hl
    have h1 : Steps E 1 ⟨w, [fr], 0, 0, u⟩ ⟨{ w with nr := w.nr + 1, rcd := r, flds := cutF r }, [⟨1, 0, [], []⟩], 0, 0, u + 1⟩ := by
      rcases hf with rfl | rfl
      · have h := (Steps.refl hG).next hE hM rfl (low := []) (fr := ⟨0, 0, [], []⟩) rfl (by rw [e]; exact ed0) (rest := []) (top := []) rfl rfl
        unfold Mach.does at h
        rw [if_neg (by decide), if_neg (by decide), if_pos (by decide)] at h
        unfold over at h
        simp only [en, e] at h
        exact h
      · have h := (Steps.refl hG).next hE hM rfl (low := []) (fr := ⟨1, 6, [], []⟩) rfl (by rw [e]; exact ea6) (rest := []) (top := []) rfl rfl
        unfold Mach.does at h
        rw [if_neg (by decide), if_neg (by decide), if_pos (by decide)] at h
        unfold over at h
        simp only [en, e] at h
        exact h
    have h2 := h1.trans (every_one hE hM e h1.2)
    simp only [linesL]
    by_cases hc : w.out.size + r.size + 1 > 1000
    · rw [if_pos (show ({ w with nr := w.nr + 1, rcd := r, flds := cutF r } : Wd).out.size + ({ w with nr := w.nr + 1, rcd := r, flds := cutF r } : Wd).rcd.size + 1 > 1000 from hc)] at h2
      rw [if_pos hc]
      exact ⟨5, _, by simp; omega, h2, rfl, rfl, rfl⟩
    · rw [if_neg (show ¬ ({ w with nr := w.nr + 1, rcd := r, flds := cutF r } : Wd).out.size + ({ w with nr := w.nr + 1, rcd := r, flds := cutF r } : Wd).rcd.size + 1 > 1000 from hc)] at h2
      rw [if_neg hc]
      obtain ⟨n, D, h3, h4, h5⟩ := ih _ _ _ hl2 (.inr rfl) h2.2
      exact ⟨1 + 4 + n, D, by simp only [List.length_cons]; omega, h2.trans h4, h5⟩
end
end Mach
end Go.Proofs.YtmolfmgchbjnbaaGreatDoor
namespace Go.Proofs.YtmolfmgchbjnbaaGreatDoor
namespace Mach
open Wire Flow
theorem ld0 : decodeL lastM 0 (locsOf lastM 0) (codeOf lastM 0) 0 = .inr ⟨0, 1, 52, 0, 0⟩ := by kernel_rfl
theorem ld1 : decodeL lastM 1 (locsOf lastM 1) (codeOf lastM 1) 0 = .inr ⟨0, 1, 52, 0, 0⟩ := by kernel_rfl
theorem la0 : decodeL lastM 2 (locsOf lastM 2) (codeOf lastM 2) 0 = .inr ⟨0, 1, 10, 0, 0⟩ := by kernel_rfl
theorem la1 : decodeL lastM 2 (locsOf lastM 2) (codeOf lastM 2) 1 = .inr ⟨1, 2, 27, 0, 0⟩ := by kernel_rfl
theorem la2 : decodeL lastM 2 (locsOf lastM 2) (codeOf lastM 2) 2 = .inr ⟨2, 4, 44, 1, 0⟩ := by kernel_rfl
theorem la4 : decodeL lastM 2 (locsOf lastM 2) (codeOf lastM 2) 4 = .inr ⟨4, 6, 0, 0, 0⟩ := by kernel_rfl
theorem la6 : decodeL lastM 2 (locsOf lastM 2) (codeOf lastM 2) 6 = .inr ⟨6, 7, 7, 0, 0⟩ := by kernel_rfl
theorem la7 : decodeL lastM 2 (locsOf lastM 2) (codeOf lastM 2) 7 = .inr ⟨7, 8, 27, 0, 0⟩ := by kernel_rfl
theorem la8 : decodeL lastM 2 (locsOf lastM 2) (codeOf lastM 2) 8 = .inr ⟨8, 10, 44, 1, 0⟩ := by kernel_rfl
theorem la10 : decodeL lastM 2 (locsOf lastM 2) (codeOf lastM 2) 10 = .inr ⟨10, 11, 52, 0, 0⟩ := by kernel_rfl
def line (out s : ByteArray) : ByteArray := ⟨out.data ++ (bl s ++ [10]).toArray⟩
theorem line_size (out s : ByteArray) : (line out s).size = out.size + s.size + 1 := by
  show (out.data ++ (bl s ++ [10]).toArray).size = _
  have : (bl s).length = s.size := bl_length s
  simp only [Array.size_append, List.size_toArray, List.length_append, this]
  show out.data.size + (s.size + 1) = out.data.size + s.size + 1
  omega
section
variable {E : Env}
theorem print_step {n : Nat} {S : St} {w : Wd} {f at_ nx : Nat} {locs : List Val} {s : ByteArray} {c : Int} {u : Nat} (hE : SmE E) (hM : ModOk E.mo) (h : Steps E n S ⟨w, [⟨f, at_, locs, [cv (words s)]⟩], 0, c, u⟩) (hd : decodeL E.mo f (locsOf E.mo f) (codeOf E.mo f) at_ = .inr ⟨at_, nx, 44, 1, 0⟩) (hs : w.out.size + s.size + 1 ≤ 1000) :
    Steps E (n + 1) S ⟨{ w with out := line w.out s }, [⟨f, nx, locs, []⟩], 0, c, u + 1⟩ := by
  have h4 := h.next hE hM rfl (low := []) (fr := ⟨f, at_, locs, [cv (words s)]⟩) rfl hd (rest := []) (top := [cv (words s)]) rfl rfl
  have he : eff E w locs 44 1 0 [cv (words s)] = .off (printW w [s]).1 locs (printW w [s]).2 := rfl
  unfold Mach.does at h4
  rw [if_neg (show ¬ (44 : Nat) = 50 by decide), if_neg (show ¬ (44 : Nat) = 51 by decide), if_neg (show ¬ (44 : Nat) = 52 by decide)] at h4
  have hc : ¬ w.out.size + s.size + 1 > 1000 := by omega
  simp only [he, print_one, Eff.off, if_neg hc] at h4
  simpa [line] using h4
theorem last_end (hE : SmE E) (hM : ModOk E.mo) (e : E.mo = lastM) {w : Wd} {u : Nat} (ho : w.out = none0) (hn : w.nr ≤ 50) (hr : w.rcd.size ≤ 100) (hG : Good E ⟨w, [⟨2, 0, [], []⟩], 0, 0, u⟩) :
    Steps E 8 ⟨w, [⟨2, 0, [], []⟩], 0, 0, u⟩ ⟨{ w with out := line (line none0 (E.itoa (w.nr : Int))) w.rcd }, [⟨2, 10, [], []⟩], 1, 0, u + 8⟩ := by
  have hi := hE.itoa (w.nr : Int) (by omega) (by omega)
  have h1 := (Steps.refl hG).next hE hM rfl (low := []) (fr := ⟨2, 0, [], []⟩) rfl (by rw [e]; exact la0) (rest := []) (top := []) rfl rfl
  change Steps E 1 _ ⟨w, [⟨2, 1, [], [cv (whole (w.nr : Int))]⟩], 0, 0, u + 1⟩ at h1
  have h2 := h1.next hE hM rfl (low := []) (fr := ⟨2, 1, [], [cv (whole (w.nr : Int))]⟩) rfl (by rw [e]; exact la1) (rest := []) (top := [cv (whole (w.nr : Int))]) rfl rfl
  change Steps E 2 _ ⟨w, [⟨2, 2, [], [cv (words (E.itoa (w.nr : Int)))]⟩], 0, 0, u + 2⟩ at h2
  have z : none0.size = 0 := rfl
  have h3 := print_step hE hM h2 (by rw [e]; exact la2) (by rw [ho]; omega)
  rw [ho] at h3
  have h4 := h3.next hE hM rfl (low := []) (fr := ⟨2, 4, [], []⟩) rfl (by rw [e]; exact la4) (rest := []) (top := []) rfl rfl
  change Steps E 4 _ ⟨{ w with out := line none0 (E.itoa (w.nr : Int)) }, [⟨2, 6, [], [cv (whole 0)]⟩], 0, 0, u + 4⟩ at h4
  have h5 := h4.next hE hM rfl (low := []) (fr := ⟨2, 6, [], [cv (whole 0)]⟩) rfl (by rw [e]; exact la6) (rest := []) (top := [cv (whole 0)]) rfl rfl
  change Steps E 5 _ ⟨{ w with out := line none0 (E.itoa (w.nr : Int)) }, [⟨2, 7, [], [cv (readV w.rcd)]⟩], 0, 0, u + 5⟩ at h5
  have h6 := h5.next hE hM rfl (low := []) (fr := ⟨2, 7, [], [cv (readV w.rcd)]⟩) rfl (by rw [e]; exact la7) (rest := []) (top := [cv (readV w.rcd)]) rfl rfl
  change Steps E 6 _ ⟨{ w with out := line none0 (E.itoa (w.nr : Int)) }, [⟨2, 8, [], [cv (words (textV E (readV w.rcd)))]⟩], 0, 0, u + 6⟩ at h6
  rw [textV_read] at h6
  have h7 := print_step hE hM h6 (by rw [e]; exact la8) (by show (line none0 _).size + _ + 1 ≤ _; rw [line_size]; omega)
  have h8 := h7.next hE hM rfl (low := []) (fr := ⟨2, 10, [], []⟩) rfl (by rw [e]; exact la10) (rest := []) (top := []) rfl rfl
  exact h8
theorem last_rest (hE : SmE E) (hM : ModOk E.mo) (e : E.mo = lastM) : ∀ (l : List ByteArray) (w : Wd) (fr : Frm) (u : Nat), w.recs.drop w.nr = l → (fr = ⟨0, 0, [], []⟩ ∨ fr = ⟨1, 0, [], []⟩) → w.out = none0 → Good E ⟨w, [fr], 0, 0, u⟩ →
    ∃ n D, n ≤ l.length + 9 ∧ Steps E n ⟨w, [fr], 0, 0, u⟩ D ∧ D.st = 1 ∧ D.w.out = line (line none0 (E.itoa (w.recs.length : Int))) (l.getLast?.getD w.rcd) := by
  intro l
  induction l with
  | nil =>
    intro w fr u hl hf ho hG
    have h1 : Steps E 1 ⟨w, [fr], 0, 0, u⟩ ⟨w, [⟨2, 0, [], []⟩], 0, 0, u + 1⟩ := by
      have en := next_none hl
      rcases hf with rfl | rfl
      · have h := (Steps.refl hG).next hE hM rfl (low := []) (fr := ⟨0, 0, [], []⟩) rfl (by rw [e]; exact ld0) (rest := []) (top := []) rfl rfl
        unfold Mach.does at h
        rw [if_neg (by decide), if_neg (by decide), if_pos (by decide)] at h
        unfold over at h
        simp only [en, e] at h
        exact h
      · have h := (Steps.refl hG).next hE hM rfl (low := []) (fr := ⟨1, 0, [], []⟩) rfl (by rw [e]; exact ld1) (rest := []) (top := []) rfl rfl
        unfold Mach.does at h
        rw [if_neg (by decide), if_neg (by decide), if_pos (by decide)] at h
        unfold over at h
        simp only [en, e] at h
        exact h
    have hw := hG.w
    have n1 : w.nr ≤ w.recs.length := hw.nr
    have n2 : w.recs.length ≤ 50 := hw.nrec
    have n3 : w.recs.length ≤ w.nr := by rw [List.drop_eq_nil_iff] at hl; exact hl
    have h2 := h1.trans (last_end hE hM e ho (by omega) hw.rcd h1.2)
    refine ⟨1 + 8, _, by simp, h2, rfl, ?_⟩
    show line (line none0 (E.itoa (w.nr : Int))) w.rcd = _
    rw [show w.nr = w.recs.length by omega]
    rfl
  | cons r l ih =>
    intro w fr u hl hf ho hG
    obtain ⟨en, hl2⟩ := next_some hl
    have h1 : Steps E 1 ⟨w, [fr], 0, 0, u⟩ ⟨{ w with nr := w.nr + 1, rcd := r, flds := cutF r }, [⟨1, 0, [], []⟩], 0, 0, u + 1⟩ := by
      rcases hf with rfl | rfl
      · have h := (Steps.refl hG).next hE hM rfl (low := []) (fr := ⟨0, 0, [], []⟩) rfl (by rw [e]; exact ld0) (rest := []) (top := []) rfl rfl
        unfold Mach.does at h
        rw [if_neg (by decide), if_neg (by decide), if_pos (by decide)] at h
        unfold over at h
        simp only [en, e] at h
        exact h
      · have h := (Steps.refl hG).next hE hM rfl (low := []) (fr := ⟨1, 0, [], []⟩) rfl (by rw [e]; exact ld1) (rest := []) (top := []) rfl rfl
        unfold Mach.does at h
        rw [if_neg (by decide), if_neg (by decide), if_pos (by decide)] at h
        unfold over at h
        simp only [en, e] at h
        exact h
    obtain ⟨n, D, h3, h4, h5, h6⟩ := ih { w with nr := w.nr + 1, rcd := r, flds := cutF r } ⟨1, 0, [], []⟩ (u + 1) hl2 (.inr rfl) ho h1.2
    refine ⟨1 + n, D, by simp only [List.length_cons]; omega, h1.trans h4, h5, ?_⟩
    rw [h6]
    cases l with
    | nil => rfl
    | cons a l =>
      rw [List.getLast?_cons_cons]
      rfl
end
end Mach
end Go.Proofs.YtmolfmgchbjnbaaGreatDoor
