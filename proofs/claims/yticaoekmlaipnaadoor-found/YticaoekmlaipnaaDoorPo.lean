/-
  The texts (p)?, (p)*, (p)+, (p)|(q) and ^(p)$ themselves, and that they are patterns if p and q are.
-/
import Derived.Test.YticaoekmlaipnaaDoorPn
set_option linter.unusedSimpArgs false
set_option linter.unusedVariables false
namespace Go.Proofs.YticaoekmlaipnaaDoor

section
variable {p q t x : ByteArray} {fr : Nat}

theorem byteAt_append (a b : ByteArray) (i : Nat) : byteAt (a ++ b) i = if i < a.size then byteAt a i else byteAt b (i - a.size) := by
  by_cases h : i < a.size
  · rw [if_pos h]; unfold byteAt; rw [dif_pos (by rw [ByteArray.size_append]; omega), dif_pos h, ByteArray.getElem_append_left h]
  · rw [if_neg h]; unfold byteAt
    by_cases h2 : i < (a ++ b).size
    · have h3 : i - a.size < b.size := by rw [ByteArray.size_append] at h2; omega
      rw [dif_pos h2, dif_pos h3, ByteArray.getElem_append_right (by omega)]
    · rw [dif_neg h2, dif_neg (by rw [ByteArray.size_append] at h2; omega)]

theorem size1 (a : UInt8) : (ByteArray.mk #[a]).size = 1 := rfl
theorem size2 (a b : UInt8) : (ByteArray.mk #[a, b]).size = 2 := rfl
theorem size3 (a b c : UInt8) : (ByteArray.mk #[a, b, c]).size = 3 := rfl

theorem grp_text (p : ByteArray) (c : UInt8) : Grp p (⟨#[40]⟩ ++ p ++ ⟨#[41, c]⟩) (c.toNat : Int) := by
  refine ⟨?_, ?_, fun i hi => ?_, ?_, ?_⟩
  · rw [ByteArray.size_append, ByteArray.size_append, size1, size2]; omega
  · rw [byteAt_append, ByteArray.size_append, size1, if_pos (by omega), byteAt_append, size1, if_pos (by omega)]; rfl
  · rw [byteAt_append, ByteArray.size_append, size1, if_pos (by omega), byteAt_append, size1, if_neg (by omega), Nat.add_sub_cancel]
  · rw [byteAt_append, ByteArray.size_append, size1, if_neg (by omega), show p.size + 1 - (1 + p.size) = 0 by omega]; rfl
  · rw [byteAt_append, ByteArray.size_append, size1, if_neg (by omega), show p.size + 2 - (1 + p.size) = 1 by omega]; rfl

theorem or_text (p q : ByteArray) : Or2 p q (⟨#[40]⟩ ++ p ++ ⟨#[41, 124, 40]⟩ ++ q ++ ⟨#[41]⟩) := by
  have z : (ByteArray.mk #[40] ++ p ++ ⟨#[41, 124, 40]⟩).size = p.size + 4 := by rw [ByteArray.size_append, ByteArray.size_append, size1, size3]; omega
  have z' : (ByteArray.mk #[40] ++ p).size = p.size + 1 := by rw [ByteArray.size_append, size1]; omega
  refine ⟨?_, ?_, fun i hi => ?_, ?_, ?_, ?_, fun i hi => ?_, ?_⟩
  · rw [ByteArray.size_append, ByteArray.size_append, z, size1]; omega
  · rw [byteAt_append, ByteArray.size_append, z, if_pos (by omega), byteAt_append, z, if_pos (by omega), byteAt_append, z', if_pos (by omega), byteAt_append, size1, if_pos (by omega)]; rfl
  · rw [byteAt_append, ByteArray.size_append, z, if_pos (by omega), byteAt_append, z, if_pos (by omega), byteAt_append, z', if_pos (by omega), byteAt_append, size1, if_neg (by omega), Nat.add_sub_cancel]
  · rw [byteAt_append, ByteArray.size_append, z, if_pos (by omega), byteAt_append, z, if_pos (by omega), byteAt_append, z', if_neg (by omega), show p.size + 1 - (p.size + 1) = 0 by omega]; rfl
  · rw [byteAt_append, ByteArray.size_append, z, if_pos (by omega), byteAt_append, z, if_pos (by omega), byteAt_append, z', if_neg (by omega), show p.size + 2 - (p.size + 1) = 1 by omega]; rfl
  · rw [byteAt_append, ByteArray.size_append, z, if_pos (by omega), byteAt_append, z, if_pos (by omega), byteAt_append, z', if_neg (by omega), show p.size + 3 - (p.size + 1) = 2 by omega]; rfl
  · rw [byteAt_append, ByteArray.size_append, z, if_pos (by omega), byteAt_append, z, if_neg (by omega), show i + (p.size + 4) - (p.size + 4) = i by omega]
  · rw [byteAt_append, ByteArray.size_append, z, if_neg (by omega), show q.size + (p.size + 4) - (p.size + 4 + q.size) = 0 by omega]; rfl

theorem anc_text (p : ByteArray) : Anc p (⟨#[94, 40]⟩ ++ p ++ ⟨#[41, 36]⟩) := by
  refine ⟨?_, ?_, ?_, fun i hi => ?_, ?_, ?_⟩
  · rw [ByteArray.size_append, ByteArray.size_append, size2, size2]; omega
  · rw [byteAt_append, ByteArray.size_append, size2, if_pos (by omega), byteAt_append, size2, if_pos (by omega)]; rfl
  · rw [byteAt_append, ByteArray.size_append, size2, if_pos (by omega), byteAt_append, size2, if_pos (by omega)]; rfl
  · rw [byteAt_append, ByteArray.size_append, size2, if_pos (by omega), byteAt_append, size2, if_neg (by omega), Nat.add_sub_cancel]
  · rw [byteAt_append, ByteArray.size_append, size2, if_neg (by omega), show p.size + 2 - (2 + p.size) = 0 by omega]; rfl
  · rw [byteAt_append, ByteArray.size_append, size2, if_neg (by omega), show p.size + 3 - (2 + p.size) = 1 by omega]; rfl

theorem opt_ok (h : Grp p t 63) (hok : readOk p = true) (hp : p.size ≤ 47) : readOk t = true := ok_at (h.opt hok hp) (ok_parts hok).1 (by rw [h.size]; exact Nat.le_refl _)
theorem star_ok (h : Grp p t 42) (hok : readOk p = true) (hp : p.size ≤ 47) : readOk t = true := ok_at (h.star hok hp) (ok_parts hok).1 (by rw [h.size]; exact Nat.le_refl _)
theorem plus_ok (h : Grp p t 43) (hok : readOk p = true) (hp : p.size ≤ 47) : readOk t = true := ok_at (h.plus hok hp) (ok_parts hok).1 (by rw [h.size]; exact Nat.le_refl _)
theorem anc_ok (h : Anc p t) (hok : readOk p = true) (hp : p.size ≤ 46) : readOk t = true := ok_at (h.read hok hp) (ok_parts hok).1 (by rw [h.size]; exact Nat.le_refl _)
theorem or_ok (h : Or2 p q t) (hok : readOk p = true) (hok2 : readOk q = true) (hp : p.size + q.size ≤ 45) : readOk t = true := ok_at (h.read hok hok2 hp) rfl (by rw [h.size]; exact Nat.le_refl _)

end
end Go.Proofs.YticaoekmlaipnaaDoor
