/-
  A part of a pattern's text is taken apart as it is within the whole. The document's relations in memory: at, put, none. The document's relations: same, either. The document's relations: either.
-/
import Derived.Test.YtakbfoegkjaphaaGreatDoorM22
import Derived.Test.YtakbfoegkjaphaaGreatDoorM00
import Derived.Deep.OwnRows
set_option linter.unusedSimpArgs false
set_option linter.unusedVariables false
namespace Go.Proofs.YtakbfoegkjaphaaGreatDoor

section
variable {p u x : ByteArray} {lo hi : Nat}

/-- u is what stands in p from lo to hi. -/
structure SubT (p u : ByteArray) (lo hi : Nat) : Prop where
  size : lo + u.size = hi
  le : hi ≤ p.size
  byte : ∀ i, i < u.size → byteN u i = byteN p (lo + i)

theorem sub_extract (p : ByteArray) (lo hi : Nat) (h1 : lo ≤ hi) (h2 : hi ≤ p.size) : SubT p (p.extract lo hi) lo hi := by
  have hs : (p.extract lo hi).size = hi - lo := by rw [ByteArray.size_extract]; omega
  exact ⟨by omega, h2, fun i hi' => byteN_extract p lo hi i (by omega) h2⟩

theorem units_bd : ∀ n i j, units p n i j → i ≤ j
  | 0, i, j, h => Nat.le_of_eq h
  | n + 1, i, j, h => Nat.le_of_lt h.1
theorem SubT.tUnits (h : SubT p u lo hi) : ∀ n i j, units p n (lo + i) (lo + j) → lo + j ≤ hi → units u n i j
  | 0, i, j, hu, _ => by have : lo + i = lo + j := hu; show i = j; omega
  | n + 1, i, j, hu, hj => by
    have hs := h.size
    obtain ⟨h1, h2, h3⟩ := hu
    have hb := h.byte i (by omega)
    refine ⟨by omega, by rw [hb]; exact h2, ?_⟩
    rw [hb]
    refine SubT.tUnits h n _ j ?_ hj
    by_cases c : byteN p (lo + i) = 92
    · rw [if_pos c] at h3 ⊢; rw [← Nat.add_assoc]; exact h3
    · rw [if_neg c] at h3 ⊢; rw [← Nat.add_assoc]; exact h3
theorem units_esc {n i j : Nat} (h : units p (n + 1) i j) : escI p i < j ∧ units p n (escI p i + 1) j := by
  obtain ⟨h1, h2, h3⟩ := h
  unfold escI
  by_cases c : byteN p i = 92
  · rw [if_pos c] at h3 ⊢
    have := units_bd n _ _ h3
    exact ⟨by omega, h3⟩
  · rw [if_neg c] at h3 ⊢
    exact ⟨h1, h3⟩

theorem SubT.tEsc (h : SubT p u lo hi) {i : Nat} (hi' : i < u.size) : escI p (lo + i) = lo + escI u i := by
  unfold escI
  rw [h.byte i hi']
  by_cases c : byteN p (lo + i) = 92
  · rw [if_pos c, if_pos c]; omega
  · rw [if_neg c, if_neg c]

/-- A class's text: the same bytes are in it. -/
theorem SubT.tListedL (h : SubT p u lo hi) (H c : Nat) (hH : lo + H ≤ hi) : ∀ f i b n, units p n (lo + i) (lo + H) → listedL p (lo + H) c f (lo + i) b = listedL u H c f i b
  | 0, _, _, _, _ => rfl
  | f + 1, i, b, n, hu => by
    have hs := h.size
    rw [listedL_s, listedL_s]
    by_cases c0 : i < H
    · rw [if_pos (by omega), if_pos c0]
      obtain ⟨m, rfl⟩ : ∃ m, n = m + 1 := by
        cases n with
        | zero => have : lo + i = lo + H := hu; omega
        | succ m => exact ⟨m, rfl⟩
      obtain ⟨e1, e2⟩ := units_esc hu
      have he := h.tEsc (i := i) (by omega)
      rw [he] at e1 e2 ⊢
      have b1 : byteN p (lo + escI u i) = byteN u (escI u i) := (h.byte _ (by omega)).symm
      rw [b1]
      by_cases c1 : escI u i + 1 + 1 < H ∧ byteN u (escI u i + 1) = 45
      · have b2 : byteN p (lo + escI u i + 1) = byteN u (escI u i + 1) := by rw [h.byte _ (by omega)]; rfl
        rw [if_pos c1, if_pos ⟨by omega, by rw [b2]; exact c1.2⟩]
        obtain ⟨m2, rfl⟩ : ∃ m2, m = m2 + 1 := by
          cases m with
          | zero => have : lo + escI u i + 1 = lo + H := e2; omega
          | succ m2 => exact ⟨m2, rfl⟩
        obtain ⟨e3, e4⟩ := units_esc e2
        have he2 : escI p (lo + escI u i + 1) = lo + escI u i + 1 := by
          unfold escI at b2 ⊢
          rw [if_neg]
          rw [b2]
          have := c1.2
          unfold escI at this
          omega
        rw [he2] at e4
        obtain ⟨m3, rfl⟩ : ∃ m3, m2 = m3 + 1 := by
          cases m2 with
          | zero => have : lo + escI u i + 1 + 1 = lo + H := e4; omega
          | succ m3 => exact ⟨m3, rfl⟩
        obtain ⟨e5, e6⟩ := units_esc e4
        have he3 := h.tEsc (i := escI u i + 1 + 1) (by omega)
        rw [show lo + escI u i + 1 + 1 = lo + (escI u i + 1 + 1) by omega] at e5 e6 ⊢
        rw [he3] at e5 e6 ⊢
        have b3 : byteN p (lo + escI u (escI u i + 1 + 1)) = byteN u (escI u (escI u i + 1 + 1)) := (h.byte _ (by omega)).symm
        rw [b3]
        exact SubT.tListedL h H c hH f (escI u (escI u i + 1 + 1) + 1) _ m3 e6
      · have c1' : ¬ (lo + escI u i + 1 + 1 < lo + H ∧ byteN p (lo + escI u i + 1) = 45) := by
          rintro ⟨g1, g2⟩
          refine c1 ⟨by omega, ?_⟩
          rw [h.byte _ (by omega)]; exact g2
        rw [if_neg c1, if_neg c1']
        exact SubT.tListedL h H c hH f (escI u i + 1) _ m e2
    · rw [if_neg (by omega), if_neg c0]

theorem SubT.tListedF (h : SubT p u lo hi) (l H c : Nat) (hH : lo + H ≤ hi) (hl : l ≤ H) {n : Nat} (hu : units p n (lo + l) (lo + H)) : listedF p (lo + l) (lo + H) c = listedF u l H c := by
  have hs := h.size
  unfold listedF
  rw [show lo + H - (lo + l) = H - l by omega]
  by_cases c0 : l < H ∧ byteN u l = 94
  · have c0' : lo + l < lo + H ∧ byteN p (lo + l) = 94 := ⟨by omega, by rw [← h.byte l (by omega)]; exact c0.2⟩
    rw [if_pos c0, if_pos c0']
    obtain ⟨m, rfl⟩ : ∃ m, n = m + 1 := by
      cases n with
      | zero => have : lo + l = lo + H := hu; omega
      | succ m => exact ⟨m, rfl⟩
    have e := units_esc hu
    have : escI p (lo + l) = lo + l := by unfold escI; rw [if_neg (by omega)]
    rw [this] at e
    exact congrArg (!·) (h.tListedL H c hH (H - l) (l + 1) false m e.2)
  · have c0' : ¬ (lo + l < lo + H ∧ byteN p (lo + l) = 94) := fun g => c0 ⟨by omega, by rw [h.byte l (by omega)]; exact g.2⟩
    rw [if_neg c0, if_neg c0']
    exact h.tListedL H c hH (H - l) l false n hu

theorem SubT.marks (h : SubT p u lo hi) : ∀ n j e R1 R, marksD p x n (lo + j) (lo + e) R1 R → lo + e ≤ hi → marksD u x n j e R1 R
  | 0, j, e, R1, R, hm, _ => ⟨by have := hm.1; omega, hm.2⟩
  | n + 1, j, e, R1, R, ⟨h1, h2, h3⟩, he => by
    have hs := h.size
    have hb := h.byte j (by omega)
    refine ⟨by omega, by rw [hb]; exact h2, ?_⟩
    rw [hb]
    exact SubT.marks h n (j + 1) e _ R h3 he

/-- The atoms of a part of the text. -/
def Tr (p u x : ByteArray) (lo hi n : Nat) : Prop := ∀ a e R, atomD p x n (lo + a) (lo + e) R → lo + e ≤ hi → atomD u x n a e R

theorem marksD_le : ∀ k j m R R', marksD p x k j m R R' → j ≤ m
  | 0, j, m, R, R', h => Nat.le_of_eq h.1
  | k + 1, j, m, R, R', h => Nat.le_of_lt h.1
theorem partD_lt {D : Nat → Nat → RelN → Prop} {a e : Nat} {R : RelN} (h : partD p x D a e R) : a < e := by
  obtain ⟨j, R1, n, h0, h1, h2⟩ := h
  have := marksD_le n j e R1 R h2
  omega
theorem rowD_le {D : Nat → Nat → RelN → Prop} : ∀ n a e R, rowD p x D n a e R → a ≤ e
  | 0, a, e, R, h => Nat.le_of_eq h.1
  | n + 1, a, e, R, ⟨m, R1, R2, h1, _, h3, _⟩ => by have := partD_lt h1; have := rowD_le n m e R2 h3; omega
theorem choiceD_le {D : Nat → Nat → RelN → Prop} : ∀ n a e R, choiceD p x D n a e R → a ≤ e
  | 0, a, e, R, h => h.elim
  | n + 1, a, e, R, ⟨m, R1, k, h1, h2⟩ => by
    have := rowD_le k a m R1 h1
    rcases h2 with ⟨rfl, _⟩ | ⟨h3, _⟩ <;> omega

theorem SubT.part (h : SubT p u lo hi) {n a e : Nat} {R : RelN} (ht : Tr p u x lo hi n) (hp : partD p x (atomD p x n) (lo + a) (lo + e) R) (he : lo + e ≤ hi) : partD u x (atomD u x n) a e R := by
  obtain ⟨j, R1, k, h0, h1, h2⟩ := hp
  have hj := marksD_le k j (lo + e) R1 R h2
  obtain ⟨j', rfl⟩ : ∃ j', j = lo + j' := ⟨j - lo, by omega⟩
  exact ⟨j', R1, k, by omega, ht _ _ _ h1 (by omega), h.marks k j' e R1 R h2 he⟩
theorem SubT.row (h : SubT p u lo hi) {n : Nat} (ht : Tr p u x lo hi n) : ∀ k a e R, rowD p x (atomD p x n) k (lo + a) (lo + e) R → lo + e ≤ hi → rowD u x (atomD u x n) k a e R
  | 0, a, e, R, hr, _ => ⟨by have := hr.1; omega, hr.2⟩
  | k + 1, a, e, R, ⟨mid, R1, R2, h1, h2, h3, h4⟩, he => by
    have hs := h.size
    have g1 := partD_lt h1
    have g2 := rowD_le k mid (lo + e) R2 h3
    obtain ⟨m', rfl⟩ : ∃ m', mid = lo + m' := ⟨mid - lo, by omega⟩
    refine ⟨m', R1, R2, h.part ht h1 (by omega), fun hlt => ?_, SubT.row h ht k m' e R2 h3 he, h4⟩
    rw [h.byte m' (by omega)]; exact h2 (by omega)
theorem SubT.choice (h : SubT p u lo hi) {n : Nat} (ht : Tr p u x lo hi n) : ∀ k a e R, choiceD p x (atomD p x n) k (lo + a) (lo + e) R → lo + e ≤ hi → choiceD u x (atomD u x n) k a e R
  | 0, _, _, _, hr, _ => hr.elim
  | k + 1, a, e, R, ⟨mid, R1, k', h1, h2⟩, he => by
    have hs := h.size
    have g1 := rowD_le k' (lo + a) mid R1 h1
    obtain ⟨m', rfl⟩ : ∃ m', mid = lo + m' := ⟨mid - lo, by omega⟩
    have hle : lo + m' ≤ lo + e := by rcases h2 with ⟨h2, _⟩ | ⟨h2, _⟩ <;> omega
    refine ⟨m', R1, k', h.row ht k' a m' R1 h1 (by omega), ?_⟩
    rcases h2 with ⟨h2, h3⟩ | ⟨h2, h3, R2, h4, h5⟩
    · exact .inl ⟨by omega, h3⟩
    · exact .inr ⟨by omega, by rw [h.byte m' (by omega)]; exact h3, R2, SubT.choice h ht k (m' + 1) e R2 (by rw [← Nat.add_assoc]; exact h4) he, h5⟩

theorem SubT.atom (h : SubT p u lo hi) : ∀ n, Tr p u x lo hi n
  | 0 => fun _ _ _ ha _ => ha.elim
  | n + 1 => by
    intro a e R ha he
    have hs := h.size
    rw [atomD] at ha ⊢
    obtain ⟨h1, h2, h3, h4, h5, h6⟩ := ha
    have hb := h.byte a (by omega)
    have he1 : lo + e - 1 = lo + (e - 1) := by omega
    have hb2 := h.byte (e - 1) (by omega)
    rw [he1] at h6
    refine ⟨by omega, by omega, by rw [hb]; exact h3, by rw [hb]; exact h4, by rw [hb]; exact h5, ?_⟩
    rcases h6 with ⟨g1, g2, g3, k, g4⟩ | ⟨g1, g2, g3⟩ | ⟨g1, g2, g3⟩ | ⟨g1, g2, g3, g4, g5⟩
    · exact .inl ⟨by rw [hb]; exact g1, by omega, by rw [hb2]; exact g3, k, h.choice (SubT.atom h n) k (a + 1) (e - 1) R (by rw [← Nat.add_assoc]; exact g4) (by omega)⟩
    · exact .inr (.inl ⟨by rw [hb]; exact g1, by omega, g3⟩)
    · exact .inr (.inr (.inl ⟨by rw [hb]; exact g1, by omega, g3⟩))
    · refine .inr (.inr (.inr ⟨by rw [hb]; exact g1, by rw [hb]; exact g2, by rw [hb]; exact g3, ?_, ?_⟩))
      · unfold spanD at g4 ⊢
        rw [hb]
        rcases g4 with ⟨k1, k2⟩ | ⟨k1, k2, k3, m, k4⟩ | ⟨k1, k2, k3⟩
        · exact .inl ⟨k1, by omega⟩
        · rw [he1] at k3 k4
          exact .inr (.inl ⟨k1, by omega, by rw [hb2]; exact k3, m, h.tUnits m (a + 1) (e - 1) (by rw [← Nat.add_assoc]; exact k4) (by omega)⟩)
        · exact .inr (.inr ⟨k1, k2, by omega⟩)
      · rw [g5]
        funext i j
        have : oneF p (lo + a) (lo + e) (byteN x i) = oneF u a e (byteN x i) := by
          unfold oneF
          rw [hb]
          by_cases c1 : byteN p (lo + a) = 46
          · rw [if_pos c1, if_pos c1]
          · rw [if_neg c1, if_neg c1]
            by_cases c2 : byteN p (lo + a) = 91
            · rw [if_pos c2, if_pos c2, he1]
              rcases g4 with ⟨k1, k2⟩ | ⟨k1, k2, k3, m, k4⟩ | ⟨k1, k2, k3⟩
              · omega
              · rw [he1] at k4
                exact h.tListedF (a + 1) (e - 1) _ (by omega) (by omega) (by rw [← Nat.add_assoc]; exact k4)
              · exact absurd c2 k2
            · rw [if_neg c2, if_neg c2]
              by_cases c3 : byteN p (lo + a) = 92
              · rw [if_pos c3, if_pos c3]
                rcases g4 with ⟨k1, k2⟩ | ⟨k1, k2, k3, m, k4⟩ | ⟨k1, k2, k3⟩
                · rw [h.byte (a + 1) (by omega)]; rfl
                · omega
                · exact absurd c3 k1
              · rw [if_neg c3, if_neg c3]
        rw [this]

end
end Go.Proofs.YtakbfoegkjaphaaGreatDoor

namespace Go.Proofs.YtakbfoegkjaphaaGreatDoor
open Go.RowKit

/-- A relation between the places 0 to N: its value. -/
def relV (N b : Nat) : Value := .agg #[.int .i64 N, .slice (some ⟨b, 0, none⟩) ((N + 1) * (N + 1)) ((N + 1) * (N + 1))]
/-- Its cells. -/
structure RelAt (W : World) (N b : Nat) (r : Nat → Nat → Bool) : Prop where
  c : ∀ i j, i ≤ N → j ≤ N → W.cell? ⟨b, i * (N + 1) + j, none⟩ = some (.bool (r i j))
  z : ∀ k, k < (N + 1) * (N + 1) → W.frozen? ⟨b, k, none⟩ = false

theorem RelAt.lt {W : World} {N b : Nat} {r : Nat → Nat → Bool} (h : RelAt W N b r) : b < W.heap.size := lt_of_cell (a := ⟨b, 0 * (N + 1) + 0, none⟩) (h.c 0 0 (by omega) (by omega))
theorem RelAt.fr {S : List Nat} {W W' : World} {N b : Nat} {r : Nat → Nat → Bool} (h : RelAt W N b r) (hf : Fr S W W') (hb : b ∉ S) : RelAt W' N b r :=
  ⟨fun i j hi hj => (hf.cell (p := ⟨b, i * (N + 1) + j, none⟩) h.lt hb).trans (h.c i j hi hj), fun k hk => (hf.frozen (p := ⟨b, k, none⟩) h.lt hb).trans (h.z k hk)⟩

theorem rel_idx {N i j : Nat} (hi : i ≤ N) (hj : j ≤ N) : i * (N + 1) + j < (N + 1) * (N + 1) := by
  have : i * (N + 1) ≤ N * (N + 1) := Nat.mul_le_mul_right _ hi
  have e : (N + 1) * (N + 1) = N * (N + 1) + (N + 1) := by rw [Nat.add_mul, Nat.one_mul]
  omega
theorem rel_inj {N i j i' j' : Nat} (hj : j ≤ N) (hj' : j' ≤ N) (h : i * (N + 1) + j = i' * (N + 1) + j') : i = i' ∧ j = j' := by
  have e : ∀ a b, b ≤ N → (a * (N + 1) + b) / (N + 1) = a ∧ (a * (N + 1) + b) % (N + 1) = b := fun a b hb => by
    rw [Nat.mul_comm, Nat.mul_add_div (by omega), Nat.div_eq_of_lt (by omega), Nat.mul_add_mod, Nat.mod_eq_of_lt (by omega)]
    exact ⟨rfl, rfl⟩
  have h1 := e i j hj
  have h2 := e i' j' hj'
  rw [h] at h1
  omega

set_option maxRecDepth 100000 in
set_option maxHeartbeats 1000000 in
theorem at_any (N b i j : Nat) (r : Nat → Nat → Bool) (w : World) (h : RelAt w N b r) (hN : N ≤ 100) (hi : i ≤ N) (hj : j ≤ N) :
    Calls Tryz.prog 130 #[relV N b, .int .i64 i, .int .i64 j] w fun e w' => e = .returned (.bool (r i j)) ∧ Fr [] w w' := by
  have f0 : ∀ o, Fr [] w (w.alloc o) := fun o => (Fr.refl [] w).alloc o
  have hc := fun o => (h.fr (f0 o) (by simp)).c i j hi hj
  have hk := rel_idx hi hj
  obtain ⟨k, ek⟩ : ∃ k, i * (N + 1) + j = k := ⟨_, rfl⟩
  rw [ek] at hc hk
  obtain ⟨S, eS⟩ : ∃ S, (N + 1) * (N + 1) = S := ⟨_, rfl⟩
  have hS : S ≤ 10201 := by rw [← eS]; exact Nat.mul_le_mul (show N + 1 ≤ 101 by omega) (show N + 1 ≤ 101 by omega)
  rw [eS] at hk
  have ekz : (i : Int) * ((N : Int) + 1) + j = k := by rw [← ek]; push_cast; rfl
  have p0 : 0 ≤ (i : Int) * ((N : Int) + 1) := Int.mul_nonneg (by omega) (by omega)
  have p1 : (i : Int) * ((N : Int) + 1) ≤ 10201 := by omega
  unfold relV
  rw [eS]
  clear ek eS
  generalize r i j = v at *
  go_enter Tryz.func130, Tryz.ntmps130
  go_wp2
  go_ret
  exact ⟨rfl, f0 _⟩

set_option maxRecDepth 100000 in
set_option maxHeartbeats 1000000 in
theorem put_any (N b i j : Nat) (r : Nat → Nat → Bool) (w : World) (h : RelAt w N b r) (hN : N ≤ 100) (hi : i ≤ N) (hj : j ≤ N) :
    Calls Tryz.prog 244 #[relV N b, .int .i64 i, .int .i64 j] w fun e w' => e = .returned (.tuple #[]) ∧ RelAt w' N b (fun a c => r a c || (decide (a = i) && decide (c = j))) ∧ Fr [b] w w' := by
  have f0 : ∀ o, Fr [] w (w.alloc o) := fun o => (Fr.refl [] w).alloc o
  have hc := fun o => (h.fr (f0 o) (by simp)).c i j hi hj
  have hk := rel_idx hi hj
  have hz := fun o => (h.fr (f0 o) (by simp)).z _ hk
  have hnew : ∀ o, RelAt ((w.alloc o).setCell ⟨b, i * (N + 1) + j, none⟩ (.bool true)) N b (fun a c => r a c || (decide (a = i) && decide (c = j))) := fun o => by
    have h1 := h.fr (f0 o) (by simp)
    refine ⟨fun a c ha hc' => ?_, fun k hk => (World.frozen?_setCell _ _ _ _).trans (h1.z k hk)⟩
    by_cases e : a = i ∧ c = j
    · obtain ⟨rfl, rfl⟩ := e
      rw [World.cell?_setCell_same' _ _ _ (by rw [h1.c a c ha hc']; rfl)]
      simp
    · rw [setCell_off (fun e' => e (by have := rel_inj hj hc' e'; omega)), h1.c a c ha hc']
      have : (decide (a = i) && decide (c = j)) = false := by
        rw [Bool.and_eq_false_iff, decide_eq_false_iff_not, decide_eq_false_iff_not]
        by_cases ea : a = i
        · right; exact fun ec => e ⟨ea, ec⟩
        · exact .inl ea
      rw [this, Bool.or_false]
  obtain ⟨k, ek⟩ : ∃ k, i * (N + 1) + j = k := ⟨_, rfl⟩
  rw [ek] at hc hk hz hnew
  obtain ⟨S, eS⟩ : ∃ S, (N + 1) * (N + 1) = S := ⟨_, rfl⟩
  have hS : S ≤ 10201 := by rw [← eS]; exact Nat.mul_le_mul (show N + 1 ≤ 101 by omega) (show N + 1 ≤ 101 by omega)
  rw [eS] at hk
  have ekz : (i : Int) * ((N : Int) + 1) + j = k := by rw [← ek]; push_cast; rfl
  have p0 : 0 ≤ (i : Int) * ((N : Int) + 1) := Int.mul_nonneg (by omega) (by omega)
  have p1 : (i : Int) * ((N : Int) + 1) ≤ 10201 := by omega
  unfold relV
  rw [eS]
  clear ek eS
  have Hn : Hid _ := hnew
  clear hnew
  go_enter Tryz.func244, Tryz.ntmps244
  go_wp2
  go_end0
  exact ⟨rfl, Hn.out _, ((f0 _).mono (by simp)).setCell (p := ⟨b, k, none⟩) (.inl (by simp)) _⟩

theorem info4 : (Tryz.prog.info? 4).map (fun i => (i.zero, i.size, i.bytes)) = some (some (.bool false), 1, 1) := by kernel_rfl

theorem made_cell (w : World) (n k : Nat) (hk : k < n) : (w.alloc (.cells (madeCells #[.bool false] n) 4)).cell? ⟨w.heap.size, k, none⟩ = some (.bool false) := by
  have hm := World.alloc_heap_new w (.cells (madeCells #[.bool false] n) 4)
  unfold World.cell?; rw [hm]; simp [madeCells, hk, Nat.mod_one]
theorem made_frozen (w : World) (n k : Nat) : (w.alloc (.cells (madeCells #[.bool false] n) 4)).frozen? ⟨w.heap.size, k, none⟩ = false := by
  have hm := World.alloc_heap_new w (.cells (madeCells #[.bool false] n) 4)
  unfold World.frozen?; rw [hm]; simp

set_option maxRecDepth 100000 in
set_option maxHeartbeats 1000000 in
theorem none_any (N : Nat) (w : World) (hN : N ≤ 100) :
    Calls Tryz.prog 189 #[.int .i64 N] w fun e w' => ∃ b, w.heap.size ≤ b ∧ e = .returned (relV N b) ∧ RelAt w' N b (fun _ _ => false) ∧ Fr [] w w' := by
  obtain ⟨S, eS⟩ : ∃ S, (N + 1) * (N + 1) = S := ⟨_, rfl⟩
  have hS : S ≤ 10201 := by rw [← eS]; exact Nat.mul_le_mul (show N + 1 ≤ 101 by omega) (show N + 1 ≤ 101 by omega)
  have eSz : ((N : Int) + 1) * ((N : Int) + 1) = S := by rw [← eS]; push_cast; rfl
  have hmk := fun w => run_make_row' (P := Tryz.prog) 235 4 (.bool false) 1 Tryz.underlying235 info4 rfl .i64 .i64 S (by omega) (by omega) w
  go_enter Tryz.func189, Tryz.ntmps189
  go_wp2
  have hrel : ∀ w0 : World, RelAt (w0.alloc (.cells (madeCells #[.bool false] S) 4)) N w0.heap.size (fun _ _ => false) := fun w0 =>
    ⟨fun i j hi hj => made_cell w0 S _ (by rw [← eS]; exact rel_idx hi hj), fun k hk => made_frozen w0 S k⟩
  have hr := hrel (w.alloc (.cells #[.int .i64 N, .slice (some ⟨w.heap.size + 1, 0, none⟩) S S] 237))
  rw [World.size_alloc] at hr
  refine bodyPost_ret (v := relV N (w.heap.size + 1)) (by simp [results, Tryz.results189, go_sem, relV, eS]) rfl ⟨_, by omega, rfl, hr, ?_⟩
  exact ((Fr.refl _ _).alloc _).alloc _

end Go.Proofs.YtakbfoegkjaphaaGreatDoor

namespace Go.Proofs.YtakbfoegkjaphaaGreatDoor
open Go.RowKit

/-- Two cells of a block. -/
structure Own2 (W : World) (c : Nat) (v0 v1 : Value) : Prop where
  c0 : W.cell? ⟨c, 0, none⟩ = some v0
  c1 : W.cell? ⟨c, 1, none⟩ = some v1
  z0 : W.frozen? ⟨c, 0, none⟩ = false
  z1 : W.frozen? ⟨c, 1, none⟩ = false
theorem Own2.lt {W : World} {c : Nat} {v0 v1 : Value} (h : Own2 W c v0 v1) : c < W.heap.size := lt_of_cell (a := ⟨c, 0, none⟩) h.c0
theorem Own2.fr {S : List Nat} {W W' : World} {c : Nat} {v0 v1 : Value} (h : Own2 W c v0 v1) (hf : Fr S W W') (hb : c ∉ S) : Own2 W' c v0 v1 :=
  ⟨(hf.cell (p := ⟨c, 0, none⟩) h.lt hb).trans h.c0, (hf.cell (p := ⟨c, 1, none⟩) h.lt hb).trans h.c1, (hf.frozen (p := ⟨c, 0, none⟩) h.lt hb).trans h.z0, (hf.frozen (p := ⟨c, 1, none⟩) h.lt hb).trans h.z1⟩
theorem Own2.new (W : World) (v0 v1 : Value) (t : TypeId) : Own2 (W.alloc (.cells #[v0, v1] t)) W.heap.size v0 v1 := by
  have hm := World.alloc_heap_new W (.cells #[v0, v1] t)
  refine ⟨?_, ?_, ?_, ?_⟩
  · unfold World.cell?; rw [hm]; simp
  · unfold World.cell?; rw [hm]; simp
  · unfold World.frozen?; rw [hm]; simp
  · unfold World.frozen?; rw [hm]; simp

/-- What same keeps: the relation that it makes, its own cells. -/
structure SameI (w : World) (N S b c k : Nat) (W : World) : Prop where
  rel : RelAt W N b (fun i j => decide (i = j) && decide (i < k))
  own : Own2 W c (.int .i64 N) ((.slice (some ⟨b, 0, none⟩) S S))
  res : Own2 W w.heap.size (.int .i64 0) (.slice none 0 0)
  fr : Fr [] w W
  hb : w.heap.size < b
  hc : b < c

set_option maxRecDepth 100000 in
set_option maxHeartbeats 1000000 in
theorem same_any' (N : Nat) (w : World) (hN : N ≤ 100) :
    Calls Tryz.prog 223 #[.int .i64 N] w fun e w' => ∃ b, w.heap.size ≤ b ∧ e = .returned (relV N b) ∧ RelAt w' N b (fun i j => decide (i = j)) ∧ Fr [] w w' := by
  have hn := fun W => none_any N W hN
  obtain ⟨S, eS⟩ : ∃ S, (N + 1) * (N + 1) = S := ⟨_, rfl⟩
  have Hp : Hid _ := fun (b : Nat) (r : Nat → Nat → Bool) (k : Nat) (W : World) (h : RelAt W N b r) (hk : k ≤ N) => put_any N b k k r W h hN hk hk
  have hv : ∀ b, relV N b = .agg #[.int .i64 N, .slice (some ⟨b, 0, none⟩) S S] := fun b => by unfold relV; rw [eS]
  simp only [hv] at hn Hp ⊢
  clear hv eS
  have Hn : Hid _ := hn
  clear hn
  go_enter Tryz.func223, Tryz.ntmps223
  go_wp2_with fail
  refine (Hn.out _).mono ?_
  rintro e w1 ⟨b, hb, rfl, hr, f1⟩
  clear Hn
  rw [World.size_alloc] at hb
  have r0 : Own2 w1 w.heap.size (.int .i64 0) (.slice none 0 0) := (Own2.new w _ _ 237).fr f1 (by simp)
  have hbl := hr.lt
  have J0 : SameI w N S b w1.heap.size 0 (w1.alloc (.cells #[.int .i64 N, (.slice (some ⟨b, 0, none⟩) S S)] 237)) := by
    have f2 : Fr [] w1 (w1.alloc (.cells #[.int .i64 N, (.slice (some ⟨b, 0, none⟩) S S)] 237)) := (Fr.refl [] w1).alloc _
    refine ⟨?_, Own2.new w1 _ _ 237, r0.fr f2 (by simp), ?_, by omega, hbl⟩
    · have := hr.fr f2 (by simp)
      exact ⟨fun i j hi hj => by rw [this.c i j hi hj]; simp, this.z⟩
    · exact (((Fr.refl [] w).alloc _).trans' f1 (by simp)).trans' f2 (by simp)
  go_wp2
  generalize w1.alloc (.cells #[.int .i64 N, (.slice (some ⟨b, 0, none⟩) S S)] 237) = w2 at *
  generalize w1.heap.size = c at *
  clear hr f1 r0
  go_loopw [4] (fun i wr => ∃ k : Nat, k ≤ N + 1 ∧ i = .int .i64 k ∧ SameI w N S b c k wr) (fun i _ => N + 1 - (intOf i).toNat)
  case atStart => exact ⟨0, by omega, rfl, J0⟩
  case round =>
    obtain ⟨k, hk, rfl, J⟩ := hrel
    clear J0
    have a0 := J.own.c0
    have a1 := J.own.c1
    have hbb := J.hb
    have hcc := J.hc
    by_cases hlt : k ≤ N
    · have g1 : (k : Int) ≤ N := by omega
      have hput := Hp.out b _ k wr J.rel hlt
      go_wp2_with fail
      refine hput.mono ?_
      rintro e w3 ⟨rfl, hr3, f3⟩
      have J2 : SameI w N S b c (k + 1) w3 := by
        refine ⟨⟨fun i j hi hj => ?_, hr3.z⟩, J.own.fr f3 (by simp; omega), J.res.fr f3 (by simp; omega), J.fr.trans' f3 (by simp; omega), hbb, hcc⟩
        rw [hr3.c i j hi hj]
        congr 2
        by_cases e1 : i = j
        · subst e1
          by_cases e2 : i = k
          · subst e2; simp
          · have : (i < k + 1) = (i < k) := propext (by omega)
            simp [e2, this]
        · have : (decide (i = k) && decide (j = k)) = false := by
            rw [Bool.and_eq_false_iff, decide_eq_false_iff_not, decide_eq_false_iff_not]; omega
          simp [e1, this]
      clear hput hr3 f3 J
      go_wp2
      go_roundw
      case rel => exact ⟨k + 1, by omega, by go_num, J2⟩
      case measure => simp [intOf]; omega
    · have g1 : ¬ ((k : Int) ≤ N) := by omega
      have r0 := J.res.c0
      have r1 := J.res.c1
      have q0 := J.res.z0
      have q1 := J.res.z1
      have r1' := fun v => (setCell_off (w := wr) (b := w.heap.size) (i := 0) (j := 1) (v := v) (by decide)).trans r1
      have q1' := fun v => (World.frozen?_setCell wr ⟨w.heap.size, 0, none⟩ ⟨w.heap.size, 1, none⟩ v).trans q1
      have hs0 : ∀ v : Value, ((wr.setCell ⟨w.heap.size, 0, none⟩ (.int .i64 N)).setCell ⟨w.heap.size, 1, none⟩ v).cell? ⟨w.heap.size, 0, none⟩ = some (.int .i64 N) := fun v =>
        (setCell_off (by decide)).trans (World.cell?_setCell_same' _ _ _ (by rw [r0]; rfl))
      have hs1 : ∀ v : Value, ((wr.setCell ⟨w.heap.size, 0, none⟩ (.int .i64 N)).setCell ⟨w.heap.size, 1, none⟩ v).cell? ⟨w.heap.size, 1, none⟩ = some v := fun v =>
        World.cell?_setCell_same' _ _ _ (by rw [r1']; rfl)
      go_wp2
      have ff : Fr [w.heap.size] wr ((wr.setCell ⟨w.heap.size, 0, none⟩ (.int .i64 N)).setCell ⟨w.heap.size, 1, none⟩ ((.slice (some ⟨b, 0, none⟩) S S))) :=
        ((Fr.refl _ _).setCell (p := ⟨w.heap.size, 0, none⟩) (.inl (by simp)) _).setCell (p := ⟨w.heap.size, 1, none⟩) (.inl (by simp)) _
      have hfin := J.rel.fr ff (by simp; omega)
      refine bodyPost_ret (v := .agg #[.int .i64 N, .slice (some ⟨b, 0, none⟩) S S]) (by simp [results, Tryz.results223, go_sem, hs0, hs1]) rfl ⟨b, by omega, rfl, ⟨fun i j hi hj => ?_, hfin.z⟩, J.fr.trans' ff (by simp)⟩
      rw [hfin.c i j hi hj]
      have : decide (i < k) = true := decide_eq_true (by omega)
      rw [this, Bool.and_true]

end Go.Proofs.YtakbfoegkjaphaaGreatDoor

namespace Go.Proofs.YtakbfoegkjaphaaGreatDoor
open Go.RowKit

/-- The cells one behind the other. -/
structure RelL (W : World) (S b : Nat) (f : Nat → Bool) : Prop where
  c : ∀ k, k < S → W.cell? ⟨b, k, none⟩ = some (.bool (f k))
  z : ∀ k, k < S → W.frozen? ⟨b, k, none⟩ = false
theorem RelAt.lin {W : World} {N b : Nat} {r : Nat → Nat → Bool} (h : RelAt W N b r) : RelL W ((N + 1) * (N + 1)) b (fun k => r (k / (N + 1)) (k % (N + 1))) := by
  refine ⟨fun k hk => ?_, h.z⟩
  have h1 : k / (N + 1) ≤ N := by have := Nat.div_lt_of_lt_mul hk; omega
  have h2 : k % (N + 1) ≤ N := by have := Nat.mod_lt k (show 0 < N + 1 by omega); omega
  have := h.c _ _ h1 h2
  rwa [Nat.mul_comm, Nat.div_add_mod] at this
theorem RelL.rel {W : World} {N b : Nat} {f : Nat → Bool} {r : Nat → Nat → Bool} (h : RelL W ((N + 1) * (N + 1)) b f) (hr : ∀ i j, i ≤ N → j ≤ N → f (i * (N + 1) + j) = r i j) : RelAt W N b r :=
  ⟨fun i j hi hj => by rw [h.c _ (rel_idx hi hj), hr i j hi hj], h.z⟩
theorem RelL.lt {W : World} {S b : Nat} {f : Nat → Bool} (h : RelL W S b f) (hS : 0 < S) : b < W.heap.size := lt_of_cell (a := ⟨b, 0, none⟩) (h.c 0 hS)
theorem RelL.fr {L : List Nat} {W W' : World} {S b : Nat} {f : Nat → Bool} (h : RelL W S b f) (hS : 0 < S) (hf : Fr L W W') (hb : b ∉ L) : RelL W' S b f :=
  ⟨fun k hk => (hf.cell (p := ⟨b, k, none⟩) (h.lt hS) hb).trans (h.c k hk), fun k hk => (hf.frozen (p := ⟨b, k, none⟩) (h.lt hS) hb).trans (h.z k hk)⟩
theorem RelL.set {W : World} {S b : Nat} {f : Nat → Bool} (h : RelL W S b f) (k : Nat) (hk : k < S) (v : Bool) : RelL (W.setCell ⟨b, k, none⟩ (.bool v)) S b (fun j => if j = k then v else f j) := by
  refine ⟨fun j hj => ?_, fun j hj => (World.frozen?_setCell _ _ _ _).trans (h.z j hj)⟩
  by_cases e : j = k
  · subst e
    rw [World.cell?_setCell_same' _ _ _ (by rw [h.c j hj]; rfl), if_pos rfl]
  · rw [setCell_off (Ne.symm e), h.c j hj, if_neg e]

structure EithR (w : World) (N S ba bb b c : Nat) (fa fb : Nat → Bool) (k : Nat) (W : World) : Prop where
  ra : RelL W S ba fa
  rb : RelL W S bb fb
  rr : RelL W S b (fun j => if j < k then fa j || fb j else false)
  oa : Own2 W w.heap.size (.int .i64 N) (.slice (some ⟨ba, 0, none⟩) S S)
  ob : Own2 W (w.heap.size + 1) (.int .i64 N) (.slice (some ⟨bb, 0, none⟩) S S)
  res : Own2 W (w.heap.size + 1 + 1) (.int .i64 0) (.slice none 0 0)
  own : Own2 W c (.int .i64 N) (.slice (some ⟨b, 0, none⟩) S S)
  fr : Fr [] w W
  hb : w.heap.size + 1 + 1 < b
  hc : b < c
  ha : ba < w.heap.size
  hbb : bb < w.heap.size

theorem EithR.drew {w : World} {N S ba bb b c : Nat} {fa fb : Nat → Bool} {k : Nat} {W : World} (h : EithR w N S ba bb b c fa fb k W) : EithR w N S ba bb b c fa fb k W.drew :=
  ⟨⟨h.ra.c, h.ra.z⟩, ⟨h.rb.c, h.rb.z⟩, ⟨h.rr.c, h.rr.z⟩, ⟨h.oa.c0, h.oa.c1, h.oa.z0, h.oa.z1⟩, ⟨h.ob.c0, h.ob.c1, h.ob.z0, h.ob.z1⟩, ⟨h.res.c0, h.res.c1, h.res.z0, h.res.z1⟩, ⟨h.own.c0, h.own.c1, h.own.z0, h.own.z1⟩, h.fr.drew, h.hb, h.hc, h.ha, h.hbb⟩

set_option maxRecDepth 100000 in
set_option maxHeartbeats 2000000 in
theorem eitherR_lin (N S ba bb : Nat) (fa fb : Nat → Bool) (w : World) (hN : N ≤ 100) (eS : (N + 1) * (N + 1) = S) (ha : RelL w S ba fa) (hb : RelL w S bb fb) :
    Calls Tryz.prog 191 #[.agg #[.int .i64 N, .slice (some ⟨ba, 0, none⟩) S S], .agg #[.int .i64 N, .slice (some ⟨bb, 0, none⟩) S S]] w fun e w' =>
      ∃ b, w.heap.size ≤ b ∧ e = .returned (.agg #[.int .i64 N, .slice (some ⟨b, 0, none⟩) S S]) ∧ RelL w' S b (fun k => fa k || fb k) ∧ Fr [] w w' := by
  have hS0 : 0 < S := by rw [← eS]; exact Nat.mul_pos (by omega) (by omega)
  have hS : S ≤ 10201 := by rw [← eS]; exact Nat.mul_le_mul (show N + 1 ≤ 101 by omega) (show N + 1 ≤ 101 by omega)
  have hm : Tryz.prog.follows Departure.mixedOrders = true := by kernel_rfl
  have hn : ∀ W, Calls Tryz.prog 189 #[.int .i64 N] W fun e w' => ∃ b, W.heap.size ≤ b ∧ e = .returned (.agg #[.int .i64 N, .slice (some ⟨b, 0, none⟩) S S]) ∧ RelL w' S b (fun _ => false) ∧ Fr [] W w' := fun W =>
    (none_any N W hN).mono fun e w' ⟨b, h1, h2, h3, h4⟩ => ⟨b, h1, by rw [h2]; unfold relV; rw [eS], by rw [← eS]; exact h3.lin, h4⟩
  have Hn : Hid _ := hn
  clear hn eS
  have la := ha.lt hS0
  have lb := hb.lt hS0
  go_enter Tryz.func191, Tryz.ntmps191
  go_wp2_with fail
  refine (Hn.out _).mono ?_
  rintro e w1 ⟨b, hbk, rfl, hr, f1⟩
  clear Hn
  simp only [World.size_alloc] at hbk
  have J0 : EithR w N S ba bb b w1.heap.size fa fb 0 (w1.alloc (.cells #[.int .i64 N, .slice (some ⟨b, 0, none⟩) S S] 237)) := by
    have f2 : Fr [] w1 (w1.alloc (.cells #[.int .i64 N, .slice (some ⟨b, 0, none⟩) S S] 237)) := (Fr.refl [] w1).alloc _
    have f0 : Fr [] w (((w.alloc (.cells #[.int .i64 N, .slice (some ⟨ba, 0, none⟩) S S] 237)).alloc (.cells #[.int .i64 N, .slice (some ⟨bb, 0, none⟩) S S] 237)).alloc (.cells #[.int .i64 0, .slice none 0 0] 237)) := (((Fr.refl [] w).alloc _).alloc _).alloc _
    have fw := (f0.trans f1).trans f2
    have o1 := Own2.new w (.int .i64 N) (.slice (some ⟨ba, 0, none⟩) S S) 237
    have o2 := Own2.new (w.alloc (.cells #[.int .i64 N, .slice (some ⟨ba, 0, none⟩) S S] 237)) (.int .i64 N) (.slice (some ⟨bb, 0, none⟩) S S) 237
    have o3 := Own2.new ((w.alloc (.cells #[.int .i64 N, .slice (some ⟨ba, 0, none⟩) S S] 237)).alloc (.cells #[.int .i64 N, .slice (some ⟨bb, 0, none⟩) S S] 237)) (.int .i64 0) (.slice none 0 0) 237
    simp only [World.size_alloc] at o2 o3
    have o1' := o1.fr (((Fr.refl [] _).alloc (.cells #[.int .i64 N, .slice (some ⟨bb, 0, none⟩) S S] 237)).alloc (.cells #[.int .i64 0, .slice none 0 0] 237)) (by simp)
    have o2' := o2.fr ((Fr.refl [] _).alloc (.cells #[.int .i64 0, .slice none 0 0] 237)) (by simp)
    refine ⟨ha.fr hS0 fw (by simp), hb.fr hS0 fw (by simp), ?_, (o1'.fr f1 (by simp)).fr f2 (by simp), (o2'.fr f1 (by simp)).fr f2 (by simp), (o3.fr f1 (by simp)).fr f2 (by simp), Own2.new w1 _ _ 237, fw, by omega, hr.lt hS0, la, lb⟩
    have := hr.fr hS0 f2 (by simp)
    exact ⟨fun k hk => by rw [this.c k hk, if_neg (by omega)], this.z⟩
  go_wp2
  generalize w1.alloc (.cells #[.int .i64 N, .slice (some ⟨b, 0, none⟩) S S] 237) = w2 at *
  generalize w1.heap.size = c at *
  clear hr f1 ha hb
  go_loopw [6] (fun i wr => ∃ k : Nat, k ≤ S ∧ i = .int .i64 k ∧ EithR w N S ba bb b c fa fb k wr) (fun i _ => S - (intOf i).toNat)
  case atStart => exact ⟨0, by omega, rfl, J0⟩
  case round =>
    obtain ⟨k, hk, rfl, J⟩ := hrel
    clear J0
    have a1 := J.own.c1
    have hb1 := J.hb
    have hc1 := J.hc
    by_cases hlt : k < S
    · have g1 : (k : Int) < S := by omega
      have a2 := J.oa.c1
      have a3 := J.ob.c1
      have ca := J.ra.c k hlt
      have cb := J.rb.c k hlt
      have cr := J.rr.c k hlt
      have zr := J.rr.z k hlt
      have J2 : ∀ v, v = (fa k || fb k) → EithR w N S ba bb b c fa fb (k + 1) (wr.setCell ⟨b, k, none⟩ (.bool v)) := by
        rintro v rfl
        have ff : Fr [b] wr (wr.setCell ⟨b, k, none⟩ (.bool (fa k || fb k))) := (Fr.refl [b] wr).setCell (p := ⟨b, k, none⟩) (.inl (by simp)) _
        have ha1 := J.ha
        have hbb1 := J.hbb
        have hrr := J.rr.set k hlt (fa k || fb k)
        refine ⟨J.ra.fr hS0 ff (by simp; omega), J.rb.fr hS0 ff (by simp; omega), ⟨fun j hj => ?_, hrr.z⟩, J.oa.fr ff (by simp; omega), J.ob.fr ff (by simp; omega), J.res.fr ff (by simp; omega), J.own.fr ff (by simp; omega), J.fr.trans' ff (by simp; omega), hb1, hc1, ha1, hbb1⟩
        rw [hrr.c j hj]
        congr 2
        by_cases e : j = k
        · subst e; rw [if_pos rfl, if_pos (by omega)]
        · rw [if_neg e]
          by_cases e2 : j < k
          · rw [if_pos e2, if_pos (by omega)]
          · rw [if_neg e2, if_neg (by omega)]
      cases hv : fa k
      all_goals
        rw [hv] at ca
        have Hj : Hid _ := J2
        clear J2 J
        go_wp2
        refine wp_region_tail 16 hm (by kernel_rfl) ?_
        simp only [List.take_succ_cons, List.take_zero, List.drop_succ_cons, List.drop_zero]
        repeat still_step
        refine wpStill_nil ?_
        go_wp2
      · go_roundw
        case rel => exact ⟨k + 1, by omega, by go_num, (Hj.out _ (by rw [hv]; rfl)).drew⟩
        case measure => simp [intOf]; omega
      · go_roundw
        case rel => exact ⟨k + 1, by omega, by go_num, (Hj.out _ (by rw [hv]; rfl)).drew⟩
        case measure => simp [intOf]; omega
    · have g1 : ¬ ((k : Int) < S) := by omega
      have r0 := J.res.c0
      have r1 := J.res.c1
      have q0 := J.res.z0
      have q1 := J.res.z1
      have a0 := J.own.c0
      have r1' := fun v => (setCell_off (w := wr) (b := w.heap.size + 1 + 1) (i := 0) (j := 1) (v := v) (by decide)).trans r1
      have q1' := fun v => (World.frozen?_setCell wr ⟨w.heap.size + 1 + 1, 0, none⟩ ⟨w.heap.size + 1 + 1, 1, none⟩ v).trans q1
      have hs0 : ∀ v : Value, ((wr.setCell ⟨w.heap.size + 1 + 1, 0, none⟩ (.int .i64 N)).setCell ⟨w.heap.size + 1 + 1, 1, none⟩ v).cell? ⟨w.heap.size + 1 + 1, 0, none⟩ = some (.int .i64 N) := fun v =>
        (setCell_off (by decide)).trans (World.cell?_setCell_same' _ _ _ (by rw [r0]; rfl))
      have hs1 : ∀ v : Value, ((wr.setCell ⟨w.heap.size + 1 + 1, 0, none⟩ (.int .i64 N)).setCell ⟨w.heap.size + 1 + 1, 1, none⟩ v).cell? ⟨w.heap.size + 1 + 1, 1, none⟩ = some v := fun v =>
        World.cell?_setCell_same' _ _ _ (by rw [r1']; rfl)
      go_wp2
      have ff : Fr [w.heap.size + 1 + 1] wr ((wr.setCell ⟨w.heap.size + 1 + 1, 0, none⟩ (.int .i64 N)).setCell ⟨w.heap.size + 1 + 1, 1, none⟩ (.slice (some ⟨b, 0, none⟩) S S)) :=
        ((Fr.refl _ _).setCell (p := ⟨w.heap.size + 1 + 1, 0, none⟩) (.inl (by simp)) _).setCell (p := ⟨w.heap.size + 1 + 1, 1, none⟩) (.inl (by simp)) _
      have hfin := J.rr.fr hS0 ff (by simp; omega)
      refine bodyPost_ret (v := .agg #[.int .i64 N, .slice (some ⟨b, 0, none⟩) S S]) (by simp [results, Tryz.results191, go_sem, hs0, hs1]) rfl ⟨b, by omega, rfl, ⟨fun j hj => ?_, hfin.z⟩, J.fr.trans' ff (by simp; omega)⟩
      rw [hfin.c j hj, if_pos (by omega)]

/-- One relation or the other. -/
theorem eitherR_any (N ba bb : Nat) (ra rb : Nat → Nat → Bool) (w : World) (hN : N ≤ 100) (ha : RelAt w N ba ra) (hb : RelAt w N bb rb) :
    Calls Tryz.prog 191 #[relV N ba, relV N bb] w fun e w' => ∃ b, w.heap.size ≤ b ∧ e = .returned (relV N b) ∧ RelAt w' N b (fun i j => ra i j || rb i j) ∧ Fr [] w w' := by
  refine (eitherR_lin N _ ba bb _ _ w hN rfl ha.lin hb.lin).mono fun e w' ⟨b, h1, h2, h3, h4⟩ => ⟨b, h1, h2, h3.rel fun i j hi hj => ?_, h4⟩
  have e1 : (i * (N + 1) + j) / (N + 1) = i := by rw [Nat.mul_comm, Nat.mul_add_div (by omega), Nat.div_eq_of_lt (by omega)]; rfl
  have e2 : (i * (N + 1) + j) % (N + 1) = j := by rw [Nat.mul_comm, Nat.mul_add_mod, Nat.mod_eq_of_lt (by omega)]
  rw [e1, e2]

end Go.Proofs.YtakbfoegkjaphaaGreatDoor

