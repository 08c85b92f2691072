/-
  A module's bytes, as plain lists: what was written is read back; bytes of which one is another, or missing, or one too many, are not a module's. No program in sight.
-/
import Derived.Test.YticaoekmlaipnaaDoorM00
set_option linter.unusedSimpArgs false
set_option linter.unusedVariables false
namespace Go.Proofs.YticaoekmlaipnaaDoor
namespace Wire

theorem numberR_digs {least most base n : Nat} (r : List UInt8) (h1 : least ≤ n) (h2 : n ≤ most) (h : n < 34359738368) : numberR least most base (digs n ++ r) = .inr (n, r) := by
  unfold numberR
  rw [num_digs h]
  simp only
  rw [if_neg (by omega)]

theorem bytesR_text {most base : Nat} (s : ByteArray) (r : List UInt8) (h1 : s.size ≤ most) (h : s.size < 34359738368) : bytesR most base (textB s ++ r) = .inr (s, r) := by
  unfold bytesR textB
  rw [List.append_assoc, numberR_digs (bl s ++ r) (by omega) h1 h]
  simp only [bnd]
  have hl := bl_length s
  rw [if_neg (by rw [List.length_append]; omega)]
  rw [← hl, List.take_left' rfl, List.drop_left' rfl, mk_bl]

theorem textsR_texts {ip : ByteArray → Bool} {most base : Nat} (hm : most < 34359738368) (l : List ByteArray) (r : List UInt8) (h : ∀ s ∈ l, s.size ≤ most ∧ ip s = true) :
    textsR ip most base l.length (textsB l ++ r) = .inr (l, r) := by
  induction l with
  | nil => rfl
  | cons s t ih =>
    have hs := h s (by simp)
    rw [List.length_cons, textsR]
    have e : textsB (s :: t) ++ r = textB s ++ (textsB t ++ r) := by simp [textsB]
    rw [e, bytesR_text s _ hs.1 (by omega)]
    simp only [bnd]
    rw [if_pos hs.2, ih (fun x hx => h x (by simp [hx]))]

theorem lawful_iff {f : Fn} {i : Nat} : lawful f i = true ↔ 0 ≤ f.params ∧ f.params ≤ 8 ∧ f.params ≤ f.locs ∧ f.locs ≤ 16 ∧ f.code.size ≤ 20000 ∧ (2 < i ∨ f.params = 0) := by
  unfold lawful
  simp only [Bool.and_eq_true, Bool.or_eq_true, decide_eq_true_eq, and_assoc]

theorem fnR_fn {i base : Nat} (f : Fn) (r : List UInt8) (h : lawful f i = true) : fnR i base (fnB f ++ r) = .inr (f, r) := by
  obtain ⟨a, b, c, d, e, g⟩ := lawful_iff.1 h
  unfold fnR fnB
  have hb : f.params.toNat ≤ (if i < 3 then 0 else 8) := by
    split <;> omega
  rw [List.append_assoc, numberR_digs _ (by omega) hb (by omega)]
  simp only [bnd]
  rw [List.append_assoc, numberR_digs _ (by omega) (by omega) (by omega)]
  simp only
  rw [bytesR_text _ _ e (by omega)]
  simp only
  rw [Int.toNat_of_nonneg a, Int.toNat_of_nonneg (by omega)]

theorem fnsR_fns {base : Nat} (l : List Fn) (i : Nat) (r : List UInt8) (h : lawfulAll l i = true) : fnsR base l.length i (fnsB l ++ r) = .inr (l, r) := by
  induction l generalizing i with
  | nil => rfl
  | cons f t ih =>
    simp only [lawfulAll, Bool.and_eq_true] at h
    rw [List.length_cons, fnsR]
    have e : fnsB (f :: t) ++ r = fnB f ++ (fnsB t ++ r) := by simp [fnsB]
    rw [e, fnR_fn f _ h.1]
    simp only [bnd]
    rw [ih (i + 1) h.2]

theorem sectR_sect {α : Type} {k base : Nat} {f : Nat → List UInt8 → (Nat × Nat) ⊕ (α × List UInt8)} {c r : List UInt8} {a : α} (hk : k < 256) (hc : c.length < 34359738368) (h : f (base - r.length) c = .inr (a, [])) :
    sectR k base f (sect k c ++ r) = .inr (a, r) := by
  unfold sectR openR sect
  have e : (UInt8.ofNat k).toNat = k := by simp [UInt8.toNat_ofNat]; omega
  rw [List.cons_append]
  simp only [e, ne_eq, not_true_eq_false, if_false]
  rw [List.append_assoc, num_digs hc]
  simp only
  rw [if_neg (by rw [List.length_append]; omega)]
  simp only [bnd, List.take_left' rfl, List.drop_left' rfl, h, shutR, if_true]

theorem within_iff {ip : ByteArray → Bool} {m : Mo} : within ip m = true ↔ m.texts.length ≤ 1000 ∧ m.pats.length ≤ 1000 ∧ 3 ≤ m.fns.length ∧ m.fns.length ≤ 1000 ∧ 0 ≤ m.globs ∧ m.globs ≤ 1000 ∧ 0 ≤ m.arrs ∧ m.arrs ≤ 1000 ∧
    (∀ s ∈ m.texts, s.size ≤ 100) ∧ (∀ s ∈ m.pats, s.size ≤ 50 ∧ ip s = true) ∧ lawfulAll m.fns 0 = true := by
  unfold within
  simp only [Bool.and_eq_true, decide_eq_true_eq, List.all_eq_true, and_assoc]

theorem sect_length (k : Nat) (c : List UInt8) : (sect k c).length = 1 + (digs c.length).length + c.length := by simp [sect]; omega

theorem body_length (m : Mo) : (body m).length = 3 + (sect 1 (listing m.texts)).length + (sect 2 (listing m.pats)).length + (sect 3 (digs m.globs.toNat)).length + (sect 4 (digs m.arrs.toNat)).length + (sect 5 (fnsL m.fns)).length := by
  simp [body]; omega

theorem written_length (m : Mo) : (written m).length = (body m).length + 3 := by simp [written, sum3_length]

/-- Each content is short, where the whole is. -/
theorem contents_short {m : Mo} (h : (written m).length ≤ 40000) : (listing m.texts).length < 34359738368 ∧ (listing m.pats).length < 34359738368 ∧ (digs m.globs.toNat).length < 34359738368 ∧ (digs m.arrs.toNat).length < 34359738368 ∧ (fnsL m.fns).length < 34359738368 := by
  rw [written_length, body_length, sect_length, sect_length, sect_length, sect_length, sect_length] at h
  omega

/-- WHAT WAS WRITTEN IS READ BACK. -/
theorem unpackR_written {ip : ByteArray → Bool} {m : Mo} (h : within ip m = true) (hl : (written m).length ≤ 40000) : unpackR ip (written m) = .inr m := by
  obtain ⟨a1, a2, a3, a4, a5, a6, a7, a8, a9, a10, a11⟩ := within_iff.1 h
  obtain ⟨b1, b2, b3, b4, b5⟩ := contents_short hl
  have e : written m = 71 :: 76 :: 1 :: (sect 1 (listing m.texts) ++ (sect 2 (listing m.pats) ++ (sect 3 (digs m.globs.toNat) ++ (sect 4 (digs m.arrs.toNat) ++ (sect 5 (fnsL m.fns) ++ sum3 (body m)))))) := by
    simp [written, body]
  have hh : headR (written m) = .inr (sect 1 (listing m.texts) ++ (sect 2 (listing m.pats) ++ (sect 3 (digs m.globs.toNat) ++ (sect 4 (digs m.arrs.toNat) ++ (sect 5 (fnsL m.fns) ++ sum3 (body m)))))) := by
    rw [e]; simp [headR]
  unfold unpackR
  rw [hh]
  simp only [bnd]
  rw [sectR_sect (a := m.texts) (by omega) b1 (by
    unfold listR listing
    rw [numberR_digs _ (by omega) a1 (by omega)]
    simp only [bnd]
    have := textsR_texts (ip := fun _ => true) (most := 100) (base := (written m).length - (sect 2 (listing m.pats) ++ (sect 3 (digs m.globs.toNat) ++ (sect 4 (digs m.arrs.toNat) ++ (sect 5 (fnsL m.fns) ++ sum3 (body m))))).length) (by omega) m.texts [] (fun s hs => ⟨a9 s hs, rfl⟩)
    rw [List.append_nil] at this
    exact this)]
  simp only
  rw [sectR_sect (a := m.pats) (by omega) b2 (by
    unfold listR listing
    rw [numberR_digs _ (by omega) a2 (by omega)]
    simp only [bnd]
    have := textsR_texts (ip := ip) (most := 50) (base := (written m).length - (sect 3 (digs m.globs.toNat) ++ (sect 4 (digs m.arrs.toNat) ++ (sect 5 (fnsL m.fns) ++ sum3 (body m)))).length) (by omega) m.pats [] a10
    rw [List.append_nil] at this
    exact this)]
  simp only
  rw [sectR_sect (a := m.globs.toNat) (by omega) b3 (by
    have := numberR_digs (least := 0) (most := 1000) (base := (written m).length - (sect 4 (digs m.arrs.toNat) ++ (sect 5 (fnsL m.fns) ++ sum3 (body m))).length) (n := m.globs.toNat) [] (by omega) (by omega) (by omega)
    rw [List.append_nil] at this
    exact this)]
  simp only
  rw [sectR_sect (a := m.arrs.toNat) (by omega) b4 (by
    have := numberR_digs (least := 0) (most := 1000) (base := (written m).length - (sect 5 (fnsL m.fns) ++ sum3 (body m)).length) (n := m.arrs.toNat) [] (by omega) (by omega) (by omega)
    rw [List.append_nil] at this
    exact this)]
  simp only
  rw [sectR_sect (a := m.fns) (by omega) b5 (by
    unfold fnListR fnsL
    rw [numberR_digs _ a3 a4 (by omega)]
    simp only [bnd]
    have := fnsR_fns (base := (written m).length - (sum3 (body m)).length) m.fns 0 [] a11
    rw [List.append_nil] at this
    exact this)]
  simp only
  have ht : (written m).take ((written m).length - (sum3 (body m)).length) = body m := by
    rw [written_length, sum3_length, Nat.add_sub_cancel]
    unfold written
    rw [List.take_left' rfl]
  rw [ht, if_pos rfl, Int.toNat_of_nonneg a5, Int.toNat_of_nonneg a7]

theorem unpack_written {ip : ByteArray → Bool} {m : Mo} (h : within ip m = true) (hl : (written m).length ≤ 40000) : unpack ip (written m) = .inr m := by
  unfold unpack
  rw [if_neg (by omega)]
  exact unpackR_written h hl

theorem unpack_inr {ip : ByteArray → Bool} {l : List UInt8} {m : Mo} (h : unpack ip l = .inr m) : within ip m = true ∧ l = written m ∧ l.length ≤ 40000 := by
  unfold unpack at h
  split at h
  · cases h
  · obtain ⟨a, b⟩ := unpackR_inr h
    exact ⟨a, b, by omega⟩

/-! Spoilt bytes. -/

theorem sect_unique {k : Nat} {c d r s : List UInt8} (hc : c.length < 34359738368) (hd : d.length < 34359738368) (h : sect k c ++ r = sect k d ++ s) : c = d ∧ r = s := by
  unfold sect at h
  simp only [List.cons_append, List.append_assoc, List.cons.injEq, true_and] at h
  obtain ⟨a, b⟩ := digs_unique hc hd h
  exact List.append_inj b a

theorem written_unique {m n : Mo} {r s : List UInt8} (hm : (written m).length ≤ 40000) (hn : (written n).length ≤ 40000) (h : written m ++ r = written n ++ s) : r = s := by
  obtain ⟨a1, a2, a3, a4, a5⟩ := contents_short hm
  obtain ⟨b1, b2, b3, b4, b5⟩ := contents_short hn
  have key : body m = body n ∧ sum3 (body m) ++ r = sum3 (body n) ++ s := by
    have e : ∀ (x : Mo) (t : List UInt8), written x ++ t = 71 :: 76 :: 1 :: (sect 1 (listing x.texts) ++ (sect 2 (listing x.pats) ++ (sect 3 (digs x.globs.toNat) ++ (sect 4 (digs x.arrs.toNat) ++ (sect 5 (fnsL x.fns) ++ (sum3 (body x) ++ t)))))) := by
      intro x t; simp [written, body]
    rw [e, e] at h
    simp only [List.cons.injEq, true_and] at h
    obtain ⟨c1, h⟩ := sect_unique a1 b1 h
    obtain ⟨c2, h⟩ := sect_unique a2 b2 h
    obtain ⟨c3, h⟩ := sect_unique a3 b3 h
    obtain ⟨c4, h⟩ := sect_unique a4 b4 h
    obtain ⟨c5, h⟩ := sect_unique a5 b5 h
    refine ⟨?_, h⟩
    unfold body
    rw [c1, c2, c3, c4, c5]
  rw [key.1] at key
  exact List.append_cancel_left key.2

/-- With a byte too few. -/
theorem short_refused {ip : ByteArray → Bool} {l : List UInt8} {c : UInt8} {m : Mo} (h : unpack ip (l ++ [c]) = .inr m) : ∀ n, unpack ip l ≠ .inr n := by
  intro n hn
  obtain ⟨-, a, b⟩ := unpack_inr h
  obtain ⟨-, d, e⟩ := unpack_inr hn
  rw [a] at b
  rw [d] at e
  have := written_unique (m := n) (n := m) (r := [c]) (s := []) e b (by rw [List.append_nil, ← a, ← d])
  simp at this

/-- With a byte too many. -/
theorem more_refused {ip : ByteArray → Bool} {l : List UInt8} {c : UInt8} {m : Mo} (h : unpack ip l = .inr m) : ∀ n, unpack ip (l ++ [c]) ≠ .inr n := by
  intro n hn
  exact short_refused hn m h

theorem summed_byte {p q x y : List UInt8} {c d : UInt8} (h1 : p ++ sum3 p = x ++ c :: y) (h2 : q ++ sum3 q = x ++ d :: y) : c = d := by
  have hl : p.length = q.length := by
    have a := congrArg List.length h1
    have b := congrArg List.length h2
    simp [sum3_length] at a b
    omega
  by_cases hx : x.length < p.length
  · -- the byte lies among those that are summed
    have hp : p = x ++ c :: y.take (p.length - x.length - 1) := by
      have := congrArg (List.take p.length) h1
      rw [List.take_left' rfl, List.take_append, List.take_of_length_le (by omega)] at this
      rw [show p.length - x.length = (p.length - x.length - 1) + 1 by omega, List.take_succ_cons] at this
      exact this
    have hq : q = x ++ d :: y.take (p.length - x.length - 1) := by
      have := congrArg (List.take q.length) h2
      rw [List.take_left' rfl, List.take_append, List.take_of_length_le (by omega)] at this
      rw [← hl, show p.length - x.length = (p.length - x.length - 1) + 1 by omega, List.take_succ_cons] at this
      exact this
    have hs : sum3 p = sum3 q := by
      have a := congrArg (List.drop p.length) h1
      have b := congrArg (List.drop q.length) h2
      rw [List.drop_left' rfl, List.drop_append, List.drop_of_length_le (by omega), List.nil_append] at a b
      rw [show p.length - x.length = (p.length - x.length - 1) + 1 by omega, List.drop_succ_cons] at a
      rw [← hl, show p.length - x.length = (p.length - x.length - 1) + 1 by omega, List.drop_succ_cons] at b
      rw [a, b]
    have := sum3_inj hs
    rw [hp, hq] at this
    exact sumN_byte this
  · -- it is one of the sum's
    have hp : p = x.take p.length := by
      have := congrArg (List.take p.length) h1
      rw [List.take_left' rfl, List.take_append_of_le_length (by omega)] at this
      exact this
    have hq : q = x.take p.length := by
      have := congrArg (List.take q.length) h2
      rw [List.take_left' rfl, List.take_append_of_le_length (by omega)] at this
      rw [hl]; exact this
    have e : p = q := by rw [hq, ← hp]
    rw [← e, h1] at h2
    have := List.append_cancel_left h2
    simp only [List.cons.injEq] at this
    exact this.1

/-- With one byte that is another. -/
theorem turned_refused {ip : ByteArray → Bool} {x y : List UInt8} {c d : UInt8} {m : Mo} (h : unpack ip (x ++ c :: y) = .inr m) (hd : c ≠ d) : ∀ n, unpack ip (x ++ d :: y) ≠ .inr n := by
  intro n hn
  obtain ⟨-, a, -⟩ := unpack_inr h
  obtain ⟨-, b, -⟩ := unpack_inr hn
  exact hd (summed_byte (p := body m) (q := body n) a.symm b.symm)

end Wire
end Go.Proofs.YticaoekmlaipnaaDoor

namespace Go.Proofs.YticaoekmlaipnaaDoor
namespace Wire

/-- What the first i bytes make of a number. -/
def accN (c : List UInt8) : Nat → Nat
  | 0 => 0
  | i + 1 => accN c i + (c.getD i 0).toNat % 128 * 128 ^ i

theorem accN_lt (c : List UInt8) (i : Nat) : accN c i < 128 ^ i := by
  induction i with
  | zero => simp [accN]
  | succ i ih =>
    have h : (c.getD i 0).toNat % 128 ≤ 127 := by omega
    have h2 := Nat.mul_le_mul_right (128 ^ i) h
    simp only [accN, Nat.pow_succ]
    omega

theorem drop_at {c : List UInt8} {i : Nat} (h : i < c.length) : c.drop i = c.getD i 0 :: c.drop (i + 1) := by
  rw [List.drop_eq_getElem_cons h]
  simp [List.getD_eq_getElem?_getD, h]

theorem num_walk (c : List UInt8) (i : Nat) (hi : i ≤ 5) (hl : i ≤ c.length) (h : ∀ j, j < i → 128 ≤ (c.getD j 0).toNat) :
    num c = (numF (5 - i) (decide (i = 0)) (c.drop i)).map fun p => (accN c i + 128 ^ i * p.1, p.2) := by
  induction i with
  | zero =>
    simp only [num, accN, List.drop_zero, Nat.sub_zero, decide_true, Nat.pow_zero, Nat.one_mul, Nat.zero_add]
    cases numF 5 true c <;> rfl
  | succ i ih =>
    rw [ih (by omega) (by omega) (fun j hj => h j (by omega)), drop_at (by omega)]
    have h0 := h i (by omega)
    have hb := (c.getD i 0).toNat_lt
    rw [show 5 - i = (5 - (i + 1)) + 1 by omega]
    simp only [numF]
    rw [if_neg (by omega), Option.map_map]
    have e : (decide (i + 1 = 0)) = false := by simp
    rw [e]
    congr 1
    funext p
    simp only [Function.comp, accN, Prod.mk.injEq, and_true]
    have e2 : (c.getD i 0).toNat - 128 = (c.getD i 0).toNat % 128 := by omega
    rw [e2, Nat.mul_add, Nat.pow_succ, Nat.mul_assoc, Nat.mul_comm (128 ^ i) ((c.getD i 0).toNat % 128)]
    omega

theorem num_stop {c : List UInt8} {i : Nat} (hi : i < 5) (hl : i < c.length) (h : ∀ j, j < i → 128 ≤ (c.getD j 0).toNat) (h0 : (c.getD i 0).toNat < 128) :
    num c = if 0 < i ∧ (c.getD i 0).toNat = 0 then none else some (accN c (i + 1), c.drop (i + 1)) := by
  rw [num_walk c i (by omega) (by omega) h, drop_at hl, show 5 - i = (5 - (i + 1)) + 1 by omega]
  simp only [numF]
  rw [if_pos h0]
  have hm : (c.getD i 0).toNat % 128 = (c.getD i 0).toNat := by omega
  by_cases hz : 0 < i ∧ (c.getD i 0).toNat = 0
  · rw [if_pos hz, if_pos ⟨hz.2, by have := hz.1; simp; omega⟩]
    rfl
  · rw [if_neg hz, if_neg (by rintro ⟨a, b⟩; exact hz ⟨by simp at b; omega, a⟩)]
    simp only [Option.map_some, accN, hm, Nat.mul_comm]

theorem num_end {c : List UInt8} {i : Nat} (hi : i ≤ 5) (hl : i ≤ c.length) (h : ∀ j, j < i → 128 ≤ (c.getD j 0).toNat) (h0 : i = 5 ∨ i = c.length) : num c = none := by
  rw [num_walk c i hi hl h]
  rcases h0 with rfl | rfl
  · simp [numF]
  · rw [List.drop_length]
    cases 5 - c.length <;> simp [numF]

theorem or_shift (a x i : Nat) (h : a < 128 ^ i) : a ||| (x <<< (7 * i)) = a + x * 128 ^ i := by
  have e : (128 : Nat) ^ i = 2 ^ (7 * i) := by rw [Nat.pow_mul]
  rw [Nat.shiftLeft_eq, e, Nat.mul_comm x, Nat.or_comm, ← Nat.two_pow_add_eq_or_of_lt (by omega), Nat.add_comm]

/-- The next byte of a number. -/
theorem accN_or (c : List UInt8) (i : Nat) : accN c i ||| (((c.getD i 0).toNat &&& 127) <<< (7 * i)) = accN c (i + 1) := by
  rw [or_shift _ _ _ (accN_lt c i), show (127 : Nat) = 2 ^ 7 - 1 by rfl, Nat.and_two_pow_sub_one_eq_mod]
  rfl

/-- The sum of one byte more. -/
theorem sumFrom_take (s : Nat) (l : List UInt8) (i : Nat) (h : i < l.length) : sumFrom s (l.take (i + 1)) = sumStep (sumFrom s (l.take i)) l[i] := by
  rw [List.take_succ_eq_append_getElem h]
  unfold sumFrom
  rw [List.foldl_append]
  rfl

/-! Where a reader stands: a fault (its error, its place), or a place and an end. -/

abbrev Sta := (Nat × Nat) ⊕ (Nat × Nat)
abbrev Rd (α : Type) := Nat → List UInt8 → (Nat × Nat) ⊕ (α × List UInt8)

def seg (l : List UInt8) (a e : Nat) : List UInt8 := (l.take e).drop a

theorem seg_length {l : List UInt8} {a e : Nat} (he : e ≤ l.length) : (seg l a e).length = e - a := by
  simp [seg]; omega

theorem seg_suffix {l p r : List UInt8} {a e : Nat} (h : seg l a e = p ++ r) (ha : a ≤ e) (he : e ≤ l.length) : seg l (e - r.length) e = r ∧ e - r.length = a + p.length ∧ r.length ≤ e := by
  have h1 := congrArg List.length h
  rw [seg_length he, List.length_append] at h1
  have h2 : e - r.length = a + p.length := by omega
  refine ⟨?_, h2, by omega⟩
  rw [h2]
  have h3 : (seg l a e).drop p.length = r := by rw [h]; simp
  rw [← h3]
  simp [seg, List.drop_drop]

theorem seg_all (l : List UInt8) (a : Nat) : seg l a l.length = l.drop a := by simp [seg]

/-- What is read, and where one stands then. -/
def outR {α : Type} (op : Rd α) (l : List UInt8) (d : α) : Sta → α
  | .inl _ => d
  | .inr (a, e) => match op e (seg l a e) with
    | .inl _ => d
    | .inr (x, _) => x
def nextR {α : Type} (op : Rd α) (l : List UInt8) : Sta → Sta
  | .inl f => .inl f
  | .inr (a, e) => match op e (seg l a e) with
    | .inl f => .inl f
    | .inr (_, r) => .inr (e - r.length, e)

/-- A reader that stands somewhere in l. -/
def okSta (l : List UInt8) : Sta → Prop
  | .inl f => 0 < f.1 ∧ f.1 ≤ 100 ∧ f.2 ≤ l.length
  | .inr (a, e) => a ≤ e ∧ e ≤ l.length

theorem nextR_bad {α : Type} (op : Rd α) (l : List UInt8) (f : Nat × Nat) : nextR op l (.inl f) = .inl f := rfl
theorem outR_bad {α : Type} (op : Rd α) (l : List UInt8) (d : α) (f : Nat × Nat) : outR op l d (.inl f) = d := rfl
theorem nextR_inl {α : Type} {op : Rd α} {l : List UInt8} {a e : Nat} {f : Nat × Nat} (h : op e (seg l a e) = .inl f) : nextR op l (.inr (a, e)) = .inl f := by simp only [nextR, h]
theorem outR_inl {α : Type} {op : Rd α} {l : List UInt8} {d : α} {a e : Nat} {f : Nat × Nat} (h : op e (seg l a e) = .inl f) : outR op l d (.inr (a, e)) = d := by simp only [outR, h]
theorem nextR_inr {α : Type} {op : Rd α} {l : List UInt8} {a e : Nat} {x : α} {r : List UInt8} (h : op e (seg l a e) = .inr (x, r)) : nextR op l (.inr (a, e)) = .inr (e - r.length, e) := by simp only [nextR, h]
theorem outR_inr {α : Type} {op : Rd α} {l : List UInt8} {d : α} {a e : Nat} {x : α} {r : List UInt8} (h : op e (seg l a e) = .inr (x, r)) : outR op l d (.inr (a, e)) = x := by simp only [outR, h]

end Wire
end Go.Proofs.YticaoekmlaipnaaDoor

namespace Go.Proofs.YticaoekmlaipnaaDoor
namespace Wire

structure Tidy {α : Type} (op : Rd α) : Prop where
  bad : ∀ {base : Nat} {c : List UInt8} {f : Nat × Nat}, op base c = .inl f → 0 < f.1 ∧ f.1 ≤ 100 ∧ f.2 ≤ base
  good : ∀ {base : Nat} {c : List UInt8} {x : α} {r : List UInt8}, op base c = .inr (x, r) → ∃ p, c = p ++ r

theorem Tidy.next {α : Type} {op : Rd α} (h : Tidy op) {l : List UInt8} {s : Sta} (hs : okSta l s) : okSta l (nextR op l s) := by
  rcases s with f | ⟨a, e⟩
  · exact hs
  · obtain ⟨h1, h2⟩ := hs
    rcases hop : op e (seg l a e) with f | ⟨x, r⟩
    · rw [nextR_inl hop]
      have := h.bad hop
      exact ⟨this.1, this.2.1, by omega⟩
    · rw [nextR_inr hop]
      obtain ⟨p, hp⟩ := h.good hop
      have := seg_suffix hp h1 h2
      exact ⟨by omega, h2⟩

theorem Tidy.seg {α : Type} {op : Rd α} (h : Tidy op) {l : List UInt8} {a e : Nat} {x : α} {r : List UInt8} (h1 : a ≤ e) (h2 : e ≤ l.length) (hop : op e (Wire.seg l a e) = .inr (x, r)) :
    Wire.seg l (e - r.length) e = r ∧ a ≤ e - r.length ∧ r.length ≤ e := by
  obtain ⟨p, hp⟩ := h.good hop
  have := seg_suffix hp h1 h2
  exact ⟨this.1, by omega, this.2.2⟩

theorem bnd_inl {α β : Type} {x : (Nat × Nat) ⊕ α} {f : α → (Nat × Nat) ⊕ β} {b : Nat × Nat} (h : bnd x f = .inl b) : x = .inl b ∨ ∃ a, x = .inr a ∧ f a = .inl b := by
  cases x with
  | inl e => simp only [bnd, Sum.inl.injEq] at h; exact .inl (by rw [h])
  | inr a => exact .inr ⟨a, rfl, h⟩

theorem numberR_tidy (least most : Nat) : Tidy (numberR least most) := by
  refine ⟨fun {base c f} h => ?_, fun {base c x r} h => ⟨_, (numberR_inr h).1⟩⟩
  unfold numberR at h
  split at h
  · simp only [Sum.inl.injEq] at h; subst h; exact ⟨by simp, by simp, by simp⟩
  · split at h
    · simp only [Sum.inl.injEq] at h; subst h; exact ⟨by simp, by simp, by simp⟩
    · cases h

theorem bytesR_tidy (most : Nat) : Tidy (bytesR most) := by
  refine ⟨fun {base c f} h => ?_, fun {base c x r} h => ⟨_, (bytesR_inr h).1⟩⟩
  rcases bnd_inl h with h | ⟨⟨n, u⟩, h1, h2⟩
  · exact (numberR_tidy _ _).bad h
  · simp only at h2
    split at h2
    · simp only [Sum.inl.injEq] at h2; subst h2; exact ⟨by simp, by simp, by simp⟩
    · cases h2

theorem textsR_tidy (ip : ByteArray → Bool) (most k : Nat) : Tidy (fun base c => textsR ip most base k c) := by
  refine ⟨fun {base c f} h => ?_, fun {base c x r} h => ⟨_, (textsR_inr k h).1⟩⟩
  induction k generalizing c with
  | zero => cases h
  | succ k ih =>
    simp only [textsR] at h
    rcases bnd_inl h with h | ⟨⟨s, u⟩, h1, h2⟩
    · exact (bytesR_tidy _).bad h
    · simp only at h2
      split at h2
      · rcases bnd_inl h2 with h3 | ⟨q, h3, h4⟩
        · exact ih h3
        · cases h4
      · simp only [Sum.inl.injEq] at h2; subst h2; exact ⟨by simp, by simp, by simp only; omega⟩

theorem fnR_tidy (i : Nat) : Tidy (fnR i) := by
  refine ⟨fun {base c f} h => ?_, fun {base c x r} h => ⟨_, (fnR_inr h).1⟩⟩
  rcases bnd_inl h with h | ⟨p, h1, h⟩
  · exact (numberR_tidy _ _).bad h
  · rcases bnd_inl h with h | ⟨q, h2, h⟩
    · exact (numberR_tidy _ _).bad h
    · rcases bnd_inl h with h | ⟨s, h3, h⟩
      · exact (bytesR_tidy _).bad h
      · cases h

theorem fnsR_tidy (k i : Nat) : Tidy (fun base c => fnsR base k i c) := by
  refine ⟨fun {base c f} h => ?_, fun {base c x r} h => ⟨_, (fnsR_inr k i h).1⟩⟩
  induction k generalizing c i with
  | zero => cases h
  | succ k ih =>
    simp only [fnsR] at h
    rcases bnd_inl h with h | ⟨⟨s, u⟩, h1, h2⟩
    · exact (fnR_tidy _).bad h
    · rcases bnd_inl h2 with h3 | ⟨q, h3, h4⟩
      · exact ih _ h3
      · cases h4

theorem listR_tidy (ip : ByteArray → Bool) (most : Nat) : Tidy (listR ip most) := by
  refine ⟨fun {base c f} h => ?_, fun {base c x r} h => ?_⟩
  · rcases bnd_inl h with h | ⟨p, h1, h⟩
    · exact (numberR_tidy _ _).bad h
    · exact (textsR_tidy ip most p.1).bad h
  · obtain ⟨p, h1, h2⟩ := bnd_inr h
    obtain ⟨e1, -⟩ := numberR_inr (n := p.1) (r := p.2) h1
    obtain ⟨q, e2⟩ := (textsR_tidy ip most p.1).good h2
    exact ⟨digs p.1 ++ q, by rw [e1, e2, List.append_assoc]⟩

theorem fnListR_tidy : Tidy fnListR := by
  refine ⟨fun {base c f} h => ?_, fun {base c x r} h => ?_⟩
  · rcases bnd_inl h with h | ⟨p, h1, h⟩
    · exact (numberR_tidy _ _).bad h
    · exact (fnsR_tidy p.1 0).bad h
  · obtain ⟨p, h1, h2⟩ := bnd_inr h
    obtain ⟨e1, -⟩ := numberR_inr (n := p.1) (r := p.2) h1
    obtain ⟨q, e2⟩ := (fnsR_tidy p.1 0).good h2
    exact ⟨digs p.1 ++ q, by rw [e1, e2, List.append_assoc]⟩

theorem sectR_tidy {α : Type} (k : Nat) (hk : k < 256) {f : Rd α} (hf : Tidy f) : Tidy (fun base l => sectR k base f l) := by
  refine ⟨fun {base l g} h => ?_, fun {base c x r} h => ?_⟩
  · rcases bnd_inl h with h | ⟨p, h1, h⟩
    · unfold openR at h
      split at h
      · simp only [Sum.inl.injEq] at h; subst h; exact ⟨by simp, by simp, by simp⟩
      · split at h
        · simp only [Sum.inl.injEq] at h; subst h; exact ⟨by simp, by simp, by simp⟩
        · split at h
          · simp only [Sum.inl.injEq] at h; subst h; exact ⟨by simp, by simp, by simp⟩
          · split at h
            · simp only [Sum.inl.injEq] at h; subst h; exact ⟨by simp, by simp, by simp⟩
            · cases h
    · rcases bnd_inl h with h | ⟨q, h2, h⟩
      · have := hf.bad h
        exact ⟨this.1, this.2.1, by omega⟩
      · rcases bnd_inl h with h | ⟨a, h3, h⟩
        · unfold shutR at h
          split at h
          · cases h
          · simp only [Sum.inl.injEq] at h; subst h; exact ⟨by simp, by simp, by simp only; omega⟩
        · cases h
  · obtain ⟨c', e, -⟩ := sectR_inr hk h
    exact ⟨_, e⟩

end Wire
end Go.Proofs.YticaoekmlaipnaaDoor

