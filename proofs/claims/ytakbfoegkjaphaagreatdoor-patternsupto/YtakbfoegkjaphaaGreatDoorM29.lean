/-
  The document's Ends: where the match at each place ends; it is what the program's matcher tells. The document's reader of patterns: one byte more. The document's reader of patterns: one byte more, within a class or anywhere; Look. The document's Look, First and Find. The document's First and Find.
-/
import Derived.Test.YtakbfoegkjaphaaGreatDoorM28
import Derived.Test.YtakbfoegkjaphaaGreatDoorM19
import Derived.Test.YtakbfoegkjaphaaGreatDoorM16
set_option linter.unusedSimpArgs false
set_option linter.unusedVariables false
namespace Go.Proofs.YtakbfoegkjaphaaGreatDoor
open Go.RowKit

/-- The last j' below j that i goes to. -/
def farJ (r : Nat → Nat → Bool) (i : Nat) : Nat → Int
  | 0 => -1
  | j + 1 => if r i j = true then (j : Int) else farJ r i j
theorem farJ_none (r : Nat → Nat → Bool) (i : Nat) : ∀ j, (∀ k, k < j → r i k = false) → farJ r i j = -1
  | 0, _ => rfl
  | j + 1, h => by rw [farJ, if_neg (by rw [h j (by omega)]; decide), farJ_none r i j (fun k hk => h k (by omega))]
theorem farJ_some (r : Nat → Nat → Bool) (i e : Nat) : ∀ j, e < j → r i e = true → (∀ k, k < j → r i k = true → k ≤ e) → farJ r i j = e
  | 0, h, _, _ => by omega
  | j + 1, h, h1, h2 => by
    rw [farJ]
    rcases Nat.lt_or_ge e j with c | c
    · have : ¬ r i j = true := fun hj => by have := h2 j (by omega) hj; omega
      rw [if_neg this]
      exact farJ_some r i e j c h1 (fun k hk => h2 k (by omega))
    · obtain rfl : e = j := by omega
      rw [if_pos h1]
theorem farJ_le (r : Nat → Nat → Bool) (i : Nat) : ∀ j, -1 ≤ farJ r i j ∧ farJ r i j < (j : Int) ∨ farJ r i j = -1
  | 0 => .inr rfl
  | j + 1 => by
    rw [farJ]
    split
    · exact .inl ⟨by omega, by omega⟩
    · rcases farJ_le r i j with h | h
      · exact .inl ⟨h.1, by omega⟩
      · exact .inr h

/-- A list of numbers. -/
structure IntsAt (W : World) (v : Value) (n : Nat) (E : Nat → Int) : Prop where
  out : ∃ eb cap, v = .slice (some ⟨eb, 0, none⟩) n cap ∧ eb < W.heap.size ∧ ∀ k, k < n → W.cell? ⟨eb, k, none⟩ = some (.int .i64 (E k))
theorem IntsAt.fr {W W' : World} {v : Value} {n : Nat} {E : Nat → Int} (h : IntsAt W v n E) (hf : Fr [] W W') : IntsAt W' v n E := by
  obtain ⟨eb, cap, h1, h2, h3⟩ := h.out
  exact ⟨eb, cap, h1, Nat.lt_of_lt_of_le h2 hf.size, fun k hk => (hf.cell (p := ⟨eb, k, none⟩) h2 (by simp)).trans (h3 k hk)⟩

structure OwnZ (w0 : World) (L : List Int) (v : Value) (W : World) : Prop where
  own : W.ownsRow w0.heap.size 3 1 v L.length (L.map (Value.int .i64))
  fr : Fr [] w0 W
theorem OwnZ.start (w0 : World) : OwnZ w0 [] (.slice none 0 0) w0 := ⟨World.ownsRow_nil _ _ _ _, Fr.refl _ _⟩
theorem OwnZ.kept {w0 : World} {L : List Int} {v : Value} {W W' : World} (h : OwnZ w0 L v W) (hf : Fr [] W W') : OwnZ w0 L v W' :=
  ⟨h.own.kept hf.grownBy (by cases hv : v.ownBlock <;> simp), h.fr.trans hf⟩
theorem OwnZ.grown {w0 : World} {L : List Int} {v v' : Value} {W W' : World} {o : Obj} {s : Int} (h : OwnZ w0 L v W) (hown : W'.ownsRow w0.heap.size 3 1 v' (L.length + 1) (L.map (Value.int .i64) ++ [.int .i64 s])) (hg : (W.alloc o).grownBy W' v.ownBlock) : OwnZ w0 (L ++ [s]) v' W' := by
  refine ⟨by rw [List.length_append, List.map_append]; exact hown, ?_⟩
  have ha : Fr [] W (W.alloc o) := (Fr.refl [] W).alloc o
  refine ⟨hg.os.trans (ha.os.trans h.fr.os), hg.tape.trans (ha.tape.trans h.fr.tape), hg.output.trans (ha.output.trans h.fr.output), Nat.le_trans h.fr.size (Nat.le_trans ha.size hg.size), fun k hk _ => ?_⟩
  have h1 := h.fr.size
  have h2 := ha.size
  rw [hg.block k (by omega) (fun e => by have := (h.own.lt k e.symm).1; omega), ha.block k (by omega) (by simp), h.fr.block k hk (by simp)]
theorem OwnZ.ints {w0 : World} {L : List Int} {v : Value} {W : World} {E : Nat → Int} {n : Nat} (h : OwnZ w0 L v W) (hn : 0 < n) (hL : L = (List.range n).map E) : IntsAt W v n E := by
  have hl : L.length = n := by rw [hL]; simp
  rcases h.own.2 with ⟨hv, h0⟩ | ⟨g, cap, cur, hv, hb, hg, hn', _⟩
  · omega
  · refine ⟨g, cap, by rw [hv, hl], (Array.getElem?_eq_some_iff.1 hg).1, fun k hk => ?_⟩
    have := h.own.cells (g := g) (by rw [hv]; rfl) k (.int .i64 (E k)) (by rw [hL]; simp [hk])
    rcases k with _ | k
    · simpa [Addr.add] using this
    · simpa [Addr.add] using this

theorem info3z : (Tryz.prog.info? 3).map (fun i => (i.zero, i.size, i.bytes)) = some (some (.int .i64 0), 1, 8) := by kernel_rfl

/-- What the relation of a pattern tells is what the program's ends tell. -/
theorem far_read {t x : ByteArray} (ht : t.size ≤ 50) {r : Nat → Nat → Bool} (hr : ∀ i j, i ≤ x.size → j ≤ x.size → (r i j = true ↔ MatR (readF t).1 (readF t).2.tk (readF t).2.fo x i j)) (i : Nat) (hi : i ≤ x.size) : farJ r i (x.size + 1) = Ef t x i := by
  rcases read_far ht x i hi with ⟨h1, h2⟩ | ⟨e, h1, h2, h3, h4, h5⟩
  · rw [h1]
    refine farJ_none r i _ (fun k hk => ?_)
    rw [Bool.eq_false_iff]
    intro hk2
    exact h2 k ((hr i k hi (by omega)).1 hk2).2
  · rw [h1]
    exact farJ_some r i e _ (by omega) ((hr i e hi h3).2 ⟨hi, h4⟩) (fun k hk hk2 => h5 k ((hr i k hi (by omega)).1 hk2).2)

set_option maxRecDepth 100000 in
set_option maxHeartbeats 4000000 in
theorem endsR_any (t x : ByteArray) (w : World) (ht : t.size ≤ 50) (hx : x.size ≤ 100) (hok : readOk t = true) :
    Calls Tryz.prog 97 #[.string t, .string x] w fun e w' => ∃ v, e = .returned v ∧ IntsAt w' v (x.size + 1) (Ef t x) ∧ Fr [] w w' := by
  obtain ⟨n, kk, hch⟩ := read_means t x ht hok
  obtain ⟨i0, hi, hz0, hz1, hz2⟩ := info_parts info3z
  obtain ⟨S, eS⟩ : ∃ S, (x.size + 1) * (x.size + 1) = S := ⟨_, rfl⟩
  have hcc := givesS eS ((choice_all n).1 t x kk _ w ht hx hch)
  have hbd := bd_choice (bd_atom (t := t) (x := x) n) kk 0 t.size _ hch
  have hfr := fun (r : Nat → Nat → Bool) hr (i : Nat) hi => far_read (t := t) (x := x) ht (r := r) hr i hi
  have hat : ∀ (b i j : Nat) (r : Nat → Nat → Bool) (W : World), RelAt W x.size b r → i ≤ x.size → j ≤ x.size →
      Calls Tryz.prog 130 #[.agg #[.int .i64 x.size, .slice (some ⟨b, 0, none⟩) S S], .int .i64 i, .int .i64 j] W fun e w' => e = .returned (.bool (r i j)) ∧ Fr [] W w' := fun b i j r W h hi hj => by
    have := at_any x.size b i j r W h hx hi hj
    unfold relV at this
    rwa [eS] at this
  generalize MatR (readF t).1 (readF t).2.tk (readF t).2.fo x = R at *
  generalize Ef t x = E at *
  have Hat : Hid _ := hat
  have Hfr : Hid _ := hfr
  clear hat hfr hch eS hok
  go_enter Tryz.func97, Tryz.ntmps97
  go_wp2_with fail
  refine hcc.mono ?_
  rintro e w1 ⟨b, hb, rfl, ⟨r, hr, hrR⟩, f1⟩
  clear hcc
  have HE := Hfr.out r hrR
  have hlow : ∀ i j, i ≤ x.size → j < i → r i j = false := fun i j hi hj => by
    rw [Bool.eq_false_iff]
    intro h
    have := hbd i j ((hrR i j hi (by omega)).1 h)
    omega
  have HE2 : Hid _ := HE
  have Hlow : Hid _ := hlow
  clear HE Hfr hrR hbd hlow
  have f2 : Fr [] w1 (w1.alloc (.cells #[.int .i64 x.size, .slice (some ⟨b, 0, none⟩) S S] 237)) := (Fr.refl [] w1).alloc _
  have o1 := Own2.new w1 (.int .i64 x.size) (.slice (some ⟨b, 0, none⟩) S S) 237
  have hr2 := hr.fr f2 (by simp)
  have f3 := f1.trans f2
  generalize hw2 : w1.alloc (.cells #[.int .i64 x.size, .slice (some ⟨b, 0, none⟩) S S] 237) = w2 at *
  generalize hc : w1.heap.size = c at *
  have J0 := OwnZ.start w2
  go_wp2
  clear hw2 hc hr f1 f2
  have ol := o1.lt
  have bl := hr2.lt
  go_loopw [6, 7] (fun u v wr => ∃ k : Nat, k ≤ x.size + 1 ∧ v = .int .i64 k ∧ OwnZ w2 ((List.range k).map E) u wr) (fun _ v _ => x.size + 1 - (intOf v).toNat)
  case atStart => exact ⟨0, by omega, rfl, J0⟩
  case round =>
    clear J0
    obtain ⟨k, hk, rfl, J⟩ := hrel
    by_cases hlt : k ≤ x.size
    · have g1 : (k : Int) ≤ x.size := by omega
      go_wp2
      go_loopw [8, 9] (fun fv jv wx => ∃ j : Nat, k ≤ j ∧ j ≤ x.size + 1 ∧ fv = .int .i64 (farJ r k j) ∧ jv = .int .i64 j ∧ Fr [] wr wx) (fun _ jv _ => x.size + 1 - (intOf jv).toNat)
      case atStart => exact ⟨k, by omega, by omega, by rw [farJ_none r k k (fun i hi => Hlow.out k i hlt hi)], rfl, Fr.refl [] _⟩
      case round =>
        obtain ⟨j, hj1, hj2, rfl, rfl, hf⟩ := hrel
        have J5 := J.kept hf
        have p1 := o1.fr J5.fr (by simp)
        have a0 := p1.c0
        have a1 := p1.c1
        by_cases hlt2 : j ≤ x.size
        · have g2 : (j : Int) ≤ x.size := by omega
          have hat := Hat.out b k j r _ (hr2.fr J5.fr (by simp)) hlt hlt2
          clear J5 p1
          go_wp2_with fail
          refine hat.mono ?_
          rintro e w5 ⟨rfl, f5⟩
          have f6 := hf.trans f5
          clear hat f5 a0 a1 hf
          cases hv : r k j with
          | false =>
            have hfj : farJ r k (j + 1) = farJ r k j := by rw [farJ, if_neg (by rw [hv]; decide)]
            go_wp2
            go_roundw
            case rel => exact ⟨j + 1, by omega, by omega, by rw [hfj], by go_num, f6⟩
            case measure => simp [intOf]; omega
          | true =>
            have hfj : farJ r k (j + 1) = (j : Int) := by rw [farJ, if_pos hv]
            go_wp2
            go_roundw
            case rel => exact ⟨j + 1, by omega, by omega, by rw [hfj], by go_num, f6⟩
            case measure => simp [intOf]; omega
        · have g2 : ¬ ((j : Int) ≤ x.size) := by omega
          obtain rfl : j = x.size + 1 := by omega
          have hEk := HE2.out k hlt
          rw [hEk]
          obtain ⟨L, hLk, hLl⟩ : ∃ L, (List.range k).map E = L ∧ L.length ≤ x.size := ⟨_, rfl, by simp; omega⟩
          rw [hLk] at J5
          have HL : Hid (L ++ [E k] = (List.range (k + 1)).map E) := by rw [← hLk, List.range_succ, List.map_append]; rfl
          have hown := J5.own
          have hs5 := J5.fr.size
          clear hf a0 a1 p1 hEk hLk
          go_wp2_with (at_builtin; refine wpList_append_own _ rfl _ _ 28 rfl w2.heap.size 3 i0 (.int .i64 0) 1 8 Tryz.underlying28 hi hz0 hz1 hz2 rfl (by decide) _ _ _ rfl (hown.alloc _) ⟨wr.heap.size, 0, none⟩ 1 1 [.int .i64 (E k)] rfl rfl ?c1 ?c2 ?c3 ?c4 ?c5 ?_)
          case c2 => rfl
          case c3 => unfold maxLen; omega
          case c4 => omega
          case c5 => omega
          intro v' w6 hown' hgrow _
          have J6 := J5.grown hown' hgrow
          rw [HL.out] at J6
          clear J J5 hown hown' hgrow
          go_wp2
          go_roundw
          case rel => exact ⟨k + 1, by omega, by go_num, J6⟩
          case measure => simp [intOf]; omega
    · have g1 : ¬ ((k : Int) ≤ x.size) := by omega
      obtain rfl : k = x.size + 1 := by omega
      have hI := J.ints (by omega) rfl
      go_wp2
      go_ret
      exact ⟨_, rfl, hI, f3.trans J.fr⟩

end Go.Proofs.YtakbfoegkjaphaaGreatDoor

namespace Go.Proofs.YtakbfoegkjaphaaGreatDoor
open Go.RowKit

/-- A reader's three cells. -/
structure MindC (W : World) (mb st op fr : Nat) : Prop where
  c0 : W.cell? ⟨mb, 0, none⟩ = some (.int .i64 st)
  c1 : W.cell? ⟨mb, 1, none⟩ = some (.int .i64 op)
  c2 : W.cell? ⟨mb, 2, none⟩ = some (.int .u8 fr)
  z0 : W.frozen? ⟨mb, 0, none⟩ = false
  z1 : W.frozen? ⟨mb, 1, none⟩ = false
  z2 : W.frozen? ⟨mb, 2, none⟩ = false
theorem MindC.fr' {W W' : World} {mb st op fr : Nat} (h : MindC W mb st op fr) (hf : Fr [] W W') : MindC W' mb st op fr := by
  have hl : mb < W.heap.size := lt_of_cell (a := ⟨mb, 0, none⟩) h.c0
  exact ⟨(hf.cell (p := ⟨mb, 0, none⟩) hl (by simp)).trans h.c0, (hf.cell (p := ⟨mb, 1, none⟩) hl (by simp)).trans h.c1, (hf.cell (p := ⟨mb, 2, none⟩) hl (by simp)).trans h.c2,
    (hf.frozen (p := ⟨mb, 0, none⟩) hl (by simp)).trans h.z0, (hf.frozen (p := ⟨mb, 1, none⟩) hl (by simp)).trans h.z1, (hf.frozen (p := ⟨mb, 2, none⟩) hl (by simp)).trans h.z2⟩
theorem MindC.set0 {W : World} {mb st op fr : Nat} (h : MindC W mb st op fr) (s : Nat) : MindC (W.setCell ⟨mb, 0, none⟩ (.int .i64 s)) mb s op fr :=
  ⟨World.cell?_setCell_same' _ _ _ (by rw [h.c0]; rfl), (setCell_off (by decide)).trans h.c1, (setCell_off (by decide)).trans h.c2, (World.frozen?_setCell _ _ _ _).trans h.z0, (World.frozen?_setCell _ _ _ _).trans h.z1, (World.frozen?_setCell _ _ _ _).trans h.z2⟩
theorem MindC.set1 {W : World} {mb st op fr : Nat} (h : MindC W mb st op fr) (s : Nat) : MindC (W.setCell ⟨mb, 1, none⟩ (.int .i64 s)) mb st s fr :=
  ⟨(setCell_off (by decide)).trans h.c0, World.cell?_setCell_same' _ _ _ (by rw [h.c1]; rfl), (setCell_off (by decide)).trans h.c2, (World.frozen?_setCell _ _ _ _).trans h.z0, (World.frozen?_setCell _ _ _ _).trans h.z1, (World.frozen?_setCell _ _ _ _).trans h.z2⟩
theorem MindC.set2 {W : World} {mb st op fr : Nat} (h : MindC W mb st op fr) (s : Nat) : MindC (W.setCell ⟨mb, 2, none⟩ (.int .u8 s)) mb st op s :=
  ⟨(setCell_off (by decide)).trans h.c0, (setCell_off (by decide)).trans h.c1, World.cell?_setCell_same' _ _ _ (by rw [h.c2]; rfl), (World.frozen?_setCell _ _ _ _).trans h.z0, (World.frozen?_setCell _ _ _ _).trans h.z1, (World.frozen?_setCell _ _ _ _).trans h.z2⟩

/-- What next answers, and what it leaves. -/
def NextP (mb st : Nat) (nx : Option Mind) (w : World) (e : Ending) (w' : World) : Prop :=
  Fr [mb] w w' ∧ match nx with
    | none => e = .returned (.int .i64 (-1))
    | some m => e = .returned (.int .i64 m.st) ∧ MindC w' mb st m.op m.fr
theorem NextP.no {mb st : Nat} {w w' : World} {e : Ending} (h1 : Fr [mb] w w') (h2 : e = .returned (.int .i64 (-1))) : NextP mb st none w e w' := ⟨h1, h2⟩
theorem NextP.yes {mb st : Nat} {m : Mind} {w w' : World} {e : Ending} (h1 : Fr [mb] w w') (h2 : e = .returned (.int .i64 m.st)) (h3 : MindC w' mb st m.op m.fr) : NextP mb st (some m) w e w' := ⟨h1, h2, h3⟩

set_option maxRecDepth 100000 in
set_option maxHeartbeats 2000000 in
theorem outside_any (mb c : Nat) (m : Mind) (w : World) (hc : c < 256) (hop : m.op ≤ 1000) (hM : MindC w mb m.st m.op m.fr) :
    Calls Tryz.prog 94 #[.pointer (some ⟨mb, 0, none⟩), .int .u8 c] w (NextP mb m.st (outM m c) w) := by
  have c0 := hM.c0
  have c1 := hM.c1
  have z1 := hM.z1
  unfold outM
  by_cases h40 : c = 40
  · subst h40
    rw [if_pos rfl]
    have k := hM.set1 (m.op + 1)
    rw [show ((m.op + 1 : Nat) : Int) = (m.op : Int) + 1 by omega] at k
    go_enter Tryz.func94, Tryz.ntmps94
    go_wp2
    go_ret
    exact NextP.yes ((Fr.refl _ _).setCell (p := ⟨mb, 1, none⟩) (.inl (by simp)) _) rfl k
  · rw [if_neg h40]
    have n40 : ((c : Int) == 40) = false := by simp; omega
    by_cases h41 : c = 41
    · subst h41
      rw [if_pos rfl]
      by_cases h0 : m.op = 0
      · rw [if_pos h0]
        have h0z : ((m.op : Int) == 0) = true := by simp; omega
        clear h0
        go_enter Tryz.func94, Tryz.ntmps94
        go_wp2
        go_ret
        exact NextP.no (Fr.refl _ _) rfl
      · rw [if_neg h0]
        have h0z : ((m.op : Int) == 0) = false := by simp; omega
        have k := hM.set1 (m.op - 1)
        rw [show ((m.op - 1 : Nat) : Int) = (m.op : Int) - 1 by omega] at k
        go_enter Tryz.func94, Tryz.ntmps94
        go_wp2
        go_ret
        exact NextP.yes ((Fr.refl _ _).setCell (p := ⟨mb, 1, none⟩) (.inl (by simp)) _) rfl k
    · rw [if_neg h41]
      have n41 : ((c : Int) == 41) = false := by simp; omega
      by_cases h124 : c = 124
      · subst h124
        rw [if_pos rfl]
        go_enter Tryz.func94, Tryz.ntmps94
        go_wp2
        go_ret
        exact NextP.yes (Fr.refl _ _) rfl hM
      · rw [if_neg h124]
        have n124 : ((c : Int) == 124) = false := by simp; omega
        by_cases hmk : c = 42 ∨ c = 43 ∨ c = 63
        · rw [if_pos hmk]
          by_cases h0 : m.st = 0
          · rw [if_pos h0]
            have h0z : ((m.st : Int) == 0) = true := by simp; omega
            clear h0 h40 h41 h124
            rcases hmk with rfl | rfl | rfl
            all_goals
              go_enter Tryz.func94, Tryz.ntmps94
              go_wp2
              go_ret
              exact NextP.no (Fr.refl _ _) rfl
          · rw [if_neg h0]
            have h0z : ((m.st : Int) == 0) = false := by simp; omega
            clear h40 h41 h124
            rcases hmk with rfl | rfl | rfl
            all_goals
              go_enter Tryz.func94, Tryz.ntmps94
              go_wp2
              go_ret
              exact NextP.yes (Fr.refl _ _) rfl hM
        · rw [if_neg hmk]
          have n42 : ((c : Int) == 42) = false := by simp; omega
          have n43 : ((c : Int) == 43) = false := by simp; omega
          have n63 : ((c : Int) == 63) = false := by simp; omega
          by_cases h91 : c = 91
          · subst h91
            rw [if_pos rfl]
            go_enter Tryz.func94, Tryz.ntmps94
            go_wp2
            go_ret
            exact NextP.yes (Fr.refl _ _) rfl hM
          · rw [if_neg h91]
            have n91 : ((c : Int) == 91) = false := by simp; omega
            by_cases h92 : c = 92
            · subst h92
              rw [if_pos rfl]
              go_enter Tryz.func94, Tryz.ntmps94
              go_wp2
              go_ret
              exact NextP.yes (Fr.refl _ _) rfl hM
            · rw [if_neg h92]
              have n92 : ((c : Int) == 92) = false := by simp; omega
              clear h40 h41 h124 hmk h91 h92
              go_enter Tryz.func94, Tryz.ntmps94
              go_wp2
              go_ret
              exact NextP.yes (Fr.refl _ _) rfl hM

end Go.Proofs.YtakbfoegkjaphaaGreatDoor

namespace Go.Proofs.YtakbfoegkjaphaaGreatDoor
open Go.RowKit

set_option maxRecDepth 100000 in
set_option maxHeartbeats 2000000 in
theorem inside_any (mb c : Nat) (m : Mind) (w : World) (hc : c < 256) (hM : MindC w mb m.st m.op m.fr) :
    Calls Tryz.prog 95 #[.pointer (some ⟨mb, 0, none⟩), .int .u8 c] w (NextP mb m.st (inM m c) w) := by
  have c0 := hM.c0
  have c2 := hM.c2
  have z2 := hM.z2
  unfold inM
  by_cases h93 : c = 93
  · subst h93
    by_cases h3 : m.st = 3
    · rw [if_pos ⟨rfl, .inl h3⟩]
      have e3 : ((m.st : Int) == 3) = true := by simp; omega
      clear h3
      go_enter Tryz.func95, Tryz.ntmps95
      go_wp2
      go_ret
      exact NextP.no (Fr.refl _ _) rfl
    · have e3 : ((m.st : Int) == 3) = false := by simp; omega
      by_cases h4 : m.st = 4
      · rw [if_pos ⟨rfl, .inr h4⟩]
        have e4 : ((m.st : Int) == 4) = true := by simp; omega
        clear h3 h4
        go_enter Tryz.func95, Tryz.ntmps95
        go_wp2
        go_ret
        exact NextP.no (Fr.refl _ _) rfl
      · have e4 : ((m.st : Int) == 4) = false := by simp; omega
        rw [if_neg (fun h => h.2.elim h3 h4), if_pos rfl]
        clear h3 h4
        go_enter Tryz.func95, Tryz.ntmps95
        go_wp2
        go_ret
        exact NextP.yes (Fr.refl _ _) rfl hM
  · rw [if_neg (fun h => h93 h.1), if_neg h93]
    have n93 : ((c : Int) == 93) = false := by simp; omega
    by_cases h94 : c = 94 ∧ m.st = 3
    · obtain ⟨rfl, h3⟩ := h94
      rw [if_pos ⟨rfl, h3⟩]
      have e3 : ((m.st : Int) == 3) = true := by simp; omega
      clear h3 h93
      go_enter Tryz.func95, Tryz.ntmps95
      go_wp2
      go_ret
      exact NextP.yes (Fr.refl _ _) rfl hM
    · rw [if_neg h94]
      by_cases h92 : c = 92
      · subst h92
        rw [if_pos rfl]
        clear h93 h94
        go_enter Tryz.func95, Tryz.ntmps95
        go_wp2
        go_ret
        exact NextP.yes (Fr.refl _ _) rfl hM
      · rw [if_neg h92]
        have n92 : ((c : Int) == 92) = false := by simp; omega
        have k := hM.set2 c
        have fk : Fr [mb] w (w.setCell ⟨mb, 2, none⟩ (.int .u8 c)) := (Fr.refl _ _).setCell (p := ⟨mb, 2, none⟩) (.inl (by simp)) _
        by_cases c94 : c = 94
        · subst c94
          have e3 : ((m.st : Int) == 3) = false := by simp; omega
          rw [if_neg (by omega)]
          clear h93 h94 h92
          go_enter Tryz.func95, Tryz.ntmps95
          go_wp2
          go_ret
          exact NextP.yes fk rfl k
        · have n94 : ((c : Int) == 94) = false := by simp; omega
          by_cases c45 : c = 45
          · subst c45
            by_cases h7 : m.st = 7
            · rw [if_pos ⟨rfl, h7⟩]
              have e7 : ((m.st : Int) == 7) = true := by simp; omega
              clear h93 h94 h92 c94 h7 k fk
              go_enter Tryz.func95, Tryz.ntmps95
              go_wp2
              go_ret
              exact NextP.yes (Fr.refl _ _) rfl hM
            · rw [if_neg (fun h => h7 h.2)]
              have e7 : ((m.st : Int) == 7) = false := by simp; omega
              clear h93 h94 h92 c94 h7
              go_enter Tryz.func95, Tryz.ntmps95
              go_wp2
              go_ret
              exact NextP.yes fk rfl k
          · rw [if_neg (fun h => c45 h.1)]
            have n45 : ((c : Int) == 45) = false := by simp; omega
            clear h93 h94 h92 c94 c45
            go_enter Tryz.func95, Tryz.ntmps95
            go_wp2
            go_ret
            exact NextP.yes fk rfl k

set_option maxRecDepth 100000 in
set_option maxHeartbeats 2000000 in
theorem next_any (mb c : Nat) (m : Mind) (w : World) (hc : c < 256) (hop : m.op ≤ 1000) (hM : MindC w mb m.st m.op m.fr) :
    Calls Tryz.prog 62 #[.pointer (some ⟨mb, 0, none⟩), .int .u8 c] w (NextP mb m.st (nextM m c) w) := by
  have ho := outside_any mb c m w hc hop hM
  have hi := inside_any mb c m w hc hM
  have c0 := hM.c0
  have c2 := hM.c2
  have z2 := hM.z2
  unfold nextM
  have E : ∀ k : Nat, ((m.st : Int) == (k : Int)) = decide (m.st = k) := fun k => by
    rw [Bool.eq_iff_iff]; simp; omega
  have e0 := E 0
  have e1 := E 1
  have e2 := E 2
  have e6 := E 6
  have e8 := E 8
  have e9 := E 9
  clear E
  by_cases h01 : m.st = 0 ∨ m.st = 1
  · rw [if_pos h01]
    generalize outM m c = nx at *
    rcases h01 with h | h
    · rw [decide_eq_true h] at e0
      clear e1 e2 e6 e8 e9 h hi
      go_enter Tryz.func62, Tryz.ntmps62
      go_wp2_with fail
      refine ho.mono ?_
      rintro e w1 ⟨f1, h1⟩
      cases nx with
      | none => subst h1; go_wp2; go_ret; exact NextP.no f1 rfl
      | some m' => obtain ⟨h1, h2⟩ := h1; subst h1; go_wp2; go_ret; exact NextP.yes f1 rfl h2
    · rw [decide_eq_false (by omega)] at e0
      rw [decide_eq_true h] at e1
      clear e2 e6 e8 e9 h hi
      go_enter Tryz.func62, Tryz.ntmps62
      go_wp2_with fail
      refine ho.mono ?_
      rintro e w1 ⟨f1, h1⟩
      cases nx with
      | none => subst h1; go_wp2; go_ret; exact NextP.no f1 rfl
      | some m' => obtain ⟨h1, h2⟩ := h1; subst h1; go_wp2; go_ret; exact NextP.yes f1 rfl h2
  · rw [if_neg h01]
    rw [decide_eq_false (by omega)] at e0
    rw [decide_eq_false (by omega)] at e1
    clear ho
    by_cases h2 : m.st = 2
    · rw [if_pos h2]
      rw [decide_eq_true h2] at e2
      clear e6 e8 e9 h01 hi h2
      go_enter Tryz.func62, Tryz.ntmps62
      go_wp2
      go_ret
      exact NextP.yes (Fr.refl _ _) rfl hM
    · rw [if_neg h2]
      rw [decide_eq_false h2] at e2
      by_cases h6 : m.st = 6
      · rw [if_pos h6]
        rw [decide_eq_true h6] at e6
        have k := hM.set2 c
        have fk : Fr [mb] w (w.setCell ⟨mb, 2, none⟩ (.int .u8 c)) := (Fr.refl _ _).setCell (p := ⟨mb, 2, none⟩) (.inl (by simp)) _
        clear e8 e9 h01 hi h2 h6
        go_enter Tryz.func62, Tryz.ntmps62
        go_wp2
        go_ret
        exact NextP.yes fk rfl k
      · rw [if_neg h6]
        rw [decide_eq_false h6] at e6
        by_cases h8 : m.st = 8
        · rw [if_pos h8]
          rw [decide_eq_true h8] at e8
          clear e9 h01 hi h2 h6 h8
          by_cases c93 : c = 93
          · subst c93
            rw [if_pos rfl]
            go_enter Tryz.func62, Tryz.ntmps62
            go_wp2
            go_ret
            exact NextP.yes (Fr.refl _ _) rfl hM
          · rw [if_neg c93]
            have n93 : ((c : Int) == 93) = false := by simp; omega
            by_cases c92 : c = 92
            · subst c92
              rw [if_pos rfl]
              clear c93
              go_enter Tryz.func62, Tryz.ntmps62
              go_wp2
              go_ret
              exact NextP.yes (Fr.refl _ _) rfl hM
            · rw [if_neg c92]
              have n92 : ((c : Int) == 92) = false := by simp; omega
              by_cases cl : c < m.fr
              · rw [if_pos cl]
                have gl : (c : Int) < m.fr := by omega
                clear c93 c92
                go_enter Tryz.func62, Tryz.ntmps62
                go_wp2
                go_ret
                exact NextP.no (Fr.refl _ _) rfl
              · rw [if_neg cl]
                have gl : ¬ ((c : Int) < m.fr) := by omega
                clear c93 c92
                go_enter Tryz.func62, Tryz.ntmps62
                go_wp2
                go_ret
                exact NextP.yes (Fr.refl _ _) rfl hM
        · rw [if_neg h8]
          rw [decide_eq_false h8] at e8
          by_cases h9 : m.st = 9
          · rw [if_pos h9]
            rw [decide_eq_true h9] at e9
            clear h01 hi h2 h6 h8 h9
            by_cases cl : c < m.fr
            · rw [if_pos cl]
              have gl : (c : Int) < m.fr := by omega
              go_enter Tryz.func62, Tryz.ntmps62
              go_wp2
              go_ret
              exact NextP.no (Fr.refl _ _) rfl
            · rw [if_neg cl]
              have gl : ¬ ((c : Int) < m.fr) := by omega
              go_enter Tryz.func62, Tryz.ntmps62
              go_wp2
              go_ret
              exact NextP.yes (Fr.refl _ _) rfl hM
          · rw [if_neg h9]
            rw [decide_eq_false h9] at e9
            generalize inM m c = nx at *
            clear h01 h2 h6 h8 h9
            go_enter Tryz.func62, Tryz.ntmps62
            go_wp2_with fail
            refine hi.mono ?_
            rintro e w1 ⟨f1, h1⟩
            cases nx with
            | none => subst h1; go_wp2; go_ret; exact NextP.no f1 rfl
            | some m' => obtain ⟨h1, h2⟩ := h1; subst h1; go_wp2; go_ret; exact NextP.yes f1 rfl h2

end Go.Proofs.YtakbfoegkjaphaaGreatDoor

namespace Go.Proofs.YtakbfoegkjaphaaGreatDoor
open Go.RowKit

theorem next_op {m m' : Mind} {c : Nat} (h : nextM m c = some m') : m'.op ≤ m.op + 1 := by
  unfold nextM outM inM at h
  repeat' split at h
  all_goals first
    | (injection h with h; subst h; simp only; omega)
    | (injection h with h; subst h; simp)
    | cases h

theorem MindC.new (w : World) : MindC (w.alloc (.cells #[.int .i64 0, .int .i64 0, .int .u8 0] 126)) w.heap.size 0 0 0 := by
  have hm := World.alloc_heap_new w (.cells #[.int .i64 0, .int .i64 0, .int .u8 0] 126)
  refine ⟨?_, ?_, ?_, ?_, ?_, ?_⟩
  · unfold World.cell?; rw [hm]; simp
  · unfold World.cell?; rw [hm]; simp
  · unfold World.cell?; rw [hm]; simp
  · unfold World.frozen?; rw [hm]; simp
  · unfold World.frozen?; rw [hm]; simp
  · unfold World.frozen?; rw [hm]; simp

set_option maxRecDepth 100000 in
set_option maxHeartbeats 2000000 in
theorem lookR_long (t : ByteArray) (w : World) (h : 50 < t.size) (hm : t.size ≤ 140737488355328) : Calls Tryz.prog 25 #[.string t] w fun e w' => e = .returned (.tuple #[.int .i64 0, .int .i64 1]) ∧ w' = w := by
  have g1 : (50 : Int) < t.size := by omega
  go_enter Tryz.func25, Tryz.ntmps25
  go_wp2
  go_ret2
  exact ⟨rfl, rfl⟩

set_option maxRecDepth 100000 in
set_option maxHeartbeats 2000000 in
theorem lookR_any (t : ByteArray) (w : World) (ht : t.size ≤ 50) :
    Calls Tryz.prog 25 #[.string t] w fun e w' => e = .returned (.tuple #[.int .i64 (lookR t).1, .int .i64 (if (lookR t).2 = true then 2 else 0)]) ∧ Fr [] w w' := by
  obtain ⟨L, hL⟩ : ∃ L, lookL t t.size 0 ⟨0, 0, 0⟩ = L := ⟨_, rfl⟩
  have hLr : lookR t = L := hL
  rw [hLr]
  have g1 : ¬ ((50 : Int) < t.size) := by omega
  have hnx := fun (mb k : Nat) (m : Mind) (W : World) (hop : m.op ≤ 1000) (h : MindC W mb m.st m.op m.fr) => next_any mb (byteN t k) m W (byteN_lt t k) hop h
  have Hnx : Hid _ := hnx
  have HL : Hid (lookL t (t.size - 0) 0 ⟨0, 0, 0⟩ = L) := hL
  have J0 := MindC.new w
  have f0 : Fr [] w (w.alloc (.cells #[.int .i64 0, .int .i64 0, .int .u8 0] 126)) := (Fr.refl [] w).alloc _
  clear hL hLr hnx
  go_enter Tryz.func25, Tryz.ntmps25
  go_wp2
  generalize w.alloc (.cells #[.int .i64 0, .int .i64 0, .int .u8 0] 126) = w2 at *
  go_loopw [5] (fun v wr => ∃ (k : Nat) (m : Mind), k ≤ t.size ∧ m.op ≤ k ∧ v = .int .i64 k ∧ MindC wr w.heap.size m.st m.op m.fr ∧ Fr [] w wr ∧ Hid (lookL t (t.size - k) k m = L)) (fun v _ => t.size - (intOf v).toNat)
  case atStart => exact ⟨0, ⟨0, 0, 0⟩, by omega, by simp, rfl, J0, f0, HL⟩
  case round =>
    clear J0 f0 HL
    obtain ⟨k, m, hk, hop, rfl, hM, hf, hL⟩ := hrel
    by_cases hlt : k < t.size
    · have g2 : (k : Int) < t.size := by omega
      have gn := getN hlt
      have hcall := Hnx.out w.heap.size k m wr (by omega) hM
      rw [← gn] at hcall
      have hL' := hL.out
      obtain ⟨f, hfe⟩ : ∃ f, t.size - k = f + 1 := ⟨t.size - k - 1, by omega⟩
      rw [hfe, lookL] at hL'
      cases hnm : nextM m (byteN t k) with
      | none =>
        rw [hnm] at hcall hL'
        simp only at hL'
        subst hL'
        clear hL gn hfe hnm Hnx
        go_wp2_with fail
        refine hcall.mono ?_
        rintro e w3 ⟨f3, h3⟩
        subst h3
        clear hcall
        go_wp2
        go_ret2
        exact ⟨rfl, hf.trans' f3 (by simp)⟩
      | some m' =>
        rw [hnm] at hcall hL'
        simp only at hL'
        have hop' := next_op hnm
        have HL2 : Hid (lookL t (t.size - (k + 1)) (k + 1) m' = L) := by rw [show t.size - (k + 1) = f by omega]; exact hL'
        clear hL gn hfe hnm hL'
        go_wp2_with fail
        refine hcall.mono ?_
        rintro e w3 ⟨f3, h3, h4⟩
        subst h3
        clear hcall
        have s0 := h4.c0
        have s1 := h4.z0
        have n1 : ((m'.st : Int) == -1) = false := by simp
        have J2 := h4.set0 m'.st
        have f4 : Fr [] w (w3.setCell ⟨w.heap.size, 0, none⟩ (.int .i64 m'.st)) := (hf.trans' f3 (by simp)).setCell (p := ⟨w.heap.size, 0, none⟩) (.inr (by simp)) _
        clear h4 f3 hf hM
        go_wp2
        go_roundw
        case rel => exact ⟨k + 1, m', by omega, by omega, by go_num, J2, f4, HL2⟩
        case measure => simp [intOf]; omega
    · have g2 : ¬ ((k : Int) < t.size) := by omega
      have hL' := hL.out
      rw [show t.size - k = 0 by omega, lookL] at hL'
      have c0 := hM.c0
      have c1 := hM.c1
      obtain rfl : k = t.size := by omega
      by_cases h1 : 1 < m.st
      · rw [if_pos (.inl h1)] at hL'
        subst hL'
        have g3 : (1 : Int) < m.st := by omega
        go_wp2
        go_ret2
        exact ⟨rfl, hf⟩
      · have g3 : ¬ ((1 : Int) < m.st) := by omega
        by_cases h2 : 0 < m.op
        · rw [if_pos (.inr h2)] at hL'
          subst hL'
          have g4 : (0 : Int) < m.op := by omega
          go_wp2
          go_ret2
          exact ⟨rfl, hf⟩
        · rw [if_neg (by omega)] at hL'
          subst hL'
          have g4 : ¬ ((0 : Int) < m.op) := by omega
          go_wp2
          go_ret2
          exact ⟨rfl, hf⟩

end Go.Proofs.YtakbfoegkjaphaaGreatDoor

namespace Go.Proofs.YtakbfoegkjaphaaGreatDoor
open Go.RowKit

set_option maxRecDepth 100000 in
set_option maxHeartbeats 2000000 in
theorem firstR_any (t x : ByteArray) (fr : Nat) (w : World) (ht : t.size ≤ 50) (hx : x.size ≤ 100) (hok : readOk t = true) (hfr : fr ≤ x.size) :
    Calls Tryz.prog 65 #[.string t, .string x, .int .i64 fr] w fun e w' => e = .returned (.tuple #[.int .i64 (Fd t x fr).1, .int .i64 (Fd t x fr).2]) ∧ Fr [] w w' := by
  have hm : Tryz.prog.follows Departure.mixedOrders = true := by kernel_rfl
  have hen := endsR_any t x w ht hx hok
  have hle : ∀ k, Ef t x k ≤ x.size ∧ -1 ≤ Ef t x k := fun k => endF_le _ _ _ x k
  unfold Fd
  generalize Ef t x = E at *
  obtain ⟨R, hR⟩ : ∃ R, findL E (x.size + 1 - fr) fr = R := ⟨_, rfl⟩
  rw [hR]
  have HR : Hid (_ = R) := hR
  have Hle : Hid _ := hle
  clear hR hle hok
  go_enter Tryz.func65, Tryz.ntmps65
  go_wp2_with fail
  refine hen.mono ?_
  rintro e w1 ⟨v, rfl, hI, f1⟩
  obtain ⟨eb, cap, rfl, hl, hc⟩ := hI.out
  have Hc : Hid _ := hc
  clear hen hI hc
  go_wp2
  go_loop [9] (fun i => ∃ k : Nat, k ≤ x.size + 1 ∧ i = .int .i64 k ∧ Hid (findL E (x.size + 1 - k) k = R)) (fun i => x.size + 1 - (intOf i).toNat)
  case atStart => exact ⟨fr, by omega, rfl, HR⟩
  case round =>
    clear HR
    obtain ⟨k, hk, rfl, hR⟩ := hrel
    by_cases hlt : k ≤ x.size
    · have g1 : (k : Int) < (x.size : Int) + 1 := by omega
      have c1 := Hc.out k (by omega)
      obtain ⟨hb1, hb2⟩ := Hle.out k
      by_cases he : E k = -1
      · have hR' := hR.out
        rw [findL_neg E k _ (by omega) he, show x.size + 1 - k - 1 = x.size + 1 - (k + 1) by omega] at hR'
        have HR' : Hid _ := hR'
        have g2 : ¬ ((0 : Int) ≤ E k) := by omega
        clear hR' he
        go_wp2
        go_round
        case rel => exact ⟨k + 1, by omega, by go_num, HR'⟩
        case measure => simp [intOf]; omega
      · have hR' := hR.out
        rw [findL_pos E k _ (by omega) he] at hR'
        subst hR'
        have g2 : (0 : Int) ≤ E k := by omega
        have hw64 : IntKind.i64.wrap (E k - k) = E k - k := by rw [IntKind.wrap_i64]; omega
        clear he hR
        go_wp2
        refine wp_region_lex hm (by kernel_rfl) ?_
        repeat still_step
        refine wpStill_nil ?_
        go_wp2
        go_ret2
        refine ⟨?_, f1.drew⟩
        simp [hw64]
    · have g1 : ¬ ((k : Int) < (x.size : Int) + 1) := by omega
      have hR' := hR.out
      rw [show x.size + 1 - k = 0 by omega, findL] at hR'
      subst hR'
      go_wp2
      go_ret2
      exact ⟨rfl, f1⟩

/-- What the document's Look answers of a text that is not too long: none just where it is a pattern. -/
theorem lookR_ok (t : ByteArray) (w : World) (ht : t.size ≤ 50) (hok : readOk t = true) : Calls Tryz.prog 25 #[.string t] w fun e w' => e = .returned (.tuple #[.int .i64 0, .int .i64 0]) ∧ Fr [] w w' := by
  have h := lookR_any t w ht
  rw [look_ref t ht, if_pos hok] at h
  exact h
theorem lookR_bad (t : ByteArray) (w : World) (ht : t.size ≤ 50) (hok : readOk t = false) : Calls Tryz.prog 25 #[.string t] w fun e w' => e = .returned (.tuple #[.int .i64 (readF t).2.pos, .int .i64 2]) ∧ Fr [] w w' := by
  have h := lookR_any t w ht
  rw [look_ref t ht, if_neg (by rw [hok]; decide)] at h
  exact h

set_option maxRecDepth 100000 in
set_option maxHeartbeats 2000000 in
theorem findR_long (t x : ByteArray) (fr : Int) (w : World) (h : 50 < t.size ∨ 100 < x.size) (ht : t.size ≤ 140737488355328) (hx : x.size ≤ 140737488355328) :
    Calls Tryz.prog 28 #[.string t, .string x, .int .i64 fr] w fun e w' => e = .returned (.tuple #[.int .i64 0, .int .i64 0, .int .i64 1]) ∧ w' = w := by
  by_cases h1 : 50 < t.size
  · have g1 : (50 : Int) < t.size := by omega
    go_enter Tryz.func28, Tryz.ntmps28
    go_wp2
    go_ret3
    exact ⟨rfl, rfl⟩
  · have g1 : ¬ ((50 : Int) < t.size) := by omega
    have g2 : (100 : Int) < x.size := by omega
    go_enter Tryz.func28, Tryz.ntmps28
    go_wp2
    go_ret3
    exact ⟨rfl, rfl⟩

set_option maxRecDepth 100000 in
set_option maxHeartbeats 2000000 in
theorem findR_bad (t x : ByteArray) (fr : Int) (w : World) (ht : t.size ≤ 50) (hx : x.size ≤ 100) (hok : readOk t = false) :
    Calls Tryz.prog 28 #[.string t, .string x, .int .i64 fr] w fun e w' => e = .returned (.tuple #[.int .i64 0, .int .i64 0, .int .i64 2]) ∧ Fr [] w w' := by
  have hl := lookR_bad t w ht hok
  have g1 : ¬ ((50 : Int) < t.size) := by omega
  have g2 : ¬ ((100 : Int) < x.size) := by omega
  clear hok
  go_enter Tryz.func28, Tryz.ntmps28
  go_wp2_with fail
  refine hl.mono ?_
  rintro e w1 ⟨rfl, f1⟩
  go_wp2
  go_ret3
  exact ⟨rfl, f1⟩

set_option maxRecDepth 100000 in
set_option maxHeartbeats 2000000 in
theorem findR_arg (t x : ByteArray) (fr : Int) (w : World) (ht : t.size ≤ 50) (hx : x.size ≤ 100) (hok : readOk t = true) (hfr : fr < 0 ∨ x.size < fr) :
    Calls Tryz.prog 28 #[.string t, .string x, .int .i64 fr] w fun e w' => e = .returned (.tuple #[.int .i64 0, .int .i64 0, .int .i64 3]) ∧ Fr [] w w' := by
  have hl := lookR_ok t w ht hok
  have g1 : ¬ ((50 : Int) < t.size) := by omega
  have g2 : ¬ ((100 : Int) < x.size) := by omega
  clear hok
  go_enter Tryz.func28, Tryz.ntmps28
  go_wp2_with fail
  refine hl.mono ?_
  rintro e w1 ⟨rfl, f1⟩
  clear hl
  rcases hfr with h1 | h1
  · go_wp2
    go_ret3
    exact ⟨rfl, f1⟩
  · have h2 : ¬ (fr < 0) := by omega
    go_wp2
    go_ret3
    exact ⟨rfl, f1⟩

set_option maxRecDepth 100000 in
set_option maxHeartbeats 2000000 in
theorem findR_ok (t x : ByteArray) (fr : Nat) (w : World) (ht : t.size ≤ 50) (hx : x.size ≤ 100) (hok : readOk t = true) (hfr : fr ≤ x.size) :
    Calls Tryz.prog 28 #[.string t, .string x, .int .i64 fr] w fun e w' => e = .returned (.tuple #[.int .i64 (Fd t x fr).1, .int .i64 (Fd t x fr).2, .int .i64 0]) ∧ Fr [] w w' := by
  have hl := lookR_ok t w ht hok
  have hf := fun W => firstR_any t x fr W ht hx hok hfr
  generalize Fd t x fr = R at *
  have Hf : Hid _ := hf
  have g1 : ¬ ((50 : Int) < t.size) := by omega
  have g2 : ¬ ((100 : Int) < x.size) := by omega
  have g3 : ¬ ((fr : Int) < 0) := by omega
  have g4 : ¬ ((x.size : Int) < fr) := by omega
  clear hok hf
  go_enter Tryz.func28, Tryz.ntmps28
  go_wp2_with fail
  refine hl.mono ?_
  rintro e w1 ⟨rfl, f1⟩
  clear hl
  go_wp2_with fail
  refine (Hf.out _).mono ?_
  rintro e w2 ⟨rfl, f2⟩
  go_wp2
  go_ret3
  exact ⟨rfl, f1.trans f2⟩

end Go.Proofs.YtakbfoegkjaphaaGreatDoor

