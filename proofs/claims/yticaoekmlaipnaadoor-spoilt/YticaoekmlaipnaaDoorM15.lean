/-
  A module's limits, as the program looks at them.
-/
import Derived.Test.YticaoekmlaipnaaDoorM03
import Derived.Test.YticaoekmlaipnaaDoorM14
set_option linter.unusedSimpArgs false
set_option linter.unusedVariables false
namespace Go.Proofs.YticaoekmlaipnaaDoor
open Go.RowKit
open Wire

/-- Is a text a pattern? -/
def ipF (t : ByteArray) : Bool := decide (t.size ≤ 50) && readOk t

set_option maxHeartbeats 400000 in
theorem isPattern_any (t : ByteArray) (w : World) (hm : t.size ≤ maxLen) (hT : Tab w) : Calls Tryd.prog 90 #[.string t] w fun e w' => e = .returned (.bool (ipF t)) ∧ Fr [] w w' := by
  unfold ipF
  by_cases h : t.size ≤ 50
  · have hr := read_any t w h hT
    unfold ReadPost at hr
    cases hok : readOk t with
    | true =>
      simp only [hok] at hr
      have e : (decide (t.size ≤ 50) && true) = true := by simp [h]
      rw [e]
      clear e hok h
      go_enter Tryd.func90, Tryd.ntmps90
      go_wp2_with fail
      refine hr.mono ?_
      rintro e w1 ⟨hf, hp⟩
      rw [if_pos trivial] at hp
      obtain ⟨pb, -, rfl, -⟩ := hp
      clear hr
      go_wp2
      go_ret
      exact ⟨rfl, hf⟩
    | false =>
      simp only [hok] at hr
      have e : (decide (t.size ≤ 50) && false) = false := by simp
      rw [e]
      clear e hok h
      go_enter Tryd.func90, Tryd.ntmps90
      go_wp2_with fail
      refine hr.mono ?_
      rintro e w1 ⟨hf, hp⟩
      rw [if_neg (by simp)] at hp
      subst hp
      clear hr
      go_wp2
      go_ret
      exact ⟨rfl, hf⟩
  · have hr := read_long t w (by omega) hm
    have e : (decide (t.size ≤ 50) && readOk t) = false := by simp [h]
    rw [e]
    clear e
    unfold maxLen at hm
    go_enter Tryd.func90, Tryd.ntmps90
    go_wp2_with fail
    refine hr.mono ?_
    rintro e w1 ⟨rfl, rfl⟩
    clear hr
    go_wp2
    go_ret
    exact ⟨rfl, Fr.refl _ _⟩

set_option maxHeartbeats 400000 in
theorem isBetween_any (a b c : Int) (w : World) : Calls Tryd.prog 75 #[.int .i64 a, .int .i64 b, .int .i64 c] w fun e w' => e = .returned (.bool (decide (b ≤ a) && decide (a ≤ c))) ∧ w' = w := by
  by_cases h1 : b ≤ a
  · by_cases h2 : a ≤ c
    · go_enter Tryd.func75, Tryd.ntmps75
      go_wp2
      go_ret
      exact ⟨by simp [h1, h2], rfl⟩
    · go_enter Tryd.func75, Tryd.ntmps75
      go_wp2
      go_ret
      exact ⟨by simp [h1, h2], rfl⟩
  · go_enter Tryd.func75, Tryd.ntmps75
    go_wp2
    go_ret
    exact ⟨by simp; omega, rfl⟩

set_option maxHeartbeats 400000 in
theorem maxParams_any (i : Nat) (w : World) : Calls Tryd.prog 92 #[.int .i64 i] w fun e w' => e = .returned (.int .i64 (if i < 3 then 0 else 8)) ∧ w' = w := by
  by_cases h : i < 3
  · have g : (i : Int) < 3 := by omega
    rw [if_pos h]
    go_enter Tryd.func92, Tryd.ntmps92
    go_wp2
    go_ret
    exact ⟨rfl, rfl⟩
  · have g : ¬ (i : Int) < 3 := by omega
    rw [if_neg h]
    go_enter Tryd.func92, Tryd.ntmps92
    go_wp2
    go_ret
    exact ⟨rfl, rfl⟩

theorem all_take {α : Type} (f : α → Bool) (L : List α) (k : Nat) (h : k < L.length) (ha : (L.take k).all f = true) : (L.take (k + 1)).all f = f L[k] := by
  rw [List.take_succ_eq_append_getElem h, List.all_append, ha]; simp
theorem all_stop {α : Type} (f : α → Bool) (L : List α) (k : Nat) (h : k < L.length) (ha : f L[k] = false) : L.all f = false := by
  rw [List.all_eq_false]
  exact ⟨L[k], List.getElem_mem h, by simp [ha]⟩

def okTexts (L : List ByteArray) : Bool := decide (L.length ≤ 1000) && L.all (fun s => decide (s.size ≤ 100))
def okPats (L : List ByteArray) : Bool := decide (L.length ≤ 1000) && L.all ipF
def okFns (L : List Wire.Fn) : Bool := decide (3 ≤ L.length) && decide (L.length ≤ 1000) && lawfulAll L 0

set_option maxRecDepth 100000 in
set_option maxHeartbeats 400000 in
theorem areTexts_any (tv : Value) (L : List ByteArray) (w : World) (hn : L.length ≤ maxLen) (hs : ∀ s ∈ L, s.size ≤ maxLen) (hL : StrsIn w tv L) :
    Calls Tryd.prog 73 #[tv] w fun e w' => e = .returned (.bool (okTexts L)) ∧ w' = w := by
  obtain ⟨a0, cap, g, off, rfl, hcap, ha, hx⟩ := hL
  unfold okTexts
  by_cases h1 : L.length ≤ 1000
  · have g1 : ¬ (1000 : Int) < L.length := by omega
    have HA : Hid (∀ k (hk : k < L.length), (L.take k).all (fun s => decide (s.size ≤ 100)) = true → (L.take (k + 1)).all (fun s => decide (s.size ≤ 100)) = decide (L[k].size ≤ 100)) := fun k hk ha => all_take _ L k hk ha
    have HB : Hid (∀ k (hk : k < L.length), decide (L[k].size ≤ 100) = false → L.all (fun s => decide (s.size ≤ 100)) = false) := fun k hk ha => all_stop _ L k hk ha
    rw [decide_eq_true h1, Bool.true_and]
    obtain ⟨r, hr⟩ : ∃ r, L.all (fun s => decide (s.size ≤ 100)) = r := ⟨_, rfl⟩
    rw [hr]
    have Hr : Hid _ := hr
    have Hx : Hid _ := hx
    have Ha : Hid _ := ha
    have Hs : Hid _ := hs
    clear hr hx ha hs
    go_enter Tryd.func73, Tryd.ntmps73
    go_wp2
    go_loop [10] (fun i => ∃ k : Nat, k ≤ L.length ∧ i = .int .i64 k ∧ Hid ((L.take k).all (fun s => decide (s.size ≤ 100)) = true)) (fun i => L.length - (intOf i).toNat)
    case atStart => exact ⟨0, by omega, rfl, by show _ = _; simp⟩
    case round =>
      obtain ⟨k, hk, rfl, hall⟩ := hrel
      by_cases hlt : k < L.length
      · obtain ⟨rfl, hg⟩ := Ha.out (by omega)
        have g2 : (k : Int) < L.length := by omega
        have c1 := Hx.out k _ (List.getElem?_eq_getElem hlt)
        have e1 := HA.out k hlt hall.out
        have e2 := HB.out k hlt
        have e3 := Hs.out L[k] (List.getElem_mem hlt)
        obtain ⟨s, hsk⟩ : ∃ s, L[k] = s := ⟨_, rfl⟩
        rw [hsk] at c1 e1 e2 e3
        have E1 : Hid _ := e1
        have E2 : Hid _ := e2
        unfold maxLen at e3
        clear e1 e2
        by_cases h2 : s.size ≤ 100
        · have g3 : ¬ (100 : Int) < s.size := by omega
          go_wp2
          refine ⟨⟨k + 1, by omega, by go_num, ?_⟩, by simp [intOf]; omega⟩
          show _ = _
          rw [E1.out]; simp [h2]
        · have g3 : (100 : Int) < s.size := by omega
          have e4 : r = false := by rw [← Hr.out]; exact E2.out (by simp; omega)
          subst e4
          go_wp2
          go_ret
          exact ⟨rfl, rfl⟩
      · obtain rfl : k = L.length := by omega
        have g2 : ¬ ((L.length : Int) < L.length) := by omega
        have e4 : r = true := by rw [← Hr.out, ← hall.out, List.take_length]
        subst e4
        go_wp2
        go_ret
        exact ⟨rfl, rfl⟩
  · have g1 : (1000 : Int) < L.length := by omega
    rw [decide_eq_false h1, Bool.false_and]
    unfold maxLen at hn
    go_enter Tryd.func73, Tryd.ntmps73
    go_wp2
    go_ret
    exact ⟨rfl, rfl⟩

set_option maxRecDepth 100000 in
set_option maxHeartbeats 400000 in
theorem arePatterns_any (tv : Value) (L : List ByteArray) (w : World) (hn : L.length ≤ maxLen) (hs : ∀ s ∈ L, s.size ≤ maxLen) (hL : StrsIn w tv L) (hT : Tab w) :
    Calls Tryd.prog 74 #[tv] w fun e w' => e = .returned (.bool (okPats L)) ∧ Fr [] w w' := by
  obtain ⟨a0, cap, g, off, rfl, hcap, ha, hx⟩ := hL
  unfold okPats
  by_cases h1 : L.length ≤ 1000
  · have g1 : ¬ (1000 : Int) < L.length := by omega
    have HA : Hid (∀ k (hk : k < L.length), (L.take k).all ipF = true → (L.take (k + 1)).all ipF = ipF L[k]) := fun k hk ha => all_take _ L k hk ha
    have HB : Hid (∀ k (hk : k < L.length), ipF L[k] = false → L.all ipF = false) := fun k hk ha => all_stop _ L k hk ha
    rw [decide_eq_true h1, Bool.true_and]
    obtain ⟨r, hr⟩ : ∃ r, L.all ipF = r := ⟨_, rfl⟩
    rw [hr]
    have Hr : Hid _ := hr
    have Hx : Hid _ := hx
    have Ha : Hid _ := ha
    have Hs : Hid _ := hs
    clear hr hx ha hs
    go_enter Tryd.func74, Tryd.ntmps74
    go_wp2
    go_loopw [10] (fun i wr => ∃ k : Nat, k ≤ L.length ∧ i = .int .i64 k ∧ Hid ((L.take k).all ipF = true) ∧ Fr [] w wr) (fun i _ => L.length - (intOf i).toNat)
    case atStart => exact ⟨0, by omega, rfl, by show _ = _; simp, Fr.refl _ _⟩
    case round =>
      obtain ⟨k, hk, rfl, hall, hF⟩ := hrel
      by_cases hlt : k < L.length
      · obtain ⟨rfl, hg⟩ := Ha.out (by omega)
        have g2 : (k : Int) < L.length := by omega
        have c1 := (hF.cell (p := ⟨g, off + k, none⟩) hg (by simp)).trans (Hx.out k _ (List.getElem?_eq_getElem hlt))
        have e1 := HA.out k hlt hall.out
        have e2 := HB.out k hlt
        have e3 := Hs.out L[k] (List.getElem_mem hlt)
        obtain ⟨s, hsk⟩ : ∃ s, L[k] = s := ⟨_, rfl⟩
        rw [hsk] at c1 e1 e2 e3
        have E1 : Hid _ := e1
        have E2 : Hid _ := e2
        have hip := isPattern_any s wr e3 (hT.fr hF (by simp))
        clear e1 e2
        cases hs : ipF s with
        | true =>
          rw [hs] at hip
          have E3 : Hid _ := hs
          clear hs
          go_wp2_with fail
          refine hip.mono ?_
          rintro e w1 ⟨rfl, hf⟩
          clear hip
          go_wp2
          exact ⟨⟨k + 1, by omega, by go_num, E1.out.trans E3.out, hF.trans hf⟩, by simp [intOf]; omega⟩
        | false =>
          rw [hs] at hip
          have e4 : r = false := by rw [← Hr.out]; exact E2.out hs
          subst e4
          clear hs
          go_wp2_with fail
          refine hip.mono ?_
          rintro e w1 ⟨rfl, hf⟩
          clear hip
          go_wp2
          go_ret
          exact ⟨rfl, hF.trans hf⟩
      · obtain rfl : k = L.length := by omega
        have g2 : ¬ ((L.length : Int) < L.length) := by omega
        have e4 : r = true := by rw [← Hr.out, ← hall.out, List.take_length]
        subst e4
        go_wp2
        go_ret
        exact ⟨rfl, hF⟩
  · have g1 : (1000 : Int) < L.length := by omega
    rw [decide_eq_false h1, Bool.false_and]
    unfold maxLen at hn
    go_enter Tryd.func74, Tryd.ntmps74
    go_wp2
    go_ret
    exact ⟨rfl, Fr.refl _ _⟩

end Go.Proofs.YticaoekmlaipnaaDoor

namespace Go.Proofs.YticaoekmlaipnaaDoor
open Go.RowKit
open Wire

theorem lawfulAll_app (A : List Wire.Fn) (x : Wire.Fn) (i : Nat) : lawfulAll (A ++ [x]) i = (lawfulAll A i && lawful x (i + A.length)) := by
  induction A generalizing i with
  | nil => simp [lawfulAll]
  | cons a A ih =>
    simp only [List.cons_append, lawfulAll, ih, Bool.and_assoc, List.length_cons]
    rw [show i + 1 + A.length = i + (A.length + 1) by omega]
theorem lawfulAll_take (L : List Wire.Fn) (k : Nat) (h : k < L.length) (ha : lawfulAll (L.take k) 0 = true) : lawfulAll (L.take (k + 1)) 0 = lawful L[k] k := by
  rw [List.take_succ_eq_append_getElem h, lawfulAll_app, ha, List.length_take, Nat.min_eq_left (by omega)]
  simp
theorem lawfulAll_at (L : List Wire.Fn) (i k : Nat) (h : k < L.length) (ha : lawfulAll L i = true) : lawful L[k] (i + k) = true := by
  induction L generalizing i k with
  | nil => simp at h
  | cons a L ih =>
    simp only [lawfulAll, Bool.and_eq_true] at ha
    cases k with
    | zero => simpa using ha.1
    | succ k =>
      have := ih (i + 1) k (by simpa using h) ha.2
      simpa [show i + 1 + k = i + (k + 1) by omega] using this
theorem lawfulAll_stop (L : List Wire.Fn) (k : Nat) (h : k < L.length) (ha : lawful L[k] k = false) : lawfulAll L 0 = false := by
  cases hl : lawfulAll L 0 with
  | false => rfl
  | true => have := lawfulAll_at L 0 k h hl; rw [Nat.zero_add, ha] at this; cases this
theorem lawful_eq (f : Wire.Fn) (i : Nat) : lawful f i = true ↔ (0 ≤ f.params ∧ f.params ≤ (if i < 3 then 0 else 8)) ∧ (f.params ≤ f.locs ∧ f.locs ≤ 16) ∧ f.code.size ≤ 20000 := by
  rw [lawful_iff]
  by_cases h : i < 3
  · rw [if_pos h]; omega
  · rw [if_neg h]; omega

set_option maxRecDepth 100000 in
set_option maxHeartbeats 1000000 in
theorem areFuncs_any (tv : Value) (L : List Wire.Fn) (w : World) (hn : L.length ≤ maxLen) (hs : ∀ s ∈ L, s.code.size ≤ maxLen) (hL : FnsIn w tv L) :
    Calls Tryd.prog 76 #[tv] w fun e w' => e = .returned (.bool (okFns L)) ∧ Fr [] w w' := by
  obtain ⟨a0, cap, g, off, rfl, hcap, ha, hx⟩ := hL
  unfold okFns
  have hb := isBetween_any L.length 3 1000 w
  by_cases h1 : 3 ≤ L.length ∧ L.length ≤ 1000
  · have e0 : (decide ((3 : Int) ≤ L.length) && decide ((L.length : Int) ≤ 1000)) = true := by simp; omega
    rw [e0] at hb
    have HA : Hid (∀ k (hk : k < L.length), lawfulAll (L.take k) 0 = true → lawfulAll (L.take (k + 1)) 0 = lawful L[k] k) := fun k hk ha => lawfulAll_take L k hk ha
    have HB : Hid (∀ k (hk : k < L.length), lawful L[k] k = false → lawfulAll L 0 = false) := fun k hk ha => lawfulAll_stop L k hk ha
    rw [decide_eq_true h1.1, decide_eq_true h1.2, Bool.true_and, Bool.true_and]
    obtain ⟨r, hr⟩ : ∃ r, lawfulAll L 0 = r := ⟨_, rfl⟩
    rw [hr]
    have Hr : Hid _ := hr
    have Hx : Hid _ := hx
    have Ha : Hid _ := ha
    have Hs : Hid _ := hs
    clear hr hx ha hs e0
    go_enter Tryd.func76, Tryd.ntmps76
    go_wp2_with fail
    refine hb.mono ?_
    rintro e w ⟨rfl, rfl⟩
    clear hb
    go_wp2
    go_loopw [11] (fun i wr => ∃ k : Nat, k ≤ L.length ∧ i = .int .i64 k ∧ Hid (lawfulAll (L.take k) 0 = true) ∧ Fr [] w wr) (fun i _ => L.length - (intOf i).toNat)
    case atStart => exact ⟨0, by omega, rfl, by show _ = _; simp [lawfulAll], Fr.refl _ _⟩
    case round =>
      obtain ⟨k, hk, rfl, hall, hF⟩ := hrel
      by_cases hlt : k < L.length
      · obtain ⟨rfl, hg⟩ := Ha.out (by omega)
        have g2 : (k : Int) < L.length := by omega
        obtain ⟨x0, x1, x2⟩ := Hx.out k _ (List.getElem?_eq_getElem hlt)
        have c0 := (hF.cell (p := ⟨g, off + k * 3, none⟩) hg (by simp)).trans x0
        have c1 := (hF.cell (p := ⟨g, off + k * 3 + 1, none⟩) hg (by simp)).trans x1
        have c2 := (hF.cell (p := ⟨g, off + k * 3 + 2, none⟩) hg (by simp)).trans x2
        have e1 := HA.out k hlt hall.out
        have e2 := HB.out k hlt
        have e3 := Hs.out L[k] (List.getElem_mem hlt)
        have e5 := lawful_eq L[k] k
        obtain ⟨⟨p, lc, co⟩, hsk⟩ : ∃ s, L[k] = s := ⟨_, rfl⟩
        rw [hsk] at c0 c1 c2 e1 e2 e3 e5
        simp only at c0 c1 c2 e3 e5
        have E1 : Hid _ := e1
        have E2 : Hid _ := e2
        have hmp := maxParams_any k
        unfold maxLen at e3
        obtain ⟨M, hM⟩ : ∃ M : Int, (if k < 3 then 0 else 8) = M := ⟨_, rfl⟩
        rw [hM] at e5
        simp only [hM] at hmp
        have E5 : Hid _ := e5
        have Hmp : Hid _ := hmp
        have hb1 := isBetween_any p 0 M
        have hb2 := isBetween_any lc p 16
        clear e1 e2 e5 hmp hM x0 x1 x2 hsk
        by_cases q1 : 0 ≤ p ∧ p ≤ M
        · have t1 : (decide (0 ≤ p) && decide (p ≤ M)) = true := by simp; exact q1
          simp only [t1] at hb1
          by_cases q2 : p ≤ lc ∧ lc ≤ 16
          · have t2 : (decide (p ≤ lc) && decide (lc ≤ 16)) = true := by simp; exact q2
            simp only [t2] at hb2
            have Hb1 : Hid _ := hb1
            have Hb2 : Hid _ := hb2
            clear hb1 hb2 t1 t2
            by_cases q3 : co.size ≤ 20000
            · have g3 : decide ((20000 : Int) < co.size) = false := by simp; omega
              have e4 : lawful ⟨p, lc, co⟩ k = true := E5.out.2 ⟨q1, q2, q3⟩
              have E4 : Hid _ := E1.out.trans e4
              clear E1 E2 E5 e4 q1 q2
              go_wp2
              go_quiet (first | (go_at_call 92; refine Calls.quiet_of_same (Hmp.out _)) | (go_at_call_of 75 (Value.int IntKind.i64 lc); refine Calls.quiet_of_same (Hb2.out _)) | (go_at_call 75; refine Calls.quiet_of_same (Hb1.out _)))
              go_wp2
              refine ⟨⟨k + 1, by omega, by go_num, E4, ?_⟩, by simp [intOf]; omega⟩
              exact (hF.alloc _).drewN _
            · have g3 : decide ((20000 : Int) < co.size) = true := by simp; omega
              have e4 : r = false := by
                rw [← Hr.out]
                refine E2.out (Bool.eq_false_iff.2 fun h => ?_)
                exact q3 (E5.out.1 h).2.2
              subst e4
              clear E1 E2 E5 q1 q2
              go_wp2
              go_quiet (first | (go_at_call 92; refine Calls.quiet_of_same (Hmp.out _)) | (go_at_call_of 75 (Value.int IntKind.i64 lc); refine Calls.quiet_of_same (Hb2.out _)) | (go_at_call 75; refine Calls.quiet_of_same (Hb1.out _)))
              go_wp2
              go_ret
              exact ⟨rfl, (hF.alloc _).drewN _⟩
          · have t2 : (decide (p ≤ lc) && decide (lc ≤ 16)) = false := by
              simp only [Bool.and_eq_false_iff, decide_eq_false_iff_not]; omega
            simp only [t2] at hb2
            have Hb1 : Hid _ := hb1
            have Hb2 : Hid _ := hb2
            have e4 : r = false := by
              rw [← Hr.out]
              refine E2.out (Bool.eq_false_iff.2 fun h => ?_)
              exact q2 (E5.out.1 h).2.1
            subst e4
            clear hb1 hb2 t1 t2 E1 E2 E5 q1 q2
            go_wp2
            go_quiet (first | (go_at_call 92; refine Calls.quiet_of_same (Hmp.out _)) | (go_at_call_of 75 (Value.int IntKind.i64 lc); refine Calls.quiet_of_same (Hb2.out _)) | (go_at_call 75; refine Calls.quiet_of_same (Hb1.out _)))
            go_wp2
            go_ret
            exact ⟨rfl, (hF.alloc _).drewN _⟩
        · have t1 : (decide (0 ≤ p) && decide (p ≤ M)) = false := by
            simp only [Bool.and_eq_false_iff, decide_eq_false_iff_not]; omega
          simp only [t1] at hb1
          have Hb1 : Hid _ := hb1
          have Hb2 : Hid _ := hb2
          have e4 : r = false := by
            rw [← Hr.out]
            refine E2.out (Bool.eq_false_iff.2 fun h => ?_)
            exact q1 (E5.out.1 h).1
          subst e4
          clear hb1 hb2 t1 E1 E2 E5 q1
          go_wp2
          go_quiet (first | (go_at_call 92; refine Calls.quiet_of_same (Hmp.out _)) | (go_at_call_of 75 (Value.int IntKind.i64 lc); refine Calls.quiet_of_same (Hb2.out _)) | (go_at_call 75; refine Calls.quiet_of_same (Hb1.out _)))
          go_wp2
          go_ret
          exact ⟨rfl, (hF.alloc _).drewN _⟩
      · obtain rfl : k = L.length := by omega
        have g2 : ¬ ((L.length : Int) < L.length) := by omega
        have e4 : r = true := by rw [← Hr.out, ← hall.out, List.take_length]
        subst e4
        go_wp2
        go_ret
        exact ⟨rfl, hF⟩
  · have e0 : (decide ((3 : Int) ≤ L.length) && decide ((L.length : Int) ≤ 1000)) = false := by simp; omega
    rw [e0] at hb
    have e1 : (decide (3 ≤ L.length) && decide (L.length ≤ 1000) && lawfulAll L 0) = false := by
      have : (decide (3 ≤ L.length) && decide (L.length ≤ 1000)) = false := by simp; omega
      rw [this]; rfl
    rw [e1]
    clear e0 e1
    unfold maxLen at hn
    go_enter Tryd.func76, Tryd.ntmps76
    go_wp2_with fail
    refine hb.mono ?_
    rintro e w ⟨rfl, rfl⟩
    clear hb
    go_wp2
    go_ret
    exact ⟨rfl, Fr.refl _ _⟩
end Go.Proofs.YticaoekmlaipnaaDoor

namespace Go.Proofs.YticaoekmlaipnaaDoor
open Go.RowKit
open Wire

/-- No text, and no list, is longer than any machine can hold. -/
structure ModSz (m : Mo) : Prop where
  t : m.texts.length ≤ maxLen
  ts : ∀ s ∈ m.texts, s.size ≤ maxLen
  p : m.pats.length ≤ maxLen
  ps : ∀ s ∈ m.pats, s.size ≤ maxLen
  f : m.fns.length ≤ maxLen
  fs : ∀ s ∈ m.fns, s.code.size ≤ maxLen

theorem okAll (m : Mo) : within ipF m = (okTexts m.texts && (okPats m.pats && ((decide (0 ≤ m.globs) && decide (m.globs ≤ 1000)) && ((decide (0 ≤ m.arrs) && decide (m.arrs ≤ 1000)) && okFns m.fns)))) := by
  rw [Bool.eq_iff_iff, Wire.within_iff]
  simp only [okTexts, okPats, okFns, Bool.and_eq_true, decide_eq_true_eq, List.all_eq_true]
  constructor
  · rintro ⟨a, b, c, d, e, f, g, h, i, j, k⟩
    exact ⟨⟨a, i⟩, ⟨b, fun s hs => (j s hs).2⟩, ⟨e, f⟩, ⟨g, h⟩, ⟨⟨c, d⟩, k⟩⟩
  · rintro ⟨⟨a, i⟩, ⟨b, j⟩, ⟨e, f⟩, ⟨g, h⟩, ⟨⟨c, d⟩, k⟩⟩
    refine ⟨a, b, c, d, e, f, g, h, i, fun s hs => ⟨?_, j s hs⟩, k⟩
    have := j s hs
    simp only [ipF, Bool.and_eq_true, decide_eq_true_eq] at this
    exact this.1

set_option maxRecDepth 100000 in
set_option maxHeartbeats 1000000 in
theorem isWithin_any (mv : Value) (m : Mo) (w : World) (hM : ModIn w mv m) (hz : ModSz m) (hT : Tab w) : Calls Tryd.prog 49 #[mv] w fun e w' => e = .returned (.bool (within ipF m)) ∧ Fr [] w w' := by
  obtain ⟨tv, pv, fv, rfl, hT1, hP, hF⟩ := hM.is
  rw [okAll]
  obtain ⟨z1, z2, z3, z4, z5, z6⟩ := hz
  obtain ⟨texts, pats, globs, arrs, fns⟩ := m
  simp only at *
  have a1 := fun (W : World) (f : Fr [] w W) => areTexts_any tv texts W z1 z2 (hT1.fr f)
  have a2 := fun (W : World) (f : Fr [] w W) => arePatterns_any pv pats W z3 z4 (hP.fr f) (hT.fr f (by simp))
  have a3 := isBetween_any globs 0 1000
  have a4 := isBetween_any arrs 0 1000
  have a5 := fun (W : World) (f : Fr [] w W) => areFuncs_any fv fns W z5 z6 (hF.fr f)
  obtain ⟨ta, tc, tg, to, rfl, -⟩ := id hT1
  obtain ⟨pa, pc, pg, po, rfl, -⟩ := id hP
  obtain ⟨fa, fc, fg, fo, rfl, -⟩ := id hF
  have A1 : Hid _ := a1
  have A2 : Hid _ := a2
  have A3 : Hid _ := a3
  have A4 : Hid _ := a4
  have A5 : Hid _ := a5
  generalize okTexts texts = b1 at *
  generalize okPats pats = b2 at *
  generalize (decide (0 ≤ globs) && decide (globs ≤ 1000)) = b3 at *
  generalize (decide (0 ≤ arrs) && decide (arrs ≤ 1000)) = b4 at *
  generalize okFns fns = b5 at *
  clear a1 a2 a3 a4 a5 hT1 hP hF hM z1 z2 z3 z4 z5 z6 hT
  have f0 : Fr [] w (w.alloc (.cells #[Value.slice ta texts.length tc, Value.slice pa pats.length pc, Value.int IntKind.i64 globs, Value.int IntKind.i64 arrs, Value.slice fa fns.length fc] 43)) := (Fr.refl [] w).alloc _
  have hnew := World.alloc_heap_new w (.cells #[Value.slice ta texts.length tc, Value.slice pa pats.length pc, Value.int IntKind.i64 globs, Value.int IntKind.i64 arrs, Value.slice fa fns.length fc] 43)
  have hlt2 : w.heap.size < (w.alloc (.cells #[Value.slice ta texts.length tc, Value.slice pa pats.length pc, Value.int IntKind.i64 globs, Value.int IntKind.i64 arrs, Value.slice fa fns.length fc] 43)).heap.size := by simp
  go_enter Tryd.func49, Tryd.ntmps49
  go_wp2_with fail
  obtain ⟨W, hWW⟩ : ∃ W, w.alloc (.cells #[Value.slice ta texts.length tc, Value.slice pa pats.length pc, Value.int IntKind.i64 globs, Value.int IntKind.i64 arrs, Value.slice fa fns.length fc] 43) = W := ⟨_, rfl⟩
  rw [hWW] at f0 hnew hlt2 ⊢
  clear hWW
  have kept : ∀ {W' : World}, Fr [] W W' → W'.heap[w.heap.size]? = some (.cells #[Value.slice ta texts.length tc, Value.slice pa pats.length pc, Value.int IntKind.i64 globs, Value.int IntKind.i64 arrs, Value.slice fa fns.length fc] 43) := fun G => by
    rw [G.block _ hlt2 (by simp), hnew]
  have Hkept : Hid _ := @kept
  clear kept hnew
  refine (A1.out W f0).mono ?_
  rintro e w1 ⟨rfl, rfl⟩
  cases b1 with
  | false =>
    go_wp2
    go_ret
    exact ⟨rfl, f0⟩
  | true =>
    simp only [Bool.true_and]
    have e1 : w1.cell? ⟨w.heap.size, 1, none⟩ = some (Value.slice pa pats.length pc) := by unfold World.cell?; rw [Hkept.out (Fr.refl _ _)]; rfl
    go_wp2_with fail
    refine (A2.out w1 f0).mono ?_
    rintro e w2 ⟨rfl, f2⟩
    cases b2 with
    | false =>
      go_wp2
      go_ret
      exact ⟨rfl, f0.trans f2⟩
    | true =>
      simp only [Bool.true_and]
      have e2 : w2.cell? ⟨w.heap.size, 2, none⟩ = some (Value.int .i64 globs) := by unfold World.cell?; rw [Hkept.out f2]; rfl
      have e3 : w2.cell? ⟨w.heap.size, 3, none⟩ = some (Value.int .i64 arrs) := by unfold World.cell?; rw [Hkept.out f2]; rfl
      have e4 : w2.cell? ⟨w.heap.size, 4, none⟩ = some (Value.slice fa fns.length fc) := by unfold World.cell?; rw [Hkept.out f2]; rfl
      clear e1
      go_wp2_with fail
      refine (A3.out w2).mono ?_
      rintro e w2 ⟨rfl, rfl⟩
      cases b3 with
      | false =>
        go_wp2
        go_ret
        exact ⟨rfl, f0.trans f2⟩
      | true =>
        simp only [Bool.true_and]
        go_wp2_with fail
        refine (A4.out _).mono ?_
        rintro e w2 ⟨rfl, rfl⟩
        cases b4 with
        | false =>
          go_wp2
          go_ret
          exact ⟨rfl, f0.trans f2⟩
        | true =>
          simp only [Bool.true_and]
          go_wp2_with fail
          refine (A5.out _ (f0.trans f2)).mono ?_
          rintro e w3 ⟨rfl, f3⟩
          clear e2 e3 e4
          cases b5 with
          | false =>
            go_wp2
            go_ret
            exact ⟨rfl, (f0.trans f2).trans f3⟩
          | true =>
            go_wp2
            go_ret
            exact ⟨rfl, (f0.trans f2).trans f3⟩
end Go.Proofs.YticaoekmlaipnaaDoor

