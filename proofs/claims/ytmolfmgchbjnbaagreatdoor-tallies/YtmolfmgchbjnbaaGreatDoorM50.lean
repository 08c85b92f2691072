import Derived.Test.YtmolfmgchbjnbaaGreatDoorM49
import Derived.Test.YtmolfmgchbjnbaaGreatDoorM42
set_option linter.unusedSimpArgs false
set_option linter.unusedVariables false
namespace Go.Proofs.YtmolfmgchbjnbaaGreatDoor
open Go.RowKit
open Wire Flow Mach
theorem line_eq (out r : ByteArray) : out ++ r ++ ⟨#[10]⟩ = line out r := by
 apply ByteArray.ext
 rw [ByteArray.data_append, ByteArray.data_append]
 show out.data ++ r.data ++ #[10] = out.data ++ (bl r ++ [10]).toArray
 rw [Array.append_assoc]
 congr 1
 apply Array.ext'
 simp [bl]
set_option maxRecDepth 100000 in
set_option maxHeartbeats 2000000 in
theorem lines_any (L : List ByteArray) (hn : L.length ≤ 1000) (hsz : ∀ s ∈ L, s.size ≤ 1000000) {v : Value} (W : World) (h : ArgL W v (L.map .string)) :
    Calls Tryz.prog 10 #[v] W fun e w => e = .returned (.tuple #[.string (linesL none0 L).1, .int .i64 ((linesL none0 L).2 : Nat)]) ∧ w = W := by
  obtain ⟨o, c, rfl, hc, hc2, hx⟩ := h
  rw [List.length_map] at hc hx ⊢
  have HX : Hid _ := hx
  have HZ : Hid _ := hsz
  obtain ⟨R, hR⟩ : ∃ R, linesL none0 L = R := ⟨_, rfl⟩
  rw [hR]
  have HR : Hid _ := hR
  clear hx hR hsz
  go_enter Tryz.func10, Tryz.ntmps10
  go_wp2_with fail
  go_loop [4, 5] (fun p q => ∃ (k : Nat) (out : ByteArray), k ≤ L.length ∧ p = .string out ∧ q = .int .i64 k ∧ out.size ≤ 1000 ∧ Hid (linesL out (L.drop k) = R)) (fun p q => L.length - (intOf q).toNat)
  case atStart => exact ⟨0, none0, by omega, rfl, rfl, by decide, HR.out⟩
  case round =>
    clear HR
    obtain ⟨k, out, hk, rfl, rfl, ho, J⟩ := hrel
    by_cases hlt : k < L.length
    · have g1 : (k : Int) < L.length := by omega
      obtain ⟨x, hx⟩ : ∃ x, L[k]? = some x := ⟨_, List.getElem?_eq_getElem hlt⟩
      obtain ⟨g, off, rfl, -, hcell⟩ := HX.out (by omega)
      have c1 : W.cell? ⟨g, off + k, none⟩ = some (.string x) := hcell k _ (by rw [List.getElem?_map, hx]; rfl)
      have hxs := HZ.out x (List.mem_of_getElem? hx)
      have hd : L.drop k = x :: L.drop (k + 1) := by
        rw [List.drop_eq_getElem_cons hlt]
        congr 1
        rw [List.getElem?_eq_getElem hlt] at hx
        exact Option.some.inj hx
      have HD : Hid _ := hd
      have g2 : IntKind.i64.wrap ((k : Int) + 1) = ((k + 1 : Nat) : Int) := by rw [IntKind.wrap_i64]; omega
      have g3 : IntKind.i64.wrap ((out.size : Int) + (x.size : Int)) = (out.size : Int) + (x.size : Int) := by rw [IntKind.wrap_i64]; omega
      have g4 : IntKind.i64.wrap ((out.size : Int) + (x.size : Int) + 1) = (out.size : Int) + (x.size : Int) + 1 := by rw [IntKind.wrap_i64]; omega
      clear hcell HX hx hd HZ
      by_cases hb : out.size + x.size + 1 > 1000
      · have g5 : (out.size : Int) + (x.size : Int) + 1 > 1000 := by omega
        go_wp2_with fail
        go_ret2
        have e := J.out
        rw [HD.out] at e
        simp only [linesL, if_pos hb] at e
        subst e
        exact ⟨rfl, rfl⟩
      · have g5 : ¬ (out.size : Int) + (x.size : Int) + 1 > 1000 := by omega
        go_wp2_with fail
        have e := J.out
        rw [HD.out] at e
        simp only [linesL, if_neg hb] at e
        refine ⟨⟨k + 1, line out x, by omega, by rw [line_eq], by go_num, by rw [line_size]; omega, e⟩, by simp [intOf]; omega⟩
    · have g1 : ¬ ((k : Int) < L.length) := by omega
      go_wp2_with fail
      go_ret2
      have e := J.out
      rw [List.drop_eq_nil_of_le (by omega)] at e
      simp only [linesL] at e
      subst e
      exact ⟨rfl, rfl⟩
end Go.Proofs.YtmolfmgchbjnbaaGreatDoor
namespace Go.Proofs.YtmolfmgchbjnbaaGreatDoor
open Go.RowKit
open Wire Flow
structure SrcOk (S b : ByteArray) (m : Mo) (gn an : Nat) : Prop where
 cl : Closed m gn an
 rd : RdOk m gn an b
 co : ∀ w : World, Ev.TabS Ev.signs w → Calls Tryz.prog 19 #[.string S] w fun e w' => e = .returned (.tuple #[.string b, .int .i64 ((0 : Nat) : Int), .int .i64 ((0 : Nat) : Int)]) ∧ Ev.Kept w w'
theorem results_row1 {P : Program} {fn : Func} {p u : Tmp} {ty : TypeId} (h : fn.results = #[.cell p ty, .tmp u]) (tmps : Array Value) (w : World) (g : Nat) (t : TypeId) (cs : Array Value) (fr : Nat × Nat) (d : TypeDesc)
  (hp : tmps.getD p undef = .pointer (some ⟨g, 0, none⟩)) (hg : w.heap[g]? = some (.cells cs t fr))
  (hu : P.underlying ty = some d) (hd : (match d with | .struct _ | .array _ _ => true | _ => false) = true) (hi : (P.info? ty).map (·.size) = some cs.size) :
  (results fn tmps).run P w = .ok (.tuple #[.agg cs, tmps.getD u undef]) w := by
 have hp' : tmps[p]?.getD undef = .pointer (some ⟨g, 0, none⟩) := by simpa using hp
 simp [results, h, hp', asAddr, run_loadVar_row w g t ty cs fr d hg hu hd hi]
theorem Ev.TabS.fr {ss : List ByteArray} {w w' : World} (h : Ev.TabS ss w) (F : Fr [] w w') : Ev.TabS ss w' := by
 obtain ⟨B, o, c, h1, h2, h3, h4, h5, h6⟩ := h
 exact ⟨B, o, c, (F.cell (p := ⟨1, 0, none⟩) (by show 1 < _; omega) (by simp)).trans h1, h2, h3, h4, Nat.lt_of_lt_of_le h5 F.size, fun i s hs => (F.cell (p := ⟨B, i + o, none⟩) h5 (by simp)).trans (h6 i s hs)⟩
section
variable {S b : ByteArray} {m : Mo} {gn an : Nat} {W : World} {recs : List ByteArray}
theorem nilD (W : World) : ArgL W (.slice none 0 0) (([] : List Int).map (.int .i64)) := ⟨none, 0, rfl, Nat.le_refl _, by decide, fun h => absurd h (by simp)⟩
set_option maxRecDepth 100000 in
set_option maxHeartbeats 2000000 in
theorem barred_any (hS : SrcOk S b m gn an) (hb : Base W) (ht : Ev.TabS Ev.signs W) {v : Value} (hr : ArgL W v (recs.map .string)) (hs : ¬ Scr recs []) : Calls Tryz.prog 8 #[.string S, v] W fun e w => e = .returned (.bool true) ∧ Fr [] W w := by
 have HC : Hid _ := hS.co W ht
 have HO : Hid (∀ V, Fr [] W V → Calls Tryz.prog 20 #[.string b, v, .slice none 0 0] V (OpnP m recs [] V)) := fun V F => by
  obtain ⟨o, c, rfl, h⟩ := hr
  exact open_any b (hb.fr F) (ht.fr F) hS.cl hS.rd (ArgL.fr ⟨o, c, rfl, h⟩ F) (nilD V)
 have HS : Hid _ := hs
 clear hS hb ht hr hs
 go_enter Tryz.func8, Tryz.ntmps8
 go_wp2_with fail
 refine Calls.mono HC.out ?_
 rintro e V ⟨rfl, K⟩
 have F : Fr [] W V := K.fr
 have HF : Hid _ := F
 clear F K HC
 go_wp2_with fail
 refine Calls.mono (HO.out V HF.out) ?_
 rintro e V2 ⟨F2, ⟨-, rfl⟩ | ⟨h, -⟩⟩
 ·have HF2 : Hid _ := HF.out.trans F2
  clear F2 HO HF
  go_wp2_with fail
  go_ret
  exact ⟨rfl, HF2.out⟩
 ·exact absurd h HS.out
def PldP (m : Mo) (recs : List ByteArray) (W : World) (e : Ending) (w : World) : Prop := Fr [] W w ∧ ∃ D, Mach.Plays (envP m) 100000 (Mach.begin_ m recs []) D ∧ e = .returned (.tuple #[stV D.st D.code D.w.out D.used, .bool true])
theorem goE_closed (hC : Closed m gn an) : GoE (envP m) := by
 have hg := hC.gl
 have ha := hC.ar
 have h1 := hC.g1
 have h2 := hC.a1
 exact goE_of (by rw [hC.tx]; intro s hs; cases hs) (by rw [hC.tx]; decide) (by omega) (by rw [hC.pt]; decide) (by omega) (fun f hf => (hC.facts f hf).locs) hC.ok
set_option maxRecDepth 100000 in
set_option maxHeartbeats 4000000 in
theorem played_any (hS : SrcOk S b m gn an) (hb : Base W) (ht : Ev.TabS Ev.signs W) {v : Value} (hr : ArgL W v (recs.map .string)) (hs : Scr recs []) : Calls Tryz.prog 9 #[.string S, v] W (PldP m recs W) := by
 obtain ⟨W1, hW1⟩ : ∃ W1, W.alloc (.cells #[.int .i64 0, .int .i64 0, .string ⟨#[]⟩, .int .i64 0] 26) = W1 := ⟨_, rfl⟩
 obtain ⟨W2, hW2⟩ : ∃ W2, W1.alloc (.cells #[.int .i64 0, .int .i64 0, .string ⟨#[]⟩, .int .i64 0] 26) = W2 := ⟨_, rfl⟩
 have F1 : Fr [] W W1 := by rw [← hW1]; exact (Fr.refl [] W).alloc _
 have F2 : Fr [] W1 W2 := by rw [← hW2]; exact (Fr.refl [] W1).alloc _
 have k1 : W1.heap[W.heap.size]? = some (.cells #[.int .i64 0, .int .i64 0, .string ⟨#[]⟩, .int .i64 0] 26) := by rw [← hW1]; exact World.alloc_heap_new W _
 have k2 : W2.heap[W1.heap.size]? = some (.cells #[.int .i64 0, .int .i64 0, .string ⟨#[]⟩, .int .i64 0] 26) := by rw [← hW2]; exact World.alloc_heap_new W1 _
 have l1 := (Array.getElem?_eq_some_iff.1 k1).1
 have l2 := (Array.getElem?_eq_some_iff.1 k2).1
 have k1' := (F2.block _ l1 (by simp)).trans k1
 obtain ⟨b4, hb4⟩ : ∃ b4, W.heap.size = b4 := ⟨_, rfl⟩
 obtain ⟨b6, hb6⟩ : ∃ b6, W1.heap.size = b6 := ⟨_, rfl⟩
 have HE : Hid _ := goE_closed hS.cl
 have HC : Hid _ := hS.co W2 (ht.fr (F1.trans F2))
 have HO : Hid (∀ V, Fr [] W2 V → Calls Tryz.prog 20 #[.string b, v, .slice none 0 0] V (OpnP m recs [] V)) := fun V F => by
  obtain ⟨o, c, rfl, h⟩ := hr
  exact open_any b (hb.fr ((F1.trans F2).trans F)) (ht.fr ((F1.trans F2).trans F)) hS.cl hS.rd (ArgL.fr ⟨o, c, rfl, h⟩ ((F1.trans F2).trans F)) (nilD V)
 have HS : Hid _ := hs
 rw [hb4] at k1' l1
 rw [hb6] at k2 l2 l1
 have HK : Hid _ := And.intro (F1.trans F2) (And.intro k1' (And.intro k2 (And.intro l1 l2)))
 clear hS hb ht hr hs F1 F2 k1 k2 k1' l1 l2
 go_enter Tryz.func9, Tryz.ntmps9
 go_wp2_with fail
 refine Calls.mono HC.out ?_
 rintro e V ⟨rfl, K⟩
 have F : Fr [] W2 V := K.fr
 have HF : Hid _ := F
 clear F K HC
 go_wp2_with fail
 refine Calls.mono (HO.out V HF.out) ?_
 rintro e V2 ⟨F2, ⟨h, -⟩ | ⟨-, Y, rfl, X, tag, hR, ht6, -⟩⟩
 ·exact absurd HS.out h
 ·have HR : Hid _ := And.intro F2 (And.intro hR ht6)
  clear F2 hR ht6 HO
  go_wp2_with fail
  refine Calls.mono (Rst.go (N := 100000) HE.out HR.out.2.1 (by omega) (by show 0 + 100000 ≤ _; decide)) ?_
  rintro e V3 ⟨rfl, D, t, hP, hR3, K3⟩
  have F3 : Fr [] V V3 := by
   obtain ⟨F2, -, h6⟩ := HR.out
   exact ⟨K3.os.trans F2.os, K3.tape.trans F2.tape, K3.output.trans F2.output, Nat.le_trans F2.size K3.size, fun k hk _ => (K3.blk k (Nat.lt_of_lt_of_le hk F2.size) (by rw [h6 k hk]; decide)).trans (F2.block k hk (by simp))⟩
  have H3 : Hid _ := And.intro hP (And.intro hR3 F3)
  clear hP hR3 K3 F3 HR
  go_wp2_with fail
  refine Calls.mono (Rst.tell H3.out.2.1) ?_
  rintro e V4 ⟨rfl, F4⟩
  obtain ⟨FW, k4, k6, l4, l6⟩ := HK.out
  have FA : Fr [] W2 V4 := (HF.out.trans H3.out.2.2).trans F4
  have hlt : b4 < W2.heap.size := Nat.lt_trans l4 l6
  replace k4 := (FA.block b4 hlt (by simp)).trans k4
  replace k6 := (FA.block b6 l6 (by simp)).trans k6
  have HB : Hid _ := And.intro (FW.trans FA) (And.intro k4 (And.intro k6 l4))
  obtain ⟨⟨c0, c1, c2, c3⟩, cz⟩ := cells4F k6
  obtain ⟨⟨d0, d1, d2, d3⟩, dz⟩ := cells4F k4
  have f0 := cz 0
  have f1 := cz 1
  have f2 := cz 2
  have f3 := cz 3
  have g0 := dz 0
  have g1 := dz 1
  have g2 := dz 2
  have g3 := dz 3
  have HP : Hid _ := H3.out.1
  have hne : b4 ≠ b6 := by omega
  have hne' : b6 ≠ b4 := by omega
  clear FW k4 k6 l4 l6 FA F4 hlt cz dz H3 HK HE HS HF
  unfold stV at *
  go_wp2_with fail
  obtain ⟨FW, k4, k6, l4⟩ := HB.out
  have hB4 : W.heap.size ≤ b4 := Nat.le_of_eq hb4
  have hB6 : W.heap.size ≤ b6 := Nat.le_trans hB4 (Nat.le_of_lt l4)
  have kk : ∀ x0 x1 x2 x3 : Value, ((((V4.setCell ⟨b6, 0, none⟩ x0).setCell ⟨b6, 1, none⟩ x1).setCell ⟨b6, 2, none⟩ x2).setCell ⟨b6, 3, none⟩ x3).heap[b4]? = some (.cells #[.int .i64 0, .int .i64 0, .string ⟨#[]⟩, .int .i64 0] 26) := fun x0 x1 x2 x3 => by
   rw [Below.heap_setCell _ _ _ _ hne, Below.heap_setCell _ _ _ _ hne, Below.heap_setCell _ _ _ _ hne, Below.heap_setCell _ _ _ _ hne]
   exact k4
  refine bodyPost_ret (results_row1 rfl _ _ b4 26 #[.int .i64 (D.st : Nat), .int .i64 D.code, .string D.w.out, .int .i64 (D.used : Nat)] (0, 0) _ rfl (set4_block (kk _ _ _ _) _ _ _ _) Tryz.underlying26 rfl (by kernel_rfl)) rfl ?_
  refine ⟨?_, D, HP.out, rfl⟩
  exact (((((((FW.setCell (.inr hB6) _).setCell (.inr hB6) _).setCell (.inr hB6) _).setCell (.inr hB6) _).setCell (.inr hB4) _).setCell (.inr hB4) _).setCell (.inr hB4) _).setCell (.inr hB4) _
end
end Go.Proofs.YtmolfmgchbjnbaaGreatDoor
namespace Go.Proofs.YtmolfmgchbjnbaaGreatDoor
open Go.RowKit
open Wire Flow Mach
def wrd : List UInt8 → List UInt8 → List UInt8
 | f, [] => f
 | f, c :: l => if blankB c = true then (if f = [] then wrd [] l else f) else wrd (f ++ [c]) l
theorem wrd_ok (l : List UInt8) : ∀ f, (fieldsL f l).getD 0 none0 = ⟨(wrd f l).toArray⟩ := by
 induction l with
 | nil =>
  intro f
  simp only [fieldsL, wrd]
  split
  ·rename_i h; subst h; rfl
  ·rfl
 | cons c l ih =>
  intro f
  simp only [fieldsL, wrd]
  split
  ·split
   ·exact ih []
   ·rfl
  ·exact ih _
theorem word_wrd (s : ByteArray) : wordL s = ⟨(wrd [] (bl s)).toArray⟩ := wrd_ok (bl s) []
theorem wrd_len (l : List UInt8) : ∀ f, (wrd f l).length ≤ f.length + l.length := by
 induction l with
 | nil => intro f; simp [wrd]
 | cons c l ih =>
  intro f
  simp only [wrd, List.length_cons]
  split
  ·split
   ·have := ih []; simp at this; omega
   ·omega
  ·have := ih (f ++ [c]); simp at this; omega
theorem drop_bl {s : ByteArray} {k : Nat} (h : k < s.size) : (bl s).drop k = s[k] :: (bl s).drop (k + 1) := by
 have h' : k < (bl s).length := by rw [bl_length]; exact h
 rw [List.drop_eq_getElem_cons h']
 congr 1
theorem snoc_byte (f : ByteArray) {s : ByteArray} {k : Nat} (h : k < s.size) : f ++ s.extract k (k + 1) = ⟨(bl f ++ [s[k]]).toArray⟩ := by
 apply ByteArray.ext
 rw [ByteArray.data_append, ByteArray.data_extract]
 apply Array.ext'
 have h1 : (s.data.extract k (k + 1)).toList = [s[k]] := by
  rw [Array.toList_extract]
  have hk : k < s.data.toList.length := by simpa using h
  simp only [List.extract_eq_take_drop]
  rw [List.drop_eq_getElem_cons hk]
  simp
  rfl
 rw [Array.toList_append, h1]
 simp [bl]
theorem not_empty {x : ByteArray} (h : x ≠ ⟨#[]⟩) : x.toList.isEmpty = false := by
 rw [ByteArray.toList_eq]
 cases x with
 | mk d =>
  cases hl : d.toList with
  | nil =>
   exfalso
   apply h
   apply ByteArray.ext
   apply Array.ext'
   exact hl
  | cons a r => rfl
set_option maxRecDepth 100000 in
set_option maxHeartbeats 4000000 in
theorem word_any (s : ByteArray) (hs : s.size ≤ 1000000) (W : World) : Calls Tryz.prog 24 #[.string s] W fun e w => e = .returned (.string (wordL s)) ∧ w = W := by
  rw [word_wrd]
  obtain ⟨R, hR⟩ : ∃ R, wrd [] (bl s) = R := ⟨_, rfl⟩
  rw [hR]
  have HR : Hid (wrd (bl ⟨#[]⟩) ((bl s).drop 0) = R) := hR
  clear hR
  go_enter Tryz.func24, Tryz.ntmps24
  go_wp2_with fail
  go_loop [3, 4] (fun p q => ∃ (k : Nat) (f : ByteArray), k ≤ s.size ∧ p = .string f ∧ q = .int .i64 k ∧ f.size ≤ k ∧ Hid (wrd (bl f) ((bl s).drop k) = R)) (fun p q => s.size - (intOf q).toNat)
  case atStart => exact ⟨0, ⟨#[]⟩, by omega, rfl, rfl, Nat.le_refl _, HR⟩
  case round =>
    clear HR
    obtain ⟨k, f, hk, rfl, rfl, hf, J⟩ := hrel
    by_cases hlt : k < s.size
    · have g1 : (k : Int) < s.size := by omega
      have g2 : IntKind.i64.wrap ((k : Int) + 1) = ((k + 1 : Nat) : Int) := by rw [IntKind.wrap_i64]; omega
      have HD : Hid _ := drop_bl hlt
      have HS : Hid _ := snoc_byte f hlt
      have hc256 : s[k].toNat < 256 := UInt8.toNat_lt _
      obtain ⟨c, hc⟩ : ∃ c, s[k] = c := ⟨_, rfl⟩
      have Hc : Hid (s[k] = c) := hc
      rw [hc] at hc256
      have hblank : blankB c = (decide (c.toNat = 32) || decide (c.toNat = 9) || decide (c.toNat = 10)) := by
        unfold blankB
        have key : ∀ n : Nat, n < 256 → (c == UInt8.ofNat n) = decide (c.toNat = n) := fun n hn => by
          rw [Bool.eq_iff_iff]
          simp only [beq_iff_eq, decide_eq_true_eq]
          constructor
          · intro h; rw [h]; simp; omega
          · intro h; rw [← h]; simp
        rw [show (32 : UInt8) = UInt8.ofNat 32 from rfl, show (9 : UInt8) = UInt8.ofNat 9 from rfl, show (10 : UInt8) = UInt8.ofNat 10 from rfl, key 32 (by omega), key 9 (by omega), key 10 (by omega)]
      have HB : Hid _ := hblank
      clear hblank
      by_cases hb : c.toNat = 32 ∨ c.toNat = 9 ∨ c.toNat = 10
      · have hbl : blankB c = true := by
          rw [HB.out]
          rcases hb with h | h | h <;> simp [h]
        have HBL : Hid _ := hbl
        clear hbl HB
        by_cases h0 : f = ⟨#[]⟩
        · have hnext : Hid (wrd (bl f) ((bl s).drop (k + 1)) = R) := by
            have e := J.out
            rw [HD.out, Hc.out] at e
            simp only [wrd, HBL.out, if_true] at e
            subst h0
            exact e
          subst h0
          clear J HD HS HBL
          rcases hb with h | h | h
          all_goals
            have e1 : ((c.toNat : Int) == 32) = decide (c.toNat = 32) := by simp [h]
            have e2 : ((c.toNat : Int) == 9) = decide (c.toNat = 9) := by simp [h]
            have e3 : ((c.toNat : Int) == 10) = decide (c.toNat = 10) := by simp [h]
            rw [h] at e1 e2 e3
            go_wp2_with fail
            exact ⟨⟨k + 1, ⟨#[]⟩, by omega, rfl, by go_num, Nat.zero_le _, hnext⟩, by simp [intOf]; omega⟩
        · have hret : Hid (f = ⟨R.toArray⟩) := by
            have e := J.out
            rw [HD.out, Hc.out] at e
            simp only [wrd, HBL.out, if_true] at e
            rw [if_neg] at e
            · rw [← e]
              apply ByteArray.ext
              simp [bl]
            · intro q
              apply h0
              apply ByteArray.ext
              apply Array.ext'
              simpa [bl] using q
          have hne : f.toList.isEmpty = false := not_empty h0
          clear J HD HS HBL
          rcases hb with h | h | h
          all_goals
            go_wp2_with fail
            go_ret
            exact ⟨congrArg (fun x => Ending.returned (Value.string x)) hret.out, rfl⟩
      · have n1 : ((c.toNat : Int) == 32) = false := by simp; omega
        have n2 : ((c.toNat : Int) == 9) = false := by simp; omega
        have n3 : ((c.toNat : Int) == 10) = false := by simp; omega
        have hnext : Hid (wrd (bl (f ++ s.extract k (k + 1))) ((bl s).drop (k + 1)) = R) := by
          have e := J.out
          rw [HD.out, Hc.out] at e
          have hbl : blankB c = false := by
            rw [HB.out]
            simp
            omega
          simp only [wrd, hbl, if_false, Bool.false_eq_true] at e
          rw [HS.out, Hc.out]
          exact e
        have hz : (f ++ s.extract k (k + 1)).size ≤ k + 1 := by
          rw [ByteArray.size_append, ByteArray.size_extract]
          omega
        have g3 : ((k + 1 : Nat) : Int) ≤ s.size := by omega
        have g4 : IntKind.i64.wrap ((k : Int) + 1) = (k : Int) + 1 := by rw [IntKind.wrap_i64]; omega
        clear J HD HS HB hb
        go_wp2_with fail
        exact ⟨⟨k + 1, _, by omega, rfl, by go_num, hz, hnext⟩, by simp [intOf]; omega⟩
    · have g1 : ¬ ((k : Int) < s.size) := by omega
      go_wp2_with fail
      go_ret
      have e := J.out
      rw [List.drop_eq_nil_of_le (by rw [bl_length]; omega)] at e
      simp only [wrd] at e
      refine ⟨?_, rfl⟩
      rw [← e]
      rfl
def cntE (e : ByteArray × Nat) : List Value := [.string e.1, .int .i64 (e.2 : Nat)]
def cntC (L : Tl) : List Value := L.flatMap cntE
def CntAt (W : World) (v : Value) (L : Tl) : Prop := ∃ o c, v = .slice o L.length c ∧ L.length ≤ c ∧ (0 < L.length → ∃ g, o = some ⟨g, 0, none⟩ ∧ g < W.heap.size ∧ ∀ (i : Nat) (e : ByteArray × Nat), L[i]? = some e → W.cell? ⟨g, i * 2, none⟩ = some (.string e.1) ∧ W.cell? ⟨g, i * 2 + 1, none⟩ = some (.int .i64 (e.2 : Nat)))
theorem cnt_of_own {W : World} {B : Nat} {v : Value} {L : Tl} (h : W.ownsRow B 54 2 v L.length (cntC L)) : CntAt W v L := by
 rcases Nat.eq_zero_or_pos L.length with h0 | h0
 ·obtain ⟨o, c, rfl⟩ := own_form h
  exact ⟨o, c, rfl, by omega, fun h => by omega⟩
 ·obtain ⟨g, cap, rfl, hc, hg⟩ := own_some h h0
  refine ⟨_, cap, rfl, hc, fun _ => ⟨g, rfl, hg, fun i e hi => ?_⟩⟩
  have key : ∀ j, j < 2 → (cntC L)[i * 2 + j]? = (cntE e)[j]? := fun j hj => flat_get (f := cntE) (z := 2) (fun _ => rfl) hi hj
  exact ⟨own_cell h ((key 0 (by omega)).trans rfl), own_cell h ((key 1 (by omega)).trans rfl)⟩
theorem CntAt.fr {W W' : World} {v : Value} {L : Tl} (h : CntAt W v L) (F : Fr [] W W') : CntAt W' v L := by
 obtain ⟨o, c, h1, h2, h3⟩ := h
 refine ⟨o, c, h1, h2, fun h0 => ?_⟩
 obtain ⟨g, e1, e2, e3⟩ := h3 h0
 exact ⟨g, e1, Nat.lt_of_lt_of_le e2 F.size, fun i e hi => ⟨(F.cell (p := ⟨g, i * 2, none⟩) e2 (by simp)).trans (e3 i e hi).1, (F.cell (p := ⟨g, i * 2 + 1, none⟩) e2 (by simp)).trans (e3 i e hi).2⟩⟩
def whr : Tl → ByteArray → Int
 | [], _ => -1
 | e :: L, t => if e.1 = t then 0 else if whr L t < 0 then -1 else whr L t + 1
theorem whr_neg {L : Tl} {t : ByteArray} : (∀ (j : Nat) e, L[j]? = some e → e.1 ≠ t) → whr L t = -1 := by
 induction L with
 | nil => intro _; rfl
 | cons e L ih =>
  intro h
  have h0 := h 0 e rfl
  have := ih fun j x hx => h (j + 1) x (by simpa using hx)
  simp only [whr, if_neg h0, this]
  rfl
theorem whr_at {L : Tl} {t : ByteArray} : ∀ {k : Nat}, (∀ (j : Nat) e, j < k → L[j]? = some e → e.1 ≠ t) → (∃ e, L[k]? = some e ∧ e.1 = t) → whr L t = k := by
 induction L with
 | nil => rintro k _ ⟨e, h, -⟩; simp at h
 | cons a L ih =>
  rintro k h ⟨e, he, ht⟩
  cases k with
  | zero =>
   simp at he
   subst he
   simp only [whr, if_pos ht]
   rfl
  | succ k =>
   have h0 := h 0 a (by omega) rfl
   have := ih (k := k) (fun j x hj hx => h (j + 1) x (by omega) (by simpa using hx)) ⟨e, by simpa using he, ht⟩
   simp only [whr, if_neg h0, this]
   rw [if_neg (by omega)]
   omega
set_option maxRecDepth 100000 in
set_option maxHeartbeats 4000000 in
theorem where_any {L : Tl} (hL : L.length ≤ 1000) {v : Value} (W : World) (h : CntAt W v L) (t : ByteArray) : Calls Tryz.prog 25 #[v, .string t] W fun e w => e = .returned (.int .i64 (whr L t)) ∧ w = W := by
  obtain ⟨o, c, rfl, hc, hx⟩ := h
  have HX : Hid _ := hx
  obtain ⟨R, hR⟩ : ∃ R, whr L t = R := ⟨_, rfl⟩
  rw [hR]
  have HR : Hid _ := hR
  clear hx hR
  have J0 : Hid (∀ (j : Nat) (e : ByteArray × Nat), j < 0 → L[j]? = some e → e.1 ≠ t) := fun j e hj => by omega
  go_enter Tryz.func25, Tryz.ntmps25
  go_wp2_with fail
  go_loop [5] (fun q => ∃ k : Nat, k ≤ L.length ∧ q = .int .i64 k ∧ Hid (∀ (j : Nat) (e : ByteArray × Nat), j < k → L[j]? = some e → e.1 ≠ t)) (fun q => L.length - (intOf q).toNat)
  case atStart => exact ⟨0, by omega, rfl, J0⟩
  case round =>
    clear J0
    obtain ⟨k, hk, rfl, J⟩ := hrel
    by_cases hlt : k < L.length
    · have g1 : (k : Int) < L.length := by omega
      have g2 : IntKind.i64.wrap ((k : Int) + 1) = ((k + 1 : Nat) : Int) := by rw [IntKind.wrap_i64]; omega
      obtain ⟨x, hx⟩ : ∃ x, L[k]? = some x := ⟨_, List.getElem?_eq_getElem hlt⟩
      obtain ⟨g, rfl, -, hcell⟩ := HX.out (by omega)
      obtain ⟨c0, -⟩ := hcell k x hx
      have Hx : Hid _ := hx
      obtain ⟨y, n⟩ := x
      clear hcell HX hx
      by_cases hy : y = t
      · subst hy
        go_wp2_with fail
        go_ret
        exact ⟨congrArg (fun x => Ending.returned (Value.int .i64 x)) ((whr_at J.out ⟨_, Hx.out, rfl⟩).symm.trans HR.out), rfl⟩
      · have g3 : (y.toList == t.toList) = false := by
          rw [beq_eq_false_iff_ne, ByteArray.toList_eq, ByteArray.toList_eq]
          intro q
          exact hy (ByteArray.ext (Array.ext' q))
        go_wp2_with fail
        refine ⟨⟨k + 1, by omega, by go_num, fun j e hj he => ?_⟩, by simp [intOf]; omega⟩
        rcases Nat.lt_or_ge j k with c2 | c2
        · exact J.out j e c2 he
        · have : j = k := by omega
          subst this
          have hxx := Hx.out
          rw [hxx] at he
          cases he
          exact hy
    · have g1 : ¬ ((k : Int) < L.length) := by omega
      go_wp2_with fail
      go_ret
      exact ⟨congrArg (fun x => Ending.returned (Value.int .i64 x)) ((whr_neg fun j e he => J.out j e (by have := (List.getElem?_eq_some_iff.1 he).1; omega) he).symm.trans HR.out), rfl⟩
end Go.Proofs.YtmolfmgchbjnbaaGreatDoor
namespace Go.Proofs.YtmolfmgchbjnbaaGreatDoor
open Go.RowKit
open Wire Flow Mach
theorem info54 : (Tryz.prog.info? 54).map (fun i => (i.zero, i.size, i.bytes)) = some (some (.agg #[.string ⟨#[]⟩, .int .i64 0]), 2, 24) := by kernel_rfl
theorem build54 (t : ByteArray) (n : Int) (w : World) : (Instr.build 54 #[(0, .string t), (1, .int .i64 n)]).run Tryz.prog w = .ok (.agg #[.string t, .int .i64 n]) w := by
 kernel_rfl
theorem buildS34 (t : ByteArray) (n : Int) (w : World) : (Instr.buildSlice 34 1 #[(0, .agg #[.string t, .int .i64 n])]).run Tryz.prog w = .ok (.slice (some ⟨w.heap.size, 0, none⟩) 1 1) (w.alloc (.cells #[.string t, .int .i64 n] 54)) := by
 kernel_rfl
structure OwnC (W0 : World) (L : Tl) (v : Value) (w : World) : Prop where
 own : w.ownsRow W0.heap.size 54 2 v L.length (cntC L)
 fr : Fr [] W0 w
theorem OwnC.start {W0 w : World} (F : Fr [] W0 w) : OwnC W0 [] (.slice none 0 0) w := ⟨World.ownsRow_nil _ _ _ _, F⟩
theorem OwnC.more {W0 w w' : World} {L : Tl} {v : Value} (h : OwnC W0 L v w) (F : Fr [] w w') : OwnC W0 L v w' := ⟨own_of_block h.own fun g hg => F.block g (h.own.lt g hg).2 (by simp), h.fr.trans F⟩
theorem OwnC.grown {W0 w w' : World} {L : Tl} {v v' : Value} {e : ByteArray × Nat} (h : OwnC W0 L v w) (hown : w'.ownsRow W0.heap.size 54 2 v' (L.length + 1) (cntC L ++ cntE e)) (hg : w.grownBy w' v.ownBlock) : OwnC W0 (L ++ [e]) v' w' :=
 ⟨by rw [List.length_append]; unfold cntC at hown ⊢; rw [List.flatMap_append]; simpa using hown, ⟨hg.os.trans h.fr.os, hg.tape.trans h.fr.tape, hg.output.trans h.fr.output, Nat.le_trans h.fr.size hg.size, fun k hk hn => (hg.block k (Nat.lt_of_lt_of_le hk h.fr.size) (fun q => by have := (h.own.lt k q.symm).1; omega)).trans (h.fr.block k hk hn)⟩⟩
theorem cntC_set {L : Tl} {t : ByteArray} : ∀ {k : Nat}, whr L t = (k : Int) → ∃ n, L[k]? = some (t, n) ∧ (cntC L).set (k * 2 + 1) (.int .i64 ((n + 1 : Nat) : Int)) = cntC (bump L t) ∧ (bump L t).length = L.length ∧ hasT L t = true := by
 induction L with
 | nil => intro k h; simp [whr] at h
 | cons a L ih =>
  intro k h
  simp only [whr] at h
  by_cases c : a.1 = t
  ·rw [if_pos c] at h
   obtain rfl : k = 0 := by omega
   refine ⟨a.2, by rw [← c]; rfl, ?_, ?_, ?_⟩
   ·show (cntE a ++ cntC L).set 1 _ = cntC (if a.1 = t then (t, a.2 + 1) :: L else _)
    rw [if_pos c, ← c]
    rfl
   ·show (if a.1 = t then (t, a.2 + 1) :: L else _).length = _
    rw [if_pos c]
    rfl
   ·show (decide (a.1 = t) || hasT L t) = true
    simp [c]
  ·rw [if_neg c] at h
   by_cases hn : whr L t < 0
   ·rw [if_pos hn] at h; omega
   ·rw [if_neg hn] at h
    obtain ⟨k', rfl⟩ : ∃ k', k = k' + 1 := ⟨k - 1, by omega⟩
    obtain ⟨n, h1, h2, h3, h4⟩ := ih (k := k') (by omega)
    refine ⟨n, by simpa using h1, ?_, ?_, ?_⟩
    ·show (cntE a ++ cntC L).set ((k' + 1) * 2 + 1) _ = cntC (if a.1 = t then _ else a :: bump L t)
     rw [if_neg c]
     show _ = cntE a ++ cntC (bump L t)
     rw [← h2]
     simp only [cntE, List.cons_append, List.nil_append]
     rw [show (k' + 1) * 2 + 1 = k' * 2 + 1 + 1 + 1 by omega]
     rfl
    ·show (if a.1 = t then _ else a :: bump L t).length = _
     rw [if_neg c]
     simp [h3]
    ·show (decide (a.1 = t) || hasT L t) = true
     simp [h4]
theorem whr_cases (L : Tl) (t : ByteArray) : whr L t = -1 ∧ hasT L t = false ∨ ∃ k : Nat, whr L t = (k : Int) ∧ k < L.length := by
 induction L with
 | nil => exact .inl ⟨rfl, rfl⟩
 | cons a L ih =>
  simp only [whr]
  by_cases c : a.1 = t
  ·exact .inr ⟨0, by rw [if_pos c]; rfl, by simp⟩
  ·rw [if_neg c]
   rcases ih with ⟨h1, h2⟩ | ⟨k, h1, h2⟩
   ·refine .inl ⟨by rw [h1]; rfl, ?_⟩
    show (decide (a.1 = t) || hasT L t) = false
    simp [c, h2]
   ·exact .inr ⟨k + 1, by rw [h1, if_neg (by omega)]; simp, by simp; omega⟩
theorem wordL_size (s : ByteArray) : (wordL s).size ≤ s.size := by
 rw [word_wrd]
 have := wrd_len (bl s) []
 show (wrd [] (bl s)).toArray.size ≤ _
 simp
 simp [bl_length] at this
 exact this
theorem bump_le {L : Tl} {t : ByteArray} {b : Nat} (hb : ∀ x ∈ L, x.2 ≤ b ∧ x.1.size ≤ 100) (ht : t.size ≤ 100) : ∀ x ∈ bump L t, x.2 ≤ b + 1 ∧ x.1.size ≤ 100 := by
 induction L with
 | nil => intro x hx; cases hx
 | cons e L ih =>
  intro x hx
  simp only [bump] at hx
  split at hx
  ·rcases List.mem_cons.1 hx with rfl | hx
   ·have := (hb e (by simp)).1
    exact ⟨by show e.2 + 1 ≤ b + 1; omega, ht⟩
   ·have := hb x (by simp [hx]); exact ⟨by omega, this.2⟩
  ·rcases List.mem_cons.1 hx with rfl | hx
   ·have := hb x (by simp); exact ⟨by omega, this.2⟩
   ·exact ih (fun y hy => hb y (by simp [hy])) x hx
def CntR (R : Option Tl) (W : World) (e : Ending) (w : World) : Prop := ∃ v, e = .returned (.tuple #[v, .bool R.isSome]) ∧ Fr [] W w ∧ CntAt w v (R.getD []) ∧ (R.getD []).length ≤ 30 ∧ ∀ x ∈ R.getD [], x.2 ≤ 1000 ∧ x.1.size ≤ 100
set_option maxRecDepth 100000 in
set_option maxHeartbeats 4000000 in
theorem counted_any {recs : List ByteArray} (hn : recs.length ≤ 50) (hsz : ∀ s ∈ recs, s.size ≤ 100) {v : Value} (W : World) (h : ArgL W v (recs.map .string)) : Calls Tryz.prog 13 #[v] W (CntR (cntF [] recs) W) := by
  obtain ⟨i0, hi, hz0, hz1, hz2⟩ := info_parts info54
  obtain ⟨o, c, rfl, hc, hc2, hx⟩ := h
  rw [List.length_map] at hc hx ⊢
  have HX : Hid _ := hx
  have HZ : Hid _ := hsz
  obtain ⟨R, hR⟩ : ∃ R, cntF [] recs = R := ⟨_, rfl⟩
  rw [hR]
  have HR : Hid (cntF [] (recs.drop 0) = R) := hR
  clear hx hR hsz
  go_enter Tryz.func13, Tryz.ntmps13
  go_wp2_with fail
  go_loopw [4, 5] (fun l q wr => ∃ (k : Nat) (L : Tl), k ≤ recs.length ∧ q = .int .i64 k ∧ L.length ≤ 30 ∧ Hid (OwnC W L l wr) ∧ Hid (∀ x ∈ L, x.2 ≤ k ∧ x.1.size ≤ 100) ∧ Hid (cntF L (recs.drop k) = R)) (fun l q _ => recs.length - (intOf q).toNat)
  case atStart => exact ⟨0, [], by omega, rfl, by simp, OwnC.start (Fr.refl [] W), (fun x hx => by cases hx), HR.out⟩
  case round =>
    clear HR
    obtain ⟨k, L, hk, rfl, hL, J, HB, HC⟩ := hrel
    obtain ⟨lo, lc, rfl⟩ := own_form J.out.own
    by_cases hlt : k < recs.length
    · have g1 : (k : Int) < recs.length := by omega
      have g2 : IntKind.i64.wrap ((k : Int) + 1) = ((k + 1 : Nat) : Int) := by rw [IntKind.wrap_i64]; omega
      obtain ⟨x, hx⟩ : ∃ x, recs[k]? = some x := ⟨_, List.getElem?_eq_getElem hlt⟩
      obtain ⟨g, off, rfl, hgl, hcell⟩ := HX.out (by omega)
      have c1 : wr.cell? ⟨g, off + k, none⟩ = some (.string x) := (J.out.fr.cell (p := ⟨g, off + k, none⟩) hgl (by simp)).trans (hcell k _ (by rw [List.getElem?_map, hx]; rfl))
      have hxs := HZ.out x (List.mem_of_getElem? hx)
      have hd : recs.drop k = x :: recs.drop (k + 1) := by
        rw [List.drop_eq_getElem_cons hlt]
        congr 1
        rw [List.getElem?_eq_getElem hlt] at hx
        exact Option.some.inj hx
      have HS : Hid (cntF L (x :: recs.drop (k + 1)) = R) := by rw [← hd]; exact HC.out
      have HW : Hid _ := word_any x (by omega) wr
      have HH : Hid _ := where_any (L := L) (by omega) wr (cnt_of_own J.out.own) (wordL x)
      have hts : (wordL x).size ≤ 100 := Nat.le_trans (wordL_size x) hxs
      have HCS : Hid (cntF L (x :: recs.drop (k + 1)) = (cntS L (wordL x)).bind fun L' => cntF L' (recs.drop (k + 1))) := rfl
      clear hcell HX hx hd HZ HC hgl
      generalize wordL x = t at *
      go_wp2_with fail
      refine Calls.mono HW.out ?_
      rintro e W1 ⟨rfl, hW1⟩
      replace hW1 := hW1.symm
      subst hW1
      go_wp2_with fail
      refine Calls.mono HH.out ?_
      rintro e W1 ⟨rfl, hW1⟩
      replace hW1 := hW1.symm
      subst hW1
      clear HW HH
      rcases whr_cases L t with ⟨hw, hh⟩ | ⟨j, hw, hj⟩
      · rw [hw]
        by_cases hf : 30 ≤ L.length
        · have g3 : (30 : Int) ≤ L.length := by omega
          have Hnone : Hid (R = none) := by
            have e := HS.out
            rw [HCS.out] at e
            unfold cntS at e
            rw [if_neg (by rw [hh]; decide), if_pos hf] at e
            exact e.symm
          go_wp2_with fail
          go_ret2
          have := Hnone.out
          subst this
          exact ⟨_, rfl, J.out.fr, ⟨none, 0, rfl, Nat.le_refl _, fun h => by simp at h⟩, by simp, fun x hx => by cases hx⟩
        · have g3 : ¬ (30 : Int) ≤ L.length := by omega
          have Hnext : Hid (cntF (L ++ [(t, 1)]) (recs.drop (k + 1)) = R) := by
            have e := HS.out
            rw [HCS.out] at e
            unfold cntS at e
            rw [if_neg (by rw [hh]; decide), if_neg hf] at e
            exact e
          have hbd := build54 t 1
          have hbs := buildS34 t 1
          have hown := J.out.own
          have hsz2 := J.out.fr.size
          go_wp2_with (at_builtin; refine wpList_append_own _ rfl _ _ 34 rfl W.heap.size 54 i0 (.agg #[.string ⟨#[]⟩, .int .i64 0]) 2 24 Tryz.underlying34 hi hz0 hz1 hz2 rfl (by decide) _ _ _ rfl (hown.alloc _) ⟨wr.heap.size, 0, none⟩ 1 1 [.string t, .int .i64 1] rfl rfl (cells_new wr #[.string t, .int .i64 1] 54) (by intro u hu; simp at hu; rcases hu with rfl | rfl <;> rfl) (by unfold maxLen; omega) (by omega) (by simp; omega) ?_)
          intro v' w3 hown' hgrow _
          have J3 : OwnC W (L ++ [(t, 1)]) v' w3 := (J.out.more ((Fr.refl [] wr).alloc _)).grown (e := (t, 1)) hown' hgrow
          have HJ3 : Hid _ := J3
          clear hown hown' hgrow J3 J
          obtain ⟨b0, cap3, rfl⟩ := own_form HJ3.out.own
          go_wp2
          refine ⟨⟨k + 1, L ++ [(t, 1)], by omega, by go_num, by simp; omega, HJ3, fun y hy => ?_, Hnext⟩, by simp [intOf]; omega⟩
          rcases List.mem_append.1 hy with hy | hy
          · have := HB.out y hy; exact ⟨by omega, this.2⟩
          · simp at hy
            subst hy
            exact ⟨by show 1 ≤ k + 1; omega, hts⟩
      · rw [hw]
        obtain ⟨n, hLj, hset, hlen, hhas⟩ := cntC_set hw
        obtain ⟨gl, cap, hv, hcap, hgl⟩ := own_some J.out.own (by omega)
        cases hv
        have hown := J.out.own
        have key : (cntC L)[j * 2 + 1]? = some (.int .i64 (n : Nat)) := (flat_get (f := cntE) (z := 2) (fun _ => rfl) hLj (j := 1) (by omega)).trans rfl
        have d1 := own_cell hown key
        have f1 := own_thaw hown (j * 2 + 1)
        have hn1 := (HB.out _ (List.mem_of_getElem? hLj)).1
        have hn1 : n ≤ k := hn1
        have g3 : (j : Int) < L.length := by omega
        have g4 : IntKind.i64.wrap ((n : Int) + 1) = ((n + 1 : Nat) : Int) := by rw [IntKind.wrap_i64]; omega
        have hb1 := (hown.lt gl rfl).1
        have HJ3 : Hid (OwnC W (bump L t) (.slice (some ⟨gl, 0, none⟩) L.length lc) (wr.setCell ⟨gl, j * 2 + 1, none⟩ (.int .i64 ((n + 1 : Nat) : Int)))) := by
          refine ⟨?_, J.out.fr.setCell (.inr hb1) _⟩
          have := own_set hown (j := j * 2 + 1) (by omega) (.int .i64 ((n + 1 : Nat) : Int))
          rw [hset] at this
          rw [hlen]
          exact this
        have Hnext : Hid (cntF (bump L t) (recs.drop (k + 1)) = R) := by
          have e := HS.out
          rw [HCS.out] at e
          unfold cntS at e
          rw [if_pos hhas] at e
          exact e
        have HBs : Hid (∀ x ∈ bump L t, x.2 ≤ k + 1 ∧ x.1.size ≤ 100) := bump_le HB.out hts
        have HL : Hid ((bump L t).length = L.length) := hlen
        clear J hown key hLj hset hlen hhas HB hw HS HCS hcap hgl
        go_wp2_with fail
        exact ⟨⟨k + 1, bump L t, by omega, by go_num, by rw [HL.out]; exact hL, HJ3, HBs, Hnext⟩, by simp [intOf]; omega⟩
    · have g1 : ¬ ((k : Int) < recs.length) := by omega
      have Hend : Hid (R = some L) := by
        have e := HC.out
        rw [List.drop_eq_nil_of_le (by omega)] at e
        exact e.symm
      go_wp2_with fail
      go_ret2
      have := Hend.out
      subst this
      exact ⟨_, rfl, J.out.fr, cnt_of_own J.out.own, hL, fun y hy => by have := HB.out y hy; exact ⟨by omega, this.2⟩⟩
end Go.Proofs.YtmolfmgchbjnbaaGreatDoor
