import Derived.Test.YtmolfmgchbjnbaaGreatDoorM46
import Derived.Test.YtmolfmgchbjnbaaGreatDoorM42
import Derived.Test.YtmolfmgchbjnbaaGreatDoorM19
set_option linter.unusedSimpArgs false
set_option linter.unusedVariables false
namespace Go.Proofs.YtmolfmgchbjnbaaGreatDoor
open Go.RowKit
open Wire Flow Mach
theorem line_eq (out r : ByteArray) : out ++ r ++ ⟨#[10]⟩ = line out r := by
  apply ByteArray.ext
  rw [ByteArray.data_append, ByteArray.data_append]
  show out.data ++ r.data ++ #[10] = out.data ++ (bl r ++ [10]).toArray
  rw [Array.append_assoc]
  congr 1
  apply Array.ext'
  simp [bl]
set_option maxRecDepth 100000 in
set_option maxHeartbeats 2000000 in
theorem lines_any (L : List ByteArray) (hn : L.length ≤ 1000) (hsz : ∀ s ∈ L, s.size ≤ 1000000) {v : Value} (W : World) (h : ArgL W v (L.map .string)) :
    Calls Tryz.prog 10 #[v] W fun e w => e = .returned (.tuple #[.string (linesL none0 L).1, .int .i64 ((linesL none0 L).2 : Nat)]) ∧ w = W := by
  obtain ⟨o, c, rfl, hc, hc2, hx⟩ := h
  rw [List.length_map] at hc hx ⊢
  have HX : Hid _ := hx
  have HZ : Hid _ := hsz
  obtain ⟨R, hR⟩ : ∃ R, linesL none0 L = R := ⟨_, rfl⟩
  rw [hR]
  have HR : Hid _ := hR
  clear hx hR hsz
  go_enter Tryz.func10, Tryz.ntmps10
  go_wp2_with fail
  go_loop [4, 5] (fun p q => ∃ (k : Nat) (out : ByteArray), k ≤ L.length ∧ p = .string out ∧ q = .int .i64 k ∧ out.size ≤ 1000 ∧ Hid (linesL out (L.drop k) = R)) (fun p q => L.length - (intOf q).toNat)
  case atStart => exact ⟨0, none0, by omega, rfl, rfl, by decide, HR.out⟩
  case round =>
    clear HR
    obtain ⟨k, out, hk, rfl, rfl, ho, J⟩ := hrel
    by_cases hlt : k < L.length
    · have g1 : (k : Int) < L.length := by omega
      obtain ⟨x, hx⟩ : ∃ x, L[k]? = some x := ⟨_, List.getElem?_eq_getElem hlt⟩
      obtain ⟨g, off, rfl, -, hcell⟩ := HX.out (by omega)
      have c1 : W.cell? ⟨g, off + k, none⟩ = some (.string x) := hcell k _ (by rw [List.getElem?_map, hx]; rfl)
      have hxs := HZ.out x (List.mem_of_getElem? hx)
      have hd : L.drop k = x :: L.drop (k + 1) := by
        rw [List.drop_eq_getElem_cons hlt]
        congr 1
        rw [List.getElem?_eq_getElem hlt] at hx
        exact Option.some.inj hx
      have HD : Hid _ := hd
      have g2 : IntKind.i64.wrap ((k : Int) + 1) = ((k + 1 : Nat) : Int) := by rw [IntKind.wrap_i64]; omega
      have g3 : IntKind.i64.wrap ((out.size : Int) + (x.size : Int)) = (out.size : Int) + (x.size : Int) := by rw [IntKind.wrap_i64]; omega
      have g4 : IntKind.i64.wrap ((out.size : Int) + (x.size : Int) + 1) = (out.size : Int) + (x.size : Int) + 1 := by rw [IntKind.wrap_i64]; omega
      clear hcell HX hx hd HZ
      by_cases hb : out.size + x.size + 1 > 1000
      · have g5 : (out.size : Int) + (x.size : Int) + 1 > 1000 := by omega
        go_wp2_with fail
        go_ret2
        have e := J.out
        rw [HD.out] at e
        simp only [linesL, if_pos hb] at e
        subst e
        exact ⟨rfl, rfl⟩
      · have g5 : ¬ (out.size : Int) + (x.size : Int) + 1 > 1000 := by omega
        go_wp2_with fail
        have e := J.out
        rw [HD.out] at e
        simp only [linesL, if_neg hb] at e
        refine ⟨⟨k + 1, line out x, by omega, by rw [line_eq], by go_num, by rw [line_size]; omega, e⟩, by simp [intOf]; omega⟩
    · have g1 : ¬ ((k : Int) < L.length) := by omega
      go_wp2_with fail
      go_ret2
      have e := J.out
      rw [List.drop_eq_nil_of_le (by omega)] at e
      simp only [linesL] at e
      subst e
      exact ⟨rfl, rfl⟩
set_option maxRecDepth 100000 in
set_option maxHeartbeats 2000000 in
theorem shows_any (st : Nat) (out : ByteArray) (used : Nat) (W : World) :
    Calls Tryz.prog 11 #[stV st 0 out used, .string out, .int .i64 (st : Nat)] W fun e w => e = .returned (.bool true) ∧ Fr [] W w := by
  unfold stV
  have F1 : Fr [] W (W.alloc (.cells #[.int .i64 (st : Nat), .int .i64 0, .string out, .int .i64 (used : Nat)] 26)) := (Fr.refl [] W).alloc _
  have HF : Hid _ := F1
  clear F1
  go_enter Tryz.func11, Tryz.ntmps11
  go_wp2_with fail
  go_ret
  exact ⟨rfl, HF.out⟩
end Go.Proofs.YtmolfmgchbjnbaaGreatDoor
namespace Go.Proofs.YtmolfmgchbjnbaaGreatDoor
open Go.RowKit
open Wire Flow
structure SrcOk (S b : ByteArray) (m : Mo) (gn an : Nat) : Prop where
  cl : Closed m gn an
  rd : BytesB m gn an b
  co : ∀ w : World, Ev.TabS Ev.signs w → Calls Tryz.prog 19 #[.string S] w fun e w' => e = .returned (.tuple #[.string b, .int .i64 ((0 : Nat) : Int), .int .i64 ((0 : Nat) : Int)]) ∧ Ev.Kept w w'
theorem results_row1 {P : Program} {fn : Func} {p u : Tmp} {ty : TypeId} (h : fn.results = #[.cell p ty, .tmp u]) (tmps : Array Value) (w : World) (g : Nat) (t : TypeId) (cs : Array Value) (fr : Nat × Nat) (d : TypeDesc)
    (hp : tmps.getD p undef = .pointer (some ⟨g, 0, none⟩)) (hg : w.heap[g]? = some (.cells cs t fr))
    (hu : P.underlying ty = some d) (hd : (match d with | .struct _ | .array _ _ => true | _ => false) = true) (hi : (P.info? ty).map (·.size) = some cs.size) :
    (results fn tmps).run P w = .ok (.tuple #[.agg cs, tmps.getD u undef]) w := by
  have hp' : tmps[p]?.getD undef = .pointer (some ⟨g, 0, none⟩) := by simpa using hp
  simp [results, h, hp', asAddr, run_loadVar_row w g t ty cs fr d hg hu hd hi]
theorem Ev.TabS.fr {ss : List ByteArray} {w w' : World} (h : Ev.TabS ss w) (F : Fr [] w w') : Ev.TabS ss w' := by
  obtain ⟨B, o, c, h1, h2, h3, h4, h5, h6⟩ := h
  exact ⟨B, o, c, (F.cell (p := ⟨1, 0, none⟩) (by show 1 < _; omega) (by simp)).trans h1, h2, h3, h4, Nat.lt_of_lt_of_le h5 F.size, fun i s hs => (F.cell (p := ⟨B, i + o, none⟩) h5 (by simp)).trans (h6 i s hs)⟩
section
variable {S b : ByteArray} {m : Mo} {gn an : Nat} {W : World} {recs : List ByteArray}
theorem nilD (W : World) : ArgL W (.slice none 0 0) (([] : List Int).map (.int .i64)) := ⟨none, 0, rfl, Nat.le_refl _, by decide, fun h => absurd h (by simp)⟩
set_option maxRecDepth 100000 in
set_option maxHeartbeats 2000000 in
theorem barred_any (hS : SrcOk S b m gn an) (hb : Base W) (ht : Ev.TabS Ev.signs W) {v : Value} (hr : ArgL W v (recs.map .string)) (hs : ¬ Scr recs []) : Calls Tryz.prog 8 #[.string S, v] W fun e w => e = .returned (.bool true) ∧ Fr [] W w := by
  have HC : Hid _ := hS.co W ht
  have HO : Hid (∀ V, Fr [] W V → Calls Tryz.prog 20 #[.string b, v, .slice none 0 0] V (OpnP m recs [] V)) := fun V F => by
    obtain ⟨o, c, rfl, h⟩ := hr
    exact open_any b (hb.fr F) (ht.fr F) hS.cl hS.rd (ArgL.fr ⟨o, c, rfl, h⟩ F) (nilD V)
  have HS : Hid _ := hs
  clear hS hb ht hr hs
  go_enter Tryz.func8, Tryz.ntmps8
  go_wp2_with fail
  refine Calls.mono HC.out ?_
  rintro e V ⟨rfl, K⟩
  have F : Fr [] W V := K.fr
  have HF : Hid _ := F
  clear F K HC
  go_wp2_with fail
  refine Calls.mono (HO.out V HF.out) ?_
  rintro e V2 ⟨F2, ⟨-, rfl⟩ | ⟨h, -⟩⟩
  · have HF2 : Hid _ := HF.out.trans F2
    clear F2 HO HF
    go_wp2_with fail
    go_ret
    exact ⟨rfl, HF2.out⟩
  · exact absurd h HS.out
def PldP (m : Mo) (recs : List ByteArray) (W : World) (e : Ending) (w : World) : Prop := Fr [] W w ∧ ∃ D, Mach.Plays (envP m) 100000 (Mach.begin_ m recs []) D ∧ e = .returned (.tuple #[stV D.st D.code D.w.out D.used, .bool true])
theorem goE_closed (hC : Closed m gn an) : GoE (envP m) := by
  have hg := hC.gl
  have ha := hC.ar
  have h1 := hC.g1
  have h2 := hC.a1
  exact goE_of (by rw [hC.tx]; intro s hs; cases hs) (by rw [hC.tx]; decide) (by omega) (by rw [hC.pt]; decide) (by omega) (fun f hf => (hC.facts f hf).locs) hC.ok
set_option maxRecDepth 100000 in
set_option maxHeartbeats 4000000 in
theorem played_any (hS : SrcOk S b m gn an) (hb : Base W) (ht : Ev.TabS Ev.signs W) {v : Value} (hr : ArgL W v (recs.map .string)) (hs : Scr recs []) : Calls Tryz.prog 9 #[.string S, v] W (PldP m recs W) := by
  obtain ⟨W1, hW1⟩ : ∃ W1, W.alloc (.cells #[.int .i64 0, .int .i64 0, .string ⟨#[]⟩, .int .i64 0] 26) = W1 := ⟨_, rfl⟩
  obtain ⟨W2, hW2⟩ : ∃ W2, W1.alloc (.cells #[.int .i64 0, .int .i64 0, .string ⟨#[]⟩, .int .i64 0] 26) = W2 := ⟨_, rfl⟩
  have F1 : Fr [] W W1 := by rw [← hW1]; exact (Fr.refl [] W).alloc _
  have F2 : Fr [] W1 W2 := by rw [← hW2]; exact (Fr.refl [] W1).alloc _
  have k1 : W1.heap[W.heap.size]? = some (.cells #[.int .i64 0, .int .i64 0, .string ⟨#[]⟩, .int .i64 0] 26) := by rw [← hW1]; exact World.alloc_heap_new W _
  have k2 : W2.heap[W1.heap.size]? = some (.cells #[.int .i64 0, .int .i64 0, .string ⟨#[]⟩, .int .i64 0] 26) := by rw [← hW2]; exact World.alloc_heap_new W1 _
  have l1 := (Array.getElem?_eq_some_iff.1 k1).1
  have l2 := (Array.getElem?_eq_some_iff.1 k2).1
  have k1' := (F2.block _ l1 (by simp)).trans k1
  obtain ⟨b4, hb4⟩ : ∃ b4, W.heap.size = b4 := ⟨_, rfl⟩
  obtain ⟨b6, hb6⟩ : ∃ b6, W1.heap.size = b6 := ⟨_, rfl⟩
  have HE : Hid _ := goE_closed hS.cl
  have HC : Hid _ := hS.co W2 (ht.fr (F1.trans F2))
  have HO : Hid (∀ V, Fr [] W2 V → Calls Tryz.prog 20 #[.string b, v, .slice none 0 0] V (OpnP m recs [] V)) := fun V F => by
    obtain ⟨o, c, rfl, h⟩ := hr
    exact open_any b (hb.fr ((F1.trans F2).trans F)) (ht.fr ((F1.trans F2).trans F)) hS.cl hS.rd (ArgL.fr ⟨o, c, rfl, h⟩ ((F1.trans F2).trans F)) (nilD V)
  have HS : Hid _ := hs
  rw [hb4] at k1' l1
  rw [hb6] at k2 l2 l1
  have HK : Hid _ := And.intro (F1.trans F2) (And.intro k1' (And.intro k2 (And.intro l1 l2)))
  clear hS hb ht hr hs F1 F2 k1 k2 k1' l1 l2
  go_enter Tryz.func9, Tryz.ntmps9
  go_wp2_with fail
  refine Calls.mono HC.out ?_
  rintro e V ⟨rfl, K⟩
  have F : Fr [] W2 V := K.fr
  have HF : Hid _ := F
  clear F K HC
  go_wp2_with fail
  refine Calls.mono (HO.out V HF.out) ?_
  rintro e V2 ⟨F2, ⟨h, -⟩ | ⟨-, Y, rfl, X, tag, hR, ht6, -⟩⟩
  · exact absurd HS.out h
  · have HR : Hid _ := And.intro F2 (And.intro hR ht6)
    clear F2 hR ht6 HO
    go_wp2_with fail
    refine Calls.mono (Rst.go (N := 100000) HE.out HR.out.2.1 (by omega) (by show 0 + 100000 ≤ _; decide)) ?_
    rintro e V3 ⟨rfl, D, t, hP, hR3, K3⟩
    have F3 : Fr [] V V3 := by
      obtain ⟨F2, -, h6⟩ := HR.out
      exact ⟨K3.os.trans F2.os, K3.tape.trans F2.tape, K3.output.trans F2.output, Nat.le_trans F2.size K3.size, fun k hk _ => (K3.blk k (Nat.lt_of_lt_of_le hk F2.size) (by rw [h6 k hk]; decide)).trans (F2.block k hk (by simp))⟩
    have H3 : Hid _ := And.intro hP (And.intro hR3 F3)
    clear hP hR3 K3 F3 HR
    go_wp2_with fail
    refine Calls.mono (Rst.tell H3.out.2.1) ?_
    rintro e V4 ⟨rfl, F4⟩
    obtain ⟨FW, k4, k6, l4, l6⟩ := HK.out
    have FA : Fr [] W2 V4 := (HF.out.trans H3.out.2.2).trans F4
    have hlt : b4 < W2.heap.size := Nat.lt_trans l4 l6
    replace k4 := (FA.block b4 hlt (by simp)).trans k4
    replace k6 := (FA.block b6 l6 (by simp)).trans k6
    have HB : Hid _ := And.intro (FW.trans FA) (And.intro k4 (And.intro k6 l4))
    obtain ⟨⟨c0, c1, c2, c3⟩, cz⟩ := cells4F k6
    obtain ⟨⟨d0, d1, d2, d3⟩, dz⟩ := cells4F k4
    have f0 := cz 0
    have f1 := cz 1
    have f2 := cz 2
    have f3 := cz 3
    have g0 := dz 0
    have g1 := dz 1
    have g2 := dz 2
    have g3 := dz 3
    have HP : Hid _ := H3.out.1
    have hne : b4 ≠ b6 := by omega
    have hne' : b6 ≠ b4 := by omega
    clear FW k4 k6 l4 l6 FA F4 hlt cz dz H3 HK HE HS HF
    unfold stV at *
    go_wp2_with fail
    obtain ⟨FW, k4, k6, l4⟩ := HB.out
    have hB4 : W.heap.size ≤ b4 := Nat.le_of_eq hb4
    have hB6 : W.heap.size ≤ b6 := Nat.le_trans hB4 (Nat.le_of_lt l4)
    have kk : ∀ x0 x1 x2 x3 : Value, ((((V4.setCell ⟨b6, 0, none⟩ x0).setCell ⟨b6, 1, none⟩ x1).setCell ⟨b6, 2, none⟩ x2).setCell ⟨b6, 3, none⟩ x3).heap[b4]? = some (.cells #[.int .i64 0, .int .i64 0, .string ⟨#[]⟩, .int .i64 0] 26) := fun x0 x1 x2 x3 => by
      rw [Below.heap_setCell _ _ _ _ hne, Below.heap_setCell _ _ _ _ hne, Below.heap_setCell _ _ _ _ hne, Below.heap_setCell _ _ _ _ hne]
      exact k4
    refine bodyPost_ret (results_row1 rfl _ _ b4 26 #[.int .i64 (D.st : Nat), .int .i64 D.code, .string D.w.out, .int .i64 (D.used : Nat)] (0, 0) _ rfl (set4_block (kk _ _ _ _) _ _ _ _) Tryz.underlying26 rfl (by kernel_rfl)) rfl ?_
    refine ⟨?_, D, HP.out, rfl⟩
    exact (((((((FW.setCell (.inr hB6) _).setCell (.inr hB6) _).setCell (.inr hB6) _).setCell (.inr hB6) _).setCell (.inr hB4) _).setCell (.inr hB4) _).setCell (.inr hB4) _).setCell (.inr hB4) _
end
end Go.Proofs.YtmolfmgchbjnbaaGreatDoor
namespace Go.Proofs.YtmolfmgchbjnbaaGreatDoor
open Go.RowKit
open Wire Flow
theorem every_src : SrcOk Ev.everyS ⟨Ev.everyB.toArray⟩ everyM 0 0 := ⟨every_closed, Ev.every_read, fun w ht => Ev.every_compiles ht⟩
theorem last_src : SrcOk Ev.lastS ⟨Ev.lastB.toArray⟩ lastM 0 0 := ⟨last_closed, Ev.last_read, fun w ht => Ev.last_compiles ht⟩
theorem scr_good {m : Mo} (hM : Mach.ModOk m) {recs : List ByteArray} (hs : Scr recs []) : Mach.Good (envP m) (Mach.begin_ m recs []) := by
  obtain ⟨h1, h2, h3, h4⟩ := hs
  refine Mach.good_begin (E := envP m) hM h1 (fun s hs => ?_) h2 (fun n hn => by cases hn)
  by_cases c : s.size ≤ 100
  · exact c
  · exact absurd ⟨s, hs, show 100 < s.size by omega⟩ h3
theorem every_run {recs : List ByteArray} (hs : Scr recs []) {D : Mach.St} (h : Mach.Plays (envP everyM) 100000 (Mach.begin_ everyM recs []) D) : D.st = (Mach.linesL Mach.none0 recs).2 ∧ D.code = 0 ∧ D.w.out = (Mach.linesL Mach.none0 recs).1 := by
  have hE := goE_closed every_closed
  obtain ⟨n, D', h1, h2, h3, h4, h5⟩ := Mach.every_rest hE.sm hE.mod rfl recs ⟨recs, 0, [], 0, Mach.none0, [], Mach.none0, [], []⟩ ⟨0, 0, [], []⟩ 0 rfl (.inl rfl) (scr_good hE.mod hs)
  have hl := hs.1
  have hst : D'.st ≠ 0 := by
    rw [h3]
    have := Mach.linesL_st Mach.none0 recs
    show (Mach.linesL Mach.none0 recs).2 ≠ 0
    omega
  have := Mach.Plays.unique h (h2.till hst (N := 100000) (by omega))
  subst this
  exact ⟨h3, h4, h5⟩
theorem last_run {recs : List ByteArray} (hs : Scr recs []) {D : Mach.St} (h : Mach.Plays (envP lastM) 100000 (Mach.begin_ lastM recs []) D) : D.st = 1 ∧ D.w.out = Mach.line (Mach.line Mach.none0 (itoaB (recs.length : Int))) (recs.getLast?.getD Mach.none0) := by
  have hE := goE_closed last_closed
  obtain ⟨n, D', h1, h2, h3, h4⟩ := Mach.last_rest hE.sm hE.mod rfl recs ⟨recs, 0, [], 0, Mach.none0, [], Mach.none0, [], []⟩ ⟨0, 0, [], []⟩ 0 rfl (.inl rfl) rfl (scr_good hE.mod hs)
  have hl := hs.1
  have := Mach.Plays.unique h (h2.till (by omega) (N := 100000) (by omega))
  subst this
  exact ⟨h3, h4⟩
theorem line_none (x : ByteArray) : Mach.line Mach.none0 x = x ++ ⟨#[10]⟩ := by
  rw [← line_eq]
  congr 1
section
variable {W : World} {recs : List ByteArray}
set_option maxRecDepth 100000 in
set_option maxHeartbeats 4000000 in
theorem echo_any (hb : Base W) (ht : Ev.TabS Ev.signs W) {v : Value} (hr : ArgL W v (recs.map .string)) : Calls Tryz.prog 3 #[v] W fun e w => e = .returned (.bool true) ∧ Fr [] W w := by
  have hm : Tryz.prog.follows Departure.mixedOrders = true := Ev.mixed
  have HC : Hid _ := scripted_any hr (nilD W)
  have HB : Hid (¬ Scr recs [] → Calls Tryz.prog 8 #[.string Ev.everyS, v] W fun e w => e = .returned (.bool true) ∧ Fr [] W w) := fun hs => barred_any every_src hb ht hr hs
  have HP1 : Hid (Scr recs [] → Calls Tryz.prog 9 #[.string Ev.everyS, v] W fun e w => Fr [] W w ∧ ∃ u : Nat, e = .returned (.tuple #[stV (Mach.linesL Mach.none0 recs).2 0 (Mach.linesL Mach.none0 recs).1 u, .bool true])) := fun hs => by
    refine (played_any every_src hb ht hr hs).mono ?_
    rintro e w ⟨F, D, hP, rfl⟩
    obtain ⟨h1, h2, h3⟩ := every_run hs hP
    exact ⟨F, D.used, by rw [h1, h2, h3]⟩
  have HP2 : Hid (Scr recs [] → ∀ V, Fr [] W V → Calls Tryz.prog 9 #[.string Ev.lastS, v] V fun e w => Fr [] V w ∧ ∃ (c : Int) (u : Nat), e = .returned (.tuple #[stV 1 c (itoaB (recs.length : Int) ++ ⟨#[10]⟩ ++ recs.getLast?.getD Mach.none0 ++ ⟨#[10]⟩) u, .bool true])) := fun hs V FV => by
    refine (played_any last_src (hb.fr FV) (ht.fr FV) (hr.fr FV) hs).mono ?_
    rintro e w ⟨F, D, hP, rfl⟩
    obtain ⟨h1, h3⟩ := last_run hs hP
    refine ⟨F, D.code, D.used, ?_⟩
    rw [h1, h3, ← line_eq, line_none]
  have HL : Hid (Scr recs [] → ∀ V, Fr [] W V → Calls Tryz.prog 10 #[v] V fun e w => e = .returned (.tuple #[.string (Mach.linesL Mach.none0 recs).1, .int .i64 ((Mach.linesL Mach.none0 recs).2 : Nat)]) ∧ w = V) := fun hs V F => lines_any recs (by have := hs.1; omega) (fun s hm => by
    by_cases c : s.size ≤ 100
    · omega
    · exact absurd ⟨s, hm, show 100 < s.size by omega⟩ hs.2.2.1) V (hr.fr F)
  have HI : Hid (∀ V, Fr [] W V → ∀ n : Nat, n ≤ 50 → Calls Tryz.prog 12 #[.int .i64 (n : Int)] V fun e w' => e = .returned (.string (itoaB (n : Int))) ∧ Fr [] V w') := fun V F n hn => itoa_any n V (by omega) (by omega) (hb.fr F).pow
  obtain ⟨o, c, rfl, hc, hc2, hx⟩ := hr
  rw [List.length_map] at *
  have HX : Hid (∀ V, Fr [] W V → ∀ k, k + 1 = recs.length → ∃ g off, o = some ⟨g, off, none⟩ ∧ V.cell? ⟨g, off + k, none⟩ = some (.string (recs.getLast?.getD Mach.none0))) := fun V F k hk => by
    obtain ⟨g, off, e1, e2, e3⟩ := hx (by omega)
    refine ⟨g, off, e1, (F.cell (p := ⟨g, off + k, none⟩) e2 (by simp)).trans (e3 k _ ?_)⟩
    rw [List.getElem?_map, List.getLast?_eq_getElem?, show recs.length - 1 = k by omega, List.getElem?_eq_getElem (by omega)]
    rfl
  have HN : Hid (recs.length = 0 → recs.getLast?.getD Mach.none0 = Mach.none0) := fun h => by
    rw [List.eq_nil_of_length_eq_zero h]; rfl
  have HS5 : Hid (Scr recs [] → recs.length ≤ 50 ∧ (recs.getLast?.getD Mach.none0).size ≤ 100 ∧ (itoaB (recs.length : Int)).size ≤ 100) := fun h => by
    have hl := h.1
    refine ⟨hl, ?_, ?_⟩
    · cases hg : recs.getLast? with
      | none => exact Nat.zero_le _
      | some s =>
        show s.size ≤ 100
        by_cases c : s.size ≤ 100
        · exact c
        · exact absurd ⟨s, List.mem_of_getLast? hg, show 100 < s.size by omega⟩ h.2.2.1
    · have := Lib.itoa_length_le (recs.length : Int) (by omega) (by omega)
      show (Lib.itoa _).toArray.size ≤ 100
      simp
      omega
  clear hb ht hx
  unfold Ev.everyS Ev.lastS at *
  generalize recs.getLast?.getD Mach.none0 = fin at *
  generalize (Mach.linesL Mach.none0 recs).1 = lo at *
  generalize (Mach.linesL Mach.none0 recs).2 = ls at *
  generalize recs.length = n at *
  generalize Scr recs [] = SC at *
  go_enter Tryz.func3, Tryz.ntmps3
  go_wp2_with fail
  refine Calls.mono HC.out ?_
  rintro e V ⟨bb, rfl, hbb, hV⟩
  replace hV := hV.symm
  subst hV
  cases bb with
  | false =>
    have hs : ¬ SC := fun h => (by have := hbb.2 h; cases this)
    have HB1 : Hid _ := HB.out hs
    clear hbb HC HB HP1 HP2 HL HI HX HN HS5
    go_wp2_with fail
    refine Calls.mono HB1.out ?_
    rintro e V2 ⟨rfl, F2⟩
    have HF : Hid _ := F2
    clear F2 HB1
    go_wp2_with fail
    go_ret
    exact ⟨rfl, HF.out⟩
  | true =>
    have hs := hbb.1 rfl
    have HP1' : Hid _ := HP1.out hs
    have HP2' : Hid _ := HP2.out hs
    have HL' : Hid _ := HL.out hs
    obtain ⟨hn, hz1, hz2⟩ := HS5.out hs
    clear hbb HC HB HP1 HP2 HL HS5 hs
    go_wp2_with fail
    refine Calls.mono HP1'.out ?_
    rintro e V2 ⟨F2, u, rfl⟩
    obtain ⟨V3, hV3⟩ : ∃ V3, V2.alloc (.cells #[.int .i64 (ls : Nat), .int .i64 0, .string lo, .int .i64 (u : Nat)] 26) = V3 := ⟨_, rfl⟩
    have F3 : Fr [] V2 V3 := by rw [← hV3]; exact (Fr.refl [] V2).alloc _
    have k3 : V3.heap[V2.heap.size]? = some (.cells #[.int .i64 (ls : Nat), .int .i64 0, .string lo, .int .i64 (u : Nat)] 26) := by rw [← hV3]; exact World.alloc_heap_new V2 _
    obtain ⟨b6, hb6⟩ : ∃ b6, V2.heap.size = b6 := ⟨_, rfl⟩
    rw [hb6] at k3
    have l3 := (Array.getElem?_eq_some_iff.1 k3).1
    obtain ⟨⟨c0, c1, c2, c3⟩, cz⟩ := cells4F k3
    have f0 := cz 0
    have f1 := cz 1
    have f2 := cz 2
    have f3 := cz 3
    have H3 : Hid _ := And.intro (F2.trans F3) (And.intro k3 (And.intro l3 (show W.heap.size ≤ b6 by rw [← hb6]; exact F2.size)))
    clear F2 F3 k3 l3 cz HP1'
    unfold stV at *
    go_wp2_with fail
    refine Calls.mono (HL'.out V3 H3.out.1) ?_
    rintro e V4 ⟨rfl, hV4⟩
    replace hV4 := hV4.symm
    subst hV4
    have HSh : Hid _ := shows_any ls lo u V3
    unfold stV at HSh
    go_wp2_with fail
    refine Calls.mono HSh.out ?_
    rintro e V4 ⟨rfl, F4⟩
    have H4 : Hid _ := And.intro (H3.out.1.trans F4) (And.intro ((F4.block b6 H3.out.2.2.1 (by simp)).trans H3.out.2.1) (And.intro (Nat.lt_of_lt_of_le H3.out.2.2.1 F4.size) H3.out.2.2.2))
    clear F4 HSh HL' H3 c0 c1 c2 c3 f0 f1 f2 f3 hV3
    go_wp2_with fail
    refine Calls.mono (HP2'.out V4 H4.out.1) ?_
    rintro e V5 ⟨F5, cc, u2, rfl⟩
    have k5 := (F5.block b6 H4.out.2.2.1 (by simp)).trans H4.out.2.1
    obtain ⟨⟨c0, c1, c2, c3⟩, cz⟩ := cells4F k5
    have f0 := cz 0
    have f1 := cz 1
    have f2 := cz 2
    have f3 := cz 3
    generalize hout : itoaB (n : Int) ++ ⟨#[10]⟩ ++ fin ++ ⟨#[10]⟩ = out
    obtain ⟨V6, hV6⟩ : ∃ V6, (((V5.setCell ⟨b6, 0, none⟩ (.int .i64 1)).setCell ⟨b6, 1, none⟩ (.int .i64 cc)).setCell ⟨b6, 2, none⟩ (.string out)).setCell ⟨b6, 3, none⟩ (.int .i64 (u2 : Nat)) = V6 := ⟨_, rfl⟩
    have k6 := set4_block k5 (.int .i64 1) (.int .i64 cc) (.string out) (.int .i64 (u2 : Nat))
    rw [hV6] at k6
    have F6 : Fr [] W V6 := by
      have hB := H4.out.2.2.2
      rw [← hV6]
      exact (((((H4.out.1.trans F5).setCell (.inr hB) _).setCell (.inr hB) _).setCell (.inr hB) _).setCell (.inr hB) _)
    obtain ⟨⟨r0, -, r2, -⟩, -⟩ := cells4F k6
    have H6 : Hid _ := And.intro F6 hout
    clear F5 k5 cz F6 hout H4 HP2' k6
    by_cases h0 : n = 0
    · have hf := HN.out h0
      have g1 : ¬ 0 < (n : Int) := by omega
      unfold Mach.none0 at hf
      subst hf
      clear h0
      go_wp2_with fail
      refine wp_region_heldD (fun V => V.cell? ⟨b6, 0, none⟩ = some (.int .i64 1) ∧ V.cell? ⟨b6, 2, none⟩ = some (.string out)) hm ?_
      obtain ⟨WD, hWD⟩ : ∃ WD, V6.drew = WD := ⟨_, rfl⟩
      rw [hWD]
      have FD : Fr [] V6 WD := by rw [← hWD]; exact (Fr.refl [] V6).drew
      have hS : WD.cell? ⟨b6, 0, none⟩ = some (.int .i64 1) ∧ WD.cell? ⟨b6, 2, none⟩ = some (.string out) := by rw [← hWD]; exact ⟨r0, r2⟩
      have HC7 : Hid _ := HI.out WD (H6.out.1.trans FD) n hn
      have HFD : Hid _ := H6.out.1.trans FD
      have hout := H6.out.2
      clear r0 r2 FD hWD HI H6 HX HN
      refine wpAnyH_takes (fun _ _ _ _ _ h => h) hS [0, 1, 2, 3, 4, 5, 8] (by kernel_rfl) ?_
      iterate 7
        refine Yls.cons (v := ?_) rfl (.inl ⟨rfl, fun w1 hS1 => ?_⟩) ?_
        rotate_left
        · obtain ⟨p0, p1⟩ := hS1
          go_simp
          first | rfl | (refine (if_neg (by omega)).trans ?_; rfl)
        simp only [Act.put, List.setIfInBounds_toArray, List.set_cons_zero, List.set_cons_succ, List.getElem_toArray, List.getElem_cons_succ, List.getElem_cons_zero]
      refine Yls.nil ?_
      refine wpAnyH_ready (rs := [6]) (by kernel_rfl) (by simp) ?_
      refine AllReadyH.cons rfl (fun K hK => ?_) AllReadyH.nil
      go_simp
      refine Calls.mono HC7.out ?_
      rintro e W7 ⟨rfl, F7⟩
      have hS7 : W7.cell? ⟨b6, 0, none⟩ = some (.int .i64 1) ∧ W7.cell? ⟨b6, 2, none⟩ = some (.string out) := ⟨(F7.cell (p := ⟨b6, 0, none⟩) (lt_of_cell hS.1) (by simp)).trans hS.1, (F7.cell (p := ⟨b6, 2, none⟩) (lt_of_cell hS.2) (by simp)).trans hS.2⟩
      have HF7 : Hid _ := HFD.out.trans F7
      clear hS F7 HC7 HFD
      refine hK _ _ hS7 ?_
      clear hK K
      intro _
      try simp only [Act.put, List.setIfInBounds_toArray, List.set_cons_zero, List.set_cons_succ, List.getElem_toArray, List.getElem_cons_succ, List.getElem_cons_zero]
      refine wpAnyH_takes (fun _ _ _ _ _ h => h) hS7 [7, 9, 10, 11, 12, 13, 14, 15, 16, 17, 18] (by kernel_rfl) ?_
      iterate 11
        refine Yls.cons (v := ?_) rfl (.inl ⟨rfl, fun w1 hS1 => ?_⟩) ?_
        rotate_left
        · obtain ⟨p0, p1⟩ := hS1
          go_simp
          first | rfl | (refine (if_neg (by omega)).trans ?_; rfl)
        simp only [Act.put, List.setIfInBounds_toArray, List.set_cons_zero, List.set_cons_succ, List.getElem_toArray, List.getElem_cons_succ, List.getElem_cons_zero]
      refine Yls.nil ?_
      refine wpAnyH_done (by kernel_rfl) ?_ _
      go_wp2_with fail
      go_ret
      exact ⟨rfl, HF7.out⟩
    · obtain ⟨k, hk⟩ : ∃ k, k + 1 = n := ⟨n - 1, by omega⟩
      have g1 : 0 < (n : Int) := by omega
      obtain ⟨g, off, rfl, e1⟩ := HX.out V6 H6.out.1 k hk
      have g2 : IntKind.i64.wrap ((n : Int) - 1) = (k : Int) := by rw [IntKind.wrap_i64]; omega
      have g3 : (k : Int) < (n : Int) := by omega
      clear h0 hk
      go_wp2_with fail
      refine wp_region_heldD (fun V => V.cell? ⟨b6, 0, none⟩ = some (.int .i64 1) ∧ V.cell? ⟨b6, 2, none⟩ = some (.string out)) hm ?_
      obtain ⟨WD, hWD⟩ : ∃ WD, V6.drew = WD := ⟨_, rfl⟩
      rw [hWD]
      have FD : Fr [] V6 WD := by rw [← hWD]; exact (Fr.refl [] V6).drew
      have hS : WD.cell? ⟨b6, 0, none⟩ = some (.int .i64 1) ∧ WD.cell? ⟨b6, 2, none⟩ = some (.string out) := by rw [← hWD]; exact ⟨r0, r2⟩
      have HC7 : Hid _ := HI.out WD (H6.out.1.trans FD) n hn
      have HFD : Hid _ := H6.out.1.trans FD
      have hout := H6.out.2
      clear r0 r2 FD hWD HI H6 HX HN
      refine wpAnyH_takes (fun _ _ _ _ _ h => h) hS [0, 1, 2, 3, 4, 5, 8] (by kernel_rfl) ?_
      iterate 7
        refine Yls.cons (v := ?_) rfl (.inl ⟨rfl, fun w1 hS1 => ?_⟩) ?_
        rotate_left
        · obtain ⟨p0, p1⟩ := hS1
          go_simp
          first | rfl | (refine (if_neg (by omega)).trans ?_; rfl)
        simp only [Act.put, List.setIfInBounds_toArray, List.set_cons_zero, List.set_cons_succ, List.getElem_toArray, List.getElem_cons_succ, List.getElem_cons_zero]
      refine Yls.nil ?_
      refine wpAnyH_ready (rs := [6]) (by kernel_rfl) (by simp) ?_
      refine AllReadyH.cons rfl (fun K hK => ?_) AllReadyH.nil
      go_simp
      refine Calls.mono HC7.out ?_
      rintro e W7 ⟨rfl, F7⟩
      have hS7 : W7.cell? ⟨b6, 0, none⟩ = some (.int .i64 1) ∧ W7.cell? ⟨b6, 2, none⟩ = some (.string out) := ⟨(F7.cell (p := ⟨b6, 0, none⟩) (lt_of_cell hS.1) (by simp)).trans hS.1, (F7.cell (p := ⟨b6, 2, none⟩) (lt_of_cell hS.2) (by simp)).trans hS.2⟩
      have HF7 : Hid _ := HFD.out.trans F7
      clear hS F7 HC7 HFD
      refine hK _ _ hS7 ?_
      clear hK K
      intro _
      try simp only [Act.put, List.setIfInBounds_toArray, List.set_cons_zero, List.set_cons_succ, List.getElem_toArray, List.getElem_cons_succ, List.getElem_cons_zero]
      refine wpAnyH_takes (fun _ _ _ _ _ h => h) hS7 [7, 9, 10, 11, 12, 13, 14, 15, 16, 17, 18] (by kernel_rfl) ?_
      iterate 11
        refine Yls.cons (v := ?_) rfl (.inl ⟨rfl, fun w1 hS1 => ?_⟩) ?_
        rotate_left
        · obtain ⟨p0, p1⟩ := hS1
          go_simp
          first | rfl | (refine (if_neg (by omega)).trans ?_; rfl)
        simp only [Act.put, List.setIfInBounds_toArray, List.set_cons_zero, List.set_cons_succ, List.getElem_toArray, List.getElem_cons_succ, List.getElem_cons_zero]
      refine Yls.nil ?_
      refine wpAnyH_done (by kernel_rfl) ?_ _
      go_wp2_with fail
      go_ret
      exact ⟨rfl, HF7.out⟩
end
end Go.Proofs.YtmolfmgchbjnbaaGreatDoor
