/-
  gleanlaw.Patterns answers true for every script of bulk at most 1048576: every Look, Find, Swap and Split of the program answers as the document does, and no list that came out is turned by a later call (P2 to P6). Conditions: the arguments' bulk (the second form's own); the listed package-level variables read as the program's text lays them (the card ties them).
-/
import Derived.Test.YtakbfoegkjaphaaGreatDoorCards
import Derived.Test.YtakbfoegkjaphaaGreatDoorTie
import Derived.Test.YtakbfoegkjaphaaGreatDoorM38
import Derived.WalkKit
import Derived.ProofKit
import Derived.OpenShut
import Derived.SizedLaws
import Derived.ChangeMaps5
import Derived.Deep.DeepHandedRow
import Derived.Deep.Slices
import Derived.Lib.LaidTab
import Derived.LaidSub
import Derived.Lay
import Derived.Carry
set_option linter.unusedSimpArgs false
set_option linter.unusedVariables false
namespace Go.Proofs.YtakbfoegkjaphaaGreatDoor
open Go.ChangeShapes Go.WideShapes Go.ChangeAt Go.RowKit Go.ChangeMaps

/-! What the bound gives. -/
theorem bulk_part {H : Type} {d : DataW H} {l : List (DataW H)} (h : d ∈ l) : Rows.uptoBulk d ≤ Rows.uptoBulkAll l := by
  induction l with
  | nil => cases h
  | cons x r ih =>
    simp only [Rows.uptoBulkAll]
    cases List.mem_cons.1 h with
    | inl e => subst e; omega
    | inr e => have := ih e; omega
theorem bulk_many {H : Type} {l : List (DataW H)} (h : ∀ d, d ∈ l → 7 ≤ Rows.uptoBulk d) : 7 * l.length ≤ Rows.uptoBulkAll l := by
  induction l with
  | nil => simp [Rows.uptoBulkAll]
  | cons x r ih =>
    simp only [Rows.uptoBulkAll, List.length_cons]
    have h1 := h x (by simp)
    have h2 := ih (fun d hd => h d (by simp [hd]))
    omega
theorem bulk_op {H : Type} (k a b : Int) (s t u : ByteArray) :
    Rows.uptoBulk (H := H) (.agg [.lit (.int .i64 k), .lit (.int .i64 a), .lit (.int .i64 b), .lit (.string s.data.toList), .lit (.string t.data.toList), .lit (.string u.data.toList)]) = s.size + t.size + u.size + 7 := by
  simp only [Rows.uptoBulk, Rows.uptoBulkAll]
  have e1 : s.data.toList.length = s.size := by cases s; rfl
  have e2 : t.data.toList.length = t.size := by cases t; rfl
  have e3 : u.data.toList.length = u.size := by cases u; rfl
  omega

theorem cells38 : Tryz.prog.cellsOf 38 = 6 := by kernel_rfl
theorem cells3 : Tryz.prog.cellsOf 3 = 1 := by kernel_rfl
theorem cells9 : Tryz.prog.cellsOf 9 = 1 := by kernel_rfl

theorem i64_range {n : Int} (h : (Lit.int .i64 n).wf = true) : -9223372036854775808 ≤ n ∧ n ≤ 9223372036854775807 := by
  simp [Lit.wf, IntKind.min, IntKind.max, IntKind.bits, IntKind.signed] at h
  omega

set_option maxRecDepth 100000 in
/-- One step that came in. -/
theorem open_op {H : Type} {enc : TypeId × Value → H} {W : World} {a : Addr} {n : Nat} {x : DataW H × List MemPlace} {cs : List Value}
    (h1 : W.cells? 0 a 6 = some cs) (h2 : DataW.trod enc Tryz.prog W 0 (fun _ => true) true n 38 cs = some x) :
    ∃ o : OpR, (W.cell? a = some (.int .i64 o.k) ∧ W.cell? (a.add 1) = some (.int .i64 o.a) ∧ W.cell? (a.add 2) = some (.int .i64 o.b) ∧ W.cell? (a.add 3) = some (.string o.s) ∧ W.cell? (a.add 4) = some (.string o.t) ∧ W.cell? (a.add 5) = some (.string o.u)) ∧
      (-9223372036854775808 ≤ o.k ∧ o.k ≤ 9223372036854775807) ∧ (-9223372036854775808 ≤ o.a ∧ o.a ≤ 9223372036854775807) ∧ (-9223372036854775808 ≤ o.b ∧ o.b ≤ 9223372036854775807) ∧
      x.1 = .agg [.lit (.int .i64 o.k), .lit (.int .i64 o.a), .lit (.int .i64 o.b), .lit (.string o.s.data.toList), .lit (.string o.t.data.toList), .lit (.string o.u.data.toList)] := by
  obtain ⟨_, hlen, hcell⟩ := World.cells?_some h1
  obtain ⟨xs, k, hk, hxy, _, hxl, hf⟩ := DataW.trod_struct Tryz.underlying38 h2
  match xs, hxl, cs, hlen with
  | [y0, y1, y2, y3, y4, y5], _, [v0, v1, v2, v3, v4, v5], _ =>
    have g0 := hf 0 _ rfl
    have g1 := hf 1 _ rfl
    have g2 := hf 2 _ rfl
    have g3 := hf 3 _ rfl
    have g4 := hf 4 _ rfl
    have g5 := hf 5 _ rfl
    simp [cells3, cells9] at g0 g1 g2 g3 g4 g5
    obtain ⟨n0, e0, rfl, w0⟩ := DataW.trod_int Tryz.underlying3 g0
    obtain ⟨n1, e1, rfl, w1⟩ := DataW.trod_int Tryz.underlying3 g1
    obtain ⟨n2, e2, rfl, w2⟩ := DataW.trod_int Tryz.underlying3 g2
    obtain ⟨s3, e3, rfl, w3⟩ := DataW.trod_string Tryz.underlying9 g3
    obtain ⟨s4, e4, rfl, w4⟩ := DataW.trod_string Tryz.underlying9 g4
    obtain ⟨s5, e5, rfl, w5⟩ := DataW.trod_string Tryz.underlying9 g5
    simp at e0 e1 e2 e3 e4 e5
    subst e0 e1 e2 e3 e4 e5
    have c0 := hcell 0 (by omega)
    have c1 := hcell 1 (by omega)
    have c2 := hcell 2 (by omega)
    have c3 := hcell 3 (by omega)
    have c4 := hcell 4 (by omega)
    have c5 := hcell 5 (by omega)
    refine ⟨⟨n0, n1, n2, s3, s4, s5⟩, ⟨by simpa [Addr.add] using c0, by simpa using c1, by simpa using c2, by simpa using c3, by simpa using c4, by simpa using c5⟩, i64_range w0, i64_range w1, i64_range w2, ?_⟩
    rw [hxy]
    rfl

/-- A script that came in, nil or not, as the walk wants it. -/
theorem open_script {H : Type} {enc : TypeId × Value → H} {W : World} {a0 : Option Addr} {len cap fuel : Nat} {x : DataW H × List MemPlace}
    (hf : DataW.trod enc Tryz.prog W 0 (fun _ => true) true fuel 22 [.slice a0 len cap] = some x) (hb : Rows.uptoBulk x.1 ≤ 1048576) :
    ∃ g off : Nat, len ≤ 200000 ∧ len ≤ cap ∧ (0 < len → a0 = some ⟨g, off, none⟩ ∧ g < W.heap.size) ∧ OpsAt W g off len := by
  rcases Go.Deep.open_slice Tryz.underlying22 hf with ⟨hcs, hx⟩ | ⟨a, len', cap', m, n, D, Pl, hcs, _, hl, hm, hmm, hx, hel⟩
  · simp at hcs
    obtain ⟨rfl, rfl, rfl⟩ := hcs
    exact ⟨0, 0, by omega, by omega, fun h => absurd h (by omega), fun i hi => absurd hi (by omega)⟩
  · simp at hcs
    obtain ⟨rfl, rfl, rfl⟩ := hcs
    subst hx
    simp only [if_true] at hmm
    subst hmm
    rw [cells38] at hel
    have each : ∀ i, i < len → ∃ o : OpR, (W.cell? (a.add (i * 6)) = some (.int .i64 o.k) ∧ W.cell? ((a.add (i * 6)).add 1) = some (.int .i64 o.a) ∧ W.cell? ((a.add (i * 6)).add 2) = some (.int .i64 o.b) ∧ W.cell? ((a.add (i * 6)).add 3) = some (.string o.s) ∧ W.cell? ((a.add (i * 6)).add 4) = some (.string o.t) ∧ W.cell? ((a.add (i * 6)).add 5) = some (.string o.u)) ∧
      (-9223372036854775808 ≤ o.k ∧ o.k ≤ 9223372036854775807) ∧ (-9223372036854775808 ≤ o.a ∧ o.a ≤ 9223372036854775807) ∧ (-9223372036854775808 ≤ o.b ∧ o.b ≤ 9223372036854775807) ∧
      D i = .agg [.lit (.int .i64 o.k), .lit (.int .i64 o.a), .lit (.int .i64 o.b), .lit (.string o.s.data.toList), .lit (.string o.t.data.toList), .lit (.string o.u.data.toList)] := fun i hi => by
      obtain ⟨cs', h1, h2⟩ := hel i (by omega)
      exact open_op h1 h2
    have hb' : Rows.uptoBulkAll ((List.range len).map D) ≤ 1048576 := by
      simp only [Rows.uptoBulk] at hb
      omega
    have hseven : 7 * len ≤ Rows.uptoBulkAll ((List.range len).map D) := by
      have := bulk_many (l := (List.range len).map D) (fun d hd => by
        obtain ⟨i, hi, rfl⟩ := List.mem_map.1 hd
        obtain ⟨o, _, _, _, _, e⟩ := each i (List.mem_range.1 hi)
        rw [e, bulk_op]
        omega)
      simpa using this
    obtain ⟨g, off, spot⟩ := a
    by_cases h0 : 0 < len
    · obtain ⟨o, ⟨hc, _⟩, _⟩ := each 0 h0
      have hspot : spot = none := by simpa [Addr.add] using World.cell?_spot hc
      subst hspot
      have hlt : g < W.heap.size := by
        have := lt_of_cell hc
        simpa [Addr.add] using this
      refine ⟨g, off, by omega, hl, fun _ => ⟨rfl, hlt⟩, fun i hi => ?_⟩
      obtain ⟨o, ⟨c0, c1, c2, c3, c4, c5⟩, b0, b1, b2, e⟩ := each i hi
      have hbi := bulk_part (l := (List.range len).map D) (List.mem_map.2 ⟨i, List.mem_range.2 hi, rfl⟩)
      rw [e, bulk_op] at hbi
      rw [Go.Deep.add_add] at c1 c2 c3 c4 c5
      rw [add_plain] at c0 c1 c2 c3 c4 c5
      exact ⟨o, ⟨c0, by simpa [Nat.add_assoc] using c1, by simpa [Nat.add_assoc] using c2, by simpa [Nat.add_assoc] using c3, by simpa [Nat.add_assoc] using c4, by simpa [Nat.add_assoc] using c5⟩,
        ⟨b0.1, b0.2, b1.1, b1.2, b2.1, b2.2, by omega, by omega, by omega⟩⟩
    · exact ⟨g, off, by omega, hl, fun h => absurd h h0, fun i hi => absurd hi (by omega)⟩

/-! The listed variables. -/
/-- The name of the table of math/bits. -/
def tabName : String := Rows.patternsUptoRow.named.getD 0 ""
theorem laid64 : (Rows.patternsUptoRow.laid.filter fun x => x.1 == tabName) = [(tabName, Lib.tabData .u8 (Lib.deBruijn64tab.map Int.ofNat))] := by kernel_rfl
theorem laidPow : (Rows.patternsUptoRow.laid.filter fun x => x.1 == powName) = [(powName, Lib.tabData .u64 Lib.pow10Tab)] := by kernel_rfl
theorem gTab : Tryz.prog.globalNamed tabName = some 6 := by kernel_rfl
theorem gTabType : (Tryz.prog.globals[6]?).map (·.type) = some 313 := by kernel_rfl
theorem gPow : Tryz.prog.globalNamed powName = some 2 := by kernel_rfl
theorem gPowType : (Tryz.prog.globals[2]?).map (·.type) = some 296 := by kernel_rfl
theorem cells313 : Tryz.prog.cellsOf 313 = 64 := by kernel_rfl
theorem cells296 : Tryz.prog.cellsOf 296 = 20 := by kernel_rfl
theorem cellsU8 : Tryz.prog.cellsOf 5 = 1 := by kernel_rfl

theorem tab_of_laid {W : World} (h : laidMetH Tryz.prog Rows.patternsUptoRow.laid W) : Tab W := by
  have h1 := laidMetH.filter (fun x => x.1 == tabName) h
  rw [laid64] at h1
  have ht : Lib.TabIs Tryz.prog W tabName .u8 (Lib.deBruijn64tab.map Int.ofNat) :=
    Lib.tabIs_of_head (rest := []) gTab gTabType Tryz.underlying313 Tryz.underlying5 cellsU8 cells313 h1
  intro j hj
  have := ht.cell gTab j (by simpa using hj)
  rw [this]
  congr 2
  rw [List.getD_eq_getElem?_getD, List.getElem?_map, List.getD_eq_getElem?_getD]
  cases hx : Lib.deBruijn64tab[j]? with
  | none => rfl
  | some y => rfl

theorem pow_of_laid {W : World} (h : laidMetH Tryz.prog Rows.patternsUptoRow.laid W) : PowTab W := by
  have h1 := laidMetH.filter (fun x => x.1 == powName) h
  rw [laidPow] at h1
  exact Lib.tabIs_of_head (rest := []) gPow gPowType Tryz.underlying296 Tryz.underlying169 (by kernel_rfl) cells296 h1

theorem fr_below {W W' : World} (h : Fr [] W W') : Below W.heap.size W W' := ⟨h.os, h.tape, h.output, h.size, fun k hk => h.block k hk (by simp)⟩
theorem laid_out : laidOutB Tryz.prog = true := by kernel_rfl
theorem ownK : ownKnob Tryz.prog.godebug = none := by kernel_rfl

set_option maxRecDepth 100000 in
theorem patterns_contract (H : Type) (enc : TypeId × Value → H) (W : World) (base : Nat) (args : Array Value) (ds gs : List (DataW H)) (before : List MemPlace)
    (hval : ∀ (j : Nat) t v, Tryz.f3.params[j]? = some t → args[j]? = some v → Value.okWide Tryz.prog W .any base t v)
    (hW : DataW.Whole enc Tryz.prog Tryz.f3.params.toList Rows.patternsSpec.vars false W args.toList ds gs before)
    (hc : Rows.uptoSmall H (ds ++ gs) = true)
    (hL : laidMetH Tryz.prog Rows.patternsUptoRow.laid W) :
    Calls Tryz.prog 3 args W fun e W' => ∃ v, e = .returned v ∧ Rows.patternsSpec.post enc Tryz.prog Tryz.f3 false true false false W args v W' := by
  have hW' := hW
  obtain ⟨p, q, hA0, hV, rfl, hfz, hnd⟩ := hW
  have hA : DataW.TrodAll enc Tryz.prog W 0 (fun _ => true) true Tryz.f3.params.toList args.toList ds p := hA0
  rw [Tryz.params3] at hA hval
  obtain ⟨v0, vs0, d0, ds0, p0, q0, hargs, rfl, rfl, h0, r0⟩ := trodAll_cons hA
  obtain ⟨rfl, rfl, rfl⟩ := trodAll_nil r0
  obtain rfl : args = #[v0] := by cases args; simp_all
  obtain ⟨rfl, rfl⟩ := trodVars_none hV
  obtain ⟨a0, len, cap, rfl⟩ := okWide_slice Tryz.underlying22 (hval 0 22 v0 rfl rfl)
  have h0k := h0
  obtain ⟨fuel, hf0⟩ := h0
  clear hA0 hval
  simp only [List.append_nil] at hW' hc
  have hb : Rows.uptoBulk d0 ≤ 1048576 := by
    have := of_decide_eq_true hc
    simp only [Rows.uptoBulkAll] at this
    omega
  obtain ⟨g, off, hn, hcap, ha, hops⟩ := open_script (x := (d0, p0)) hf0 hb
  have hlt : ∀ x ∈ p0, x.block < W.heap.size := fun x hx => by simpa using hW'.lt x (by simpa using hx)
  refine (patterns_any a0 len cap g off W (tab_of_laid hL) (pow_of_laid hL) hn ha hops hcap).mono fun e W' ⟨he, hf⟩ => ?_
  subst he
  refine ⟨_, rfl, [d0], [], _, [], p0 ++ [], [], hW', trodAll_cons_mk (shut_bool Tryz.underlying4 _) trodAll_mk0, ?_, ?_, (fr_below hf).frame _, fun h => by cases h⟩
  · exact trodAll_cons_mk (Below.trod laid_out (by kernel_rfl) (of_decide_eq_true (by kernel_rfl)) h0k (fr_below hf) hlt) trodAll_mk0
  · rfl

/-- The arguments of the witness. -/
def args0 : Array Value := #[.slice none 0 0]

set_option maxRecDepth 100000 in
theorem laid_fits (os : Os) : (World.holding Tryz.prog os ⟨#[], #[], []⟩).layFits Tryz.prog Rows.patternsUptoRow.laid [] = true := by kernel_rfl
set_option maxRecDepth 100000 in
theorem laid_ifaces (os : Os) : (World.holding Tryz.prog os ⟨#[], #[], []⟩).layIfaces Tryz.prog Rows.patternsUptoRow.laid (World.laidAll Tryz.prog os Rows.patternsUptoRow.laid) = true := by kernel_rfl

set_option maxRecDepth 100000 in
/-- A world for the witness: the settled one, the variables holding what their initialisers lay. -/
theorem laid_world (os : Os) : ∃ w0 : World, w0.os = os ∧ (w0.forCall (fun _ _ => 0) ⟨#[], args0, []⟩).variablesB Tryz.prog = true ∧
    ((w0.forCall (fun _ _ => 0) ⟨#[], args0, []⟩).heap.toList.drop Tryz.prog.globals.size).take ((begin Tryz.prog (fun _ _ => 0) default).world.heap.size - Tryz.prog.globals.size) =
      (begin Tryz.prog (fun _ _ => 0) default).world.heap.toList.drop Tryz.prog.globals.size ∧
    Input.okWideB Tryz.prog (w0.forCall (fun _ _ => 0) ⟨#[], args0, []⟩) 3 ⟨#[], args0, []⟩ = true ∧
    laidMet Tryz.prog Rows.patternsUptoRow.laid (w0.forCall (fun _ _ => 0) ⟨#[], args0, []⟩).memory ∧
    ∀ {H : Type} (enc : TypeId × Value → H), DataW.whole enc Tryz.prog (w0.forCall (fun _ _ => 0) ⟨#[], args0, []⟩).memory Tryz.f3.params.toList Rows.patternsSpec.vars false args0.toList 8 = some ([.nil], [], []) := by
  refine ⟨World.laidAll Tryz.prog os Rows.patternsUptoRow.laid, World.laidAll_os _ _ _, ?_, ?_, ?_, laidMet_laidAll args0 (laid_fits os) (laid_ifaces os), ?_⟩
  · kernel_rfl
  · kernel_rfl
  · kernel_rfl
  · intro H enc
    kernel_rfl

set_option maxRecDepth 100000 in
theorem patterns_lifted (os : Os) (started : os.Started) (H : Type) (enc : TypeId × Value → H) (F : Stop.Interp) :
    ReturnsInHanded {} Tryz.checked os 3 .any ((Rows.OpenSpec.upto Rows.patternsSpec).preRow enc Tryz.prog Tryz.f3 Rows.patternsUptoRow.domain false Rows.patternsUptoRow.laid) (((Rows.OpenSpec.upto Rows.patternsSpec).at F).post enc Tryz.prog Tryz.f3 false true false false) := by
  obtain ⟨w0, hos, hv, hr, hok, hlm, hx⟩ := laid_world os
  refine returnsInHanded_of_row (C := Tryz.checked) (s := Rows.OpenSpec.upto Rows.patternsSpec) ownK started (by kernel_rfl) Tryz.func3
    (witness_row_at (enc := enc) (C := Tryz.checked) false w0 args0 hos hv hr hok
      (OpenSpec.preRow_of_cond 8 (hx enc) (by kernel_rfl) (fun k hk => by cases hk; kernel_rfl) (by kernel_rfl) hlm)) ?_
  intro W base args ds gs before hval hW _ hcond _ hL _ _
  exact patterns_contract H enc W base args ds gs before hval hW (hcond _ rfl) hL

theorem patterns_said : Rows.PatternsUptoSaid :=
  OpenClaim.holds_of_cond 3 Tryz.f3 rfl rfl rfl rfl rfl rfl rfl ⟨rfl, rfl, rfl, rfl, rfl⟩ rfl rfl rfl rfl rfl (by kernel_rfl) Tryz.func3 (by kernel_rfl)
    (of_decide_eq_true (by kernel_rfl)) (by unfold Func.isWrapper; first | (rw [if_pos (by decide +kernel)]; kernel_rfl) | (rw [if_neg (by decide +kernel)]; exact ⟨rfl, rfl⟩))
    (fun os started H enc _ F => by rw [OpenClaim.pre_eq_preRow]; exact patterns_lifted os started H enc F)

/-- No parameter wants a stand-in; the program's own looks are off. -/
theorem patterns_plain (f : FuncId) (fn : Func) (hf : Tryz.pinned.checked.prog.funcNamed Tryz.f3.name = some f) (hfn : Tryz.pinned.checked.prog.funcs[f]? = some fn) :
    false = Tryz.pinned.checked.prog.looks [] ∧ ∀ (j : Nat) t, fn.params[j]? = some t → Tryz.pinned.checked.prog.wantsStandIn t = false := by
  obtain rfl : f = 3 := Option.some.inj ((show Tryz.prog.funcNamed Tryz.f3.name = some 3 by kernel_rfl).symm.trans hf) |>.symm
  obtain rfl : fn = Tryz.f3 := (Option.some.inj (Tryz.func3.symm.trans hfn)).symm
  refine ⟨by kernel_rfl, fun j t ht => ?_⟩
  rw [Tryz.params3] at ht
  obtain rfl : t = 22 := by simpa using Array.mem_of_getElem? ht
  exact (show Tryz.prog.wantsStandIn 22 = false by kernel_rfl)

/-- The card. -/
theorem patterns_card : Rows.PatternsUptoCardSaid :=
  Claim7.holds_tied_plain_at .later [] _ _ _ _ patterns_said (fun _ h => by cases h) (by kernel_rfl) (fun _ h => by cases h) patternsUpto_row_tie rfl ⟨rfl, rfl⟩ (by kernel_rfl) rfl patterns_plain (by kernel_rfl)
#print axioms patterns_card

end Go.Proofs.YtakbfoegkjaphaaGreatDoor

