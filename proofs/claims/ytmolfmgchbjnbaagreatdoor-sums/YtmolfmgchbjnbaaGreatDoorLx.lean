/-
  gleankeep.Sums answers true for all two whole numbers: for each of six signs the source that reckons with the two numbers prints what reckoning gives, or ends as it must (a division by 0, a number beyond the limits), or, where one of them is no number that a source may have, is refused at its place; and the source whose function calls itself prints the product, or ends as it must (P14, P15). Conditions: the listed tables as the program's text lays them.
-/
import Derived.Test.YtmolfmgchbjnbaaGreatDoorCards
import Derived.Test.YtmolfmgchbjnbaaGreatDoorTie
import Derived.Test.YtmolfmgchbjnbaaGreatDoorM38
import Derived.Test.YtmolfmgchbjnbaaGreatDoorM26
import Derived.Deep.DeepWitnessRowRef
set_option linter.unusedSimpArgs false
set_option linter.unusedVariables false
namespace Go.Proofs.YtmolfmgchbjnbaaGreatDoor
open Go.ChangeShapes Go.WideShapes Go.ChangeAt Go.RowKit Go.ChangeMaps
open Wire Flow

theorem entered328 : ∃ fn, Ev.entered Tryz.prog 328 = some fn := by
  have h : (Ev.entered Tryz.prog 328).isSome = true := by kernel_rfl
  exact Option.isSome_iff_exists.1 h
theorem entered163 : ∃ fn, Ev.entered Tryz.prog 163 = some fn := by
  have h : (Ev.entered Tryz.prog 163).isSome = true := by kernel_rfl
  exact Option.isSome_iff_exists.1 h
theorem both_ok : Tok.BothOk :=
  Ev.bothX_ok Ev.entered58 (fun s w hs => (clone_any s w hs).mono fun e w' h => ⟨h.1, h.2.kept⟩) entered328 (fun s c w h1 h2 => (Tryz.strings_Repeat s c w (by omega) (by omega)).mono fun e w' h => ⟨h.1, (Fr.of_below h.2).kept⟩)
set_option maxRecDepth 100000 in
theorem sums_contract (H : Type) (enc : TypeId × Value → H) (W : World) (base : Nat) (args : Array Value) (ds gs : List (DataW H)) (before : List MemPlace)
    (hval : ∀ (j : Nat) t v, Tryz.f5.params[j]? = some t → args[j]? = some v → Value.okWide Tryz.prog W .any base t v)
    (hW : DataW.Whole enc Tryz.prog Tryz.f5.params.toList Rows.sumsSpec.vars false W args.toList ds gs before)
    (hL : laidMetH Tryz.prog Rows.sumsRow.laid W) (hsh : W.ShapedOpen Tryz.prog) :
    Calls Tryz.prog 5 args W fun e W' => ∃ v, e = .returned v ∧ Rows.sumsSpec.post enc Tryz.prog Tryz.f5 false true false false W args v W' := by
  have hW' := hW
  obtain ⟨p, q, hA0, hV, rfl, hfz, hnd⟩ := hW
  have hA : DataW.TrodAll enc Tryz.prog W 0 (fun _ => true) true Tryz.f5.params.toList args.toList ds p := hA0
  rw [Tryz.params5] at hA hval
  obtain ⟨v0, vs0, d0, ds0, p0, q0, hargs, rfl, rfl, h0, r0⟩ := trodAll_cons hA
  obtain ⟨v1, vs1, d1, ds1, p1, q1, rfl, rfl, rfl, h1, r1⟩ := trodAll_cons r0
  obtain ⟨rfl, rfl, rfl⟩ := trodAll_nil r1
  obtain rfl : args = #[v0, v1] := by cases args; simp_all
  obtain ⟨rfl, rfl⟩ := trodVars_none hV
  have k0 := hval 0 3 v0 rfl rfl
  have k1 := hval 1 3 v1 rfl rfl
  clear hval
  obtain ⟨a, rfl⟩ := okWide_int Tryz.underlying3 k0
  obtain ⟨b, rfl⟩ := okWide_int Tryz.underlying3 k1
  have h0k := h0
  have h1k := h1
  obtain ⟨fuel0, hf0⟩ := h0
  obtain ⟨fuel1, hf1⟩ := h1
  obtain ⟨a', ea, exa, wa⟩ := DataW.trod_int Tryz.underlying3 hf0
  obtain ⟨b', eb, exb, wb⟩ := DataW.trod_int Tryz.underlying3 hf1
  cases ea
  cases eb
  cases exa
  cases exb
  obtain ⟨a1, a2⟩ := bounds_i64 wa
  obtain ⟨b1, b2⟩ := bounds_i64 wb
  refine (Tok.sums_any both_ok entered163 a1 a2 b1 b2 (base_of (Ev.pw_tab hL) hsh) (Ev.sgn_tab hL)).mono fun e W' ⟨he, hf⟩ => ?_
  subst he
  refine ⟨_, rfl, [.lit (.int .i64 a), .lit (.int .i64 b)], [], _, [], [] ++ ([] ++ []), [], hW', trodAll_cons_mk (shut_bool Tryz.underlying4 _) trodAll_mk0, ?_, ?_, (fr_below hf).frame _, fun h => by cases h⟩
  · exact trodAll_cons_mk (Below.trod laid_out (by kernel_rfl) (of_decide_eq_true (by kernel_rfl)) h0k (fr_below hf) (fun x hx => by cases hx)) (trodAll_cons_mk (Below.trod laid_out (by kernel_rfl) (of_decide_eq_true (by kernel_rfl)) h1k (fr_below hf) (fun x hx => by cases hx)) trodAll_mk0)
  · rfl

/-- The arguments of the witness. -/
def argsS : Array Value := #[.int .i64 0, .int .i64 0]

set_option maxRecDepth 100000 in
theorem laid_fitsS (os : Os) : (World.holding Tryz.prog os ⟨#[], #[], []⟩).layFits Tryz.prog Rows.sumsRow.laid [] = true := by kernel_rfl
set_option maxRecDepth 100000 in
theorem laid_ifacesS (os : Os) : (World.holding Tryz.prog os ⟨#[], #[], []⟩).layIfaces Tryz.prog Rows.sumsRow.laid (World.laidAll Tryz.prog os Rows.sumsRow.laid) = true := by kernel_rfl

set_option maxRecDepth 100000 in
/-- A world for the witness: the settled one, the variables holding what their initialisers lay. -/
theorem laid_worldS (os : Os) : ∃ w0 : World, w0.os = os ∧ (w0.forCall (fun _ _ => 0) ⟨#[], argsS, []⟩).variablesRefB Tryz.prog = true ∧
    ((w0.forCall (fun _ _ => 0) ⟨#[], argsS, []⟩).heap.toList.drop Tryz.prog.globals.size).take ((begin Tryz.prog (fun _ _ => 0) default).world.heap.size - Tryz.prog.globals.size) =
      (begin Tryz.prog (fun _ _ => 0) default).world.heap.toList.drop Tryz.prog.globals.size ∧
    Input.okWideB Tryz.prog (w0.forCall (fun _ _ => 0) ⟨#[], argsS, []⟩) 5 ⟨#[], argsS, []⟩ = true ∧
    laidMet Tryz.prog Rows.sumsRow.laid (w0.forCall (fun _ _ => 0) ⟨#[], argsS, []⟩).memory ∧
    ∀ {H : Type} (enc : TypeId × Value → H), DataW.whole enc Tryz.prog (w0.forCall (fun _ _ => 0) ⟨#[], argsS, []⟩).memory Tryz.f5.params.toList Rows.sumsSpec.vars false argsS.toList 8 = some ([.lit (.int .i64 0), .lit (.int .i64 0)], [], []) := by
  refine ⟨World.laidAll Tryz.prog os Rows.sumsRow.laid, World.laidAll_os _ _ _, ?_, ?_, ?_, laidMet_laidAll argsS (laid_fitsS os) (laid_ifacesS os), ?_⟩
  · kernel_rfl
  · kernel_rfl
  · kernel_rfl
  · intro H enc
    kernel_rfl

set_option maxRecDepth 100000 in
theorem sums_lifted (os : Os) (started : os.Started) (H : Type) (enc : TypeId × Value → H) (F : Stop.Interp) :
    ReturnsInHanded {} Tryz.checked os 5 .any ((OpenSpec.ofChange Rows.sumsSpec).preRow enc Tryz.prog Tryz.f5 Rows.sumsRow.domain false Rows.sumsRow.laid) (((OpenSpec.ofChange Rows.sumsSpec).at F).post enc Tryz.prog Tryz.f5 false true false false) := by
  obtain ⟨w0, hos, hv, hr, hok, hlm, hx⟩ := laid_worldS os
  refine returnsInHanded_of_row (C := Tryz.checked) (s := OpenSpec.ofChange Rows.sumsSpec) ownK started (by kernel_rfl) Tryz.func5
    (witness_row_atRef (enc := enc) (C := Tryz.checked) false w0 argsS hos hv hr hok
      (OpenSpec.preRow_of_cond 8 (hx enc) (by kernel_rfl) (fun k hk => by cases hk) (by kernel_rfl) hlm)) ?_
  intro W base args ds gs before hval hW _ _ _ hL hsh _
  exact sums_contract H enc W base args ds gs before hval hW hL hsh

theorem sums_said : Rows.SumsSaid :=
  OpenClaim.holds_of_cond 5 Tryz.f5 rfl rfl rfl rfl rfl rfl rfl ⟨rfl, rfl, rfl, rfl, rfl⟩ rfl rfl rfl rfl rfl (by kernel_rfl) Tryz.func5 sums_facts
    (of_decide_eq_true (by kernel_rfl)) (by unfold Func.isWrapper; first | (rw [if_pos (by decide +kernel)]; kernel_rfl) | (rw [if_neg (by decide +kernel)]; exact ⟨rfl, rfl⟩))
    (fun os started H enc _ F => by rw [OpenClaim.pre_eq_preRow]; exact sums_lifted os started H enc F)

/-- No parameter wants a stand-in; the program's own looks are off. -/
theorem sums_plain (f : FuncId) (fn : Func) (hf : Tryz.pinned.checked.prog.funcNamed Tryz.f5.name = some f) (hfn : Tryz.pinned.checked.prog.funcs[f]? = some fn) :
    false = Tryz.pinned.checked.prog.looks [] ∧ ∀ (j : Nat) t, fn.params[j]? = some t → Tryz.pinned.checked.prog.wantsStandIn t = false := by
  obtain rfl : f = 5 := Option.some.inj ((show Tryz.prog.funcNamed Tryz.f5.name = some 5 by kernel_rfl).symm.trans hf) |>.symm
  obtain rfl : fn = Tryz.f5 := (Option.some.inj (Tryz.func5.symm.trans hfn)).symm
  refine ⟨by kernel_rfl, fun j t ht => ?_⟩
  rw [Tryz.params5] at ht
  have hm := Array.mem_of_getElem? ht
  simp at hm
  subst hm
  exact (show Tryz.prog.wantsStandIn 3 = false by kernel_rfl)

/-- The card. -/
theorem sums_card : Rows.SumsCardSaid :=
  Claim7.holds_tied_plain_at .later [] _ _ _ _ sums_said (fun _ h => by cases h) (by kernel_rfl) (fun _ h => by cases h) sums_row_tie rfl ⟨rfl, rfl⟩ (by kernel_rfl) rfl sums_plain (by kernel_rfl)
#print axioms sums_card

end Go.Proofs.YtmolfmgchbjnbaaGreatDoor
