/-
  gleankeep.Quoted answers true for every text: written as a string in a source it is printed; in two halves, laid down, put together, measured and held against itself it is what it was; one that is too long is refused at its place, a source that is too long as such (P14, P15). Conditions: the listed tables as the program's text lays them.
-/
import Derived.Test.YtmolfmgchbjnbaaGreatDoorCards
import Derived.Test.YtmolfmgchbjnbaaGreatDoorTie
import Derived.Test.YtmolfmgchbjnbaaGreatDoorM36
import Derived.Test.YtmolfmgchbjnbaaGreatDoorM16
import Derived.Test.YtmolfmgchbjnbaaGreatDoorM29
import Derived.Test.YtmolfmgchbjnbaaGreatDoorM27
import Derived.Deep.DeepWitnessRowRef
set_option linter.unusedSimpArgs false
set_option linter.unusedVariables false
namespace Go.Proofs.YtmolfmgchbjnbaaGreatDoor
open Go.ChangeShapes Go.WideShapes Go.ChangeAt Go.RowKit Go.ChangeMaps
open Wire Flow

theorem entered328 : ∃ fn, Ev.entered Tryz.prog 328 = some fn := by
  have h : (Ev.entered Tryz.prog 328).isSome = true := by kernel_rfl
  exact Option.isSome_iff_exists.1 h
theorem entered163 : ∃ fn, Ev.entered Tryz.prog 163 = some fn := by
  have h : (Ev.entered Tryz.prog 163).isSome = true := by kernel_rfl
  exact Option.isSome_iff_exists.1 h
theorem both_ok : Tok.BothOk :=
  Ev.bothX_ok Ev.entered58 (fun s w hs => (clone_any s w hs).mono fun e w' h => ⟨h.1, h.2.kept⟩) entered328 (fun s c w h1 h2 => (Tryz.strings_Repeat s c w (by omega) (by omega)).mono fun e w' h => ⟨h.1, (Fr.of_below h.2).kept⟩)
set_option maxRecDepth 100000 in
theorem quoted_contract (H : Type) (enc : TypeId × Value → H) (W : World) (base : Nat) (args : Array Value) (ds gs : List (DataW H)) (before : List MemPlace)
    (hval : ∀ (j : Nat) t v, Tryz.f6.params[j]? = some t → args[j]? = some v → Value.okWide Tryz.prog W .any base t v)
    (hW : DataW.Whole enc Tryz.prog Tryz.f6.params.toList Rows.quotedSpec.vars false W args.toList ds gs before)
    (hsz : (DataW.weightsEach Tryz.prog (Tryz.f6.params.toList ++ (OpenSpec.ofChange Rows.quotedSpec).bare.plain.varTypes Tryz.prog) (ds ++ gs)).all (· ≤ reachBytes) = true)
    (hL : laidMetH Tryz.prog Rows.quotedRow.laid W) (hsh : W.ShapedOpen Tryz.prog) :
    Calls Tryz.prog 6 args W fun e W' => ∃ v, e = .returned v ∧ Rows.quotedSpec.post enc Tryz.prog Tryz.f6 false true false false W args v W' := by
  have hW' := hW
  obtain ⟨p, q, hA0, hV, rfl, hfz, hnd⟩ := hW
  have hA : DataW.TrodAll enc Tryz.prog W 0 (fun _ => true) true Tryz.f6.params.toList args.toList ds p := hA0
  rw [Tryz.params6] at hA hval hsz
  obtain ⟨v0, vs0, d0, ds0, p0, q0, hargs, rfl, rfl, h0, r0⟩ := trodAll_cons hA
  obtain ⟨rfl, rfl, rfl⟩ := trodAll_nil r0
  obtain rfl : args = #[v0] := by cases args; simp_all
  obtain ⟨rfl, rfl⟩ := trodVars_none hV
  have k0 := hval 0 9 v0 rfl rfl
  clear hval
  have h0k := h0
  obtain ⟨fuel0, hf0⟩ := h0
  obtain ⟨t, rfl⟩ := okWide_string Tryz.underlying9 k0
  obtain ⟨t9, ea, exa, wa⟩ := DataW.trod_string Tryz.underlying9 hf0
  cases ea
  cases exa
  have hz : t.size ≤ 1000000000000000 := by
    have := sized_string hsz (j := 0) (t := 9) rfl rfl
    have hl : t.data.toList.length = t.size := Array.length_toList
    unfold reachBytes at this
    omega
  refine (Tok.quoted_any both_ok entered163 hz (base_of (Ev.pw_tab hL) hsh) (Ev.sgn_tab hL)).mono fun e W' ⟨he, hf⟩ => ?_
  subst he
  refine ⟨_, rfl, [.lit (.string t.data.toList)], [], _, [], [] ++ [], [], hW', trodAll_cons_mk (shut_bool Tryz.underlying4 _) trodAll_mk0, ?_, ?_, (fr_below hf).frame _, fun h => by cases h⟩
  · exact trodAll_cons_mk (Below.trod laid_out (by kernel_rfl) (of_decide_eq_true (by kernel_rfl)) h0k (fr_below hf) (fun x hx => by cases hx)) trodAll_mk0
  · rfl

/-- The arguments of the witness. -/
def argsS : Array Value := #[.string ⟨#[]⟩]

set_option maxRecDepth 100000 in
theorem laid_fitsS (os : Os) : (World.holding Tryz.prog os ⟨#[], #[], []⟩).layFits Tryz.prog Rows.quotedRow.laid [] = true := by kernel_rfl
set_option maxRecDepth 100000 in
theorem laid_ifacesS (os : Os) : (World.holding Tryz.prog os ⟨#[], #[], []⟩).layIfaces Tryz.prog Rows.quotedRow.laid (World.laidAll Tryz.prog os Rows.quotedRow.laid) = true := by kernel_rfl

set_option maxRecDepth 100000 in
/-- A world for the witness: the settled one, the variables holding what their initialisers lay. -/
theorem laid_worldS (os : Os) : ∃ w0 : World, w0.os = os ∧ (w0.forCall (fun _ _ => 0) ⟨#[], argsS, []⟩).variablesRefB Tryz.prog = true ∧
    ((w0.forCall (fun _ _ => 0) ⟨#[], argsS, []⟩).heap.toList.drop Tryz.prog.globals.size).take ((begin Tryz.prog (fun _ _ => 0) default).world.heap.size - Tryz.prog.globals.size) =
      (begin Tryz.prog (fun _ _ => 0) default).world.heap.toList.drop Tryz.prog.globals.size ∧
    Input.okWideB Tryz.prog (w0.forCall (fun _ _ => 0) ⟨#[], argsS, []⟩) 6 ⟨#[], argsS, []⟩ = true ∧
    laidMet Tryz.prog Rows.quotedRow.laid (w0.forCall (fun _ _ => 0) ⟨#[], argsS, []⟩).memory ∧
    ∀ {H : Type} (enc : TypeId × Value → H), DataW.whole enc Tryz.prog (w0.forCall (fun _ _ => 0) ⟨#[], argsS, []⟩).memory Tryz.f6.params.toList Rows.quotedSpec.vars false argsS.toList 8 = some ([.lit (.string [])], [], []) := by
  refine ⟨World.laidAll Tryz.prog os Rows.quotedRow.laid, World.laidAll_os _ _ _, ?_, ?_, ?_, laidMet_laidAll argsS (laid_fitsS os) (laid_ifacesS os), ?_⟩
  · kernel_rfl
  · kernel_rfl
  · kernel_rfl
  · intro H enc
    kernel_rfl

set_option maxRecDepth 100000 in
theorem quoted_lifted (os : Os) (started : os.Started) (H : Type) (enc : TypeId × Value → H) (F : Stop.Interp) :
    ReturnsInHanded {} Tryz.checked os 6 .any ((OpenSpec.ofChange Rows.quotedSpec).preRow enc Tryz.prog Tryz.f6 Rows.quotedRow.domain false Rows.quotedRow.laid) (((OpenSpec.ofChange Rows.quotedSpec).at F).post enc Tryz.prog Tryz.f6 false true false false) := by
  obtain ⟨w0, hos, hv, hr, hok, hlm, hx⟩ := laid_worldS os
  refine returnsInHanded_of_row (C := Tryz.checked) (s := OpenSpec.ofChange Rows.quotedSpec) ownK started (by kernel_rfl) Tryz.func6
    (witness_row_atRef (enc := enc) (C := Tryz.checked) false w0 argsS hos hv hr hok
      (OpenSpec.preRow_of_cond 8 (hx enc) (by kernel_rfl) (fun k hk => by cases hk) (by kernel_rfl) hlm)) ?_
  intro W base args ds gs before hval hW _ _ hsz hL hsh _
  exact quoted_contract H enc W base args ds gs before hval hW hsz hL hsh

theorem quoted_said : Rows.QuotedSaid :=
  OpenClaim.holds_of_cond 6 Tryz.f6 rfl rfl rfl rfl rfl rfl rfl ⟨rfl, rfl, rfl, rfl, rfl⟩ rfl rfl rfl rfl rfl (by kernel_rfl) Tryz.func6 quoted_facts
    (of_decide_eq_true (by kernel_rfl)) (by unfold Func.isWrapper; first | (rw [if_pos (by decide +kernel)]; kernel_rfl) | (rw [if_neg (by decide +kernel)]; exact ⟨rfl, rfl⟩))
    (fun os started H enc _ F => by rw [OpenClaim.pre_eq_preRow]; exact quoted_lifted os started H enc F)

/-- No parameter wants a stand-in; the program's own looks are off. -/
theorem quoted_plain (f : FuncId) (fn : Func) (hf : Tryz.pinned.checked.prog.funcNamed Tryz.f6.name = some f) (hfn : Tryz.pinned.checked.prog.funcs[f]? = some fn) :
    false = Tryz.pinned.checked.prog.looks [] ∧ ∀ (j : Nat) t, fn.params[j]? = some t → Tryz.pinned.checked.prog.wantsStandIn t = false := by
  obtain rfl : f = 6 := Option.some.inj ((show Tryz.prog.funcNamed Tryz.f6.name = some 6 by kernel_rfl).symm.trans hf) |>.symm
  obtain rfl : fn = Tryz.f6 := (Option.some.inj (Tryz.func6.symm.trans hfn)).symm
  refine ⟨by kernel_rfl, fun j t ht => ?_⟩
  rw [Tryz.params6] at ht
  have hm := Array.mem_of_getElem? ht
  simp at hm
  subst hm
  exact (show Tryz.prog.wantsStandIn 9 = false by kernel_rfl)

/-- The card. -/
theorem quoted_card : Rows.QuotedCardSaid :=
  Claim7.holds_tied_plain_at .later [] _ _ _ _ quoted_said (fun _ h => by cases h) (by kernel_rfl) (fun _ h => by cases h) quoted_row_tie rfl ⟨rfl, rfl⟩ (by kernel_rfl) rfl quoted_plain (by kernel_rfl)
#print axioms quoted_card

end Go.Proofs.YtmolfmgchbjnbaaGreatDoor
