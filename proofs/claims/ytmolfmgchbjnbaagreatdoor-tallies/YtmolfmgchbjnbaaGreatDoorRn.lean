/-
  gleankeep.Tallies answers true for every list of records: where the records may be a run's, the source that counts the records' first words tells how often each came, and the one that lets them come in and go out tells those that are in, each in the order in which they came, or ends as it must; where they may not be, there is no machine (P15). Conditions: the listed tables as the program's text lays them.
-/
import Derived.Test.YtmolfmgchbjnbaaGreatDoorCards
import Derived.Test.YtmolfmgchbjnbaaGreatDoorTie
import Derived.Test.YtmolfmgchbjnbaaGreatDoorM51
import Derived.Test.YtmolfmgchbjnbaaGreatDoorM47
import Derived.Test.YtmolfmgchbjnbaaGreatDoorM48
import Derived.Deep.DeepWitnessRowRef
set_option linter.unusedSimpArgs false
set_option linter.unusedVariables false
namespace Go.Proofs.YtmolfmgchbjnbaaGreatDoor
open Go.ChangeShapes Go.WideShapes Go.ChangeAt Go.RowKit Go.ChangeMaps
open Wire Flow
set_option maxRecDepth 100000 in
theorem tallies_contract (H : Type) (enc : TypeId × Value → H) (W : World) (base : Nat) (args : Array Value) (ds gs : List (DataW H)) (before : List MemPlace)
    (hval : ∀ (j : Nat) t v, Tryz.f4.params[j]? = some t → args[j]? = some v → Value.okWide Tryz.prog W .any base t v)
    (hW : DataW.Whole enc Tryz.prog Tryz.f4.params.toList Rows.talliesSpec.vars false W args.toList ds gs before)
    (hL : laidMetH Tryz.prog Rows.talliesRow.laid W) (hsh : W.ShapedOpen Tryz.prog) :
    Calls Tryz.prog 4 args W fun e W' => ∃ v, e = .returned v ∧ Rows.talliesSpec.post enc Tryz.prog Tryz.f4 false true false false W args v W' := by
  have hW' := hW
  obtain ⟨p, q, hA0, hV, rfl, hfz, hnd⟩ := hW
  have hA : DataW.TrodAll enc Tryz.prog W 0 (fun _ => true) true Tryz.f4.params.toList args.toList ds p := hA0
  rw [Tryz.params4] at hA hval
  obtain ⟨v0, vs0, d0, ds0, p0, q0, hargs, rfl, rfl, h0, r0⟩ := trodAll_cons hA
  obtain ⟨rfl, rfl, rfl⟩ := trodAll_nil r0
  obtain rfl : args = #[v0] := by cases args; simp_all
  obtain ⟨rfl, rfl⟩ := trodVars_none hV
  have k0 := hval 0 22 v0 rfl rfl
  clear hval
  have h0k := h0
  obtain ⟨fuel0, hf0⟩ := h0
  obtain ⟨ra, nr, rc, rfl⟩ := okWide_slice Tryz.underlying22 k0
  clear hA0
  simp only [List.append_nil] at hW'
  obtain ⟨recs, -, hr⟩ := open_argL (f := Value.string) Tryz.underlying22 cof9 (fun k y z hz => by
    obtain ⟨s, e, -, -⟩ := DataW.trod_string Tryz.underlying9 hz
    exact ⟨s, by simpa using e⟩) (x := (d0, p0)) hf0 (lenSl d0)
  have hlt0 : ∀ x ∈ p0, x.block < W.heap.size := fun x hx => by simpa using hW'.lt x (by simp [hx])
  refine (tallies_any (base_of (Ev.pw_tab hL) hsh) (Ev.sgn_tab hL) hr).mono fun e W' ⟨he, hf⟩ => ?_
  subst he
  refine ⟨_, rfl, [d0], [], _, [], p0 ++ [], [], hW', trodAll_cons_mk (shut_bool Tryz.underlying4 _) trodAll_mk0, ?_, ?_, (fr_below hf).frame _, fun h => by cases h⟩
  · exact trodAll_cons_mk (Below.trod laid_out (by kernel_rfl) (of_decide_eq_true (by kernel_rfl)) h0k (fr_below hf) hlt0) trodAll_mk0
  · rfl
def argsS : Array Value := #[.slice none 0 0]
set_option maxRecDepth 100000 in
theorem laid_fitsS (os : Os) : (World.holding Tryz.prog os ⟨#[], #[], []⟩).layFits Tryz.prog Rows.talliesRow.laid [] = true := by kernel_rfl
set_option maxRecDepth 100000 in
theorem laid_ifacesS (os : Os) : (World.holding Tryz.prog os ⟨#[], #[], []⟩).layIfaces Tryz.prog Rows.talliesRow.laid (World.laidAll Tryz.prog os Rows.talliesRow.laid) = true := by kernel_rfl
set_option maxRecDepth 100000 in
theorem laid_worldS (os : Os) : ∃ w0 : World, w0.os = os ∧ (w0.forCall (fun _ _ => 0) ⟨#[], argsS, []⟩).variablesRefB Tryz.prog = true ∧
    ((w0.forCall (fun _ _ => 0) ⟨#[], argsS, []⟩).heap.toList.drop Tryz.prog.globals.size).take ((begin Tryz.prog (fun _ _ => 0) default).world.heap.size - Tryz.prog.globals.size) =
      (begin Tryz.prog (fun _ _ => 0) default).world.heap.toList.drop Tryz.prog.globals.size ∧
    Input.okWideB Tryz.prog (w0.forCall (fun _ _ => 0) ⟨#[], argsS, []⟩) 4 ⟨#[], argsS, []⟩ = true ∧
    laidMet Tryz.prog Rows.talliesRow.laid (w0.forCall (fun _ _ => 0) ⟨#[], argsS, []⟩).memory ∧
    ∀ {H : Type} (enc : TypeId × Value → H), DataW.whole enc Tryz.prog (w0.forCall (fun _ _ => 0) ⟨#[], argsS, []⟩).memory Tryz.f4.params.toList Rows.talliesSpec.vars false argsS.toList 8 = some ([.nil], [], []) := by
  refine ⟨World.laidAll Tryz.prog os Rows.talliesRow.laid, World.laidAll_os _ _ _, ?_, ?_, ?_, laidMet_laidAll argsS (laid_fitsS os) (laid_ifacesS os), ?_⟩
  · kernel_rfl
  · kernel_rfl
  · kernel_rfl
  · intro H enc
    kernel_rfl
set_option maxRecDepth 100000 in
theorem tallies_lifted (os : Os) (started : os.Started) (H : Type) (enc : TypeId × Value → H) (F : Stop.Interp) :
    ReturnsInHanded {} Tryz.checked os 4 .any ((OpenSpec.ofChange Rows.talliesSpec).preRow enc Tryz.prog Tryz.f4 Rows.talliesRow.domain false Rows.talliesRow.laid) (((OpenSpec.ofChange Rows.talliesSpec).at F).post enc Tryz.prog Tryz.f4 false true false false) := by
  obtain ⟨w0, hos, hv, hr, hok, hlm, hx⟩ := laid_worldS os
  refine returnsInHanded_of_row (C := Tryz.checked) (s := OpenSpec.ofChange Rows.talliesSpec) ownK started (by kernel_rfl) Tryz.func4
    (witness_row_atRef (enc := enc) (C := Tryz.checked) false w0 argsS hos hv hr hok
      (OpenSpec.preRow_of_cond 8 (hx enc) (by kernel_rfl) (fun k hk => by cases hk) (by kernel_rfl) hlm)) ?_
  intro W base args ds gs before hval hW _ _ _ hL hsh _
  exact tallies_contract H enc W base args ds gs before hval hW hL hsh
theorem tallies_said : Rows.TalliesSaid :=
  OpenClaim.holds_of_cond 4 Tryz.f4 rfl rfl rfl rfl rfl rfl rfl ⟨rfl, rfl, rfl, rfl, rfl⟩ rfl rfl rfl rfl rfl (by kernel_rfl) Tryz.func4 tallies_facts
    (of_decide_eq_true (by kernel_rfl)) (by unfold Func.isWrapper; first | (rw [if_pos (by decide +kernel)]; kernel_rfl) | (rw [if_neg (by decide +kernel)]; exact ⟨rfl, rfl⟩))
    (fun os started H enc _ F => by rw [OpenClaim.pre_eq_preRow]; exact tallies_lifted os started H enc F)
theorem tallies_plain (f : FuncId) (fn : Func) (hf : Tryz.pinned.checked.prog.funcNamed Tryz.f4.name = some f) (hfn : Tryz.pinned.checked.prog.funcs[f]? = some fn) :
    false = Tryz.pinned.checked.prog.looks [] ∧ ∀ (j : Nat) t, fn.params[j]? = some t → Tryz.pinned.checked.prog.wantsStandIn t = false := by
  obtain rfl : f = 4 := Option.some.inj ((show Tryz.prog.funcNamed Tryz.f4.name = some 4 by kernel_rfl).symm.trans hf) |>.symm
  obtain rfl : fn = Tryz.f4 := (Option.some.inj (Tryz.func4.symm.trans hfn)).symm
  refine ⟨by kernel_rfl, fun j t ht => ?_⟩
  rw [Tryz.params4] at ht
  have hm := Array.mem_of_getElem? ht
  simp at hm
  subst hm
  exact (show Tryz.prog.wantsStandIn 22 = false by kernel_rfl)
theorem tallies_card : Rows.TalliesCardSaid :=
  Claim7.holds_tied_plain_at .later [] _ _ _ _ tallies_said (fun _ h => by cases h) (by kernel_rfl) (fun _ h => by cases h) tallies_row_tie rfl ⟨rfl, rfl⟩ (by kernel_rfl) rfl tallies_plain (by kernel_rfl)
#print axioms tallies_card
end Go.Proofs.YtmolfmgchbjnbaaGreatDoor
