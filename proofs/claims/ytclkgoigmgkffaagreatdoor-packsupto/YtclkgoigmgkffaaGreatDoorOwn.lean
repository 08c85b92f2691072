/-
  gleanlaw.Packs answers true for every list of modules and every script of bulk at most 1048576: every Pack and Unpack of the program answers as the document does, of the opening's bytes, of bytes that the script gives, of the bytes of any of the modules, marred or not; what was handed in is as it was, and no list that came out is turned by a later call (P2, P7, P8). Conditions: the arguments' bulk (the second form's own); the listed package-level variables read as the program's text lays them (the card ties them).
-/
import Derived.Test.YtclkgoigmgkffaaGreatDoorCards
import Derived.Test.YtclkgoigmgkffaaGreatDoorTie
import Derived.Test.YtclkgoigmgkffaaGreatDoorM42
import Derived.Test.YtclkgoigmgkffaaGreatDoorM43
set_option linter.unusedSimpArgs false
set_option linter.unusedVariables false
namespace Go.Proofs.YtclkgoigmgkffaaGreatDoor
open Go.ChangeShapes Go.WideShapes Go.ChangeAt Go.RowKit Go.ChangeMaps
open Wire Flow Mach

/-! The listed variables. -/
def tabNameP : String := Rows.packsUptoRow.named.getD 0 ""
theorem laid64P : (Rows.packsUptoRow.laid.filter fun x => x.1 == tabNameP) = [(tabNameP, Lib.tabData .u8 (Lib.deBruijn64tab.map Int.ofNat))] := by kernel_rfl
theorem laidPowP : (Rows.packsUptoRow.laid.filter fun x => x.1 == powName) = [(powName, Lib.tabData .u64 Lib.pow10Tab)] := by kernel_rfl
theorem gTabP : Tryz.prog.globalNamed tabNameP = some 6 := by kernel_rfl
theorem gTabTypeP : (Tryz.prog.globals[6]?).map (·.type) = some 381 := by kernel_rfl
theorem gPowP : Tryz.prog.globalNamed powName = some 4 := by kernel_rfl
theorem gPowTypeP : (Tryz.prog.globals[4]?).map (·.type) = some 362 := by kernel_rfl
theorem cells381P : Tryz.prog.cellsOf 381 = 64 := by kernel_rfl
theorem cells362P : Tryz.prog.cellsOf 362 = 20 := by kernel_rfl
theorem cellsU8P : Tryz.prog.cellsOf 5 = 1 := by kernel_rfl

theorem tab_of_laidP {W : World} (h : laidMetH Tryz.prog Rows.packsUptoRow.laid W) : Tab W := by
  have h1 := laidMetH.filter (fun x => x.1 == tabNameP) h
  rw [laid64P] at h1
  have ht : Lib.TabIs Tryz.prog W tabNameP .u8 (Lib.deBruijn64tab.map Int.ofNat) :=
    Lib.tabIs_of_head (rest := []) gTabP gTabTypeP Tryz.underlying381 Tryz.underlying5 cellsU8P cells381P h1
  intro j hj
  have := ht.cell gTabP j (by simpa using hj)
  rw [this]
  congr 2
  rw [List.getD_eq_getElem?_getD, List.getElem?_map, List.getD_eq_getElem?_getD]
  cases hx : Lib.deBruijn64tab[j]? with
  | none => rfl
  | some y => rfl
theorem pow_of_laidP {W : World} (h : laidMetH Tryz.prog Rows.packsUptoRow.laid W) : PowTab W := by
  have h1 := laidMetH.filter (fun x => x.1 == powName) h
  rw [laidPowP] at h1
  exact Lib.tabIs_of_head (rest := []) gPowP gPowTypeP Tryz.underlying362 Tryz.underlying182 (by kernel_rfl) cells362P h1

theorem fr_belowP {W W' : World} (h : Fr [] W W') : Below W.heap.size W W' := ⟨h.os, h.tape, h.output, h.size, fun k hk => h.block k hk (by simp)⟩
theorem laid_outP : laidOutB Tryz.prog = true := by kernel_rfl
theorem ownKP : ownKnob Tryz.prog.godebug = none := by kernel_rfl

set_option maxRecDepth 100000 in
theorem packs_contract (H : Type) (enc : TypeId × Value → H) (W : World) (base : Nat) (args : Array Value) (ds gs : List (DataW H)) (before : List MemPlace)
    (hval : ∀ (j : Nat) t v, Tryz.f4.params[j]? = some t → args[j]? = some v → Value.okWide Tryz.prog W .any base t v)
    (hW : DataW.Whole enc Tryz.prog Tryz.f4.params.toList Rows.packsSpec.vars false W args.toList ds gs before)
    (hc : Rows.uptoSmall H (ds ++ gs) = true)
    (hL : laidMetH Tryz.prog Rows.packsUptoRow.laid W) :
    Calls Tryz.prog 4 args W fun e W' => ∃ v, e = .returned v ∧ Rows.packsSpec.post enc Tryz.prog Tryz.f4 false true false false W args v W' := by
  have hW' := hW
  obtain ⟨p, q, hA0, hV, rfl, hfz, hnd⟩ := hW
  have hA : DataW.TrodAll enc Tryz.prog W 0 (fun _ => true) true Tryz.f4.params.toList args.toList ds p := hA0
  rw [Tryz.params4] at hA hval
  obtain ⟨v0, vs0, d0, ds0, p0, q0, hargs, rfl, rfl, h0, r0⟩ := trodAll_cons hA
  obtain ⟨v1, vs1, d1, ds1, p1, q1, rfl, rfl, rfl, h1, r1⟩ := trodAll_cons r0
  obtain ⟨rfl, rfl, rfl⟩ := trodAll_nil r1
  obtain rfl : args = #[v0, v1] := by cases args; simp_all
  obtain ⟨rfl, rfl⟩ := trodVars_none hV
  have h0k := h0
  have h1k := h1
  obtain ⟨fuel0, hf0⟩ := h0
  obtain ⟨fuel1, hf1⟩ := h1
  clear hA0
  simp only [List.append_nil] at hW' hc
  have hb := of_decide_eq_true hc
  simp only [Rows.uptoBulkAll] at hb
  obtain ⟨ma, mn, mc, rfl⟩ := okWide_slice Tryz.underlying25 (hval 0 25 v0 rfl rfl)
  obtain ⟨a1, n1, c1, rfl⟩ := okWide_slice Tryz.underlying22 (hval 1 22 v1 rfl rfl)
  have hM := open_modsQ (x := (d0, p0)) hf0 (by show Rows.uptoBulk d0 ≤ _; omega)
  obtain ⟨a0, len, cap, g, off, hv1, hn, hcap, ha, hops⟩ := open_scriptQ (x := (d1, p1)) hf1 (by show Rows.uptoBulk d1 ≤ _; omega)
  rw [hv1] at hW' h1k ⊢
  have hlt0 : ∀ x ∈ p0, x.block < W.heap.size := fun x hx => by simpa using hW'.lt x (by simp [hx])
  have hlt1 : ∀ x ∈ p1, x.block < W.heap.size := fun x hx => by simpa using hW'.lt x (by simp [hx])
  refine (packs_any ma mn mc a0 len cap g off W hM (tab_of_laidP hL) (pow_of_laidP hL) hn ha hops hcap).mono fun e W' ⟨he, hf⟩ => ?_
  subst he
  refine ⟨_, rfl, [d0, d1], [], _, [], p0 ++ (p1 ++ []), [], hW', trodAll_cons_mk (shut_bool Tryz.underlying4 _) trodAll_mk0, ?_, ?_, (fr_belowP hf).frame _, fun h => by cases h⟩
  · exact trodAll_cons_mk (Below.trod laid_outP (by kernel_rfl) (of_decide_eq_true (by kernel_rfl)) h0k (fr_belowP hf) hlt0) (trodAll_cons_mk (Below.trod laid_outP (by kernel_rfl) (of_decide_eq_true (by kernel_rfl)) h1k (fr_belowP hf) hlt1) trodAll_mk0)
  · rfl

/-- The arguments of the witness. -/
def argsP : Array Value := #[.slice none 0 0, .slice none 0 0]

set_option maxRecDepth 100000 in
theorem laid_fitsP (os : Os) : (World.holding Tryz.prog os ⟨#[], #[], []⟩).layFits Tryz.prog Rows.packsUptoRow.laid [] = true := by kernel_rfl
set_option maxRecDepth 100000 in
theorem laid_ifacesP (os : Os) : (World.holding Tryz.prog os ⟨#[], #[], []⟩).layIfaces Tryz.prog Rows.packsUptoRow.laid (World.laidAll Tryz.prog os Rows.packsUptoRow.laid) = true := by kernel_rfl

set_option maxRecDepth 100000 in
/-- A world for the witness: the settled one, the variables holding what their initialisers lay. -/
theorem laid_worldP (os : Os) : ∃ w0 : World, w0.os = os ∧ (w0.forCall (fun _ _ => 0) ⟨#[], argsP, []⟩).variablesB Tryz.prog = true ∧
    ((w0.forCall (fun _ _ => 0) ⟨#[], argsP, []⟩).heap.toList.drop Tryz.prog.globals.size).take ((begin Tryz.prog (fun _ _ => 0) default).world.heap.size - Tryz.prog.globals.size) =
      (begin Tryz.prog (fun _ _ => 0) default).world.heap.toList.drop Tryz.prog.globals.size ∧
    Input.okWideB Tryz.prog (w0.forCall (fun _ _ => 0) ⟨#[], argsP, []⟩) 4 ⟨#[], argsP, []⟩ = true ∧
    laidMet Tryz.prog Rows.packsUptoRow.laid (w0.forCall (fun _ _ => 0) ⟨#[], argsP, []⟩).memory ∧
    ∀ {H : Type} (enc : TypeId × Value → H), DataW.whole enc Tryz.prog (w0.forCall (fun _ _ => 0) ⟨#[], argsP, []⟩).memory Tryz.f4.params.toList Rows.packsSpec.vars false argsP.toList 8 = some ([.nil, .nil], [], []) := by
  refine ⟨World.laidAll Tryz.prog os Rows.packsUptoRow.laid, World.laidAll_os _ _ _, ?_, ?_, ?_, laidMet_laidAll argsP (laid_fitsP os) (laid_ifacesP os), ?_⟩
  · kernel_rfl
  · kernel_rfl
  · kernel_rfl
  · intro H enc
    kernel_rfl

set_option maxRecDepth 100000 in
theorem packs_lifted (os : Os) (started : os.Started) (H : Type) (enc : TypeId × Value → H) (F : Stop.Interp) :
    ReturnsInHanded {} Tryz.checked os 4 .any ((Rows.OpenSpec.upto Rows.packsSpec).preRow enc Tryz.prog Tryz.f4 Rows.packsUptoRow.domain false Rows.packsUptoRow.laid) (((Rows.OpenSpec.upto Rows.packsSpec).at F).post enc Tryz.prog Tryz.f4 false true false false) := by
  obtain ⟨w0, hos, hv, hr, hok, hlm, hx⟩ := laid_worldP os
  refine returnsInHanded_of_row (C := Tryz.checked) (s := Rows.OpenSpec.upto Rows.packsSpec) ownKP started (by kernel_rfl) Tryz.func4
    (witness_row_at (enc := enc) (C := Tryz.checked) false w0 argsP hos hv hr hok
      (OpenSpec.preRow_of_cond 8 (hx enc) (by kernel_rfl) (fun k hk => by cases hk; kernel_rfl) (by kernel_rfl) hlm)) ?_
  intro W base args ds gs before hval hW _ hcond _ hL _ _
  exact packs_contract H enc W base args ds gs before hval hW (hcond _ rfl) hL

theorem packs_said : Rows.PacksUptoSaid :=
  OpenClaim.holds_of_cond 4 Tryz.f4 rfl rfl rfl rfl rfl rfl rfl ⟨rfl, rfl, rfl, rfl, rfl⟩ rfl rfl rfl rfl rfl (by kernel_rfl) Tryz.func4 packs_facts
    (of_decide_eq_true (by kernel_rfl)) (by unfold Func.isWrapper; first | (rw [if_pos (by decide +kernel)]; kernel_rfl) | (rw [if_neg (by decide +kernel)]; exact ⟨rfl, rfl⟩))
    (fun os started H enc _ F => by rw [OpenClaim.pre_eq_preRow]; exact packs_lifted os started H enc F)

/-- No parameter wants a stand-in; the program's own looks are off. -/
theorem packs_plain (f : FuncId) (fn : Func) (hf : Tryz.pinned.checked.prog.funcNamed Tryz.f4.name = some f) (hfn : Tryz.pinned.checked.prog.funcs[f]? = some fn) :
    false = Tryz.pinned.checked.prog.looks [] ∧ ∀ (j : Nat) t, fn.params[j]? = some t → Tryz.pinned.checked.prog.wantsStandIn t = false := by
  obtain rfl : f = 4 := Option.some.inj ((show Tryz.prog.funcNamed Tryz.f4.name = some 4 by kernel_rfl).symm.trans hf) |>.symm
  obtain rfl : fn = Tryz.f4 := (Option.some.inj (Tryz.func4.symm.trans hfn)).symm
  refine ⟨by kernel_rfl, fun j t ht => ?_⟩
  rw [Tryz.params4] at ht
  have hm := Array.mem_of_getElem? ht
  simp at hm
  rcases hm with rfl | rfl
  · exact (show Tryz.prog.wantsStandIn 25 = false by kernel_rfl)
  · exact (show Tryz.prog.wantsStandIn 22 = false by kernel_rfl)

/-- The card. -/
theorem packs_card : Rows.PacksUptoCardSaid :=
  Claim7.holds_tied_plain_at .later [] _ _ _ _ packs_said (fun _ h => by cases h) (by kernel_rfl) (fun _ h => by cases h) packsUpto_row_tie rfl ⟨rfl, rfl⟩ (by kernel_rfl) rfl packs_plain (by kernel_rfl)
#print axioms packs_card

end Go.Proofs.YtclkgoigmgkffaaGreatDoor
