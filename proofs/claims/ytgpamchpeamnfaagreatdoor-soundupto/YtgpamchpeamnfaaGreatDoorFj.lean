/-
  gleanlaw.Sound answers true for every module, every list of records and of draws and every number of instructions, of bulk at most 1048576 together: what Check takes never gets stuck on a machine that looks at every cell, it ends in one of the states or goes on; and where Check refuses, it does so with the document's error (P9, P13). Conditions: the arguments' bulk (the second form's own); the listed package-level variables read as the program's text lays them (the card ties them).
-/
import Derived.Test.YtgpamchpeamnfaaGreatDoorCards
import Derived.Test.YtgpamchpeamnfaaGreatDoorTie
import Derived.Test.YtgpamchpeamnfaaGreatDoorM42
import Derived.Test.YtgpamchpeamnfaaGreatDoorM43
set_option linter.unusedSimpArgs false
set_option linter.unusedVariables false
namespace Go.Proofs.YtgpamchpeamnfaaGreatDoor
open Go.ChangeShapes Go.WideShapes Go.ChangeAt Go.RowKit Go.ChangeMaps
open Wire Flow Mach

/-! The listed variables. -/
def xF : String := Rows.soundUptoRow.named.getD 0 ""
def rC : String := Rows.soundUptoRow.named.getD 1 ""
def uG : String := Rows.soundUptoRow.named.getD 2 ""
def uR : String := Rows.soundUptoRow.named.getD 3 ""
/-- The tables of strings. -/
def aKi : List ByteArray := lY.map wdK
def aLp : List ByteArray := jV.map wdK
theorem bBu : (Rows.soundUptoRow.laid.filter fun x => x.1 == xF) = [(xF, Lib.tabData .u8 (Lib.deBruijn64tab.map Int.ofNat))] := by kernel_rfl
theorem aQs : (Rows.soundUptoRow.laid.filter fun x => x.1 == rC) = [(rC, Lib.tabData .i64 (dH.map Int.ofNat))] := by kernel_rfl
theorem aQr : (Rows.soundUptoRow.laid.filter fun x => x.1 == uG) = [(uG, xI aKi)] := by kernel_rfl
theorem aQt : (Rows.soundUptoRow.laid.filter fun x => x.1 == uR) = [(uR, xI aLp)] := by kernel_rfl
theorem bFm : Tryz.prog.globalNamed xF = some 5 := by kernel_rfl
theorem aVn : (Tryz.prog.globals[5]?).map (·.type) = some 269 := by kernel_rfl
theorem aVo : Tryz.prog.globalNamed rC = some 0 := by kernel_rfl
theorem aLr : (Tryz.prog.globals[0]?).map (·.type) = some 113 := by kernel_rfl
theorem bCn : Tryz.prog.globalNamed uG = some 1 := by kernel_rfl
theorem aLq : (Tryz.prog.globals[1]?).map (·.type) = some 197 := by kernel_rfl
theorem bCo : Tryz.prog.globalNamed uR = some 2 := by kernel_rfl
theorem aLs : (Tryz.prog.globals[2]?).map (·.type) = some 197 := by kernel_rfl
theorem aWi : Tryz.prog.cellsOf 269 = 64 := by kernel_rfl
theorem aWj : Tryz.prog.cellsOf 113 = 54 := by kernel_rfl
theorem aJf : Tryz.prog.cellsOf 197 = 54 := by kernel_rfl

theorem aFy {W : World} (h : laidMetH Tryz.prog Rows.soundUptoRow.laid W) : Tab W := by
  have h1 := laidMetH.filter (fun x => x.1 == xF) h
  rw [bBu] at h1
  have ht : Lib.TabIs Tryz.prog W xF .u8 (Lib.deBruijn64tab.map Int.ofNat) :=
    Lib.tabIs_of_head (rest := []) bFm aVn Tryz.underlying269 Tryz.underlying5 bCy aWi h1
  intro j hj
  have := ht.cell bFm j (by simpa using hj)
  rw [this]
  congr 2
  rw [List.getD_eq_getElem?_getD, List.getElem?_map, List.getD_eq_getElem?_getD]
  cases hx : Lib.deBruijn64tab[j]? with
  | none => rfl
  | some y => rfl

theorem aAa {W : World} (h : laidMetH Tryz.prog Rows.soundUptoRow.laid W) : pY W := by
  have h1 := laidMetH.filter (fun x => x.1 == rC) h
  rw [aQs] at h1
  have ht : Lib.TabIs Tryz.prog W rC .i64 (dH.map Int.ofNat) :=
    Lib.tabIs_of_head (rest := []) aVo aLr Tryz.underlying113 Tryz.underlying3 U8 aWj h1
  refine ⟨fun j hj => ?_⟩
  have := ht.cell aVo j (by simpa [dH] using hj)
  rw [this]
  congr 2
  rw [List.getD_eq_getElem?_getD, List.getElem?_map, List.getD_eq_getElem?_getD]
  cases hx : dH[j]? with
  | none => rfl
  | some y => rfl

theorem aIo (L : List (List UInt8)) (i : Nat) (h : i < L.length) : (L.map wdK).getD i ⟨#[]⟩ = wdK (L.getD i []) := by
  rw [List.getD_eq_getElem?_getD, List.getElem?_map, List.getD_eq_getElem?_getD, List.getElem?_eq_getElem h]
  rfl

theorem Zo2 {W : World} (h : laidMetH Tryz.prog Rows.soundUptoRow.laid W) : nQ W := by
  have h1 := laidMetH.filter (fun x => x.1 == uG) h
  rw [aQr] at h1
  have h2 := laidMetH.filter (fun x => x.1 == uR) h
  rw [aQt] at h2
  refine ⟨fun i hi => ?_, fun i hi => ?_⟩
  · have := xH (rest := []) bCn aLq Tryz.underlying197 Tryz.underlying9 zI aJf h1 i (by simpa [aKi, lY] using hi)
    rw [this, aKi, aIo _ _ (by simpa [lY] using hi)]
  · have := xH (rest := []) bCo aLs Tryz.underlying197 Tryz.underlying9 zI aJf h2 i (by simpa [aLp, jV] using hi)
    rw [this, aLp, aIo _ _ (by simpa [jV] using hi)]

def xO : String := Rows.soundUptoRow.named.getD 4 ""
theorem aVb : (Rows.soundUptoRow.laid.filter fun x => x.1 == xO) = [(xO, Lib.tabData .u64 Lib.pow10Tab)] := by kernel_rfl
theorem bFn : Tryz.prog.globalNamed xO = some 3 := by kernel_rfl
theorem aRa : (Tryz.prog.globals[3]?).map (·.type) = some 252 := by kernel_rfl
theorem aSf : Tryz.prog.cellsOf 252 = 20 := by kernel_rfl
theorem aGu {W : World} (h : laidMetH Tryz.prog Rows.soundUptoRow.laid W) : iM W := by
  have h1 := laidMetH.filter (fun x => x.1 == xO) h
  rw [aVb] at h1
  exact Lib.tabIs_of_head (rest := []) bFn aRa Tryz.underlying252 Tryz.underlying162 (by kernel_rfl) aSf h1

set_option maxRecDepth 100000 in
theorem H9 (H : Type) (enc : TypeId × Value → H) (W : World) (base : Nat) (args : Array Value) (ds gs : List (DataW H)) (before : List MemPlace)
    (hval : ∀ (j : Nat) t v, Tryz.f3.params[j]? = some t → args[j]? = some v → Value.okWide Tryz.prog W .any base t v)
    (hW : DataW.Whole enc Tryz.prog Tryz.f3.params.toList Rows.soundSpec.vars false W args.toList ds gs before)
    (hc : Rows.uptoSmall H (ds ++ gs) = true)
    (hL : laidMetH Tryz.prog Rows.soundUptoRow.laid W) :
    Calls Tryz.prog 3 args W fun e W' => ∃ v, e = .returned v ∧ Rows.soundSpec.post enc Tryz.prog Tryz.f3 false true false false W args v W' := by
  have hW' := hW
  obtain ⟨p, q, hA0, hV, rfl, hfz, hnd⟩ := hW
  have hA : DataW.TrodAll enc Tryz.prog W 0 (fun _ => true) true Tryz.f3.params.toList args.toList ds p := hA0
  rw [Tryz.params3] at hA hval
  obtain ⟨v0, vs0, d0, ds0, p0, q0, hargs, rfl, rfl, h0, r0⟩ := trodAll_cons hA
  obtain ⟨v1, vs1, d1, ds1, p1, q1, rfl, rfl, rfl, h1, r1⟩ := trodAll_cons r0
  obtain ⟨v2, vs2, d2, ds2, p2, q2, rfl, rfl, rfl, h2, r2⟩ := trodAll_cons r1
  obtain ⟨v3, vs3, d3, ds3, p3, q3, rfl, rfl, rfl, h3, r3⟩ := trodAll_cons r2
  obtain ⟨rfl, rfl, rfl⟩ := trodAll_nil r3
  obtain rfl : args = #[v0, v1, v2, v3] := by cases args; simp_all
  obtain ⟨rfl, rfl⟩ := trodVars_none hV
  have k0 := hval 0 25 v0 rfl rfl
  have k1 := hval 1 22 v1 rfl rfl
  have k2 := hval 2 26 v2 rfl rfl
  have k3 := hval 3 3 v3 rfl rfl
  clear hval
  have h0k := h0
  have h1k := h1
  have h2k := h2
  obtain ⟨fuel0, hf0⟩ := h0
  obtain ⟨fuel1, hf1⟩ := h1
  obtain ⟨fuel2, hf2⟩ := h2
  obtain ⟨cs, rfl, hcs⟩ := okWide_struct Tryz.underlying25 k0
  rw [aOk] at hcs
  obtain ⟨ra, nr', rc', rfl⟩ := okWide_slice Tryz.underlying22 k1
  obtain ⟨da, nd', dc', rfl⟩ := okWide_slice Tryz.underlying26 k2
  obtain ⟨n, rfl, rfl, rfl, m3⟩ := open_int Tryz.underlying3 k3 h3
  clear hA0
  simp only [List.append_nil] at hW' hc
  have hb := of_decide_eq_true hc
  simp only [Rows.uptoBulkAll] at hb
  obtain ⟨m, tv, pv, fv, ec, hM, hz⟩ := aHg hcs hf0
  obtain ⟨ra2, nr, rc, e1, hr1, hr2, hr3⟩ := N7 (Q := fun y => ∃ s : ByteArray, s.size ≤ 1048576 ∧ y = .string s) Tryz.underlying22 zI (fun k y z hz hbz => by
    obtain ⟨s, e, rfl, hs⟩ := DataW.trod_string Tryz.underlying9 hz
    refine ⟨s, ?_, by simpa using e⟩
    simp only [Rows.uptoBulk] at hbz
    have : s.size = s.data.toList.length := (Array.length_toList (xs := s.data)).symm
    omega) (x := (d1, p1)) hf1 (by show Rows.uptoBulk d1 ≤ _; omega)
  obtain ⟨da2, nd, dc, e2, hd1, hd2, hd3⟩ := N7 (Q := fun y => ∃ n : Int, (-9223372036854775808 ≤ n ∧ n ≤ 9223372036854775807) ∧ y = .int .i64 n) Tryz.underlying26 U8 (fun k y z hz hbz => by
    obtain ⟨n, e, -, hw⟩ := DataW.trod_int Tryz.underlying3 hz
    exact ⟨n, oP hw, by simpa using e⟩) (x := (d2, p2)) hf2 (by show Rows.uptoBulk d2 ≤ _; omega)
  simp only [Value.slice.injEq] at e1 e2
  obtain ⟨rfl, rfl, rfl⟩ := e1
  obtain ⟨rfl, rfl, rfl⟩ := e2
  have hS : aAq W (.slice ra nr' rc') (.slice da nd' dc') nr' nd' := by
    refine ⟨⟨ra, rc', rfl, hr1, hr2, fun h0 => ?_⟩, da, dc', rfl, hd1, hd2, fun h0 => ?_⟩
    · obtain ⟨g, off, h1, h2, h3⟩ := hr3 h0
      exact ⟨g, off, h1, h2, fun i hi => by obtain ⟨y, ⟨s, hs, rfl⟩, hy⟩ := h3 i hi; exact ⟨s, hs, hy⟩⟩
    · obtain ⟨g, off, h1, h2, h3⟩ := hd3 h0
      exact ⟨g, off, h1, h2, fun i hi => by obtain ⟨y, ⟨s, hs, rfl⟩, hy⟩ := h3 i hi; exact ⟨s, hs, hy⟩⟩
  have hlt0 : ∀ x ∈ p0, x.block < W.heap.size := fun x hx => by simpa using hW'.lt x (by simp [hx])
  have hlt1 : ∀ x ∈ p1, x.block < W.heap.size := fun x hx => by simpa using hW'.lt x (by simp [hx])
  have hlt2 : ∀ x ∈ p2, x.block < W.heap.size := fun x hx => by simpa using hW'.lt x (by simp [hx])
  obtain ⟨tv', pv', fv', e, ⟨ta, tc, gt, ot, htv, -⟩, ⟨pa, pc, gp, op, hpv, -⟩, ⟨fa, fc, gf, of_, hfv, -⟩⟩ := hM.is
  simp only [Value.agg.injEq, Array.mk.injEq, List.cons.injEq, and_true] at e
  obtain ⟨rfl, rfl, -, -, rfl⟩ := e
  subst htv hpv hfv
  obtain rfl : cs = #[.slice ta m.texts.length tc, .slice pa m.pats.length pc, .int .i64 m.globs, .int .i64 m.arrs, .slice fa m.fns.length fc] := Array.ext' ec
  refine (aPd W ta pa fa ra da _ tc _ pc _ fc nr' rc' nd' dc' m n (oP m3) hM hz hS (aFy hL) (Zo2 hL) (aAa hL) (aGu hL)).mono fun e W' ⟨he, hf⟩ => ?_
  subst he
  refine ⟨_, rfl, [d0, d1, d2, .lit (.int .i64 n)], [], _, [], p0 ++ (p1 ++ (p2 ++ ([] ++ []))), [], hW', trodAll_cons_mk (shut_bool Tryz.underlying4 _) trodAll_mk0, ?_, ?_, (xZ hf).frame _, fun h => by cases h⟩
  · exact trodAll_cons_mk (Below.trod P9 (by kernel_rfl) (of_decide_eq_true (by kernel_rfl)) h0k (xZ hf) hlt0) (trodAll_cons_mk (Below.trod P9 (by kernel_rfl) (of_decide_eq_true (by kernel_rfl)) h1k (xZ hf) hlt1) (trodAll_cons_mk (Below.trod P9 (by kernel_rfl) (of_decide_eq_true (by kernel_rfl)) h2k (xZ hf) hlt2) (trodAll_cons_mk (shut_int Tryz.underlying3 m3) trodAll_mk0)))
  · rfl

/-- The arguments of the witness. -/
def yL : Array Value := #[.agg #[.slice none 0 0, .slice none 0 0, .int .i64 0, .int .i64 0, .slice none 0 0], .slice none 0 0, .slice none 0 0, .int .i64 0]

set_option maxRecDepth 100000 in
theorem aLj (os : Os) : (World.holding Tryz.prog os ⟨#[], #[], []⟩).layFits Tryz.prog Rows.soundUptoRow.laid [] = true := by kernel_rfl
set_option maxRecDepth 100000 in
theorem aDy (os : Os) : (World.holding Tryz.prog os ⟨#[], #[], []⟩).layIfaces Tryz.prog Rows.soundUptoRow.laid (World.laidAll Tryz.prog os Rows.soundUptoRow.laid) = true := by kernel_rfl

set_option maxRecDepth 100000 in
/-- A world for the witness: the settled one, the variables holding what their initialisers lay. -/
theorem aIe (os : Os) : ∃ w0 : World, w0.os = os ∧ (w0.forCall (fun _ _ => 0) ⟨#[], yL, []⟩).variablesB Tryz.prog = true ∧
    ((w0.forCall (fun _ _ => 0) ⟨#[], yL, []⟩).heap.toList.drop Tryz.prog.globals.size).take ((begin Tryz.prog (fun _ _ => 0) default).world.heap.size - Tryz.prog.globals.size) =
      (begin Tryz.prog (fun _ _ => 0) default).world.heap.toList.drop Tryz.prog.globals.size ∧
    Input.okWideB Tryz.prog (w0.forCall (fun _ _ => 0) ⟨#[], yL, []⟩) 3 ⟨#[], yL, []⟩ = true ∧
    laidMet Tryz.prog Rows.soundUptoRow.laid (w0.forCall (fun _ _ => 0) ⟨#[], yL, []⟩).memory ∧
    ∀ {H : Type} (enc : TypeId × Value → H), DataW.whole enc Tryz.prog (w0.forCall (fun _ _ => 0) ⟨#[], yL, []⟩).memory Tryz.f3.params.toList Rows.soundSpec.vars false yL.toList 8 = some ([.agg [.nil, .nil, .lit (.int .i64 0), .lit (.int .i64 0), .nil], .nil, .nil, .lit (.int .i64 0)], [], []) := by
  refine ⟨World.laidAll Tryz.prog os Rows.soundUptoRow.laid, World.laidAll_os _ _ _, ?_, ?_, ?_, laidMet_laidAll yL (aLj os) (aDy os), ?_⟩
  · kernel_rfl
  · kernel_rfl
  · kernel_rfl
  · intro H enc
    kernel_rfl

set_option maxRecDepth 100000 in
theorem aDd (os : Os) (started : os.Started) (H : Type) (enc : TypeId × Value → H) (F : Stop.Interp) :
    ReturnsInHanded {} Tryz.checked os 3 .any ((Rows.OpenSpec.upto Rows.soundSpec).preRow enc Tryz.prog Tryz.f3 Rows.soundUptoRow.domain false Rows.soundUptoRow.laid) (((Rows.OpenSpec.upto Rows.soundSpec).at F).post enc Tryz.prog Tryz.f3 false true false false) := by
  obtain ⟨w0, hos, hv, hr, hok, hlm, hx⟩ := aIe os
  refine returnsInHanded_of_row (C := Tryz.checked) (s := Rows.OpenSpec.upto Rows.soundSpec) bHc started (by kernel_rfl) Tryz.func3
    (witness_row_at (enc := enc) (C := Tryz.checked) false w0 yL hos hv hr hok
      (OpenSpec.preRow_of_cond 8 (hx enc) (by kernel_rfl) (fun k hk => by cases hk; kernel_rfl) (by kernel_rfl) hlm)) ?_
  intro W base args ds gs before hval hW _ hcond _ hL _ _
  exact H9 H enc W base args ds gs before hval hW (hcond _ rfl) hL

theorem aKo : Rows.SoundUptoSaid :=
  OpenClaim.holds_of_cond 3 Tryz.f3 rfl rfl rfl rfl rfl rfl rfl ⟨rfl, rfl, rfl, rfl, rfl⟩ rfl rfl rfl rfl rfl (by kernel_rfl) Tryz.func3 aGj
    (of_decide_eq_true (by kernel_rfl)) (by unfold Func.isWrapper; first | (rw [if_pos (by decide +kernel)]; kernel_rfl) | (rw [if_neg (by decide +kernel)]; exact ⟨rfl, rfl⟩))
    (fun os started H enc _ F => by rw [OpenClaim.pre_eq_preRow]; exact aDd os started H enc F)

/-- No parameter wants a stand-in; the program's own looks are off. -/
theorem aGi (f : FuncId) (fn : Func) (hf : Tryz.pinned.checked.prog.funcNamed Tryz.f3.name = some f) (hfn : Tryz.pinned.checked.prog.funcs[f]? = some fn) :
    false = Tryz.pinned.checked.prog.looks [] ∧ ∀ (j : Nat) t, fn.params[j]? = some t → Tryz.pinned.checked.prog.wantsStandIn t = false := by
  obtain rfl : f = 3 := Option.some.inj ((show Tryz.prog.funcNamed Tryz.f3.name = some 3 by kernel_rfl).symm.trans hf) |>.symm
  obtain rfl : fn = Tryz.f3 := (Option.some.inj (Tryz.func3.symm.trans hfn)).symm
  refine ⟨by kernel_rfl, fun j t ht => ?_⟩
  rw [Tryz.params3] at ht
  have hm := Array.mem_of_getElem? ht
  simp at hm
  rcases hm with rfl | rfl | rfl | rfl
  · exact (show Tryz.prog.wantsStandIn 25 = false by kernel_rfl)
  · exact (show Tryz.prog.wantsStandIn 22 = false by kernel_rfl)
  · exact (show Tryz.prog.wantsStandIn 26 = false by kernel_rfl)
  · exact (show Tryz.prog.wantsStandIn 3 = false by kernel_rfl)

/-- The card. -/
theorem sound_card : Rows.SoundUptoCardSaid :=
  Claim7.holds_tied_plain_at .later [] _ _ _ _ aKo (fun _ h => by cases h) (by kernel_rfl) (fun _ h => by cases h) soundUpto_row_tie rfl ⟨rfl, rfl⟩ (by kernel_rfl) rfl aGi (by kernel_rfl)
#print axioms sound_card

end Go.Proofs.YtgpamchpeamnfaaGreatDoor
