/-
  gleankeep.Spoilt answers true, whatever its three arguments are: the bytes of a module of which any one byte is another, or the last is missing, or one more stands behind, are refused (P8). The card: the row's listed variable (math/bits.deBruijn64tab) is tied to the program's text.
-/
import Derived.Test.YticaoekmlaipnaaDoorM29
import Derived.Test.YticaoekmlaipnaaDoorCards
import Derived.Test.YticaoekmlaipnaaDoorTie
import Derived.WalkKit
import Derived.ProofKit
import Derived.OpenShut
import Derived.SizedLaws
import Derived.ChangeMaps5
import Derived.Deep.DeepHandedRow
import Derived.Deep.Slices
import Derived.Lib.LaidTab
import Derived.Carry
set_option linter.unusedSimpArgs false
set_option linter.unusedVariables false
namespace Go.Proofs.YticaoekmlaipnaaDoor
open Go.ChangeShapes Go.WideShapes Go.ChangeAt Go.RowKit Go.ChangeMaps
open Wire

theorem ownK : ownKnob Tryd.prog.godebug = none := by kernel_rfl
theorem laid_out : laidOutB Tryd.prog = true := by kernel_rfl
/-- The listed variable's name. -/
def tabName : String := Rows.spoiltRow.named.headD ""
theorem gTab : Tryd.prog.globalNamed tabName = some 0 := by kernel_rfl
theorem gTabType : (Tryd.prog.globals[0]?).map (·.type) = some 142 := by kernel_rfl
theorem cells142 : Tryd.prog.cellsOf 142 = 64 := by kernel_rfl
theorem cells5 : Tryd.prog.cellsOf 5 = 1 := by kernel_rfl
theorem cells3 : Tryd.prog.cellsOf 3 = 1 := by kernel_rfl
theorem cells9 : Tryd.prog.cellsOf 9 = 1 := by kernel_rfl
theorem cells63 : Tryd.prog.cellsOf 63 = 3 := by kernel_rfl
theorem cells43 : Tryd.prog.cellsOf 43 = 5 := by kernel_rfl
theorem cells31 : Tryd.prog.cellsOf 31 = 1 := by kernel_rfl
theorem cells41 : Tryd.prog.cellsOf 41 = 1 := by kernel_rfl

/-- What the row's list gives: the table's cells. -/
theorem tab_of_laid {W : World} (h : laidMetH Tryd.prog Rows.spoiltRow.laid W) : Tab W := by
  have ht : Lib.TabIs Tryd.prog W tabName .u8 (Lib.deBruijn64tab.map Int.ofNat) :=
    Lib.tabIs_of_head (rest := []) gTab gTabType Tryd.underlying142 Tryd.underlying5 cells5 cells142 h
  intro j hj
  have := ht.cell gTab j (by simpa using hj)
  rw [this]
  congr 2
  rw [List.getD_eq_getElem?_getD, List.getElem?_map, List.getD_eq_getElem?_getD]
  cases hx : Lib.deBruijn64tab[j]? with
  | none => rfl
  | some y => rfl

theorem fr_below {W W' : World} (h : Fr [] W W') : Below W.heap.size W W' := ⟨h.os, h.tape, h.output, h.size, fun k hk => h.block k hk (by simp)⟩

theorem i64_range {n : Int} (h : (Lit.int .i64 n).wf = true) : -9223372036854775808 ≤ n ∧ n ≤ 9223372036854775807 := by
  simp [Lit.wf, IntKind.min, IntKind.max, IntKind.bits, IntKind.signed] at h
  omega

theorem range_get {α : Type} (n : Nat) (f : Nat → α) (i : Nat) (x : α) (h : ((List.range n).map f)[i]? = some x) : i < n ∧ x = f i := by
  rw [List.getElem?_map] at h
  by_cases hi : i < n
  · rw [List.getElem?_range hi] at h
    exact ⟨hi, by simpa using h.symm⟩
  · rw [List.getElem?_eq_none (by simp; omega)] at h
    cases h

set_option maxRecDepth 100000 in
/-- A list of texts that came in. -/
theorem open_strs {H : Type} {enc : TypeId × Value → H} {W : World} {n : Nat} {v : Value} {x : DataW H × List MemPlace}
    (h : DataW.trod enc Tryd.prog W 0 (fun _ => true) true n 31 [v] = some x) : ∃ L : List ByteArray, StrsIn W v L ∧ L.length ≤ maxLen ∧ ∀ s ∈ L, s.size ≤ maxLen := by
  rcases Go.Deep.open_slice1 Tryd.underlying31 cells9 h with ⟨hcs, -⟩ | ⟨a, len, cap, m, k, V, D, Pl, hcs, -, hl, hm, hmm, -, hel⟩
  · have hv : v = .slice none 0 0 := by simpa using hcs
    subst hv
    exact ⟨[], ⟨none, 0, 0, 0, rfl, Nat.le_refl _, fun h => absurd h (Nat.lt_irrefl _), fun i x hx => by cases hx⟩, by simp [maxLen], fun s hs => by cases hs⟩
  · have hv : v = .slice (some a) len cap := by simpa using hcs
    subst hv
    simp only [if_true] at hmm
    subst hmm
    have each : ∀ i, ∃ s : ByteArray, i < len → W.cell? (a.add i) = some (.string s) ∧ s.size ≤ maxLen := fun i => by
      by_cases hi : i < len
      · obtain ⟨h1, h2⟩ := hel i (by omega)
        obtain ⟨s, e, -, hs⟩ := DataW.trod_string Tryd.underlying9 h2
        have : V i = .string s := by simpa using e
        exact ⟨s, fun _ => ⟨by rw [h1, this], hs⟩⟩
      · exact ⟨⟨#[]⟩, fun h => absurd h hi⟩
    obtain ⟨S, hS⟩ := Classical.skolem.1 each
    obtain ⟨g, off, spot⟩ := a
    refine ⟨(List.range len).map S, ?_, by simp; omega, ?_⟩
    · refine ⟨some ⟨g, off, spot⟩, m, g, off, by simp, by simpa using hl, fun h0 => ?_, fun i x hx => ?_⟩
      · have h0' : 0 < len := by simpa using h0
        have hc := (hS 0 h0').1
        have hspot : spot = none := by simpa [Addr.add] using World.cell?_spot hc
        subst hspot
        exact ⟨rfl, by have := lt_of_cell hc; simpa [Addr.add] using this⟩
      · obtain ⟨hi, rfl⟩ := range_get _ _ _ _ hx
        have hc := (hS i hi).1
        have hspot : spot = none := by
          have h0 := (hS 0 (by omega)).1
          simpa [Addr.add] using World.cell?_spot h0
        subst hspot
        rw [add_plain] at hc
        exact hc
    · intro s hs
      obtain ⟨i, hi, rfl⟩ := List.mem_map.1 hs
      exact (hS i (List.mem_range.1 hi)).2

set_option maxRecDepth 100000 in
/-- A list of functions that came in. -/
theorem open_fns {H : Type} {enc : TypeId × Value → H} {W : World} {n : Nat} {v : Value} {x : DataW H × List MemPlace}
    (h : DataW.trod enc Tryd.prog W 0 (fun _ => true) true n 41 [v] = some x) : ∃ L : List Wire.Fn, FnsIn W v L ∧ L.length ≤ maxLen ∧ ∀ s ∈ L, s.code.size ≤ maxLen := by
  rcases Go.Deep.open_slice Tryd.underlying41 h with ⟨hcs, -⟩ | ⟨a, len, cap, m, k, D, Pl, hcs, -, hl, hm, hmm, -, hel⟩
  · have hv : v = .slice none 0 0 := by simpa using hcs
    subst hv
    exact ⟨[], ⟨none, 0, 0, 0, rfl, Nat.le_refl _, fun h => absurd h (Nat.lt_irrefl _), fun i x hx => by cases hx⟩, by simp [maxLen], fun s hs => by cases hs⟩
  · have hv : v = .slice (some a) len cap := by simpa using hcs
    subst hv
    simp only [if_true] at hmm
    subst hmm
    rw [cells63] at hel
    have each : ∀ i, ∃ f : Wire.Fn, i < len → (W.cell? (a.add (i * 3)) = some (.int .i64 f.params) ∧ W.cell? ((a.add (i * 3)).add 1) = some (.int .i64 f.locs) ∧ W.cell? ((a.add (i * 3)).add 2) = some (.string f.code)) ∧ f.code.size ≤ maxLen := fun i => by
      by_cases hi : i < len
      · obtain ⟨cs', h1, h2⟩ := hel i (by omega)
        obtain ⟨_, hlen, hcell⟩ := World.cells?_some h1
        obtain ⟨xs, k', -, -, -, hxl, hf⟩ := DataW.trod_struct Tryd.underlying63 h2
        match xs, hxl, cs', hlen with
        | [y0, y1, y2], _, [v0, v1, v2], _ =>
          have g0 := hf 0 _ rfl
          have g1 := hf 1 _ rfl
          have g2 := hf 2 _ rfl
          simp [cells3, cells9] at g0 g1 g2
          obtain ⟨n0, e0, -, -⟩ := DataW.trod_int Tryd.underlying3 g0
          obtain ⟨n1, e1, -, -⟩ := DataW.trod_int Tryd.underlying3 g1
          obtain ⟨s2, e2, -, w2⟩ := DataW.trod_string Tryd.underlying9 g2
          simp at e0 e1 e2
          subst e0 e1 e2
          have c0 := hcell 0 (by omega)
          have c1 := hcell 1 (by omega)
          have c2 := hcell 2 (by omega)
          exact ⟨⟨n0, n1, s2⟩, fun _ => ⟨⟨by simpa [Addr.add] using c0, by simpa using c1, by simpa using c2⟩, w2⟩⟩
      · exact ⟨⟨0, 0, ⟨#[]⟩⟩, fun h => absurd h hi⟩
    obtain ⟨S, hS⟩ := Classical.skolem.1 each
    obtain ⟨g, off, spot⟩ := a
    refine ⟨(List.range len).map S, ?_, by simp; omega, ?_⟩
    · refine ⟨some ⟨g, off, spot⟩, m, g, off, by simp, by simpa using hl, fun h0 => ?_, fun i x hx => ?_⟩
      · have h0' : 0 < len := by simpa using h0
        have hc := (hS 0 h0').1.1
        have hspot : spot = none := by simpa [Addr.add] using World.cell?_spot hc
        subst hspot
        exact ⟨rfl, by have := lt_of_cell hc; simpa [Addr.add] using this⟩
      · obtain ⟨hi, rfl⟩ := range_get _ _ _ _ hx
        obtain ⟨c0, c1, c2⟩ := (hS i hi).1
        have hspot : spot = none := by
          have h0 := (hS 0 (by omega)).1.1
          simpa [Addr.add] using World.cell?_spot h0
        subst hspot
        rw [Go.Deep.add_add] at c1 c2
        rw [add_plain] at c0 c1 c2
        exact ⟨c0, by simpa [Nat.add_assoc] using c1, by simpa [Nat.add_assoc] using c2⟩
    · intro s hs
      obtain ⟨i, hi, rfl⟩ := List.mem_map.1 hs
      exact (hS i (List.mem_range.1 hi)).2

set_option maxRecDepth 100000 in
/-- A module that came in. -/
theorem open_mod {H : Type} {enc : TypeId × Value → H} {W : World} {n : Nat} {cs : Array Value} {x : DataW H × List MemPlace} (hsz : cs.size = 5)
    (h : DataW.trod enc Tryd.prog W 0 (fun _ => true) true n 43 cs.toList = some x) : ∃ m : Mo, ModIn W (.agg cs) m ∧ ModSz m := by
  obtain ⟨xs, k', -, -, -, hxl, hf⟩ := DataW.trod_struct Tryd.underlying43 h
  obtain ⟨l⟩ := cs
  have hll : l.length = 5 := by simpa using hsz
  match xs, hxl, l, hll with
  | [y0, y1, y2, y3, y4], _, [v0, v1, v2, v3, v4], _ =>
    have g0 := hf 0 _ rfl
    have g1 := hf 1 _ rfl
    have g2 := hf 2 _ rfl
    have g3 := hf 3 _ rfl
    have g4 := hf 4 _ rfl
    simp [cells3, cells31, cells41] at g0 g1 g2 g3 g4
    obtain ⟨L0, s0, l0, z0⟩ := open_strs g0
    obtain ⟨L1, s1, l1, z1⟩ := open_strs g1
    obtain ⟨n2, e2, -, -⟩ := DataW.trod_int Tryd.underlying3 g2
    obtain ⟨n3, e3, -, -⟩ := DataW.trod_int Tryd.underlying3 g3
    obtain ⟨L4, s4, l4, z4⟩ := open_fns g4
    simp at e2 e3
    subst e2 e3
    exact ⟨⟨L0, L1, n2, n3, L4⟩, ⟨v0, v1, v4, rfl, s0, s1, s4⟩, ⟨l0, z0, l1, z1, l4, z4⟩⟩

set_option maxRecDepth 100000 in
theorem spoilt_contract (H : Type) (enc : TypeId × Value → H) (W : World) (base : Nat) (args : Array Value) (ds gs : List (DataW H)) (before : List MemPlace)
    (hval : ∀ (j : Nat) t v, Tryd.f6.params[j]? = some t → args[j]? = some v → Value.okWide Tryd.prog W .any base t v)
    (hW : DataW.Whole enc Tryd.prog Tryd.f6.params.toList Rows.spoiltSpec.vars false W args.toList ds gs before)
    (hL : laidMetH Tryd.prog Rows.spoiltRow.laid W) :
    Calls Tryd.prog 6 args W fun e W' => ∃ v, e = .returned v ∧ Rows.spoiltSpec.post enc Tryd.prog Tryd.f6 false true false false W args v W' := by
  have hW' := hW
  obtain ⟨p, q, hA0, hV, rfl, hfz, hnd⟩ := hW
  have hA : DataW.TrodAll enc Tryd.prog W 0 (fun _ => true) true Tryd.f6.params.toList args.toList ds p := hA0
  rw [Tryd.params6] at hA hval
  obtain ⟨v0, vs0, d0, ds0, p0, q0, hargs, rfl, rfl, h0, r0⟩ := trodAll_cons hA
  obtain ⟨v1, vs1, d1, ds1, p1, q1, rfl, rfl, rfl, h1, r1⟩ := trodAll_cons r0
  obtain ⟨v2, vs2, d2, ds2, p2, q2, rfl, rfl, rfl, h2, r2⟩ := trodAll_cons r1
  obtain ⟨rfl, rfl, rfl⟩ := trodAll_nil r2
  obtain rfl : args = #[v0, v1, v2] := by cases args; simp_all
  obtain ⟨rfl, rfl⟩ := trodVars_none hV
  have k0 := hval 0 43 v0 rfl rfl
  have k1 := hval 1 3 v1 rfl rfl
  have k2 := hval 2 3 v2 rfl rfl
  clear hval
  obtain ⟨cs, rfl, hcs⟩ := okWide_struct Tryd.underlying43 k0
  rw [cells43] at hcs
  have h0k := h0
  obtain ⟨fuel, hf0⟩ := h0
  obtain ⟨m, hM, hz⟩ := open_mod hcs hf0
  obtain ⟨n1, rfl, rfl, rfl, w1⟩ := open_int Tryd.underlying3 k1 h1
  obtain ⟨n2, rfl, rfl, rfl, w2⟩ := open_int Tryd.underlying3 k2 h2
  clear hA0
  simp only [List.append_nil] at hW'
  have hlt : ∀ x ∈ p0, x.block < W.heap.size := fun x hx => by simpa using hW'.lt x (by simpa using hx)
  have b1 := i64_range w1
  have b2 := i64_range w2
  refine (spoilt_any (.agg cs) m n1 n2 W hM hz (tab_of_laid hL) b1.1 b1.2 b2.1 b2.2).mono fun e W' ⟨he, hf⟩ => ?_
  subst he
  refine ⟨_, rfl, [d0, .lit (.int .i64 n1), .lit (.int .i64 n2)], [], _, [], p0 ++ ([] ++ ([] ++ [])), [], hW', trodAll_cons_mk (shut_bool Tryd.underlying4 _) trodAll_mk0, ?_, ?_, (fr_below hf).frame _, fun h => by cases h⟩
  · exact trodAll_cons_mk (Below.trod laid_out (by kernel_rfl) (of_decide_eq_true (by kernel_rfl)) h0k (fr_below hf) hlt) (trodAll_cons_mk (shut_int Tryd.underlying3 w1) (trodAll_cons_mk (shut_int Tryd.underlying3 w2) trodAll_mk0))
  · rfl

/-- The arguments of the witness. -/
def args0 : Array Value := #[.agg #[.slice none 0 0, .slice none 0 0, .int .i64 0, .int .i64 0, .slice none 0 0], .int .i64 0, .int .i64 0]

set_option maxRecDepth 100000 in
/-- A world for the witness: the settled one, the table holding what its initialiser lays. -/
theorem laid_world (os : Os) : ∃ w0 : World, w0.os = os ∧ (w0.forCall (fun _ _ => 0) ⟨#[], args0, []⟩).variablesB Tryd.prog = true ∧
    ((w0.forCall (fun _ _ => 0) ⟨#[], args0, []⟩).heap.toList.drop Tryd.prog.globals.size).take ((begin Tryd.prog (fun _ _ => 0) default).world.heap.size - Tryd.prog.globals.size) =
      (begin Tryd.prog (fun _ _ => 0) default).world.heap.toList.drop Tryd.prog.globals.size ∧
    Input.okWideB Tryd.prog (w0.forCall (fun _ _ => 0) ⟨#[], args0, []⟩) 6 ⟨#[], args0, []⟩ = true ∧
    laidMet Tryd.prog Rows.spoiltRow.laid (w0.forCall (fun _ _ => 0) ⟨#[], args0, []⟩).memory ∧
    ∀ {H : Type} (enc : TypeId × Value → H), DataW.whole enc Tryd.prog (w0.forCall (fun _ _ => 0) ⟨#[], args0, []⟩).memory Tryd.f6.params.toList Rows.spoiltSpec.vars false args0.toList 8 = some ([.agg [.nil, .nil, .lit (.int .i64 0), .lit (.int .i64 0), .nil], .lit (.int .i64 0), .lit (.int .i64 0)], [], []) := by
  refine ⟨{ World.holding Tryd.prog os ⟨#[], #[], []⟩ with heap := (World.holding Tryd.prog os ⟨#[], #[], []⟩).heap.modify 0 fun
      | .cells _ t frozen => .cells (Lib.deBruijn64tab.map (fun n => Value.int .u8 (Int.ofNat n))).toArray t frozen
      | o => o }, rfl, ?_, ?_, ?_, ?_, ?_⟩
  · kernel_rfl
  · kernel_rfl
  · kernel_rfl
  · exact laidMet_of_run' 8 (by kernel_rfl) (by kernel_rfl)
  · intro H enc
    kernel_rfl

set_option maxRecDepth 100000 in
theorem spoilt_lifted (os : Os) (started : os.Started) (H : Type) (enc : TypeId × Value → H) (F : Stop.Interp) :
    ReturnsInHanded {} Tryd.checked os 6 .any ((OpenSpec.ofChange Rows.spoiltSpec).preRow enc Tryd.prog Tryd.f6 Rows.spoiltRow.domain false Rows.spoiltRow.laid) (((OpenSpec.ofChange Rows.spoiltSpec).at F).post enc Tryd.prog Tryd.f6 false true false false) := by
  obtain ⟨w0, hos, hv, hr, hok, hlm, hx⟩ := laid_world os
  refine returnsInHanded_of_row (C := Tryd.checked) (s := OpenSpec.ofChange Rows.spoiltSpec) ownK started (by kernel_rfl) Tryd.func6
    (witness_row_at (enc := enc) (C := Tryd.checked) false w0 args0 hos hv hr hok
      (OpenSpec.preRow_of_cond 8 (hx enc) (by kernel_rfl) (fun k hk => by cases hk) (by kernel_rfl) hlm)) ?_
  intro W base args ds gs before hval hW _ _ hsz hL _ _
  exact spoilt_contract H enc W base args ds gs before hval hW hL

theorem spoilt_said : Rows.SpoiltSaid :=
  OpenClaim.holds_of_cond 6 Tryd.f6 rfl rfl rfl rfl rfl rfl rfl ⟨rfl, rfl, rfl, rfl, rfl⟩ rfl rfl rfl rfl rfl (by kernel_rfl) Tryd.func6 (by kernel_rfl)
    (of_decide_eq_true (by kernel_rfl)) (by unfold Func.isWrapper; first | (rw [if_pos (by decide +kernel)]; kernel_rfl) | (rw [if_neg (by decide +kernel)]; exact ⟨rfl, rfl⟩))
    (fun os started H enc _ F => by rw [OpenClaim.pre_eq_preRow]; exact spoilt_lifted os started H enc F)

/-- No parameter wants a stand-in; the program's own looks are off. -/
theorem spoilt_plain (f : FuncId) (fn : Func) (hf : Tryd.pinned.checked.prog.funcNamed Tryd.f6.name = some f) (hfn : Tryd.pinned.checked.prog.funcs[f]? = some fn) :
    false = Tryd.pinned.checked.prog.looks [] ∧ ∀ (j : Nat) t, fn.params[j]? = some t → Tryd.pinned.checked.prog.wantsStandIn t = false := by
  obtain rfl : f = 6 := Option.some.inj ((show Tryd.prog.funcNamed Tryd.f6.name = some 6 by kernel_rfl).symm.trans hf) |>.symm
  obtain rfl : fn = Tryd.f6 := (Option.some.inj (Tryd.func6.symm.trans hfn)).symm
  refine ⟨by kernel_rfl, fun j t ht => ?_⟩
  rw [Tryd.params6] at ht
  have hm := Array.mem_of_getElem? ht
  simp at hm
  rcases hm with rfl | rfl
  · exact (show Tryd.prog.wantsStandIn 43 = false by kernel_rfl)
  · exact (show Tryd.prog.wantsStandIn 3 = false by kernel_rfl)

/-- The card. -/
theorem spoilt_card : Rows.SpoiltCardSaid :=
  Claim7.holds_tied_plain_at .later [] _ _ _ _ spoilt_said (fun _ h => by cases h) (by kernel_rfl) (fun _ h => by cases h) spoilt_row_tie rfl ⟨rfl, rfl⟩ (by kernel_rfl) rfl spoilt_plain (by kernel_rfl)
#print axioms spoilt_card

end Go.Proofs.YticaoekmlaipnaaDoor

