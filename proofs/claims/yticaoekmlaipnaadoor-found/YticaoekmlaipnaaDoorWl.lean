/-
  An atom that takes the bytes of a list.
-/
import Derived.Test.YticaoekmlaipnaaDoorWk
import Derived.Test.YticaoekmlaipnaaDoorWi
set_option linter.unusedSimpArgs false
set_option linter.unusedVariables false
namespace Go.Proofs.YticaoekmlaipnaaDoor
open Go.RowKit

/-- The list of bytes in memory. -/
structure ByteL (w : World) (ab : Nat) (P : Nat → Bool) : Prop where
  c : ∀ b, b < 256 → w.cell? ⟨ab, b, none⟩ = some (.bool (P b))
  z : ∀ b, b < 256 → w.frozen? ⟨ab, b, none⟩ = false

theorem ByteL.lt {w : World} {ab : Nat} {P : Nat → Bool} (h : ByteL w ab P) : ab < w.heap.size := lt_of_cell (a := ⟨ab, 0, none⟩) (h.c 0 (by decide))
theorem ByteL.fr {S : List Nat} {w w' : World} {ab : Nat} {P : Nat → Bool} (h : ByteL w ab P) (hf : Fr S w w') (hn : ab ∉ S) : ByteL w' ab P :=
  ⟨fun b hb => (hf.cell (p := ⟨ab, b, none⟩) h.lt hn).trans (h.c b hb), fun b hb => (hf.frozen (p := ⟨ab, b, none⟩) h.lt hn).trans (h.z b hb)⟩

theorem PatAt.setTake {w : World} {pb : Nat} {wh : Nat → Value} {tk : Nat → Nat} {fo : Nat → Nat → Nat} (h : PatAt w pb wh tk fo) (b : Nat) (hb : b < 256) (v : Nat) :
    PatAt (w.setCell ⟨pb, 12 + b, none⟩ (.int .u64 v)) pb wh (fun b' => if b' = b then v else tk b') fo := by
  refine ⟨fun i hi => (setCell_off (by omega)).trans (h.hw i hi), fun b' hb' => ?_, fun s a hs ha => (setCell_off (by omega)).trans (h.hf s a hs ha), fun i hi => (World.frozen?_setCell _ _ _ _).trans (h.fz i hi)⟩
  by_cases e : b' = b
  · subst e; rw [if_pos rfl]; exact World.cell?_setCell_same' _ _ _ (by rw [h.ht b' hb]; rfl)
  · rw [if_neg e]; exact (setCell_off (by omega)).trans (h.ht b' hb')

/-- The takes when the first k bytes are done. -/
def tkK (tk : Nat → Nat) (P : Nat → Bool) (v k : Nat) : Nat → Nat := fun b => if b < k ∧ P b = true then tk b ||| v else tk b

structure TakeI (w : World) (r pb ab : Nat) (t : ByteArray) (wh : Nat → Value) (s : St) (P : Nat → Bool) (wanted : Bool) (v k : Nat) (W : World) : Prop where
  m : M W r pb t wh { s with atoms := s.atoms + 1, tk := tkK s.tk (fun b => P b == wanted) v k }
  by_ : ByteL W ab P
  rr : RowIs W w.heap.size [.bool false, .int .u64 0, .int .u64 0, .bool false, .int .u64 0, .int .u64 0, .bool false, .int .u64 0, .int .u64 0, .bool false, .int .u64 0, .int .u64 0]
  zr : ∀ i, W.frozen? ⟨w.heap.size, i, none⟩ = false
  fr : Fr [r, pb] w W

theorem wrap_pow (a : Nat) (h : a < 50) : IntKind.u64.wrap (2 ^ a) = ((2 ^ a : Nat) : Int) := by
  have h1 : 2 ^ a < 2 ^ 50 := Nat.pow_lt_pow_right (by decide) h
  have h2 : ((2 : Int) ^ a) = ((2 ^ a : Nat) : Int) := by simp
  rw [IntKind.wrap_u64, h2]
  clear h2
  generalize (2 ^ a : Nat) = x at h1 ⊢
  omega

theorem M.setAtoms {w : World} {r pb : Nat} {t : ByteArray} {wh : Nat → Value} {s : St} (h : M w r pb t wh s) : M (w.setCell ⟨r, 3, none⟩ (.int .i64 ((s.atoms : Int) + 1))) r pb t wh { s with atoms := s.atoms + 1 } := by
  have hb : ∀ c, c ≠ r → (w.setCell ⟨r, 3, none⟩ (.int .i64 ((s.atoms : Int) + 1))).heap[c]? = w.heap[c]? := fun c hc => Below.heap_setCell w ⟨r, 3, none⟩ _ c hc
  exact ⟨⟨(setCell_off (by decide)).trans h.rd.c0, (setCell_off (by decide)).trans h.rd.c1, (setCell_off (by decide)).trans h.rd.c2, World.cell?_setCell_same' _ _ _ (by rw [h.rd.c3]; rfl), (setCell_off (by decide)).trans h.rd.c4,
    (World.frozen?_setCell _ _ _ _).trans h.rd.f1, (World.frozen?_setCell _ _ _ _).trans h.rd.f2, (World.frozen?_setCell _ _ _ _).trans h.rd.f3⟩, h.pat.of_block (hb _ (fun e => h.n1 e.symm)), h.tab.of_block (hb _ (fun e => h.n2 e.symm)), h.n1, h.n2, h.n3⟩

theorem TakeI.start {w : World} {r pb ab : Nat} {t : ByteArray} {wh : Nat → Value} {s : St} {P : Nat → Bool} {wanted : Bool} {v : Nat} (h : M w r pb t wh s) (hB : ByteL w ab P) (n1 : ab ≠ r) :
    TakeI w r pb ab t wh s P wanted v 0 ((w.setCell ⟨r, 3, none⟩ (.int .i64 ((s.atoms : Int) + 1))).alloc (Obj.cells #[.bool false, .int .u64 0, .int .u64 0, .bool false, .int .u64 0, .int .u64 0, .bool false, .int .u64 0, .int .u64 0, .bool false, .int .u64 0, .int .u64 0] 73)) := by
  have hr := h.rlt
  have f1 : Fr [r] w (w.setCell ⟨r, 3, none⟩ (.int .i64 ((s.atoms : Int) + 1))) := (Fr.refl [r] w).setCell (p := ⟨r, 3, none⟩) (.inl (by simp)) _
  have f2 : Fr [] (w.setCell ⟨r, 3, none⟩ (.int .i64 ((s.atoms : Int) + 1))) ((w.setCell ⟨r, 3, none⟩ (.int .i64 ((s.atoms : Int) + 1))).alloc (Obj.cells #[.bool false, .int .u64 0, .int .u64 0, .bool false, .int .u64 0, .int .u64 0, .bool false, .int .u64 0, .int .u64 0, .bool false, .int .u64 0, .int .u64 0] 73)) := (Fr.refl [] _).alloc _
  have m2 := h.setAtoms.fr f2 (by simp) (by simp) (by simp)
  have rw0 := rowIs_new (w.setCell ⟨r, 3, none⟩ (.int .i64 ((s.atoms : Int) + 1))) [.bool false, .int .u64 0, .int .u64 0, .bool false, .int .u64 0, .int .u64 0, .bool false, .int .u64 0, .int .u64 0, .bool false, .int .u64 0, .int .u64 0] 73
  have sz : (w.setCell ⟨r, 3, none⟩ (.int .i64 ((s.atoms : Int) + 1))).heap.size = w.heap.size := by simp [World.setCell]
  have fz := frozen_all_new (w.setCell ⟨r, 3, none⟩ (.int .i64 ((s.atoms : Int) + 1))) [.bool false, .int .u64 0, .int .u64 0, .bool false, .int .u64 0, .int .u64 0, .bool false, .int .u64 0, .int .u64 0, .bool false, .int .u64 0, .int .u64 0] 73
  rw [sz] at rw0 fz
  refine ⟨⟨m2.rd, m2.pat.congr (fun b _ => by simp [tkK]) (fun _ _ _ _ => rfl), m2.tab, m2.n1, m2.n2, m2.n3⟩, (hB.fr f1 (by simpa using n1)).fr f2 (by simp), rw0, fz, (f1.mono (by simp)).trans (f2.mono (by simp))⟩

theorem TakeI.drew {w : World} {r pb ab : Nat} {t : ByteArray} {wh : Nat → Value} {s : St} {P : Nat → Bool} {wanted : Bool} {v k : Nat} {W : World} (h : TakeI w r pb ab t wh s P wanted v k W) : TakeI w r pb ab t wh s P wanted v k W.drew :=
  ⟨h.m.heap rfl, ⟨h.by_.c, h.by_.z⟩, h.rr, h.zr, h.fr.drew⟩

theorem TakeI.miss {w : World} {r pb ab : Nat} {t : ByteArray} {wh : Nat → Value} {s : St} {P : Nat → Bool} {wanted : Bool} {v k : Nat} {W : World} (h : TakeI w r pb ab t wh s P wanted v k W) (hk : (P k == wanted) = false) : TakeI w r pb ab t wh s P wanted v (k + 1) W := by
  refine ⟨⟨h.m.rd, h.m.pat.congr (fun b _ => ?_) (fun _ _ _ _ => rfl), h.m.tab, h.m.n1, h.m.n2, h.m.n3⟩, h.by_, h.rr, h.zr, h.fr⟩
  simp only [tkK]
  by_cases e : b = k
  · subst e; simp [hk]
  · have : b < k + 1 ↔ b < k := by omega
    simp [this]

theorem TakeI.hit {w : World} {r pb ab : Nat} {t : ByteArray} {wh : Nat → Value} {s : St} {P : Nat → Bool} {wanted : Bool} {v k : Nat} {W : World} (h : TakeI w r pb ab t wh s P wanted v k W) (hk : (P k == wanted) = true) (hk2 : k < 256) (n2 : ab ≠ pb) (hpl : pb < w.heap.size) :
    TakeI w r pb ab t wh s P wanted v (k + 1) (W.setCell ⟨pb, 12 + k, none⟩ (.int .u64 (s.tk k ||| v : Nat))) := by
  have hb : ∀ c, c ≠ pb → (W.setCell ⟨pb, 12 + k, none⟩ (.int .u64 (s.tk k ||| v : Nat))).heap[c]? = W.heap[c]? := fun c hc => Below.heap_setCell W ⟨pb, 12 + k, none⟩ _ c hc
  have hf : Fr [pb] W (W.setCell ⟨pb, 12 + k, none⟩ (.int .u64 (s.tk k ||| v : Nat))) := (Fr.refl [pb] W).setCell (p := ⟨pb, 12 + k, none⟩) (.inl (by simp)) _
  refine ⟨⟨h.m.rd.of_block (hb _ h.m.n1), (h.m.pat.setTake k hk2 _).congr (fun b _ => ?_) (fun _ _ _ _ => rfl), h.m.tab.of_block (hb _ (fun e => h.m.n3 e.symm)), h.m.n1, h.m.n2, h.m.n3⟩, h.by_.fr hf (by simpa using n2), fun i => (setCell_far (by omega)).trans (h.rr i),
    fun i => (World.frozen?_setCell _ _ _ _).trans (h.zr i), h.fr.trans (hf.mono (by simp))⟩
  simp only [tkK]
  by_cases e : b = k
  · subst e; simp [hk]
  · have : b < k + 1 ↔ b < k := by omega
    simp [this, e]

theorem tkK_at (tk : Nat → Nat) (P : Nat → Bool) (v k : Nat) : tkK tk P v k k = tk k := by simp [tkK]

set_option maxRecDepth 100000 in
set_option maxHeartbeats 2000000 in
theorem takeOf_any {w : World} {r pb : Nat} {t : ByteArray} {wh : Nat → Value} {s : St} (ab : Nat) (P : Nat → Bool) (wanted : Bool) (h : M w r pb t wh s) (hB : ByteL w ab P) (n1 : ab ≠ r) (n2 : ab ≠ pb) (ha : s.atoms < 50) (htk : ∀ b, s.tk b < 18446744073709551616) :
    Calls Tryd.prog 107 #[.pointer (some ⟨r, 0, none⟩), .pointer (some ⟨ab, 0, none⟩), .bool wanted] w fun e w' =>
      e = .returned (pv (takeOfF s (fun b => P b == wanted)).1) ∧ M w' r pb t wh (takeOfF s (fun b => P b == wanted)).2 ∧ Fr [r, pb] w w' := by
  have hm : Tryd.prog.follows Departure.mixedOrders = true := by kernel_rfl
  have c3 := h.rd.c3
  have z3 := h.rd.f3
  have hlt := h.rlt
  have plt := h.pat.lt
  have l1 : r < w.heap.size + 1 := by omega
  have hself := wrap_pow s.atoms ha
  have hv64 : 2 ^ s.atoms < 18446744073709551616 := Nat.lt_trans (Nat.pow_lt_pow_right (a := 2) (by decide) ha) (by decide)
  have hgoal : (takeOfF s (fun b => P b == wanted)) = (fun _ => ⟨false, 2 ^ s.atoms, 2 ^ s.atoms⟩, { s with atoms := s.atoms + 1, tk := fun b => if (P b == wanted) = true then s.tk b ||| 2 ^ s.atoms else s.tk b }) := rfl
  rw [hgoal]
  clear hgoal
  have hself' : ∀ v : Nat, 2 ^ s.atoms = v → IntKind.u64.wrap (2 ^ s.atoms) = (v : Int) := fun v e => by rw [hself, e]
  clear hself
  obtain ⟨v, hv⟩ : ∃ v : Nat, 2 ^ s.atoms = v := ⟨_, rfl⟩
  have hw := hself' v hv
  clear hself'
  rw [hv] at hv64 ⊢
  clear hv
  have J0 := TakeI.start (wanted := wanted) (v := v) h hB n1
  go_enter Tryd.func107, Tryd.ntmps107
  go_wp2
  go_loopw [8, 9, 25] (fun _ _ i wr => ∃ k : Nat, k ≤ 256 ∧ i = .int .i64 k ∧ TakeI w r pb ab t wh s P wanted v k wr) (fun _ _ i _ => 256 - (intOf i).toNat)
  case atStart => exact ⟨0, by decide, rfl, J0⟩
  case round =>
    obtain ⟨k, hk, rfl, J⟩ := hrel
    by_cases hlt : k < 256
    · have g1 : (k : Int) < 256 := by omega
      have b1 := J.by_.c k hlt
      have c4 := J.m.rd.c4
      have p1 : wr.cell? ⟨pb, 12 + k, none⟩ = some (.int .u64 (s.tk k : Nat)) := by rw [J.m.pat.ht k hlt]; simp only [tkK_at]
      have p2 := J.m.pat.fz (12 + k) (by omega)
      have o1 := bits_or_u64_nat (s.tk k) v (htk k) hv64
      go_wp2
      refine wp_region_lex hm (by kernel_rfl) ?_
      repeat still_step
      refine wpStill_nil ?_
      cases hw2 : (P k == wanted)
      · go_wp2
        exact ⟨⟨k + 1, by omega, by go_num, J.drew.miss hw2⟩, by simp [intOf]; omega⟩
      · go_wp2
        refine wp_region_tail 14 hm (by kernel_rfl) ?_
        simp only [List.take_succ_cons, List.take_zero, List.drop_succ_cons, List.drop_zero]
        repeat still_step
        refine wpStill_nil ?_
        go_wp2
        exact ⟨⟨k + 1, by omega, by go_num, (J.hit hw2 hlt n2 plt).drew.drew⟩, by simp [intOf]; omega⟩
    · obtain rfl : k = 256 := by omega
      have q1 : w.heap.size < wr.heap.size := lt_of_cell (a := ⟨w.heap.size, 0, none⟩) (J.rr 0)
      have q2 : w.heap.size < wr.heap.size + 1 := by omega
      have y0 : wr.cell? ⟨w.heap.size, 0, none⟩ = some (.bool false) := J.rr 0
      have z0 := J.zr 0
      have y1 : wr.cell? ⟨w.heap.size, 1, none⟩ = some (.int .u64 0) := J.rr 1
      have z1 := J.zr 1
      have y2 : wr.cell? ⟨w.heap.size, 2, none⟩ = some (.int .u64 0) := J.rr 2
      have z2 := J.zr 2
      have y3 : wr.cell? ⟨w.heap.size, 3, none⟩ = some (.bool false) := J.rr 3
      have z3 := J.zr 3
      have y4 : wr.cell? ⟨w.heap.size, 4, none⟩ = some (.int .u64 0) := J.rr 4
      have z4 := J.zr 4
      have y5 : wr.cell? ⟨w.heap.size, 5, none⟩ = some (.int .u64 0) := J.rr 5
      have z5 := J.zr 5
      have y6 : wr.cell? ⟨w.heap.size, 6, none⟩ = some (.bool false) := J.rr 6
      have z6 := J.zr 6
      have y7 : wr.cell? ⟨w.heap.size, 7, none⟩ = some (.int .u64 0) := J.rr 7
      have z7 := J.zr 7
      have y8 : wr.cell? ⟨w.heap.size, 8, none⟩ = some (.int .u64 0) := J.rr 8
      have z8 := J.zr 8
      have y9 : wr.cell? ⟨w.heap.size, 9, none⟩ = some (.bool false) := J.rr 9
      have z9 := J.zr 9
      have y10 : wr.cell? ⟨w.heap.size, 10, none⟩ = some (.int .u64 0) := J.rr 10
      have z10 := J.zr 10
      have y11 : wr.cell? ⟨w.heap.size, 11, none⟩ = some (.int .u64 0) := J.rr 11
      have z11 := J.zr 11
      go_wp2
      refine wp_loop_rounds 5 ?_
      iterate 5 (rw [rounds_succ]; go_wp2)
      have hfr := (far_sets wr w.heap.size (.bool false) (.int .u64 v) (.int .u64 v) (.bool false) (.int .u64 v) (.int .u64 v) (.bool false) (.int .u64 v) (.int .u64 v) (.bool false) (.int .u64 v) (.int .u64 v)).alloc (Obj.cells #[.bool false, .int .u64 v, .int .u64 v, .bool false, .int .u64 v, .int .u64 v, .bool false, .int .u64 v, .int .u64 v, .bool false, .int .u64 v, .int .u64 v] 73)
      refine bodyPost_ret (v := pv (fun _ => ⟨false, v, v⟩)) (by simp [results, Tryd.results107, go_sem, pv, q1, y0, y1, y2, y3, y4, y5, y6, y7, y8, y9, y10, y11]) rfl ⟨rfl, ?_, ?_⟩
      · have m2 := J.m.fr hfr (by simp; omega) (by simp; omega) (by simp; omega)
        exact ⟨m2.rd, m2.pat.congr (fun b hb => by simp [tkK, hb]) (fun _ _ _ _ => rfl), m2.tab, m2.n1, m2.n2, m2.n3⟩
      · exact J.fr.trans' hfr (by simp)

end Go.Proofs.YticaoekmlaipnaaDoor
