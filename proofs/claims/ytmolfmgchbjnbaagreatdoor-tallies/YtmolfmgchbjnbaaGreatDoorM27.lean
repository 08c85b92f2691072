import Derived.Laws.OwnMore
import Derived.StringKeys
import Derived.Laws.IdiomMaps
import Derived.Test.YtmolfmgchbjnbaaGreatDoorM26
set_option linter.unusedSimpArgs false
set_option linter.unusedVariables false
namespace Go.Proofs.YtmolfmgchbjnbaaGreatDoor
open Go.RowKit
open Wire Flow Mach
abbrev rcV (t : ByteArray) (o : Option Addr) (n c : Nat) : Value := .agg #[.string t, .slice o n c]
set_option maxRecDepth 100000 in
set_option maxHeartbeats 4000000 in
theorem field_zero (t : ByteArray) (ht : t.size ≤ 1048576) (o : Option Addr) (n c : Nat) (W : World) : Calls Tryz.prog 198 #[rcV t o n c, .int .i64 0] W fun e W' => e = .returned (vV (readV t)) ∧ Fr [] W W' := by
 have HR : Hid _ := fun (W : World) => read_v t ht W
 unfold vV at HR ⊢
 generalize ((readV t).kind : Int) = kk at HR
 generalize vN (readV t) = mm at HR
 generalize vS (readV t) = tt at HR
 have hbd : ∀ w : World, (Instr.build 221 #[]).run Tryz.prog w = .ok (vlV 0 0 ⟨#[]⟩) w := fun w => by kernel_rfl
 obtain ⟨W0, hW0⟩ : ∃ W0, W.alloc (.cells #[.string t, .slice o n c] 132) = W0 := ⟨_, rfl⟩
 have F0 : Fr [] W W0 := by rw [← hW0]; exact (Fr.refl [] W).alloc _
 have c0 : W0.cell? ⟨W.heap.size, 0, none⟩ = some (.string t) := by rw [← hW0]; simp [go_sem]
 have c1 : W0.cell? ⟨W.heap.size, 1, none⟩ = some (.slice o n c) := by rw [← hW0]; simp [go_sem]
 have k0 := World.alloc_heap_new W (.cells #[.string t, .slice o n c] 132)
 rw [hW0] at k0
 have l0 := (Array.getElem?_eq_some_iff.1 k0).1
 clear k0
 obtain ⟨W1, hW1⟩ : ∃ W1, W0.alloc (.cells #[.int .u8 0, .int .i64 0, .string ⟨#[]⟩] 221) = W1 := ⟨_, rfl⟩
 have F1' : Fr [] W0 W1 := by rw [← hW1]; exact (Fr.refl [] W0).alloc _
 have k1 := World.alloc_heap_new W0 (.cells #[.int .u8 0, .int .i64 0, .string ⟨#[]⟩] 221)
 rw [hW1] at k1
 have l1 := (Array.getElem?_eq_some_iff.1 k1).1
 replace c0 : W1.cell? ⟨W.heap.size, 0, none⟩ = some (.string t) := (F1'.cell (p := ⟨W.heap.size, 0, none⟩) l0 (by simp)).trans c0
 replace c1 : W1.cell? ⟨W.heap.size, 1, none⟩ = some (.slice o n c) := (F1'.cell (p := ⟨W.heap.size, 1, none⟩) l0 (by simp)).trans c1
 have F1 : Fr [] W W1 := F0.trans F1'
 have hle : W.heap.size ≤ W0.heap.size := F0.size
 go_enter Tryz.func198, Tryz.ntmps198
 go_wp2_with fail
 refine (HR.out _).mono ?_
 rintro e W2 ⟨rfl, F2⟩
 obtain ⟨hy, z0, z1, z2⟩ := cells3 ((F2.block _ l1 (by simp)).trans k1)
 obtain ⟨W7, hW7, r0, r1, r2, F7⟩ := set3 (x' := .int .u8 kk) (y' := .int .i64 mm) (z' := .string tt) hy
 obtain ⟨y0, y1, y2⟩ := hy
 have FF : Hid _ := (F1.trans F2).trans' F7 (by intro b hb; simp at hb; subst hb; exact .inr hle)
 clear F7 F2 k1 l1 F1 F1' F0 hle l0
 go_wp2_with fail
 refine bodyPost_ret (v := vlV kk mm tt) (by simp [results, Tryz.results198, go_sem, r0, r1, r2]) rfl ?_
 exact ⟨rfl, FF.out⟩
set_option maxRecDepth 100000 in
set_option maxHeartbeats 4000000 in
theorem field_in (t : ByteArray) (gt off n c k : Nat) (u : ByteArray) (hu : u.size ≤ 1048576) (hk : k < n) (hn : n ≤ 1000000) (W : World) (hg : gt < W.heap.size) (hc : W.cell? ⟨gt, off + k, none⟩ = some (.string u)) : Calls Tryz.prog 198 #[rcV t (some ⟨gt, off, none⟩) n c, .int .i64 ((k + 1 : Nat) : Int)] W fun e W' => e = .returned (vV (readV u)) ∧ Fr [] W W' := by
 have HR : Hid _ := fun (W : World) => read_v u hu W
 obtain ⟨o, ho⟩ : ∃ o : Option Addr, some ⟨gt, off, none⟩ = o := ⟨_, rfl⟩
 rw [ho]
 unfold vV at HR ⊢
 generalize ((readV u).kind : Int) = kk at HR
 generalize vN (readV u) = mm at HR
 generalize vS (readV u) = tt at HR
 have hbd : ∀ w : World, (Instr.build 221 #[]).run Tryz.prog w = .ok (vlV 0 0 ⟨#[]⟩) w := fun w => by kernel_rfl
 obtain ⟨W0, hW0⟩ : ∃ W0, W.alloc (.cells #[.string t, .slice o n c] 132) = W0 := ⟨_, rfl⟩
 have F0 : Fr [] W W0 := by rw [← hW0]; exact (Fr.refl [] W).alloc _
 have c0 : W0.cell? ⟨W.heap.size, 0, none⟩ = some (.string t) := by rw [← hW0]; simp [go_sem]
 have c1 : W0.cell? ⟨W.heap.size, 1, none⟩ = some (.slice o n c) := by rw [← hW0]; simp [go_sem]
 have k0 := World.alloc_heap_new W (.cells #[.string t, .slice o n c] 132)
 rw [hW0] at k0
 have l0 := (Array.getElem?_eq_some_iff.1 k0).1
 clear k0
 obtain ⟨W1, hW1⟩ : ∃ W1, W0.alloc (.cells #[.int .u8 0, .int .i64 0, .string ⟨#[]⟩] 221) = W1 := ⟨_, rfl⟩
 have F1' : Fr [] W0 W1 := by rw [← hW1]; exact (Fr.refl [] W0).alloc _
 have k1 := World.alloc_heap_new W0 (.cells #[.int .u8 0, .int .i64 0, .string ⟨#[]⟩] 221)
 rw [hW1] at k1
 have l1 := (Array.getElem?_eq_some_iff.1 k1).1
 replace c0 : W1.cell? ⟨W.heap.size, 0, none⟩ = some (.string t) := (F1'.cell (p := ⟨W.heap.size, 0, none⟩) l0 (by simp)).trans c0
 replace c1 : W1.cell? ⟨W.heap.size, 1, none⟩ = some (.slice o n c) := (F1'.cell (p := ⟨W.heap.size, 1, none⟩) l0 (by simp)).trans c1
 have F1 : Fr [] W W1 := F0.trans F1'
 have hle : W.heap.size ≤ W0.heap.size := F0.size
 subst ho
 replace hc : W1.cell? ⟨gt, off + k, none⟩ = some (.string u) := (F1.cell (p := ⟨gt, off + k, none⟩) hg (by simp)).trans hc
 have e0 : (((k + 1 : Nat) : Int) == 0) = false := by simp; omega
 have e1 : decide (((k + 1 : Nat) : Int) ≤ (n : Int)) = true := by simp; omega
 have e2 : IntKind.i64.wrap (n : Int) = n := by rw [IntKind.wrap_i64]; omega
 have e3 : IntKind.i64.wrap (((k + 1 : Nat) : Int) - 1) = (k : Int) := by rw [IntKind.wrap_i64]; omega
 have e3' : IntKind.i64.wrap ((k : Int) + 1 - 1) = (k : Int) := by rw [IntKind.wrap_i64]; omega
 have hk' : (k : Int) < (n : Int) := by omega
 have hk2 : ((k + 1 : Nat) : Int) ≤ (n : Int) := by omega
 go_enter Tryz.func198, Tryz.ntmps198
 go_wp2_with fail
 refine (HR.out _).mono ?_
 rintro e W2 ⟨rfl, F2⟩
 obtain ⟨hy, z0, z1, z2⟩ := cells3 ((F2.block _ l1 (by simp)).trans k1)
 obtain ⟨W7, hW7, r0, r1, r2, F7⟩ := set3 (x' := .int .u8 kk) (y' := .int .i64 mm) (z' := .string tt) hy
 obtain ⟨y0, y1, y2⟩ := hy
 have FF : Hid _ := (F1.trans F2).trans' F7 (by intro b hb; simp at hb; subst hb; exact .inr hle)
 clear F7 F2 k1 l1 F1 F1' F0 hle l0
 go_wp2_with fail
 refine bodyPost_ret (v := vlV kk mm tt) (by simp [results, Tryz.results198, go_sem, r0, r1, r2]) rfl ?_
 exact ⟨rfl, FF.out⟩
set_option maxRecDepth 100000 in
set_option maxHeartbeats 4000000 in
theorem field_off (t : ByteArray) (o : Option Addr) (n c k : Nat) (hk : n < k) (hn : k ≤ 2000000000) (W : World) : Calls Tryz.prog 198 #[rcV t o n c, .int .i64 (k : Nat)] W fun e W' => e = .returned (vV nothing) ∧ Fr [] W W' := by
 show Calls Tryz.prog 198 #[rcV t o n c, .int .i64 (k : Nat)] W fun e W' => e = .returned (vlV 0 0 ⟨#[]⟩) ∧ Fr [] W W'
 have hbd : ∀ w : World, (Instr.build 221 #[]).run Tryz.prog w = .ok (vlV 0 0 ⟨#[]⟩) w := fun w => by kernel_rfl
 obtain ⟨W0, hW0⟩ : ∃ W0, W.alloc (.cells #[.string t, .slice o n c] 132) = W0 := ⟨_, rfl⟩
 have F0 : Fr [] W W0 := by rw [← hW0]; exact (Fr.refl [] W).alloc _
 have c0 : W0.cell? ⟨W.heap.size, 0, none⟩ = some (.string t) := by rw [← hW0]; simp [go_sem]
 have c1 : W0.cell? ⟨W.heap.size, 1, none⟩ = some (.slice o n c) := by rw [← hW0]; simp [go_sem]
 have k0 := World.alloc_heap_new W (.cells #[.string t, .slice o n c] 132)
 rw [hW0] at k0
 have l0 := (Array.getElem?_eq_some_iff.1 k0).1
 clear k0
 obtain ⟨W1, hW1⟩ : ∃ W1, W0.alloc (.cells #[.int .u8 0, .int .i64 0, .string ⟨#[]⟩] 221) = W1 := ⟨_, rfl⟩
 have F1' : Fr [] W0 W1 := by rw [← hW1]; exact (Fr.refl [] W0).alloc _
 have k1 := World.alloc_heap_new W0 (.cells #[.int .u8 0, .int .i64 0, .string ⟨#[]⟩] 221)
 rw [hW1] at k1
 have l1 := (Array.getElem?_eq_some_iff.1 k1).1
 replace c0 : W1.cell? ⟨W.heap.size, 0, none⟩ = some (.string t) := (F1'.cell (p := ⟨W.heap.size, 0, none⟩) l0 (by simp)).trans c0
 replace c1 : W1.cell? ⟨W.heap.size, 1, none⟩ = some (.slice o n c) := (F1'.cell (p := ⟨W.heap.size, 1, none⟩) l0 (by simp)).trans c1
 have F1 : Fr [] W W1 := F0.trans F1'
 have hle : W.heap.size ≤ W0.heap.size := F0.size
 have e0 : ((k : Int) == 0) = false := by simp; omega
 have e1 : decide ((k : Int) ≤ (n : Int)) = false := by simp; omega
 have e2 : IntKind.i64.wrap (n : Int) = n := by rw [IntKind.wrap_i64]; omega
 obtain ⟨hy, z0, z1, z2⟩ := cells3 k1
 obtain ⟨W7, hW7, r0, r1, r2, F7⟩ := set3 (x' := .int .u8 0) (y' := .int .i64 0) (z' := .string ⟨#[]⟩) hy
 obtain ⟨y0, y1, y2⟩ := hy
 have FF : Hid _ := F1.trans' F7 (by intro b hb; simp at hb; subst hb; exact .inr hle)
 clear F7 k1 l1 F1 F1' F0 hle l0
 go_enter Tryz.func198, Tryz.ntmps198
 go_wp2_with fail
 refine bodyPost_ret (v := vlV 0 0 ⟨#[]⟩) (by simp [results, Tryz.results198, go_sem, r0, r1, r2]) rfl ?_
 exact ⟨rfl, FF.out⟩
section
variable {E : Env} {X : Nat} {g : Pl} {s : Ms} {W W' : World} {tag : Nat → Nat}
theorem MM.fldsG (h : MM E X g s W tag) : ∃ o c, W.cell? ⟨X, 7, none⟩ = some (.slice o s.w.flds.length c) ∧ s.w.flds.length ≤ c ∧ ∀ i t, s.w.flds[i]? = some t → ∃ gt off, o = some ⟨gt, off, none⟩ ∧ gt < W.heap.size ∧ W.cell? ⟨gt, off + i, none⟩ = some (.string t) := by
 obtain ⟨h6, lv, R, mp, x, hx, h⟩ := h
 obtain ⟨o, c, e1, e2, e2', e3⟩ := h.fld
 rw [List.length_map] at e1
 refine ⟨o, c, h.xc (by rw [← e1]; rfl), by simpa using e2, fun i t hi => ?_⟩
 have hl := (List.getElem?_eq_some_iff.1 hi).1
 obtain ⟨gt, off, e, e', -, e4⟩ := e3 (by simp; omega)
 exact ⟨gt, off, e, e', e4 i _ (by rw [List.getElem?_map, hi]; rfl)⟩
set_option maxRecDepth 100000 in
set_option maxHeartbeats 4000000 in
theorem MM.rfield0 (h : MM E X g s W tag) {l : List Cell} {v : Val} (hs : s.fr.stk = l ++ [cv v]) (hl : s.fr.stk.length ≤ 1024) (hv : SmV v) (h0 : numV v = 0) (hr : s.w.rcd.size ≤ 1048576) :
  Calls Tryz.prog 117 #[ptr X, fp g s, .int .u8 7] W (MP E X g (onStk s (l ++ [cv (readV s.w.rcd)])) tag W (stI 0)) := by
 have hl1 : l.length < 1024 := by rw [hs] at hl; simp at hl; omega
 have HP : Hid _ := fun (_ : Unit) => h.popNumber hs hl hv
 have HX : Hid _ := fun (W1 : World) (t1 : Nat → Nat) (h1 : MM E X g (onStk s l) W1 t1) => And.intro (MM.xrcd h1) (MM.fldsG h1)
 have HQ : Hid _ := fun (W1 : World) (t1 : Nat → Nat) (h1 : MM E X g (onStk s l) W1 t1) => MM.push h1 (show l.length < 1024 from hl1) (readV s.w.rcd)
 clear h
 rw [h0] at HP
 go_enter Tryz.func117, Tryz.ntmps117
 go_wp2_with fail
 refine (HP.out ()).mono ?_
 rintro e W1 ⟨rfl, t1, h1, k1⟩
 have HM1 : Hid _ := And.intro h1 (k1)
 have HK1 : Hid _ := k1
 clear h1 k1 HP
 obtain ⟨x6, o, c, x7, hc, HC⟩ := HX.out W1 t1 HM1.out.1
 replace x6 : W1.cell? ⟨X, 6, none⟩ = some (.string s.w.rcd) := x6
 replace x7 : W1.cell? ⟨X, 7, none⟩ = some (.slice o s.w.flds.length c) := x7
 go_wp2_with fail
 refine (field_zero s.w.rcd hr o s.w.flds.length c W1).mono ?_
 rintro e W2 ⟨rfl, F2⟩
 obtain ⟨t2, h2, k2⟩ := MM.fr HM1.out.1 F2
 have HM2 : Hid _ := And.intro h2 (HM1.out.2.trans k2)
 have HK2 : Hid _ := k2
 clear h2 k2 F2
 go_wp2_with fail
 refine (HQ.out W2 t2 HM2.out.1).mono ?_
 rintro e W3 ⟨rfl, t3, h3, k3⟩
 have HM3 : Hid _ := And.intro h3 (HM2.out.2.trans k3)
 have HK3 : Hid _ := k3
 clear h3 k3 HQ
 go_wp2_with fail
 go_ret
 exact ⟨rfl, t3, HM3.out.1, HM3.out.2⟩
set_option maxRecDepth 100000 in
set_option maxHeartbeats 4000000 in
theorem MM.rfield1 (h : MM E X g s W tag) {l : List Cell} {v : Val} (hs : s.fr.stk = l ++ [cv v]) (hl : s.fr.stk.length ≤ 1024) (hv : SmV v) {k : Nat} {u : ByteArray} (h0 : numV v = ((k + 1 : Nat) : Int)) (hk : s.w.flds[k]? = some u) (hu : u.size ≤ 1048576) (hn : s.w.flds.length ≤ 1000000) :
  Calls Tryz.prog 117 #[ptr X, fp g s, .int .u8 7] W (MP E X g (onStk s (l ++ [cv (readV u)])) tag W (stI 0)) := by
 have hl1 : l.length < 1024 := by rw [hs] at hl; simp at hl; omega
 have HP : Hid _ := fun (_ : Unit) => h.popNumber hs hl hv
 have HX : Hid _ := fun (W1 : World) (t1 : Nat → Nat) (h1 : MM E X g (onStk s l) W1 t1) => And.intro (MM.xrcd h1) (MM.fldsG h1)
 have HQ : Hid _ := fun (W1 : World) (t1 : Nat → Nat) (h1 : MM E X g (onStk s l) W1 t1) => MM.push h1 (show l.length < 1024 from hl1) (readV u)
 clear h
 have hkl := (List.getElem?_eq_some_iff.1 hk).1
 have hnn : decide (((k + 1 : Nat) : Int) < 0) = false := by simp; omega
 have hnn' : ¬ (((k + 1 : Nat) : Int) < 0) := by omega
 rw [h0] at HP
 go_enter Tryz.func117, Tryz.ntmps117
 go_wp2_with fail
 refine (HP.out ()).mono ?_
 rintro e W1 ⟨rfl, t1, h1, k1⟩
 have HM1 : Hid _ := And.intro h1 (k1)
 have HK1 : Hid _ := k1
 clear h1 k1 HP
 obtain ⟨x6, o, c, x7, hc, HC⟩ := HX.out W1 t1 HM1.out.1
 replace x6 : W1.cell? ⟨X, 6, none⟩ = some (.string s.w.rcd) := x6
 replace x7 : W1.cell? ⟨X, 7, none⟩ = some (.slice o s.w.flds.length c) := x7
 obtain ⟨gt, off, rfl, hg, hcc⟩ := HC k u hk
 clear HC
 go_wp2_with fail
 refine (field_in s.w.rcd gt off s.w.flds.length c k u hu hkl hn W1 hg hcc).mono ?_
 rintro e W2 ⟨rfl, F2⟩
 obtain ⟨t2, h2, k2⟩ := MM.fr HM1.out.1 F2
 have HM2 : Hid _ := And.intro h2 (HM1.out.2.trans k2)
 have HK2 : Hid _ := k2
 clear h2 k2 F2
 go_wp2_with fail
 refine (HQ.out W2 t2 HM2.out.1).mono ?_
 rintro e W3 ⟨rfl, t3, h3, k3⟩
 have HM3 : Hid _ := And.intro h3 (HM2.out.2.trans k3)
 have HK3 : Hid _ := k3
 clear h3 k3 HQ
 go_wp2_with fail
 go_ret
 exact ⟨rfl, t3, HM3.out.1, HM3.out.2⟩
set_option maxRecDepth 100000 in
set_option maxHeartbeats 4000000 in
theorem MM.rfield2 (h : MM E X g s W tag) {l : List Cell} {v : Val} (hs : s.fr.stk = l ++ [cv v]) (hl : s.fr.stk.length ≤ 1024) (hv : SmV v) {k : Nat} (h0 : numV v = (k : Nat)) (hk : s.w.flds.length < k) (hn : k ≤ 2000000000) :
  Calls Tryz.prog 117 #[ptr X, fp g s, .int .u8 7] W (MP E X g (onStk s (l ++ [cv nothing])) tag W (stI 0)) := by
 have hl1 : l.length < 1024 := by rw [hs] at hl; simp at hl; omega
 have HP : Hid _ := fun (_ : Unit) => h.popNumber hs hl hv
 have HX : Hid _ := fun (W1 : World) (t1 : Nat → Nat) (h1 : MM E X g (onStk s l) W1 t1) => And.intro (MM.xrcd h1) (MM.fldsG h1)
 have HQ : Hid _ := fun (W1 : World) (t1 : Nat → Nat) (h1 : MM E X g (onStk s l) W1 t1) => MM.push h1 (show l.length < 1024 from hl1) nothing
 clear h
 have hnn : decide ((k : Int) < 0) = false := by simp
 have hnn' : ¬ ((k : Int) < 0) := by omega
 rw [h0] at HP
 go_enter Tryz.func117, Tryz.ntmps117
 go_wp2_with fail
 refine (HP.out ()).mono ?_
 rintro e W1 ⟨rfl, t1, h1, k1⟩
 have HM1 : Hid _ := And.intro h1 (k1)
 have HK1 : Hid _ := k1
 clear h1 k1 HP
 obtain ⟨x6, o, c, x7, hc, HC⟩ := HX.out W1 t1 HM1.out.1
 replace x6 : W1.cell? ⟨X, 6, none⟩ = some (.string s.w.rcd) := x6
 replace x7 : W1.cell? ⟨X, 7, none⟩ = some (.slice o s.w.flds.length c) := x7
 go_wp2_with fail
 refine (field_off s.w.rcd o s.w.flds.length c k hk hn W1).mono ?_
 rintro e W2 ⟨rfl, F2⟩
 obtain ⟨t2, h2, k2⟩ := MM.fr HM1.out.1 F2
 have HM2 : Hid _ := And.intro h2 (HM1.out.2.trans k2)
 have HK2 : Hid _ := k2
 clear h2 k2 F2
 go_wp2_with fail
 refine (HQ.out W2 t2 HM2.out.1).mono ?_
 rintro e W3 ⟨rfl, t3, h3, k3⟩
 have HM3 : Hid _ := And.intro h3 (HM2.out.2.trans k3)
 have HK3 : Hid _ := k3
 clear h3 k3 HQ
 go_wp2_with fail
 go_ret
 exact ⟨rfl, t3, HM3.out.1, HM3.out.2⟩
set_option maxRecDepth 100000 in
set_option maxHeartbeats 4000000 in
theorem MM.rfieldX (h : MM E X g s W tag) {l : List Cell} {v : Val} (hs : s.fr.stk = l ++ [cv v]) (hl : s.fr.stk.length ≤ 1024) (hv : SmV v) (h0 : numV v < 0) :
  Calls Tryz.prog 117 #[ptr X, fp g s, .int .u8 7] W (MP E X g (onStk s l) tag W (stI 5)) := by
 have HP : Hid _ := fun (_ : Unit) => h.popNumber hs hl hv
 have e0 : decide (numV v < 0) = true := by simp [h0]
 clear h
 go_enter Tryz.func117, Tryz.ntmps117
 go_wp2_with fail
 refine (HP.out ()).mono ?_
 rintro e W1 ⟨rfl, t1, h1, k1⟩
 have HM1 : Hid _ := And.intro h1 (k1)
 have HK1 : Hid _ := k1
 clear h1 k1 HP
 go_wp2_with fail
 go_ret
 exact ⟨rfl, t1, HM1.out.1, HM1.out.2⟩
end
end Go.Proofs.YtmolfmgchbjnbaaGreatDoor
namespace Go.Proofs.YtmolfmgchbjnbaaGreatDoor
open Go.RowKit
open Wire Flow Mach
structure K9 (t : Nat → Nat) (W W' : World) : Prop where
 size : W.heap.size ≤ W'.heap.size
 blk : ∀ k, k < W.heap.size → (k < 6 ∨ t k = 9) → W'.heap[k]? = W.heap[k]?
theorem K9.cell {t : Nat → Nat} {W W' : World} (h : K9 t W W') {p : Addr} (hp : p.block < W.heap.size) (hn : p.block < 6 ∨ t p.block = 9) : W'.cell? p = W.cell? p := World.cell?_of_block (w := W) (h.blk p.block hp hn)
theorem RoL.k9 {W W' : World} {t : Nat → Nat} {v : Value} {xs : List Value} (h : RoL W t v xs) (k : K9 t W W') : RoL W' t v xs := by
 obtain ⟨o, c, h1, h2, h2', h3⟩ := h
 refine ⟨o, c, h1, h2, h2', fun h0 => ?_⟩
 obtain ⟨g, off, e1, e2, e3, e4⟩ := h3 h0
 exact ⟨g, off, e1, Nat.lt_of_lt_of_le e2 k.size, e3, fun i x hx => (k.cell (p := ⟨g, off + i, none⟩) e2 (.inr e3)).trans (e4 i x hx)⟩
theorem CodeM.k9 {m : Mo} {W W' : World} {t : Nat → Nat} {f : Nat} {cv : Value} {L : List Stp} (h : CodeM m W t f cv L) (k : K9 t W W') : CodeM m W' t f cv L := by
 obtain ⟨g, cap, T, h1, h2, h3, h4, h5, h6⟩ := h.at_
 exact ⟨⟨g, cap, T, h1, h2, Nat.lt_of_lt_of_le h3 k.size, h4, h5.of_block (k.blk g h3 (.inr h4)), h6⟩, h.reads, h.jump, h.len⟩
theorem PatL.k9 {E : Env} {W W' : World} {t : Nat → Nat} {pv : Value} (h : PatL E W t pv) (k : K9 t W W') : PatL E W' t pv := by
 obtain ⟨o, cap, h1, h2, h3⟩ := h
 refine ⟨o, cap, h1, h2, fun i t hi => ?_⟩
 obtain ⟨g, pb, e1, e2, e3, e4, e5, e6, e7⟩ := h3 i t hi
 exact ⟨g, pb, e1, Nat.lt_of_lt_of_le e2 k.size, e3, (k.cell (p := ⟨g, i, none⟩) e2 (.inr e3)).trans e4, Nat.lt_of_lt_of_le e5 k.size, e6, e7.of_block (k.blk pb e5 (.inr e6))⟩
theorem Sta.k9 {E : Env} {W W' : World} {t : Nat → Nat} {tv pv fv : Value} {code : Nat → Value × List Stp} (h : Sta E W t tv pv fv code) (k : K9 t W W') (hs : 6 ≤ W.heap.size) : Sta E W' t tv pv fv code := by
 obtain ⟨g, cap, h1, h2, h3, h4, h5⟩ := h.fns
 refine ⟨h.pow.of_block (k.blk 0 (by omega) (.inl (by decide))), h.low, ?_, h.tab.of_block (k.blk 1 (by omega) (.inl (by decide))), h.txt.k9 k, ⟨g, cap, h1, Nat.lt_of_lt_of_le h2 k.size, h3, h4, fun f hf => ?_⟩, fun f hf => (h.code f hf).k9 k, h.pat.k9 k⟩
 ·obtain ⟨m, hm⟩ := h.mxl
  exact ⟨m, (k.cell (p := ⟨4, 0, none⟩) (by show 4 < _; omega) (.inl (by show 4 < 6; decide))).trans hm⟩
 obtain ⟨a, b⟩ := h5 f hf
 exact ⟨(k.cell (p := ⟨g, f * 2, none⟩) h2 (.inr h3)).trans a, (k.cell (p := ⟨g, f * 2 + 1, none⟩) h2 (.inr h3)).trans b⟩
section
variable {E : Env} {X : Nat} {g : Pl} {s : Ms} {W W' : World} {tag tag' : Nat → Nat}
theorem MM.poke (h : MM E X g s W tag) {b : Nat} (hb : tag b = 6) (h6b : 6 ≤ b) (j : Nat) (v : Value) : MM E X g s (W.setCell ⟨b, j, none⟩ v) tag := by
 obtain ⟨h6, lv, R, mp, x, hx, h⟩ := h
 have k : K9 tag W (W.setCell ⟨b, j, none⟩ v) := ⟨by simp [World.setCell], fun k hk ht => Below.heap_setCell _ _ _ _ (by show k ≠ b; rintro rfl; rcases ht with c | c <;> omega)⟩
 have hc : Chg tag [6] W (W.setCell ⟨b, j, none⟩ v) := Chg.setCell W (by show tag b ∈ [6]; simp [hb]) v
 have hS := h.S.chg (tag' := tag) hc (fun _ _ => rfl) (fun i hi => by simp; omega)
 exact ⟨Nat.le_trans h6 k.size, lv, R, mp, x, hx, { h with
  S := hS
  sta := h.sta.k9 k h6
  wlk := fun a b c ha hb hc => by
   obtain ⟨h1, h2, h3, ga, ca, lf, h4, h5, h6⟩ := h.wlk a b c ha hb hc
   exact ⟨h1, h2, h3, ga, ca, lf, h4, h5, h6.k9 k⟩
  rcs := h.rcs.k9 k
  drw := h.drw.k9 k
  fld := h.fld.k9 k }⟩
theorem Kp.poke {W2 : World} (h : Kp tag tag' W W2) {b : Nat} (hb : W.heap.size ≤ b) (j : Nat) (v : Value) : Kp tag tag' W (W2.setCell ⟨b, j, none⟩ v) :=
 ⟨h.os, h.tape, h.output, by simp [World.setCell]; exact h.size, h.ret, fun k hk ht => (Below.heap_setCell _ _ _ _ (by show k ≠ b; omega)).trans (h.blk k hk ht)⟩
theorem MM.six (h : MM E X g s W tag) : 6 ≤ W.heap.size := h.1
end
end Go.Proofs.YtmolfmgchbjnbaaGreatDoor
namespace Go.Proofs.YtmolfmgchbjnbaaGreatDoor
open Go.RowKit
open Wire Flow Mach
theorem infoS9 : (Tryz.prog.info? 9).map (fun i => (i.zero, i.size, i.bytes)) = some (some (.string ⟨#[]⟩), 1, 16) := by kernel_rfl
theorem mkStrs (n : Nat) (hn : n ≤ 100000) (W : World) : (Instr.makeSlice 22 (.int .i64 (n : Int)) (.int .i64 (n : Int))).run Tryz.prog W = .ok (.slice (some ⟨W.heap.size, 0, none⟩) n n) (W.alloc (.cells (madeCells #[.string ⟨#[]⟩] n) 9)) := by
 obtain ⟨i0, hi, hz0, hz1, hz2⟩ := info_parts infoS9
 have := run_make (P := Tryz.prog) W 22 9 i0 (.string ⟨#[]⟩) Tryz.underlying22 hi hz0 .i64 .i64 n n (by omega) (by omega) (by rw [hz2]; omega) (by omega)
 simp only [Int.toNat_natCast, hz1, Nat.mul_one] at this
 exact this
theorem made_at (W : World) (z : Value) (n : Nat) (t : TypeId) (k : Nat) (hk : k < n) : (W.alloc (.cells (madeCells #[z] n) t)).cell? ⟨W.heap.size, k, none⟩ = some z := by
 unfold World.cell?
 rw [World.alloc_heap_new]
 show (madeCells #[z] n)[k]? = some z
 rw [← Array.getElem?_toList, toList_madeCells_one, List.getElem?_replicate, if_pos hk]
theorem made_free (W : World) (o : Array Value) (t : TypeId) (k : Nat) : (W.alloc (.cells o t)).frozen? ⟨W.heap.size, k, none⟩ = false := by
 unfold World.frozen?
 rw [World.alloc_heap_new]
 simp
theorem frozen_of_block {w w' : World} {b j : Nat} (h : w'.heap[b]? = w.heap[b]?) : w'.frozen? ⟨b, j, none⟩ = w.frozen? ⟨b, j, none⟩ := by
 unfold World.frozen?
 rw [h]
section
variable {E : Env} {X : Nat} {g : Pl} {s : Ms} {W W' : World} {tag tag' : Nat → Nat}
def PT (E : Env) (X : Nat) (g : Pl) (s : Ms) (l : List Cell) (vs : List Val) (tag : Nat → Nat) (W : World) (k : Nat) (wr : World) : Prop :=
 6 ≤ W.heap.size ∧ ∃ t, MM E X g (onStk s (l ++ (vs.take (vs.length - k)).map cv)) wr t ∧ Kp tag t W wr ∧ t W.heap.size = 6 ∧ W.heap.size < wr.heap.size ∧ (∀ j, wr.frozen? ⟨W.heap.size, j, none⟩ = false) ∧ ∀ j v, vs[j]? = some v → ∃ x, wr.cell? ⟨W.heap.size, j, none⟩ = some (.string x) ∧ (vs.length ≤ j + k → x = textV E v)
theorem PT.start (h : MM E X g s W tag) {l : List Cell} {vs : List Val} (hs : s.fr.stk = l ++ vs.map cv) : PT E X g s l vs tag W 0 (W.alloc (.cells (madeCells #[.string ⟨#[]⟩] vs.length) 9)) := by
 obtain ⟨t, h1, k1, hb⟩ := MM.box h ((Fr.refl [] W).alloc (.cells (madeCells #[.string ⟨#[]⟩] vs.length) 9))
 refine ⟨h.six, t, ?_, k1, hb _ (Nat.le_refl _), (Array.getElem?_eq_some_iff.1 (World.alloc_heap_new W _)).1, made_free W _ _, fun j v hv => ?_⟩
 ·rw [Nat.sub_zero, List.take_length, ← hs]
  exact h1
 ·have hj := (List.getElem?_eq_some_iff.1 hv).1
  exact ⟨_, made_at W _ _ _ j hj, fun hc => by omega⟩
theorem PT.step (hE : EnvOk E) {l : List Cell} {vs : List Val} {k : Nat} {wr : World} (h : PT E X g s l vs tag W k wr) (hl : l.length + vs.length ≤ 1024) (hv : ∀ v ∈ vs, SmV v) (hk : k < vs.length) :
  ∃ v, vs[vs.length - 1 - k]? = some v ∧ Calls Tryz.prog 199 #[fp g s] wr fun e W' => e = .returned (.string (textV E v)) ∧ W'.frozen? ⟨W.heap.size, vs.length - 1 - k, none⟩ = false ∧ (∃ x, W'.cell? ⟨W.heap.size, vs.length - 1 - k, none⟩ = some (.string x)) ∧ PT E X g s l vs tag W (k + 1) (W'.setCell ⟨W.heap.size, vs.length - 1 - k, none⟩ (.string (textV E v))) := by
 obtain ⟨h6, t, M, K, hb, hlt, hfz, hc⟩ := h
 obtain ⟨v, hvm⟩ : ∃ v, vs[vs.length - 1 - k]? = some v := ⟨_, List.getElem?_eq_getElem (by omega)⟩
 have e1 : (vs.take (vs.length - k)).map cv = (vs.take (vs.length - (k + 1))).map cv ++ [cv v] := by
  rw [show vs.length - k = (vs.length - 1 - k) + 1 by omega, List.take_add_one, hvm, List.map_append, show vs.length - (k + 1) = vs.length - 1 - k by omega]
  rfl
 refine ⟨v, hvm, ?_⟩
 have hs1 : (onStk s (l ++ (vs.take (vs.length - k)).map cv)).fr.stk = (l ++ (vs.take (vs.length - (k + 1))).map cv) ++ [cv v] := by
  show l ++ (vs.take (vs.length - k)).map cv = _
  rw [e1, List.append_assoc]
 have hl1 : (onStk s (l ++ (vs.take (vs.length - k)).map cv)).fr.stk.length ≤ 1024 := by
  show (l ++ (vs.take (vs.length - k)).map cv).length ≤ 1024
  simp only [List.length_append, List.length_map, List.length_take]
  omega
 refine (MM.popText hE M hs1 hl1 (hv v (List.mem_of_getElem? hvm))).mono fun e W' ⟨he, t', M', K'⟩ => ?_
 have hblk : W'.heap[W.heap.size]? = wr.heap[W.heap.size]? := K'.blk _ hlt (by rw [hb]; decide)
 have hcell : ∀ j, W'.cell? ⟨W.heap.size, j, none⟩ = wr.cell? ⟨W.heap.size, j, none⟩ := fun j => World.cell?_of_block (w := wr) (a := ⟨W.heap.size, j, none⟩) hblk
 have hb' : t' W.heap.size = 6 := (K'.ret _ hlt).trans hb
 have hfz' : ∀ j, W'.frozen? ⟨W.heap.size, j, none⟩ = false := fun j => (frozen_of_block hblk).trans (hfz j)
 refine ⟨he, hfz' _, ?_, h6, t', M'.poke hb' h6 _ _, (K.trans K').poke (Nat.le_refl _) _ _, hb', ?_, fun j => ?_, fun j u hu => ?_⟩
 ·obtain ⟨x, hx, -⟩ := hc _ v hvm
  exact ⟨x, (hcell _).trans hx⟩
 ·rw [show (W'.setCell ⟨W.heap.size, vs.length - 1 - k, none⟩ (.string (textV E v))).heap.size = W'.heap.size by simp [World.setCell]]
  exact Nat.lt_of_lt_of_le hlt K'.size
 ·rw [World.frozen?_setCell]
  exact hfz' j
 ·obtain ⟨x, hx, hx2⟩ := hc j u hu
  by_cases e : j = vs.length - 1 - k
  ·subst e
   rw [hvm] at hu
   have : v = u := by simpa using hu
   subst this
   exact ⟨_, World.cell?_setCell_same (h := (hcell _).trans hx) .., fun _ => rfl⟩
  ·refine ⟨x, ?_, fun hle => hx2 (by omega)⟩
   refine (World.cell?_setCell_other (h := ?_) ..).trans ((hcell _).trans hx)
   intro h
   injection h with _ h _
   exact e h.symm
set_option maxRecDepth 100000 in
set_option maxHeartbeats 4000000 in
theorem MM.popTexts (hE : EnvOk E) (h : MM E X g s W tag) {l : List Cell} {vs : List Val} (hs : s.fr.stk = l ++ vs.map cv) (hl : s.fr.stk.length ≤ 1024) (hv : ∀ v ∈ vs, SmV v) :
    Calls Tryz.prog 225 #[fp g s, .int .i64 (vs.length : Nat)] W (fun e W' => e = .returned (.slice (some ⟨W.heap.size, 0, none⟩) vs.length vs.length) ∧ PT E X g s l vs tag W vs.length W') := by
  have hl1 : l.length + vs.length ≤ 1024 := by rw [hs] at hl; simpa using hl
  have HS : Hid _ := fun (k : Nat) (wr : World) (h : PT E X g s l vs tag W k wr) (hk : k < vs.length) => PT.step hE h hl1 hv hk
  have P0 := PT.start h hs
  obtain ⟨PP, hPP⟩ : ∃ PP, PT E X g s l vs tag W = PP := ⟨_, rfl⟩
  rw [hPP] at HS P0 ⊢
  clear hPP h hs hv
  obtain ⟨n, hn⟩ : ∃ n, vs.length = n := ⟨_, rfl⟩
  rw [hn] at hl1 P0 HS ⊢
  have hmk := mkStrs n (by omega) W
  obtain ⟨W1, hW1⟩ : ∃ W1, W.alloc (.cells (madeCells #[.string ⟨#[]⟩] n) 9) = W1 := ⟨_, rfl⟩
  rw [hW1] at hmk P0
  obtain ⟨b, hb⟩ : ∃ b, W.heap.size = b := ⟨_, rfl⟩
  rw [hb] at hmk HS ⊢
  have hw64 : IntKind.i64.wrap (n : Int) = n := by rw [IntKind.wrap_i64]; omega
  clear hW1 hn hb hl
  go_enter Tryz.func225, Tryz.ntmps225
  go_wp2
  go_loopw [11] (fun i wr => ∃ k : Nat, k ≤ n ∧ i = .int .i64 k ∧ PP k wr) (fun i _ => n - (intOf i).toNat)
  case atStart => exact ⟨0, by omega, rfl, P0⟩
  case round =>
    clear P0
    obtain ⟨k, hk, rfl, J⟩ := hrel
    by_cases hlt : k < n
    · have g1 : (k : Int) < n := by omega
      obtain ⟨v, -, HC⟩ := HS.out k _ J hlt
      have e1 : IntKind.i64.wrap ((n : Int) - 1) = ((n - 1 : Nat) : Int) := by rw [IntKind.wrap_i64]; omega
      have e2 : IntKind.i64.wrap (((n - 1 : Nat) : Int) - (k : Int)) = ((n - 1 - k : Nat) : Int) := by rw [IntKind.wrap_i64]; omega
      have e3 : ((n - 1 - k : Nat) : Int) < (n : Int) := by omega
      have HC' : Hid _ := fun (_ : Unit) => HC
      clear HC J HS
      generalize textV E v = tx at HC'
      obtain ⟨m, hm⟩ : ∃ m, n - 1 - k = m := ⟨_, rfl⟩
      rw [hm] at HC' e2 e3
      go_wp2_with fail
      refine (HC'.out ()).mono ?_
      rintro e W2 ⟨rfl, z0, ⟨x, x0⟩, P2⟩
      obtain ⟨W3, hW3⟩ : ∃ W3, W2.setCell ⟨b, m, none⟩ (.string tx) = W3 := ⟨_, rfl⟩
      rw [hW3] at P2
      have HP2 : Hid _ := P2
      clear P2 HC'
      go_wp2_with fail
      exact ⟨⟨k + 1, by omega, by go_num, HP2.out⟩, by simp [intOf]; omega⟩
    · have g1 : ¬ ((k : Int) < n) := by omega
      have hkn : k = n := by omega
      subst hkn
      go_wp2_with fail
      go_ret
      exact ⟨rfl, J⟩
end
end Go.Proofs.YtmolfmgchbjnbaaGreatDoor
namespace Go.Proofs.YtmolfmgchbjnbaaGreatDoor
open Go.RowKit
open Wire Flow Mach
theorem join_eq : ∀ xs : List ByteArray, Lib.join (xs.map (·.data.toList)) [32] = joinF xs
  | [] => rfl
  | [a] => by simp [Lib.join, List.intercalate, joinF, bl]
  | a :: b :: l => by
    have := join_eq (b :: l)
    unfold Lib.join at this ⊢
    rw [show joinF (a :: b :: l) = bl a ++ 32 :: joinF (b :: l) from rfl, ← this]
    simp [List.intercalate, bl]
theorem joinF_len (xs : List ByteArray) (h : ∀ x ∈ xs, x.size ≤ 1048576) : (joinF xs).length ≤ xs.length * 1048577 := by
 induction xs with
 | nil => simp [joinF]
 | cons a l ih =>
  have ha := h a (by simp)
  have hl := ih fun x hx => h x (by simp [hx])
  cases l with
  | nil => simp [joinF, bl_length]; omega
  | cons b l =>
   rw [show joinF (a :: b :: l) = bl a ++ 32 :: joinF (b :: l) from rfl]
   simp only [List.length_append, List.length_cons, bl_length] at hl ⊢
   omega
theorem join_v (b : Nat) (xs : List ByteArray) (W : World) (hb : b < W.heap.size) (hn : xs.length ≤ 1024) (hs : ∀ x ∈ xs, x.size ≤ 1048576) (hc : ∀ (j : Nat) x, xs[j]? = some x → W.cell? ⟨b, 0 + j, none⟩ = some (.string x)) :
  Calls Tryz.prog 224 #[.slice (some ⟨b, 0, none⟩) xs.length xs.length, .string ⟨#[32]⟩] W fun e W' => e = .returned (.string ⟨(joinF xs).toArray⟩) ∧ Fr [] W W' := by
 have hl := joinF_len xs hs
 have := Tryz.strings_Join b 0 xs.length xs ⟨#[32]⟩ W hc hb (by omega) (Nat.le_refl _) (by show (Lib.join _ [32]).length ≤ _; rw [join_eq]; omega)
 refine this.mono fun e W' ⟨he, hB⟩ => ⟨?_, Fr.of_below hB⟩
 rw [he]
 show Ending.returned (Value.string ⟨(Lib.join (xs.map (·.data.toList)) [32]).toArray⟩) = _
 rw [join_eq]
section
variable {E : Env} {X : Nat} {g : Pl} {s : Ms} {W W' : World} {tag : Nat → Nat}
theorem PT.done {l : List Cell} {vs : List Val} {W2 : World} (h : PT E X g s l vs tag W vs.length W2) : ∃ t, (MM E X g (onStk s l) W2 t ∧ Kp tag t W W2) ∧ W.heap.size < W2.heap.size ∧ ∀ (j : Nat) x, (vs.map (textV E))[j]? = some x → W2.cell? ⟨W.heap.size, 0 + j, none⟩ = some (.string x) := by
 obtain ⟨h6, t, M, K, hb, hlt, hfz, hc⟩ := h
 refine ⟨t, ⟨?_, K⟩, hlt, fun j x hx => ?_⟩
 ·simpa using M
 ·rw [List.getElem?_map] at hx
  obtain ⟨v, hv, rfl⟩ := Option.map_eq_some_iff.1 hx
  obtain ⟨x, h1, h2⟩ := hc j v hv
  rw [Nat.zero_add, h1, h2 (by omega)]
set_option maxRecDepth 100000 in
set_option maxHeartbeats 4000000 in
theorem MM.iprint (hE : EnvOk E) (h : MM E X g s W tag) {l : List Cell} {vs : List Val} (hs : s.fr.stk = l ++ vs.map cv) (hl : s.fr.stk.length ≤ 1024) (hv : ∀ v ∈ vs, SmV v) (hx : ∀ x ∈ vs.map (textV E), x.size ≤ 1048576) (ho : s.w.out.size ≤ 1000) (pl b q : Int) :
  Calls Tryz.prog 126 #[ptr X, fp g s, inV 44 pl (vs.length : Nat) b q] W (MP E X g { onStk s l with w := (printW s.w (vs.map (textV E))).1 } tag W (stI (printW s.w (vs.map (textV E))).2)) := by
 obtain ⟨W1, hW1, F1, ⟨b0, b1, b2, b3, b4⟩, l1⟩ := box5 W 44 pl (vs.length : Nat) b q
 obtain ⟨t1, h1, k1, -⟩ := MM.box h F1
 have hln : (vs.map (textV E)).length ≤ 1024 := by rw [hs] at hl; simp at hl ⊢; omega
 have HM1 : Hid _ := And.intro h1 k1
 have HP : Hid _ := fun (_ : Unit) => h1.popTexts hE hs hl hv
 have HJ : Hid _ := fun (W2 : World) (hb : W1.heap.size < W2.heap.size) hc => join_v W1.heap.size (vs.map (textV E)) W2 hb hln hx hc
 have HO : Hid _ := fun (W2 : World) (t2 : Nat → Nat) (h2 : MM E X g (onStk s l) W2 t2) (t : ByteArray) => And.intro (MM.xout h2) (MM.setOut h2 t)
 have hjl := joinF_len (vs.map (textV E)) hx
 rw [List.length_map] at HJ hjl hln
 unfold printW
 obtain ⟨jj, hjj⟩ : ∃ jj : ByteArray, ⟨(joinF (vs.map (textV E))).toArray⟩ = jj := ⟨_, rfl⟩
 have hjs : (joinF (vs.map (textV E))).length = jj.size := by rw [← hjj]; rfl
 have hja : (joinF (vs.map (textV E)) ++ [10]).toArray = jj.data ++ #[10] := by rw [← hjj]; simp
 rw [hjs] at hjl
 rw [hjs, hja]
 rw [hjj] at HJ
 clear hjs hja hjj hx h h1 k1 F1 l1 hs hv
 by_cases hbig : s.w.out.size + jj.size + 1 > 1000
 ·rw [if_pos hbig]
  go_enter Tryz.func126, Tryz.ntmps126
  go_wp2_with fail
  refine (HP.out ()).mono ?_
  rintro e W2 ⟨rfl, P2⟩
  obtain ⟨t2, M2, hlt, hc⟩ := P2.done
  have HJ2 : Hid _ := fun (_ : Unit) => HJ.out W2 hlt hc
  have HM2 : Hid _ := And.intro M2.1 (HM1.out.2.trans M2.2)
  clear P2 M2 hlt hc HP HJ
  go_wp2_with fail
  refine (HJ2.out ()).mono ?_
  rintro e W3 ⟨rfl, F3⟩
  obtain ⟨t3, h3, k3⟩ := MM.fr HM2.out.1 F3
  have HM3 : Hid _ := And.intro h3 (HM2.out.2.trans k3)
  have x14' := MM.xout h3
  have x14 : W3.cell? ⟨X, 14, none⟩ = some (.string s.w.out) := x14'
  clear x14'
  have e1 : IntKind.i64.wrap (s.w.out.size : Int) = s.w.out.size := by rw [IntKind.wrap_i64]; omega
  have e2 : (jj ++ (⟨#[10]⟩ : ByteArray)).size = jj.size + 1 := by rw [ByteArray.size_append]; rfl
  clear h3 k3 F3 HJ2 HO
  go_wp2_with fail
  go_ret
  exact ⟨rfl, t3, HM3.out.1, HM3.out.2⟩
 ·rw [if_neg hbig]
  go_enter Tryz.func126, Tryz.ntmps126
  go_wp2_with fail
  refine (HP.out ()).mono ?_
  rintro e W2 ⟨rfl, P2⟩
  obtain ⟨t2, M2, hlt, hc⟩ := P2.done
  have HJ2 : Hid _ := fun (_ : Unit) => HJ.out W2 hlt hc
  have HM2 : Hid _ := And.intro M2.1 (HM1.out.2.trans M2.2)
  clear P2 M2 hlt hc HP HJ
  go_wp2_with fail
  refine (HJ2.out ()).mono ?_
  rintro e W3 ⟨rfl, F3⟩
  obtain ⟨t3, h3, k3⟩ := MM.fr HM2.out.1 F3
  have HM3 : Hid _ := And.intro h3 (HM2.out.2.trans k3)
  have x14' := MM.xout h3
  have x14 : W3.cell? ⟨X, 14, none⟩ = some (.string s.w.out) := x14'
  clear x14'
  have e1 : IntKind.i64.wrap (s.w.out.size : Int) = s.w.out.size := by rw [IntKind.wrap_i64]; omega
  have e2 : (jj ++ (⟨#[10]⟩ : ByteArray)).size = jj.size + 1 := by rw [ByteArray.size_append]; rfl
  obtain ⟨-, z14, -, M4, K4⟩ := HO.out W3 t3 h3 ⟨s.w.out.data ++ (jj.data ++ #[10])⟩
  clear h3 k3 F3 HJ2 HO
  go_wp2_with fail
  go_ret
  have e5 : s.w.out ++ (jj ++ (⟨#[10]⟩ : ByteArray)) = ⟨s.w.out.data ++ (jj.data ++ #[10])⟩ := by
   apply ByteArray.ext
   simp [ByteArray.data_append]
  rw [e5]
  exact ⟨rfl, t3, M4, HM3.out.2.trans K4⟩
end
end Go.Proofs.YtmolfmgchbjnbaaGreatDoor
namespace Go.Proofs.YtmolfmgchbjnbaaGreatDoor
open Go.RowKit
open Wire Flow Mach
theorem getK_at {l : List (ByteArray × Val)} (hd : (keysA l).Nodup) {j : Nat} {k : ByteArray} {v : Val} (h : l[j]? = some (k, v)) : getK l k = v ∧ hasK l k = true := by
 induction l generalizing j with
 | nil => simp at h
 | cons a l ih =>
  have hd' : a.1 ∉ keysA l ∧ (keysA l).Nodup := List.nodup_cons.1 hd
  cases j with
  | zero =>
   have e : a = (k, v) := by simpa using h
   subst e
   simp [getK, hasK]
  | succ j =>
   have h' : l[j]? = some (k, v) := by simpa using h
   obtain ⟨h1, h2⟩ := ih hd'.2 h'
   have hne : a.1 ≠ k := by
    rintro rfl
    exact hd'.1 (List.mem_map.2 ⟨_, List.mem_of_getElem? h', rfl⟩)
   refine ⟨?_, ?_⟩
   ·unfold getK
    rw [if_neg hne]
    exact h1
   ·unfold hasK at h2 ⊢
    rw [List.any_cons, h2, Bool.or_true]
theorem getK_off {l : List (ByteArray × Val)} {k : ByteArray} (h : ∀ e ∈ l, e.1 ≠ k) : getK l k = nothing ∧ hasK l k = false := by
 induction l with
 | nil => exact ⟨rfl, rfl⟩
 | cons a l ih =>
  obtain ⟨h1, h2⟩ := ih fun e he => h e (by simp [he])
  have hne := h a (by simp)
  refine ⟨?_, ?_⟩
  ·unfold getK
   rw [if_neg hne]
   exact h1
  ·unfold hasK at h2 ⊢
   rw [List.any_cons, h2]
   simpa using hne
theorem lookup_run {W : World} {b : Nat} {l : List (ByteArray × Val)} (hm : MapAt W b (entL l)) (hd : (keysA l).Nodup) (hs : ∀ e ∈ l, e.1.size ≤ 1048576) {key : ByteArray} (hk : key.size ≤ 1048576) :
    (Instr.lookup 144 (.map (some b)) (.string key) true).run Tryz.prog W = .ok (.tuple #[vV (getK l key), .bool (hasK l key)]) W := by
  obtain ⟨es, clock, hb, he⟩ := hm
  have K := WideMaps.string_law (P := Tryz.prog) (k := 9) Tryz.underlying9
  have hkey := WideMaps.keyOf_string_mk (P := Tryz.prog) (k := 9) Tryz.underlying9 (s := key) (Nat.le_trans hk (by decide))
  have hmem : ∀ e ∈ es.toList, ∃ x ∈ l, e.key = .string x.1 ∧ e.val = vV x.2 := fun e hx => by
    have : (e.key, e.val) ∈ entL l := by rw [← he]; exact List.mem_map.2 ⟨e, hx, rfl⟩
    obtain ⟨x, hx, h⟩ := List.mem_map.1 this
    injection h with h1 h2
    exact ⟨x, hx, h1.symm, h2.symm⟩
  rcases K.find W hkey es.toList (fun e hx => by
    obtain ⟨x, hx, h1, -⟩ := hmem e hx
    rw [h1]
    exact ⟨_, WideMaps.keyOf_string_mk (P := Tryz.prog) (k := 9) Tryz.underlying9 (Nat.le_trans (hs x hx) (by decide))⟩) with ⟨h1, h2⟩ | ⟨j, e0, h1, h2, h3⟩
  · obtain ⟨g1, g2⟩ := getK_off (l := l) (k := key) fun x hx hxk => by
      have : ((.string x.1 : Value), vV x.2) ∈ entL l := List.mem_map.2 ⟨x, hx, rfl⟩
      rw [← he] at this
      obtain ⟨e, hx', h⟩ := List.mem_map.1 this
      injection h with q1 q2
      exact h2 e hx' (by rw [q1, hxk])
    rw [g1, g2]
    have hz : (zeroValue 221).run Tryz.prog W = .ok (vV nothing) W := by kernel_rfl
    simp [Instr.lookup, run_underlying Tryz.underlying144, MapKept.run_getObj_map hb, K.check W _ hkey, h1, hz, Result.andThen]
  · have : (entL l)[j]? = some (e0.key, e0.val) := by rw [← he, List.getElem?_map, h2]; rfl
    rw [entL, List.getElem?_map] at this
    obtain ⟨x, hx, h⟩ := Option.map_eq_some_iff.1 this
    obtain ⟨q1, q2⟩ := Prod.mk.inj h
    have hxk : x.1 = key := Value.string.inj (q1.trans h3)
    obtain ⟨g1, g2⟩ := getK_at hd (j := j) (k := key) (v := x.2) (by rw [hx, ← hxk])
    have q2' : vV x.2 = e0.val := q2
    rw [g1, g2, q2']
    simp [Instr.lookup, run_underlying Tryz.underlying144, MapKept.run_getObj_map hb, K.check W _ hkey, h1, Result.andThen]
set_option maxRecDepth 100000 in
set_option maxHeartbeats 4000000 in
theorem hasA_any (A o b : Nat) {l : List (ByteArray × Val)} (key : ByteArray) (W : World) (h0 : W.cell? ⟨A, o, none⟩ = some (.map (some b))) (hm : MapAt W b (entL l)) (hd : (keysA l).Nodup) (hs : ∀ e ∈ l, e.1.size ≤ 1048576) (hk : key.size ≤ 1048576) :
  Calls Tryz.prog 207 #[.pointer (some ⟨A, o, none⟩), .string key] W fun e W' => e = .returned (.bool (hasK l key)) ∧ Fr [] W W' := by
 have hlk := lookup_run hm hd hs hk
 unfold vV at hlk
 generalize ((getK l key).kind : Int) = kk at hlk
 generalize vN (getK l key) = mm at hlk
 generalize vS (getK l key) = tt at hlk
 generalize hasK l key = bb at hlk ⊢
 obtain ⟨W1, hW1⟩ : ∃ W1, W.alloc (.cells #[.int .u8 0, .int .i64 0, .string ⟨#[]⟩] 221) = W1 := ⟨_, rfl⟩
 have F1 : Fr [] W W1 := by rw [← hW1]; exact (Fr.refl [] W).alloc _
 have k1 := World.alloc_heap_new W (.cells #[.int .u8 0, .int .i64 0, .string ⟨#[]⟩] 221)
 rw [hW1] at k1
 obtain ⟨hy, z0, z1, z2⟩ := cells3 k1
 obtain ⟨W7, hW7, r0, r1, r2, F7⟩ := set3 (x' := .int .u8 kk) (y' := .int .i64 mm) (z' := .string tt) hy
 obtain ⟨y0, y1, y2⟩ := hy
 have FF : Hid _ := F1.trans' F7 (by simp)
 clear hm hd hs hk F1 F7 k1
 go_enter Tryz.func207, Tryz.ntmps207
 go_wp2_with fail
 go_ret
 exact ⟨rfl, FF.out⟩
end Go.Proofs.YtmolfmgchbjnbaaGreatDoor
