import Derived.Test.YtmolfmgchbjnbaaGreatDoorM35
set_option linter.unusedSimpArgs false
set_option linter.unusedVariables false
namespace Go.Proofs.YtmolfmgchbjnbaaGreatDoor
open Go.RowKit
open Wire Flow Mach
section
variable {E : Env} {X : Nat} {g : Pl} {s : Ms} {W W' : World} {tag : Nat → Nat}
set_option maxRecDepth 100000 in
set_option maxHeartbeats 2000000 in
theorem MM.fcallDeep (h : MM E X g s W tag) (hd : 20 ≤ s.low.length) (pl a b q : Int) :
  Calls Tryz.prog 128 #[ptr X, fp g s, inV 50 pl a b q] W (MP E X g s tag W (stI 9)) := by
 obtain ⟨W1, hW1, F1, ⟨b0, b1, b2, b3, b4⟩, l1⟩ := box5 W 50 pl a b q
 obtain ⟨t1, h1, k1, -⟩ := MM.box h F1
 have HM1 : Hid _ := And.intro h1 k1
 have HC : Hid _ := fun (_ : Unit) => h1.callDeep hd a
 clear h h1 k1 F1 l1
 go_enter Tryz.func128, Tryz.ntmps128
 go_wp2_with fail
 refine (HC.out ()).mono ?_
 rintro e W2 ⟨rfl, t2, h2, k2⟩
 have HM2 : Hid _ := And.intro h2 (HM1.out.2.trans k2)
 have HK2 : Hid _ := k2
 clear h2 k2 HC
 go_wp2_with fail
 go_ret
 exact ⟨rfl, t2, HM2.out.1, HM2.out.2⟩
set_option maxRecDepth 100000 in
set_option maxHeartbeats 2000000 in
theorem MM.fcall (h : MM E X g s W tag) (hd : s.low.length < 20) {f : Nat} (hf : f < E.mo.fns.length) {l : List Cell} {vs : List Val} (hs : s.fr.stk = l ++ vs.map cv) (hl : s.fr.stk.length ≤ 1024) (hp : parOf E.mo f = vs.length) (hp16 : vs.length ≤ 16) (pl b q : Int) :
  Calls Tryz.prog 128 #[ptr X, fp g s, inV 50 pl (f : Nat) b q] W fun e W' => e = .returned (stI 0) ∧ ∃ vb t', MM E X { g with g := vb } (onCall (onStk s l) (enter E.mo f vs)) W' t' ∧ Kp tag t' W W' := by
 obtain ⟨W1, hW1, F1, ⟨b0, b1, b2, b3, b4⟩, l1⟩ := box5 W 50 pl (f : Nat) b q
 obtain ⟨t1, h1, k1, -⟩ := MM.box h F1
 have HK1 : Hid _ := k1
 have HC : Hid _ := fun (_ : Unit) => h1.call hd hf hs hl hp hp16
 generalize onCall (onStk s l) (enter E.mo f vs) = s2 at HC ⊢
 clear h h1 k1 F1 l1
 go_enter Tryz.func128, Tryz.ntmps128
 go_wp2_with fail
 refine (HC.out ()).mono ?_
 rintro e W2 ⟨rfl, vb, t2, h2, k2⟩
 have HM2 : Hid _ := And.intro h2 (HK1.out.trans k2)
 clear h2 k2 HC
 go_wp2_with fail
 go_ret
 exact ⟨rfl, vb, t2, HM2.out.1, HM2.out.2⟩
set_option maxRecDepth 100000 in
set_option maxHeartbeats 2000000 in
theorem MM.fret (h : MM E X g s W tag) {l : List Cell} {v : Val} (hs : s.fr.stk = l ++ [cv v]) (hl : s.fr.stk.length ≤ 1024) {lo : List Frm} {f : Frm} (hlo : s.low = lo ++ [f]) (hf : f.stk.length < 1024) (pl a b q : Int) :
  Calls Tryz.prog 128 #[ptr X, fp g s, inV 51 pl a b q] W (MP E X g (onStk (onCut s lo f) (f.stk ++ [cv v])) tag W (stI 0)) := by
 obtain ⟨W1, hW1, F1, ⟨b0, b1, b2, b3, b4⟩, l1⟩ := box5 W 51 pl a b q
 obtain ⟨t1, h1, k1, -⟩ := MM.box h F1
 have HM1 : Hid _ := And.intro h1 k1
 have HC : Hid _ := fun (_ : Unit) => h1.leave hs hl hlo hf
 generalize onStk (onCut s lo f) (f.stk ++ [cv v]) = s2 at HC ⊢
 clear h h1 k1 F1 l1
 go_enter Tryz.func128, Tryz.ntmps128
 go_wp2_with fail
 refine (HC.out ()).mono ?_
 rintro e W2 ⟨rfl, t2, h2, k2⟩
 have HM2 : Hid _ := And.intro h2 (HM1.out.2.trans k2)
 have HK2 : Hid _ := k2
 clear h2 k2 HC
 go_wp2_with fail
 go_ret
 exact ⟨rfl, t2, HM2.out.1, HM2.out.2⟩
set_option maxRecDepth 100000 in
set_option maxHeartbeats 2000000 in
theorem MM.nextFn (h : MM E X g s W tag) (ht : ∀ t, s.w.recs[s.w.nr]? = some t → t.size ≤ 4294967296) (hn : s.w.recs.length ≤ 1000000) (h3 : 2 < E.mo.fns.length) :
  Calls Tryz.prog 66 #[ptr X] W fun e W' => e = .returned unit ∧ ∃ b t', MM E X (g.at_ b (if (nextR s.w).2 = true then 1 else 2)) (onBegin E (onNext s) (if (nextR s.w).2 = true then 1 else 2)) W' t' ∧ Kp tag t' W W' := by
 have HR : Hid _ := fun (_ : Unit) => h.readR ht hn
 have HB1 : Hid _ := fun (W1 : World) (t1 : Nat → Nat) (h1 : MM E X g (onNext s) W1 t1) => h1.begin_ (f := 1) (by omega)
 have HB2 : Hid _ := fun (W1 : World) (t1 : Nat → Nat) (h1 : MM E X g (onNext s) W1 t1) => h1.begin_ (f := 2) (by omega)
 generalize (nextR s.w).2 = bb at HR ⊢
 generalize onNext s = s1 at *
 clear h ht hn
 cases bb
 ·simp only [Bool.false_eq_true, if_false]
  generalize onBegin E s1 2 = s2 at HB2 ⊢
  go_enter Tryz.func66, Tryz.ntmps66
  go_wp2_with fail
  refine (HR.out ()).mono ?_
  rintro e W1 ⟨rfl, t1, h1, k1⟩
  have HM1 : Hid _ := And.intro h1 (k1)
  have HK1 : Hid _ := k1
  clear h1 k1 HR
  go_wp2_with fail
  refine (HB2.out W1 t1 HM1.out.1).mono ?_
  rintro e W2 ⟨rfl, b, t2, h2, k2⟩
  have HM2 : Hid _ := And.intro h2 (HM1.out.2.trans k2)
  clear h2 k2 HB1 HB2
  go_wp2_with fail
  refine bodyPost_end (results_none rfl _ _ _) rfl ?_
  exact ⟨rfl, b, t2, HM2.out.1, HM2.out.2⟩
 ·simp only [if_true]
  generalize onBegin E s1 1 = s2 at HB1 ⊢
  go_enter Tryz.func66, Tryz.ntmps66
  go_wp2_with fail
  refine (HR.out ()).mono ?_
  rintro e W1 ⟨rfl, t1, h1, k1⟩
  have HM1 : Hid _ := And.intro h1 (k1)
  have HK1 : Hid _ := k1
  clear h1 k1 HR
  go_wp2_with fail
  refine (HB1.out W1 t1 HM1.out.1).mono ?_
  rintro e W2 ⟨rfl, b, t2, h2, k2⟩
  have HM2 : Hid _ := And.intro h2 (HM1.out.2.trans k2)
  clear h2 k2 HB1 HB2
  go_wp2_with fail
  refine bodyPost_end (results_none rfl _ _ _) rfl ?_
  exact ⟨rfl, b, t2, HM2.out.1, HM2.out.2⟩
end
end Go.Proofs.YtmolfmgchbjnbaaGreatDoor
namespace Go.Proofs.YtmolfmgchbjnbaaGreatDoor
open Go.RowKit
open Wire Flow Mach
section
variable {E : Env} {X : Nat} {g : Pl} {s : Ms} {W W' : World} {tag : Nat → Nat}
abbrev PyH (E : Env) (X : Nat) (g : Pl) (s : Ms) (W : World) (tag : Nat → Nat) (f : Nat) (args : Array Value) (P : Ending → World → Prop) : Prop := ∀ (W1 : World) (t1 : Nat → Nat), MM E X g s W1 t1 → Kp tag t1 W W1 → Calls Tryz.prog f args W1 P
abbrev Py0 (Q : Int → World → Prop) : Ending → World → Prop := fun e W' => e = .returned unit ∧ Q 0 W'
abbrev Py1 (Q : Int → World → Prop) : Ending → World → Prop := fun e W' => ∃ st : Int, e = .returned (stI st) ∧ Q st W'
set_option maxRecDepth 100000 in
set_option maxHeartbeats 8000000 in
theorem MM.playD (h : MM E X g s W tag) (op : Nat) (pl a b q : Int) {Q : Int → World → Prop} (H : ((0 ≤ op ∧ op ≤ 6) ∧ PyH E X g s W tag 116 #[ptr X, fp g s, inV (op : Nat) pl a b q] (Py0 Q)) ∨ ((7 ≤ op ∧ op ≤ 10) ∧ PyH E X g s W tag 117 #[ptr X, fp g s, .int .u8 (op : Nat)] (Py1 Q)) ∨ ((17 ≤ op ∧ op ≤ 17) ∧ PyH E X g s W tag 118 #[fp g s, .int .i64 q] (Py0 Q)) ∨ ((11 ≤ op ∧ op ≤ 16) ∧ PyH E X g s W tag 119 #[ptr X, fp g s, inV (op : Nat) pl a b q] (Py1 Q)) ∨ ((18 ≤ op ∧ op ≤ 22) ∧ PyH E X g s W tag 120 #[fp g s, .int .u8 (op : Nat)] (Py1 Q)) ∨ ((25 ≤ op ∧ op ≤ 25) ∧ PyH E X g s W tag 121 #[fp g s] (Py1 Q)) ∨ ((op = 23 ∨ op = 24 ∨ 26 ≤ op ∧ op ≤ 28) ∧ PyH E X g s W tag 122 #[fp g s, .int .u8 (op : Nat)] (Py0 Q)) ∨ ((29 ≤ op ∧ op ≤ 34) ∧ PyH E X g s W tag 123 #[fp g s, .int .u8 (op : Nat)] (Py0 Q)) ∨ ((35 ≤ op ∧ op ≤ 38) ∧ PyH E X g s W tag 124 #[ptr X, fp g s, inV (op : Nat) pl a b q] (Py1 Q)) ∨ ((39 ≤ op ∧ op ≤ 41) ∧ PyH E X g s W tag 125 #[fp g s, .int .u8 (op : Nat)] (Py0 Q)) ∨ ((42 ≤ op ∧ op ≤ 44) ∧ PyH E X g s W tag 126 #[ptr X, fp g s, inV (op : Nat) pl a b q] (Py1 Q)) ∨ ((45 ≤ op ∧ op ≤ 47) ∧ PyH E X g s W tag 127 #[fp g s, .int .u8 (op : Nat)] (Py0 Q)) ∨ ((48 ≤ op ∧ op ≤ 53) ∧ PyH E X g s W tag 128 #[ptr X, fp g s, inV (op : Nat) pl a b q] (Py1 Q))) :
  Calls Tryz.prog 65 #[ptr X, inV (op : Nat) pl a b q] W (Py1 Q) := by
 obtain ⟨W1, hW1, F1, ⟨b0, b1, b2, b3, b4⟩, l1⟩ := box5 W (op : Nat) pl a b q
 obtain ⟨t1, h1, k1, hb1⟩ := MM.box h F1
 have hq : t1 W.heap.size < 10 := by rw [hb1 _ (Nat.le_refl _)]; decide
 have HB : Hid _ := fun (W2 : World) (t2 : Nat → Nat) (k : Kp t1 t2 W1 W2) => And.intro ((k.cell (p := ⟨W.heap.size, 0, none⟩) l1 hq).trans b0) (And.intro ((k.cell (p := ⟨W.heap.size, 1, none⟩) l1 hq).trans b1) (And.intro ((k.cell (p := ⟨W.heap.size, 2, none⟩) l1 hq).trans b2) (And.intro ((k.cell (p := ⟨W.heap.size, 3, none⟩) l1 hq).trans b3) ((k.cell (p := ⟨W.heap.size, 4, none⟩) l1 hq).trans b4))))
 have HM1 : Hid _ := And.intro h1 k1
 have HF : Hid _ := fun (_ : Unit) => h1.frame
 clear h h1 k1 F1 l1 hb1 hq b0 b1 b2 b3 b4
 rcases H with ⟨ho, H⟩ | ⟨ho, H⟩ | ⟨ho, H⟩ | ⟨ho, H⟩ | ⟨ho, H⟩ | ⟨ho, H⟩ | ⟨ho, H⟩ | ⟨ho, H⟩ | ⟨ho, H⟩ | ⟨ho, H⟩ | ⟨ho, H⟩ | ⟨ho, H⟩ | ⟨ho, H⟩
 all_goals
  have HC : Hid _ := fun (_ : Unit) => H
  first | have e0 : (op : Int) ≤ 6 := by omega | have e0 : ¬ (op : Int) ≤ 6 := by omega
  first | have e1 : (op : Int) ≤ 10 := by omega | have e1 : ¬ (op : Int) ≤ 10 := by omega
  first | have e2 : ((op : Int) == 17) = true := by simp; omega | have e2 : ((op : Int) == 17) = false := by simp; omega
  first | have e3 : (op : Int) ≤ 16 := by omega | have e3 : ¬ (op : Int) ≤ 16 := by omega
  first | have e4 : (op : Int) ≤ 22 := by omega | have e4 : ¬ (op : Int) ≤ 22 := by omega
  first | have e5 : ((op : Int) == 25) = true := by simp; omega | have e5 : ((op : Int) == 25) = false := by simp; omega
  first | have e6 : (op : Int) ≤ 28 := by omega | have e6 : ¬ (op : Int) ≤ 28 := by omega
  first | have e7 : (op : Int) ≤ 34 := by omega | have e7 : ¬ (op : Int) ≤ 34 := by omega
  first | have e8 : (op : Int) ≤ 38 := by omega | have e8 : ¬ (op : Int) ≤ 38 := by omega
  first | have e9 : (op : Int) ≤ 41 := by omega | have e9 : ¬ (op : Int) ≤ 41 := by omega
  first | have e10 : (op : Int) ≤ 44 := by omega | have e10 : ¬ (op : Int) ≤ 44 := by omega
  first | have e11 : (op : Int) ≤ 47 := by omega | have e11 : ¬ (op : Int) ≤ 47 := by omega
  clear H
  go_enter Tryz.func65, Tryz.ntmps65
  go_wp2_with fail
  refine (HF.out ()).mono ?_
  rintro e W2 ⟨rfl, t2, h2, k2⟩
  have HM2 : Hid _ := And.intro h2 (HM1.out.2.trans k2)
  have HK2 : Hid _ := k2
  clear h2 k2 HF
  obtain ⟨b0, b1, b2, b3, b4⟩ := HB.out W2 t2 HK2.out
  have HD : Hid _ := fun (_ : Unit) => HC.out () W2 t2 HM2.out.1 HM2.out.2
  clear HB HK2 HC
  go_wp2_with fail
  refine (HD.out ()).mono ?_
  first | rintro e W3 ⟨rfl, hQ⟩ | rintro e W3 ⟨st, rfl, hQ⟩
  have HQ : Hid _ := hQ
  clear hQ HD
  go_wp2_with fail
  go_ret
  exact ⟨_, rfl, HQ.out⟩
theorem MM.play62 (h : MM E X g s W tag) (op : Nat) (hop : 0 ≤ op ∧ op ≤ 6) (pl a b q : Int) {Q : Int → World → Prop} (H : PyH E X g s W tag 116 #[ptr X, fp g s, inV (op : Nat) pl a b q] (Py0 Q)) : Calls Tryz.prog 65 #[ptr X, inV (op : Nat) pl a b q] W (Py1 Q) := h.playD op pl a b q (.inl ⟨hop, H⟩)
theorem MM.play63 (h : MM E X g s W tag) (op : Nat) (hop : 7 ≤ op ∧ op ≤ 10) (pl a b q : Int) {Q : Int → World → Prop} (H : PyH E X g s W tag 117 #[ptr X, fp g s, .int .u8 (op : Nat)] (Py1 Q)) : Calls Tryz.prog 65 #[ptr X, inV (op : Nat) pl a b q] W (Py1 Q) := h.playD op pl a b q (.inr (.inl ⟨hop, H⟩))
theorem MM.play64 (h : MM E X g s W tag) (op : Nat) (hop : 17 ≤ op ∧ op ≤ 17) (pl a b q : Int) {Q : Int → World → Prop} (H : PyH E X g s W tag 118 #[fp g s, .int .i64 q] (Py0 Q)) : Calls Tryz.prog 65 #[ptr X, inV (op : Nat) pl a b q] W (Py1 Q) := h.playD op pl a b q (.inr (.inr (.inl ⟨hop, H⟩)))
theorem MM.play65 (h : MM E X g s W tag) (op : Nat) (hop : 11 ≤ op ∧ op ≤ 16) (pl a b q : Int) {Q : Int → World → Prop} (H : PyH E X g s W tag 119 #[ptr X, fp g s, inV (op : Nat) pl a b q] (Py1 Q)) : Calls Tryz.prog 65 #[ptr X, inV (op : Nat) pl a b q] W (Py1 Q) := h.playD op pl a b q (.inr (.inr (.inr (.inl ⟨hop, H⟩))))
theorem MM.play66 (h : MM E X g s W tag) (op : Nat) (hop : 18 ≤ op ∧ op ≤ 22) (pl a b q : Int) {Q : Int → World → Prop} (H : PyH E X g s W tag 120 #[fp g s, .int .u8 (op : Nat)] (Py1 Q)) : Calls Tryz.prog 65 #[ptr X, inV (op : Nat) pl a b q] W (Py1 Q) := h.playD op pl a b q (.inr (.inr (.inr (.inr (.inl ⟨hop, H⟩)))))
theorem MM.play67 (h : MM E X g s W tag) (op : Nat) (hop : 25 ≤ op ∧ op ≤ 25) (pl a b q : Int) {Q : Int → World → Prop} (H : PyH E X g s W tag 121 #[fp g s] (Py1 Q)) : Calls Tryz.prog 65 #[ptr X, inV (op : Nat) pl a b q] W (Py1 Q) := h.playD op pl a b q (.inr (.inr (.inr (.inr (.inr (.inl ⟨hop, H⟩))))))
theorem MM.play68 (h : MM E X g s W tag) (op : Nat) (hop : op = 23 ∨ op = 24 ∨ 26 ≤ op ∧ op ≤ 28) (pl a b q : Int) {Q : Int → World → Prop} (H : PyH E X g s W tag 122 #[fp g s, .int .u8 (op : Nat)] (Py0 Q)) : Calls Tryz.prog 65 #[ptr X, inV (op : Nat) pl a b q] W (Py1 Q) := h.playD op pl a b q (.inr (.inr (.inr (.inr (.inr (.inr (.inl ⟨hop, H⟩)))))))
theorem MM.play69 (h : MM E X g s W tag) (op : Nat) (hop : 29 ≤ op ∧ op ≤ 34) (pl a b q : Int) {Q : Int → World → Prop} (H : PyH E X g s W tag 123 #[fp g s, .int .u8 (op : Nat)] (Py0 Q)) : Calls Tryz.prog 65 #[ptr X, inV (op : Nat) pl a b q] W (Py1 Q) := h.playD op pl a b q (.inr (.inr (.inr (.inr (.inr (.inr (.inr (.inl ⟨hop, H⟩))))))))
theorem MM.play70 (h : MM E X g s W tag) (op : Nat) (hop : 35 ≤ op ∧ op ≤ 38) (pl a b q : Int) {Q : Int → World → Prop} (H : PyH E X g s W tag 124 #[ptr X, fp g s, inV (op : Nat) pl a b q] (Py1 Q)) : Calls Tryz.prog 65 #[ptr X, inV (op : Nat) pl a b q] W (Py1 Q) := h.playD op pl a b q (.inr (.inr (.inr (.inr (.inr (.inr (.inr (.inr (.inl ⟨hop, H⟩)))))))))
theorem MM.play71 (h : MM E X g s W tag) (op : Nat) (hop : 39 ≤ op ∧ op ≤ 41) (pl a b q : Int) {Q : Int → World → Prop} (H : PyH E X g s W tag 125 #[fp g s, .int .u8 (op : Nat)] (Py0 Q)) : Calls Tryz.prog 65 #[ptr X, inV (op : Nat) pl a b q] W (Py1 Q) := h.playD op pl a b q (.inr (.inr (.inr (.inr (.inr (.inr (.inr (.inr (.inr (.inl ⟨hop, H⟩))))))))))
theorem MM.play72 (h : MM E X g s W tag) (op : Nat) (hop : 42 ≤ op ∧ op ≤ 44) (pl a b q : Int) {Q : Int → World → Prop} (H : PyH E X g s W tag 126 #[ptr X, fp g s, inV (op : Nat) pl a b q] (Py1 Q)) : Calls Tryz.prog 65 #[ptr X, inV (op : Nat) pl a b q] W (Py1 Q) := h.playD op pl a b q (.inr (.inr (.inr (.inr (.inr (.inr (.inr (.inr (.inr (.inr (.inl ⟨hop, H⟩)))))))))))
theorem MM.play73 (h : MM E X g s W tag) (op : Nat) (hop : 45 ≤ op ∧ op ≤ 47) (pl a b q : Int) {Q : Int → World → Prop} (H : PyH E X g s W tag 127 #[fp g s, .int .u8 (op : Nat)] (Py0 Q)) : Calls Tryz.prog 65 #[ptr X, inV (op : Nat) pl a b q] W (Py1 Q) := h.playD op pl a b q (.inr (.inr (.inr (.inr (.inr (.inr (.inr (.inr (.inr (.inr (.inr (.inl ⟨hop, H⟩))))))))))))
theorem MM.play74 (h : MM E X g s W tag) (op : Nat) (hop : 48 ≤ op ∧ op ≤ 53) (pl a b q : Int) {Q : Int → World → Prop} (H : PyH E X g s W tag 128 #[ptr X, fp g s, inV (op : Nat) pl a b q] (Py1 Q)) : Calls Tryz.prog 65 #[ptr X, inV (op : Nat) pl a b q] W (Py1 Q) := h.playD op pl a b q (.inr (.inr (.inr (.inr (.inr (.inr (.inr (.inr (.inr (.inr (.inr (.inr (⟨hop, H⟩)))))))))))))
end
end Go.Proofs.YtmolfmgchbjnbaaGreatDoor
namespace Go.Proofs.YtmolfmgchbjnbaaGreatDoor
open Go.RowKit
open Wire Flow Mach
theorem valC {c : Cell} (hp : c.list = false → c = cv c.v) (h : le (kd c) 97) : ∃ v, c = cv v := ⟨c.v, hp (kd_val (le_any h))⟩
theorem txtC {c : Cell} (hp : c.list = false → c = cv c.v) (h : le (kd c) 116) : ∃ v, c = cv v ∧ v.kind = 2 := ⟨c.v, hp (kd_txt (le_txt h)).1, (kd_txt (le_txt h)).2⟩
theorem numC {c : Cell} (hp : c.list = false → c = cv c.v) (h : le (kd c) 110) : ∃ v, c = cv v ∧ v.kind = 1 := ⟨c.v, hp (kd_num (le_num h)).1, (kd_num (le_num h)).2⟩
theorem text2 (E : Env) {v : Val} (h : v.kind = 2) : textV E v = v.s := by simp [textV, h]
theorem num1 {v : Val} (h : v.kind = 1) : numV v = v.n := by simp [numV, h]
theorem no_top {top : List Cell} (h : leS (top.map kd) []) : top = [] := by
 cases top with
 | nil => rfl
 | cons => exact h.elim
theorem arrOk {l : List (ByteArray × Val)} (h : SmA l) : ArrOk l := ⟨h.once, fun e he => Nat.le_trans (h.each e he).1 (by decide)⟩
def EffR (E : Env) (X : Nat) (g : Pl) (s : Ms) (tag : Nat → Nat) (W : World) (rest : List Cell) (e : Eff) (st : Int) (W' : World) : Prop :=
 st = (e.st : Nat) ∧ ∃ s' t', MM E X g s' W' t' ∧ Kp tag t' W W' ∧ s'.st = s.st ∧ s'.used = s.used ∧ s'.w = e.w ∧ s'.code = (if e.st = 0 then s.code else e.code) ∧ (e.st = 0 → s'.low = s.low ∧ s'.fr = ⟨s.fr.f, e.go.getD s.fr.at_, e.locs, rest ++ e.top⟩)
section
variable {E : Env} {X : Nat} {g : Pl} {s : Ms} {W W' : World} {tag t1 : Nat → Nat}
theorem EffR.mk0 {rest : List Cell} {e : Eff} {s' : Ms} {W1 : World} {v : Value} {ee : Ending} {W' : World} (k1 : Kp tag t1 W W1) (h : MP E X g s' t1 W1 v ee W') (h0 : e.st = 0) (h1 : s'.st = s.st ∧ s'.used = s.used ∧ s'.w = e.w ∧ s'.code = s.code ∧ s'.low = s.low ∧ s'.fr = ⟨s.fr.f, e.go.getD s.fr.at_, e.locs, rest ++ e.top⟩) : EffR E X g s tag W rest e 0 W' := by
 obtain ⟨-, t', M, K⟩ := h
 refine ⟨by rw [h0]; rfl, s', t', M, k1.trans K, h1.1, h1.2.1, h1.2.2.1, ?_, fun _ => ⟨h1.2.2.2.2.1, h1.2.2.2.2.2⟩⟩
 rw [if_pos h0]
 exact h1.2.2.2.1
theorem EffR.mk1 {rest : List Cell} {e : Eff} {s' : Ms} {W1 : World} {v : Value} {ee : Ending} {W' : World} {st : Int} (k1 : Kp tag t1 W W1) (h : MP E X g s' t1 W1 v ee W') (h0 : st = (e.st : Nat)) (hne : e.st ≠ 0) (h1 : s'.st = s.st ∧ s'.used = s.used ∧ s'.w = e.w ∧ s'.code = e.code) : EffR E X g s tag W rest e st W' := by
 obtain ⟨-, t', M, K⟩ := h
 refine ⟨h0, s', t', M, k1.trans K, h1.1, h1.2.1, h1.2.2.1, ?_, fun h => absurd h hne⟩
 rw [if_neg hne]
 exact h1.2.2.2
structure Fnd (E : Env) (s : Ms) (op a : Nat) (rest top : List Cell) : Prop where
 stk : s.fr.stk = rest ++ top
 hl : s.fr.stk.length ≤ 1024
 takes : leS (top.map kd) (want (parOf E.mo) op a)
 high : rest.length + (give op (top.map kd)).length ≤ 1024
 sm : ∀ c ∈ top, SmC c
 pr : ∀ c ∈ top, c.list = false → c = cv c.v
 w : SmW s.w
 code : s.code = 0
 na : s.w.arrs.length ≤ 1000
abbrev OpG (E : Env) (X : Nat) (g : Pl) (s : Ms) (W : World) (tag : Nat → Nat) (rest top : List Cell) (op a bb : Nat) (pl x y z : Int) : Prop := Calls Tryz.prog 65 #[ptr X, inV (op : Int) pl x y z] W (fun e W' => ∃ st : Int, e = .returned (stI st) ∧ EffR E X g s tag W rest (eff E s.w s.fr.locs op a bb top) st W')
theorem op0 (hE : EnvOk E) (hS : SmE E) (h : MM E X g s W tag) {a bb : Nat} {rest top : List Cell} (H : Fnd E s 0 a rest top) (ha : a ≤ 2000000000) (pl q b : Int) :
  OpG E X g s W tag rest top 0 a bb pl (a : Nat) b q := by
 have hstk := H.stk
 have hlen := H.hl
 have hhigh := H.high
 refine MM.play62 h 0 (by omega) pl _ _ _ (fun W1 t1 h1 k1 => ?_)
 obtain rfl := no_top H.takes
 rw [List.append_nil] at hstk
 have hl1 : s.fr.stk.length < 1024 := by rw [hstk]; have : rest.length + 1 ≤ 1024 := hhigh; omega
 exact (MM.vnum h1 hl1 a ha pl b q).mono (fun e W' hp => ⟨hp.1, EffR.mk0 k1 hp rfl ⟨rfl, rfl, rfl, rfl, rfl, by show Frm.mk s.fr.f s.fr.at_ s.fr.locs (s.fr.stk ++ _) = _; rw [hstk]; rfl⟩⟩)
theorem op1 (hE : EnvOk E) (hS : SmE E) (h : MM E X g s W tag) {a bb : Nat} {rest top : List Cell} (H : Fnd E s 1 a rest top) (ha : a < E.mo.texts.length) (pl q b : Int) :
  OpG E X g s W tag rest top 1 a bb pl (a : Nat) b q := by
 have hstk := H.stk
 have hlen := H.hl
 have hhigh := H.high
 refine MM.play62 h 1 (by omega) pl _ _ _ (fun W1 t1 h1 k1 => ?_)
 obtain rfl := no_top H.takes
 rw [List.append_nil] at hstk
 have hl1 : s.fr.stk.length < 1024 := by rw [hstk]; have : rest.length + 1 ≤ 1024 := hhigh; omega
 obtain ⟨t, ht⟩ : ∃ t, E.mo.texts[a]? = some t := ⟨_, List.getElem?_eq_getElem ha⟩
 have e : E.mo.texts.getD a none0 = t := by rw [List.getD_eq_getElem?_getD, ht]; rfl
 refine (MM.vstr h1 hl1 ht pl b q).mono (fun e' W' hp => ⟨hp.1, EffR.mk0 k1 hp rfl ⟨rfl, rfl, rfl, rfl, rfl, ?_⟩⟩)
 show Frm.mk s.fr.f s.fr.at_ s.fr.locs (s.fr.stk ++ [cv (words t)]) = ⟨s.fr.f, s.fr.at_, s.fr.locs, rest ++ [cv (words (E.mo.texts.getD a none0))]⟩
 rw [hstk, e]
theorem op2 (hE : EnvOk E) (hS : SmE E) (h : MM E X g s W tag) {a bb : Nat} {rest top : List Cell} (H : Fnd E s 2 a rest top) (pl q b : Int) (q2 : Int) :
  OpG E X g s W tag rest top 2 a bb pl q2 b q := by
 have hstk := H.stk
 have hlen := H.hl
 have hhigh := H.high
 refine MM.play62 h 2 (by omega) pl _ _ _ (fun W1 t1 h1 k1 => ?_)
 obtain rfl := no_top H.takes
 rw [List.append_nil] at hstk
 have hl1 : s.fr.stk.length < 1024 := by rw [hstk]; have : rest.length + 1 ≤ 1024 := hhigh; omega
 exact (MM.vnil h1 hl1 q2 pl b q).mono (fun e W' hp => ⟨hp.1, EffR.mk0 k1 hp rfl ⟨rfl, rfl, rfl, rfl, rfl, by show Frm.mk s.fr.f s.fr.at_ s.fr.locs (s.fr.stk ++ _) = _; rw [hstk]; rfl⟩⟩)
theorem op3 (hE : EnvOk E) (hS : SmE E) (h : MM E X g s W tag) {a bb : Nat} {rest top : List Cell} (H : Fnd E s 3 a rest top) (ha : a < 16) (pl q b : Int) :
  OpG E X g s W tag rest top 3 a bb pl (a : Nat) b q := by
 have hstk := H.stk
 have hlen := H.hl
 have hhigh := H.high
 refine MM.play62 h 3 (by omega) pl _ _ _ (fun W1 t1 h1 k1 => ?_)
 obtain rfl := no_top H.takes
 rw [List.append_nil] at hstk
 have hl1 : s.fr.stk.length < 1024 := by rw [hstk]; have : rest.length + 1 ≤ 1024 := hhigh; omega
 exact (MM.vload h1 hl1 ha pl b q).mono (fun e W' hp => ⟨hp.1, EffR.mk0 k1 hp rfl ⟨rfl, rfl, rfl, rfl, rfl, by show Frm.mk s.fr.f s.fr.at_ s.fr.locs (s.fr.stk ++ _) = _; rw [hstk]; rfl⟩⟩)
theorem op4 (hE : EnvOk E) (hS : SmE E) (h : MM E X g s W tag) {a bb : Nat} {rest top : List Cell} (H : Fnd E s 4 a rest top) (ha : a < 16) (hla : a < s.fr.locs.length) (pl q b : Int) :
  OpG E X g s W tag rest top 4 a bb pl (a : Nat) b q := by
 have hstk := H.stk
 have hlen := H.hl
 have hhigh := H.high
 refine MM.play62 h 4 (by omega) pl _ _ _ (fun W1 t1 h1 k1 => ?_)
 obtain ⟨c, rfl, hc⟩ := one_top H.takes
 obtain ⟨v, rfl⟩ := valC (H.pr c (by simp)) hc
 have sv : SmV v := (H.sm (cv v) (by simp)).1
 exact (MM.vstore h1 hstk hlen ha hla pl b q).mono (fun e W' hp => ⟨hp.1, EffR.mk0 k1 hp rfl ⟨rfl, rfl, rfl, rfl, rfl, by show Frm.mk _ _ _ rest = Frm.mk _ _ _ (rest ++ []); rw [List.append_nil]; rfl⟩⟩)
theorem op5 (hE : EnvOk E) (hS : SmE E) (h : MM E X g s W tag) {a bb : Nat} {rest top : List Cell} (H : Fnd E s 5 a rest top) (ha : a < s.w.globs.length) (pl q b : Int) :
  OpG E X g s W tag rest top 5 a bb pl (a : Nat) b q := by
 have hstk := H.stk
 have hlen := H.hl
 have hhigh := H.high
 refine MM.play62 h 5 (by omega) pl _ _ _ (fun W1 t1 h1 k1 => ?_)
 obtain rfl := no_top H.takes
 rw [List.append_nil] at hstk
 have hl1 : s.fr.stk.length < 1024 := by rw [hstk]; have : rest.length + 1 ≤ 1024 := hhigh; omega
 exact (MM.vgload h1 hl1 ha pl b q).mono (fun e W' hp => ⟨hp.1, EffR.mk0 k1 hp rfl ⟨rfl, rfl, rfl, rfl, rfl, by show Frm.mk s.fr.f s.fr.at_ s.fr.locs (s.fr.stk ++ _) = _; rw [hstk]; rfl⟩⟩)
theorem op6 (hE : EnvOk E) (hS : SmE E) (h : MM E X g s W tag) {a bb : Nat} {rest top : List Cell} (H : Fnd E s 6 a rest top) (ha : a < s.w.globs.length) (pl q b : Int) :
  OpG E X g s W tag rest top 6 a bb pl (a : Nat) b q := by
 have hstk := H.stk
 have hlen := H.hl
 have hhigh := H.high
 refine MM.play62 h 6 (by omega) pl _ _ _ (fun W1 t1 h1 k1 => ?_)
 obtain ⟨c, rfl, hc⟩ := one_top H.takes
 obtain ⟨v, rfl⟩ := valC (H.pr c (by simp)) hc
 have sv : SmV v := (H.sm (cv v) (by simp)).1
 exact (MM.vgstore h1 hstk hlen ha pl b q).mono (fun e W' hp => ⟨hp.1, EffR.mk0 k1 hp rfl ⟨rfl, rfl, rfl, rfl, rfl, by show Frm.mk _ _ _ rest = Frm.mk _ _ _ (rest ++ []); rw [List.append_nil]; rfl⟩⟩)
theorem op7 (hE : EnvOk E) (hS : SmE E) (h : MM E X g s W tag) {a bb : Nat} {rest top : List Cell} (H : Fnd E s 7 a rest top) (pl q b : Int) (q2 : Int) :
    OpG E X g s W tag rest top 7 a bb pl q2 b q := by
  have hstk := H.stk
  have hlen := H.hl
  have hhigh := H.high
  refine MM.play63 h 7 (by omega) pl _ _ _ (fun W1 t1 h1 k1 => ?_)
  obtain ⟨c, rfl, hc⟩ := one_top H.takes
  obtain ⟨v, rfl, kv⟩ := numC (H.pr c (by simp)) hc
  have sv : SmV v := (H.sm (cv v) (by simp)).1
  have hnv := num1 kv
  by_cases c1 : v.n < 0
  · have he : fieldW s.w v.n = (nothing, 5) := by unfold fieldW; rw [if_pos c1]
    refine (MM.rfieldX h1 hstk hlen sv (by rw [hnv]; exact c1)).mono fun e W' hp => ⟨5, hp.1, EffR.mk1 k1 hp ?_ ?_ ⟨rfl, rfl, rfl, H.code⟩⟩
    · show (5 : Int) = ((fieldW s.w v.n).2 : Nat); rw [he]; rfl
    · show (fieldW s.w v.n).2 ≠ 0; rw [he]; decide
  · by_cases c2 : v.n = 0
    · have he : fieldW s.w v.n = (readV s.w.rcd, 0) := by unfold fieldW; rw [if_neg c1, if_pos c2]
      refine (MM.rfield0 h1 hstk hlen sv (by rw [hnv]; exact c2) (Nat.le_trans H.w.rcd (by decide))).mono fun e W' hp => ⟨0, hp.1, EffR.mk0 k1 hp ?_ ⟨rfl, rfl, rfl, rfl, rfl, ?_⟩⟩
      · show (fieldW s.w v.n).2 = 0; rw [he]
      · show Frm.mk _ _ _ (rest ++ [cv (readV s.w.rcd)]) = Frm.mk _ _ _ (rest ++ [cv (fieldW s.w v.n).1]); rw [he]; rfl
    · obtain ⟨k, hk⟩ : ∃ k : Nat, v.n = ((k + 1 : Nat) : Int) := ⟨(v.n - 1).toNat, by omega⟩
      by_cases c3 : v.n ≤ (s.w.flds.length : Int)
      · obtain ⟨u, hu⟩ : ∃ u, s.w.flds[k]? = some u := ⟨_, List.getElem?_eq_getElem (by omega)⟩
        have he : fieldW s.w v.n = (readV u, 0) := by
          unfold fieldW; rw [if_neg c1, if_neg c2, if_pos c3, List.getD_eq_getElem?_getD, show v.n.toNat - 1 = k by omega, hu]; rfl
        refine (MM.rfield1 h1 hstk hlen sv (by rw [hnv]; exact hk) hu (Nat.le_trans (H.w.flds u (List.mem_of_getElem? hu)) (by decide)) (Nat.le_trans H.w.nf (by decide))).mono fun e W' hp => ⟨0, hp.1, EffR.mk0 k1 hp ?_ ⟨rfl, rfl, rfl, rfl, rfl, ?_⟩⟩
        · show (fieldW s.w v.n).2 = 0; rw [he]
        · show Frm.mk _ _ _ (rest ++ [cv (readV u)]) = Frm.mk _ _ _ (rest ++ [cv (fieldW s.w v.n).1]); rw [he]; rfl
      · have he : fieldW s.w v.n = (nothing, 0) := by unfold fieldW; rw [if_neg c1, if_neg c2, if_neg c3]
        have := sv.hi
        refine (MM.rfield2 h1 hstk hlen sv (k := k + 1) (by rw [hnv]; exact hk) (by omega) (by omega)).mono fun e W' hp => ⟨0, hp.1, EffR.mk0 k1 hp ?_ ⟨rfl, rfl, rfl, rfl, rfl, ?_⟩⟩
        · show (fieldW s.w v.n).2 = 0; rw [he]
        · show Frm.mk _ _ _ (rest ++ [cv nothing]) = Frm.mk _ _ _ (rest ++ [cv (fieldW s.w v.n).1]); rw [he]; rfl
end
end Go.Proofs.YtmolfmgchbjnbaaGreatDoor
namespace Go.Proofs.YtmolfmgchbjnbaaGreatDoor
open Go.RowKit
open Wire Flow Mach
section
variable {E : Env} {X : Nat} {g : Pl} {s : Ms} {W W' : World} {tag t1 : Nat → Nat}
theorem op8 (hE : EnvOk E) (hS : SmE E) (h : MM E X g s W tag) {a bb : Nat} {rest top : List Cell} (H : Fnd E s 8 a rest top) (pl q b : Int) (q2 : Int) :
  OpG E X g s W tag rest top 8 a bb pl q2 b q := by
 have hstk := H.stk
 have hlen := H.hl
 have hhigh := H.high
 refine MM.play63 h 8 (by omega) pl _ _ _ (fun W1 t1 h1 k1 => ?_)
 obtain ⟨c, d, rfl, hc, hd⟩ := two_top H.takes
 obtain ⟨u, rfl, ku⟩ := numC (H.pr c (by simp)) hc
 have su : SmV u := (H.sm (cv u) (by simp)).1
 obtain ⟨v, rfl⟩ := valC (H.pr d (by simp)) hd
 have sv : SmV v := (H.sm (cv v) (by simp)).1
 have hnu := num1 ku
 have hc := MM.rsetfield hE h1 hstk hlen su sv (textV_sm hS sv) (Nat.le_trans H.w.nf (by decide)) (fun x hx => Nat.le_trans (H.w.flds x hx) (by decide))
 rw [hnu] at hc
 by_cases c0 : (setFieldW s.w u.n (textV E v)).2 = 0
 ·refine hc.mono fun e W' hp => ⟨_, hp.1, ?_⟩
  rw [show ((setFieldW s.w u.n (textV E v)).2 : Int) = 0 by rw [c0]; rfl]
  exact EffR.mk0 k1 hp c0 ⟨rfl, rfl, rfl, rfl, rfl, by show Frm.mk _ _ _ rest = Frm.mk _ _ _ (rest ++ []); rw [List.append_nil]; rfl⟩
 ·exact hc.mono fun e W' hp => ⟨_, hp.1, EffR.mk1 k1 hp rfl c0 ⟨rfl, rfl, rfl, H.code⟩⟩
theorem op9 (hE : EnvOk E) (hS : SmE E) (h : MM E X g s W tag) {a bb : Nat} {rest top : List Cell} (H : Fnd E s 9 a rest top) (pl q b : Int) (q2 : Int) :
  OpG E X g s W tag rest top 9 a bb pl q2 b q := by
 have hstk := H.stk
 have hlen := H.hl
 have hhigh := H.high
 refine MM.play63 h 9 (by omega) pl _ _ _ (fun W1 t1 h1 k1 => ?_)
 obtain rfl := no_top H.takes
 rw [List.append_nil] at hstk
 have hl1 : s.fr.stk.length < 1024 := by rw [hstk]; have : rest.length + 1 ≤ 1024 := hhigh; omega
 exact (MM.rnf h1 hl1 (Nat.le_trans H.w.nf (by decide))).mono (fun e W' hp => ⟨0, hp.1, EffR.mk0 k1 hp rfl ⟨rfl, rfl, rfl, rfl, rfl, by show Frm.mk s.fr.f s.fr.at_ s.fr.locs (s.fr.stk ++ _) = _; rw [hstk]; rfl⟩⟩)
theorem op10 (hE : EnvOk E) (hS : SmE E) (h : MM E X g s W tag) {a bb : Nat} {rest top : List Cell} (H : Fnd E s 10 a rest top) (pl q b : Int) (q2 : Int) :
  OpG E X g s W tag rest top 10 a bb pl q2 b q := by
 have hstk := H.stk
 have hlen := H.hl
 have hhigh := H.high
 refine MM.play63 h 10 (by omega) pl _ _ _ (fun W1 t1 h1 k1 => ?_)
 obtain rfl := no_top H.takes
 rw [List.append_nil] at hstk
 have hl1 : s.fr.stk.length < 1024 := by rw [hstk]; have : rest.length + 1 ≤ 1024 := hhigh; omega
 exact (MM.rnr h1 hl1).mono (fun e W' hp => ⟨0, hp.1, EffR.mk0 k1 hp rfl ⟨rfl, rfl, rfl, rfl, rfl, by show Frm.mk s.fr.f s.fr.at_ s.fr.locs (s.fr.stk ++ _) = _; rw [hstk]; rfl⟩⟩)
theorem op11 (hE : EnvOk E) (hS : SmE E) (h : MM E X g s W tag) {a bb : Nat} {rest top : List Cell} (H : Fnd E s 11 a rest top) (ha : a < s.w.arrs.length) (pl q b : Int) :
  OpG E X g s W tag rest top 11 a bb pl (a : Nat) b q := by
 have hstk := H.stk
 have hlen := H.hl
 have hhigh := H.high
 refine MM.play65 h 11 (by omega) pl _ _ _ (fun W1 t1 h1 k1 => ?_)
 obtain ⟨c, rfl, hc⟩ := one_top H.takes
 obtain ⟨v, rfl, kv⟩ := txtC (H.pr c (by simp)) hc
 have sv : SmV v := (H.sm (cv v) (by simp)).1
 have xv : (textV E v).size ≤ 100 := textV_sm hS sv
 have hA : SmA (s.w.arrs.getD a []) := arr_sm H.w.arrs a
 have hO := arrOk hA
 have hn2 : (s.w.arrs.getD a []).length ≤ 100000 := Nat.le_trans hA.len (by decide)
 have htx : textV E v = v.s := text2 E kv
 have hxx : (textV E v).size ≤ 1048576 := Nat.le_trans xv (by decide)
 cases hh : hasK (s.w.arrs.getD a []) (textV E v) with
 | true =>
  have hh' : hasK (s.w.arrs.getD a []) v.s = true := by rw [← htx]; exact hh
  have he : eff E s.w s.fr.locs 11 a bb [cv v] = .put s.w s.fr.locs (getK (s.w.arrs.getD a []) v.s) := if_pos hh'
  rw [he]
  refine (MM.agetIn hE h1 hstk hlen sv hxx ha hO H.na hn2 hh pl b q).mono fun e W' hp => ⟨0, hp.1, EffR.mk0 k1 hp rfl ⟨rfl, rfl, rfl, rfl, rfl, ?_⟩⟩
  show Frm.mk _ _ _ (rest ++ [cv (getK (s.w.arrs.getD a []) (textV E v))]) = _
  rw [htx]
  rfl
 | false =>
  have hh' : ¬ hasK (s.w.arrs.getD a []) v.s = true := by rw [← htx, hh]; decide
  by_cases c : 30 ≤ (s.w.arrs.getD a []).length
  ·have he : eff E s.w s.fr.locs 11 a bb [cv v] = .bad s.w s.fr.locs 7 := (if_neg hh').trans (if_pos c)
   rw [he]
   exact (MM.agetFull hE h1 hstk hlen sv hxx ha hO H.na hh c hn2 pl b q).mono fun e W' hp => ⟨7, hp.1, EffR.mk1 k1 hp rfl (show (7 : Nat) ≠ 0 by decide) ⟨rfl, rfl, rfl, H.code⟩⟩
  ·have he : eff E s.w s.fr.locs 11 a bb [cv v] = .put { s.w with arrs := s.w.arrs.set a (setK (s.w.arrs.getD a []) v.s nothing) } s.fr.locs nothing := (if_neg hh').trans (if_neg c)
   rw [he]
   refine (MM.agetNew hE h1 hstk hlen sv hxx ha hO H.na hh (by omega) pl b q).mono fun e W' hp => ⟨0, hp.1, EffR.mk0 k1 hp rfl ⟨rfl, rfl, ?_, rfl, rfl, rfl⟩⟩
   show Wd.mk _ _ _ _ _ _ _ _ (s.w.arrs.set a (setK (s.w.arrs.getD a []) (textV E v) nothing)) = _
   rw [htx]
   rfl
theorem op12 (hE : EnvOk E) (hS : SmE E) (h : MM E X g s W tag) {a bb : Nat} {rest top : List Cell} (H : Fnd E s 12 a rest top) (ha : a < s.w.arrs.length) (pl q b : Int) :
    OpG E X g s W tag rest top 12 a bb pl (a : Nat) b q := by
  have hstk := H.stk
  have hlen := H.hl
  have hhigh := H.high
  refine MM.play65 h 12 (by omega) pl _ _ _ (fun W1 t1 h1 k1 => ?_)
  obtain ⟨c, d, rfl, hc, hd⟩ := two_top H.takes
  obtain ⟨u, rfl, ku⟩ := txtC (H.pr c (by simp)) hc
  have su : SmV u := (H.sm (cv u) (by simp)).1
  have xu : (textV E u).size ≤ 100 := textV_sm hS su
  obtain ⟨v, rfl⟩ := valC (H.pr d (by simp)) hd
  have sv : SmV v := (H.sm (cv v) (by simp)).1
  have hA : SmA (s.w.arrs.getD a []) := arr_sm H.w.arrs a
  have hO := arrOk hA
  have hn2 : (s.w.arrs.getD a []).length ≤ 100000 := Nat.le_trans hA.len (by decide)
  have htx : textV E u = u.s := text2 E ku
  have hxx : (textV E u).size ≤ 1048576 := Nat.le_trans xu (by decide)
  by_cases c : hasK (s.w.arrs.getD a []) (textV E u) = false ∧ 30 ≤ (s.w.arrs.getD a []).length
  · have c' : hasK (s.w.arrs.getD a []) u.s = false ∧ 30 ≤ (s.w.arrs.getD a []).length := by rw [← htx]; exact c
    have he : eff E s.w s.fr.locs 12 a bb [cv u, cv v] = .bad s.w s.fr.locs 7 := if_pos c'
    rw [he]
    exact (MM.asetFull hE h1 hstk hlen su hxx ha hO H.na c.1 c.2 hn2 pl b q).mono fun e W' hp => ⟨7, hp.1, EffR.mk1 k1 hp rfl (show (7 : Nat) ≠ 0 by decide) ⟨rfl, rfl, rfl, H.code⟩⟩
  · have c' : ¬ (hasK (s.w.arrs.getD a []) u.s = false ∧ 30 ≤ (s.w.arrs.getD a []).length) := by rw [← htx]; exact c
    have he : eff E s.w s.fr.locs 12 a bb [cv u, cv v] = .off { s.w with arrs := s.w.arrs.set a (setK (s.w.arrs.getD a []) u.s v) } s.fr.locs 0 := if_neg c'
    rw [he]
    refine (MM.aset hE h1 hstk hlen su hxx ha hO H.na ?_ hn2 pl b q).mono fun e W' hp => ⟨0, hp.1, EffR.mk0 k1 hp rfl ⟨rfl, rfl, ?_, rfl, rfl, ?_⟩⟩
    · rcases hh : hasK (s.w.arrs.getD a []) (textV E u) with _ | _
      · right
        apply Nat.lt_of_not_le
        intro h30
        exact c ⟨hh, h30⟩
      · exact .inl rfl
    · show Wd.mk _ _ _ _ _ _ _ _ (s.w.arrs.set a (setK (s.w.arrs.getD a []) (textV E u) v)) = _
      rw [htx]
      rfl
    · show Frm.mk _ _ _ rest = Frm.mk _ _ _ (rest ++ [])
      rw [List.append_nil]
      rfl
theorem op13 (hE : EnvOk E) (hS : SmE E) (h : MM E X g s W tag) {a bb : Nat} {rest top : List Cell} (H : Fnd E s 13 a rest top) (ha : a < s.w.arrs.length) (pl q b : Int) :
  OpG E X g s W tag rest top 13 a bb pl (a : Nat) b q := by
 have hstk := H.stk
 have hlen := H.hl
 have hhigh := H.high
 refine MM.play65 h 13 (by omega) pl _ _ _ (fun W1 t1 h1 k1 => ?_)
 obtain ⟨c, rfl, hc⟩ := one_top H.takes
 obtain ⟨v, rfl, kv⟩ := txtC (H.pr c (by simp)) hc
 have sv : SmV v := (H.sm (cv v) (by simp)).1
 have xv : (textV E v).size ≤ 100 := textV_sm hS sv
 have hA : SmA (s.w.arrs.getD a []) := arr_sm H.w.arrs a
 have hO := arrOk hA
 have hn2 : (s.w.arrs.getD a []).length ≤ 100000 := Nat.le_trans hA.len (by decide)
 have htx : textV E v = v.s := text2 E kv
 have hxx : (textV E v).size ≤ 1048576 := Nat.le_trans xv (by decide)
 refine (MM.ain hE h1 hstk hlen sv hxx ha hO H.na pl b q).mono fun e W' hp => ⟨0, hp.1, EffR.mk0 k1 hp rfl ⟨rfl, rfl, rfl, rfl, rfl, ?_⟩⟩
 show Frm.mk _ _ _ (rest ++ [cv (whole (truth (hasK (s.w.arrs.getD a []) (textV E v))))]) = _
 rw [htx]
 rfl
theorem op14 (hE : EnvOk E) (hS : SmE E) (h : MM E X g s W tag) {a bb : Nat} {rest top : List Cell} (H : Fnd E s 14 a rest top) (ha : a < s.w.arrs.length) (pl q b : Int) :
  OpG E X g s W tag rest top 14 a bb pl (a : Nat) b q := by
 have hstk := H.stk
 have hlen := H.hl
 have hhigh := H.high
 refine MM.play65 h 14 (by omega) pl _ _ _ (fun W1 t1 h1 k1 => ?_)
 obtain ⟨c, rfl, hc⟩ := one_top H.takes
 obtain ⟨v, rfl, kv⟩ := txtC (H.pr c (by simp)) hc
 have sv : SmV v := (H.sm (cv v) (by simp)).1
 have xv : (textV E v).size ≤ 100 := textV_sm hS sv
 have hA : SmA (s.w.arrs.getD a []) := arr_sm H.w.arrs a
 have hO := arrOk hA
 have hn2 : (s.w.arrs.getD a []).length ≤ 100000 := Nat.le_trans hA.len (by decide)
 have htx : textV E v = v.s := text2 E kv
 have hxx : (textV E v).size ≤ 1048576 := Nat.le_trans xv (by decide)
 refine (MM.adel hE h1 hstk hlen sv hxx ha hO H.na hn2 pl b q).mono fun e W' hp => ⟨0, hp.1, EffR.mk0 k1 hp rfl ⟨rfl, rfl, ?_, rfl, rfl, ?_⟩⟩
 ·show Wd.mk _ _ _ _ _ _ _ _ (s.w.arrs.set a (dropK (s.w.arrs.getD a []) (textV E v))) = _
  rw [htx]
  rfl
 ·show Frm.mk _ _ _ rest = Frm.mk _ _ _ (rest ++ [])
  rw [List.append_nil]
  rfl
theorem op15 (hE : EnvOk E) (hS : SmE E) (h : MM E X g s W tag) {a bb : Nat} {rest top : List Cell} (H : Fnd E s 15 a rest top) (ha : a < s.w.arrs.length) (pl q b : Int) :
  OpG E X g s W tag rest top 15 a bb pl (a : Nat) b q := by
 have hstk := H.stk
 have hlen := H.hl
 have hhigh := H.high
 refine MM.play65 h 15 (by omega) pl _ _ _ (fun W1 t1 h1 k1 => ?_)
 obtain rfl := no_top H.takes
 rw [List.append_nil] at hstk
 refine (MM.aclear h1 ha H.na pl b q).mono fun e W' hp => ⟨0, hp.1, EffR.mk0 k1 hp rfl ⟨rfl, rfl, rfl, rfl, rfl, ?_⟩⟩
 show Frm.mk s.fr.f s.fr.at_ s.fr.locs s.fr.stk = Frm.mk _ _ _ (rest ++ [])
 rw [hstk, List.append_nil]
 rfl
theorem op16 (hE : EnvOk E) (hS : SmE E) (h : MM E X g s W tag) {a bb : Nat} {rest top : List Cell} (H : Fnd E s 16 a rest top) (ha : a < s.w.arrs.length) (pl q b : Int) :
  OpG E X g s W tag rest top 16 a bb pl (a : Nat) b q := by
 have hstk := H.stk
 have hlen := H.hl
 have hhigh := H.high
 refine MM.play65 h 16 (by omega) pl _ _ _ (fun W1 t1 h1 k1 => ?_)
 obtain rfl := no_top H.takes
 rw [List.append_nil] at hstk
 have hl1 : s.fr.stk.length < 1024 := by rw [hstk]; have : rest.length + 1 ≤ 1024 := hhigh; omega
 have hA : SmA (s.w.arrs.getD a []) := arr_sm H.w.arrs a
 have hO := arrOk hA
 have hn2 : (s.w.arrs.getD a []).length ≤ 100000 := Nat.le_trans hA.len (by decide)
 exact (MM.keysOp h1 hl1 ha H.na hn2 pl b q).mono (fun e W' hp => ⟨0, hp.1, EffR.mk0 k1 hp rfl ⟨rfl, rfl, rfl, rfl, rfl, by show Frm.mk s.fr.f s.fr.at_ s.fr.locs (s.fr.stk ++ _) = _; rw [hstk]; rfl⟩⟩)
theorem op17 (hE : EnvOk E) (hS : SmE E) (h : MM E X g s W tag) {a bb t : Nat} {rest top : List Cell} (H : Fnd E s 17 a rest top) (ht : ∀ L, Reads E.mo s.fr.f (locsOf E.mo s.fr.f) (codeOf E.mo s.fr.f) L → PlcAt E.mo s.fr.f L t a) (pl b q : Int) :
  OpG E X g s W tag rest top 17 a bb pl q b (t : Nat) := by
 have hstk := H.stk
 have hlen := H.hl
 have hhigh := H.high
 obtain ⟨c, rfl, hc⟩ := one_top H.takes
 have hcl := kd_keys (le_keys hc)
 obtain ⟨li, v, ar, ks⟩ := c
 have hcl' : li = true := hcl
 subst hcl'
 have hO : ArrOk (s.w.arrs.getD ar []) := arrOk (arr_sm H.w.arrs ar)
 have hK : ∀ k ∈ ks, k.size ≤ 1048576 := fun k hk => Nat.le_trans ((H.sm ⟨true, v, ar, ks⟩ (by simp)).2 k hk) (by decide)
 refine MM.play64 h 17 (by omega) pl _ _ _ (fun W1 t1 h1 k1 => ?_)
 cases hn : nextK (s.w.arrs.getD ar []) ks with
 | none =>
  have he : eff E s.w s.fr.locs 17 a bb [⟨true, v, ar, ks⟩] = ⟨s.w, s.fr.locs, [], 0, 0, some a⟩ := by
   show (match nextK (s.w.arrs.getD ar []) ks with | none => _ | some (k, l) => _) = _
   rw [hn]
  rw [he]
  refine (MM.eachNone h1 hstk hlen hO hK hn ht).mono fun e W' hp => ⟨hp.1, EffR.mk0 k1 hp rfl ⟨rfl, rfl, rfl, rfl, rfl, ?_⟩⟩
  show Frm.mk _ _ _ rest = Frm.mk _ _ _ (rest ++ [])
  rw [List.append_nil]
  rfl
 | some kl =>
  obtain ⟨k, l⟩ := kl
  have he : eff E s.w s.fr.locs 17 a bb [⟨true, v, ar, ks⟩] = ⟨s.w, s.fr.locs, [⟨true, v, ar, l⟩, cv (words k)], 0, 0, none⟩ := by
   show (match nextK (s.w.arrs.getD ar []) ks with | none => _ | some (k, l) => _) = _
   rw [hn]
   rfl
  rw [he]
  have hl1 : s.fr.stk.length < 1024 := by rw [hstk, List.length_append]; have : rest.length + 2 ≤ 1024 := hhigh; simp; omega
  exact (MM.eachSome h1 hstk hl1 hO hK hn _).mono fun e W' hp => ⟨hp.1, EffR.mk0 k1 hp rfl ⟨rfl, rfl, rfl, rfl, rfl, rfl⟩⟩
end
end Go.Proofs.YtmolfmgchbjnbaaGreatDoor
