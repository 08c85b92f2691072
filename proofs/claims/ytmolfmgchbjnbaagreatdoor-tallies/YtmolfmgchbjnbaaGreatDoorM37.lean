import Derived.Test.YtmolfmgchbjnbaaGreatDoorM36
set_option linter.unusedSimpArgs false
set_option linter.unusedVariables false
namespace Go.Proofs.YtmolfmgchbjnbaaGreatDoor
open Go.RowKit
open Wire Flow Mach
section
variable {E : Env} {X : Nat} {g : Pl} {s : Ms} {W W' : World} {tag t1 : Nat → Nat}
theorem op18 (hE : EnvOk E) (hS : SmE E) (h : MM E X g s W tag) {op a bb : Nat} (ho : op = 18 ∨ op = 19 ∨ op = 20 ∨ op = 21 ∨ op = 22) {rest top : List Cell} (H : Fnd E s op a rest top) (pl q b : Int) (q2 : Int) :
  OpG E X g s W tag rest top op a bb pl q2 b q := by
 have hstk := H.stk
 have hlen := H.hl
 refine MM.play66 h op (by omega) pl _ _ _ (fun W1 t1 h1 k1 => ?_)
 have hw : leS (top.map kd) [110, 110] := by
  have := H.takes
  rcases ho with rfl | rfl | rfl | rfl | rfl <;> exact this
 obtain ⟨c, d, rfl, hc, hd⟩ := two_top hw
 obtain ⟨u, rfl, ku⟩ := numC (H.pr c (by simp)) hc
 have su : SmV u := (H.sm (cv u) (by simp)).1
 obtain ⟨v, rfl, kv⟩ := numC (H.pr d (by simp)) hd
 have sv : SmV v := (H.sm (cv v) (by simp)).1
 have hc := MM.numbers hE h1 (op := op) (by omega) hstk hlen su sv
 rw [num1 ku, num1 kv] at hc
 by_cases c0 : (sumOp E op u.n v.n).2 = 0
 ·rw [if_pos c0] at hc
  refine hc.mono fun e W' hp => ⟨_, hp.1, ?_⟩
  rw [show ((sumOp E op u.n v.n).2 : Int) = 0 by rw [c0]; rfl]
  rcases ho with rfl | rfl | rfl | rfl | rfl <;> exact EffR.mk0 k1 hp c0 ⟨rfl, rfl, rfl, rfl, rfl, rfl⟩
 ·rcases ho with rfl | rfl | rfl | rfl | rfl <;> exact hc.mono fun e W' hp => ⟨_, hp.1, EffR.mk1 k1 hp rfl c0 ⟨rfl, rfl, rfl, H.code⟩⟩
theorem op23 (hE : EnvOk E) (hS : SmE E) (h : MM E X g s W tag) {a bb : Nat} {rest top : List Cell} (H : Fnd E s 23 a rest top) (pl q b : Int) (q2 : Int) :
  OpG E X g s W tag rest top 23 a bb pl q2 b q := by
 have hstk := H.stk
 have hlen := H.hl
 have hhigh := H.high
 refine MM.play68 h 23 (by omega) pl _ _ _ (fun W1 t1 h1 k1 => ?_)
 obtain ⟨c, rfl, hc⟩ := one_top H.takes
 obtain ⟨v, rfl, kv⟩ := numC (H.pr c (by simp)) hc
 have sv : SmV v := (H.sm (cv v) (by simp)).1
 have := sv.lo
 have := sv.hi
 have e0 : oneV E 23 v = whole (E.wr (-v.n)) := by unfold oneV; rw [if_pos rfl, num1 kv, hE.wr _ (by omega) (by omega)]
 have hc := MM.one hE h1 (op := 23) (by omega) hstk hlen sv
 rw [e0] at hc
 exact hc.mono fun e W' hp => ⟨hp.1, EffR.mk0 k1 hp rfl ⟨rfl, rfl, rfl, rfl, rfl, rfl⟩⟩
theorem op24 (hE : EnvOk E) (hS : SmE E) (h : MM E X g s W tag) {a bb : Nat} {rest top : List Cell} (H : Fnd E s 24 a rest top) (pl q b : Int) (q2 : Int) :
  OpG E X g s W tag rest top 24 a bb pl q2 b q := by
 have hstk := H.stk
 have hlen := H.hl
 have hhigh := H.high
 refine MM.play68 h 24 (by omega) pl _ _ _ (fun W1 t1 h1 k1 => ?_)
 obtain ⟨c, rfl, hc⟩ := one_top H.takes
 obtain ⟨v, rfl, kv⟩ := numC (H.pr c (by simp)) hc
 have sv : SmV v := (H.sm (cv v) (by simp)).1
 have e0 : oneV E 24 v = whole (truth (decide (v.n = 0))) := by unfold oneV; rw [if_neg (by decide), if_pos rfl, num1 kv]; rfl
 have hc := MM.one hE h1 (op := 24) (by omega) hstk hlen sv
 rw [e0] at hc
 exact hc.mono fun e W' hp => ⟨hp.1, EffR.mk0 k1 hp rfl ⟨rfl, rfl, rfl, rfl, rfl, rfl⟩⟩
theorem op26 (hE : EnvOk E) (hS : SmE E) (h : MM E X g s W tag) {a bb : Nat} {rest top : List Cell} (H : Fnd E s 26 a rest top) (pl q b : Int) (q2 : Int) :
  OpG E X g s W tag rest top 26 a bb pl q2 b q := by
 have hstk := H.stk
 have hlen := H.hl
 have hhigh := H.high
 refine MM.play68 h 26 (by omega) pl _ _ _ (fun W1 t1 h1 k1 => ?_)
 obtain ⟨c, rfl, hc⟩ := one_top H.takes
 obtain ⟨v, rfl⟩ := valC (H.pr c (by simp)) hc
 have sv : SmV v := (H.sm (cv v) (by simp)).1
 have e0 : oneV E 26 v = whole (numV v) := rfl
 have hc := MM.one hE h1 (op := 26) (by omega) hstk hlen sv
 rw [e0] at hc
 exact hc.mono fun e W' hp => ⟨hp.1, EffR.mk0 k1 hp rfl ⟨rfl, rfl, rfl, rfl, rfl, rfl⟩⟩
theorem op27 (hE : EnvOk E) (hS : SmE E) (h : MM E X g s W tag) {a bb : Nat} {rest top : List Cell} (H : Fnd E s 27 a rest top) (pl q b : Int) (q2 : Int) :
  OpG E X g s W tag rest top 27 a bb pl q2 b q := by
 have hstk := H.stk
 have hlen := H.hl
 have hhigh := H.high
 refine MM.play68 h 27 (by omega) pl _ _ _ (fun W1 t1 h1 k1 => ?_)
 obtain ⟨c, rfl, hc⟩ := one_top H.takes
 obtain ⟨v, rfl⟩ := valC (H.pr c (by simp)) hc
 have sv : SmV v := (H.sm (cv v) (by simp)).1
 have e0 : oneV E 27 v = words (textV E v) := rfl
 have hc := MM.one hE h1 (op := 27) (by omega) hstk hlen sv
 rw [e0] at hc
 exact hc.mono fun e W' hp => ⟨hp.1, EffR.mk0 k1 hp rfl ⟨rfl, rfl, rfl, rfl, rfl, rfl⟩⟩
theorem op28 (hE : EnvOk E) (hS : SmE E) (h : MM E X g s W tag) {a bb : Nat} {rest top : List Cell} (H : Fnd E s 28 a rest top) (pl q b : Int) (q2 : Int) :
  OpG E X g s W tag rest top 28 a bb pl q2 b q := by
 have hstk := H.stk
 have hlen := H.hl
 have hhigh := H.high
 refine MM.play68 h 28 (by omega) pl _ _ _ (fun W1 t1 h1 k1 => ?_)
 obtain ⟨c, rfl, hc⟩ := one_top H.takes
 obtain ⟨v, rfl⟩ := valC (H.pr c (by simp)) hc
 have sv : SmV v := (H.sm (cv v) (by simp)).1
 have e0 : oneV E 28 v = whole (truth (holdsV v)) := rfl
 have hc := MM.one hE h1 (op := 28) (by omega) hstk hlen sv
 rw [e0] at hc
 exact hc.mono fun e W' hp => ⟨hp.1, EffR.mk0 k1 hp rfl ⟨rfl, rfl, rfl, rfl, rfl, rfl⟩⟩
theorem op25 (hE : EnvOk E) (hS : SmE E) (h : MM E X g s W tag) {a bb : Nat} {rest top : List Cell} (H : Fnd E s 25 a rest top) (pl q b : Int) (q2 : Int) :
  OpG E X g s W tag rest top 25 a bb pl q2 b q := by
 have hstk := H.stk
 have hlen := H.hl
 have hhigh := H.high
 refine MM.play67 h 25 (by omega) pl _ _ _ (fun W1 t1 h1 k1 => ?_)
 obtain ⟨c, d, rfl, hc, hd⟩ := two_top H.takes
 obtain ⟨u, rfl, ku⟩ := txtC (H.pr c (by simp)) hc
 have su : SmV u := (H.sm (cv u) (by simp)).1
 have xu : (textV E u).size ≤ 100 := textV_sm hS su
 obtain ⟨v, rfl, kv⟩ := txtC (H.pr d (by simp)) hd
 have sv : SmV v := (H.sm (cv v) (by simp)).1
 have xv : (textV E v).size ≤ 100 := textV_sm hS sv
 have hc := MM.cat hE h1 hstk hlen su sv xu xv
 rw [text2 E ku, text2 E kv] at hc
 by_cases c : u.s.size + v.s.size > 100
 ·have he : eff E s.w s.fr.locs 25 a bb [cv u, cv v] = .bad s.w s.fr.locs 6 := if_pos c
  rw [he]
  rw [if_pos c, if_pos c] at hc
  exact hc.mono fun e W' hp => ⟨6, hp.1, EffR.mk1 k1 hp rfl (show (6 : Nat) ≠ 0 by decide) ⟨rfl, rfl, rfl, H.code⟩⟩
 ·have he : eff E s.w s.fr.locs 25 a bb [cv u, cv v] = .put s.w s.fr.locs (words (u.s ++ v.s)) := if_neg c
  rw [he]
  rw [if_neg c, if_neg c] at hc
  exact hc.mono fun e W' hp => ⟨0, hp.1, EffR.mk0 k1 hp rfl ⟨rfl, rfl, rfl, rfl, rfl, rfl⟩⟩
theorem op29 (hE : EnvOk E) (hS : SmE E) (h : MM E X g s W tag) {op a bb : Nat} (ho : op = 29 ∨ op = 30 ∨ op = 31 ∨ op = 32 ∨ op = 33 ∨ op = 34) {rest top : List Cell} (H : Fnd E s op a rest top) (pl q b : Int) (q2 : Int) :
  OpG E X g s W tag rest top op a bb pl q2 b q := by
 have hstk := H.stk
 have hlen := H.hl
 refine MM.play69 h op (by omega) pl _ _ _ (fun W1 t1 h1 k1 => ?_)
 have hw : leS (top.map kd) [97, 97] := by
  have := H.takes
  rcases ho with rfl | rfl | rfl | rfl | rfl | rfl <;> exact this
 obtain ⟨c, d, rfl, hc, hd⟩ := two_top hw
 obtain ⟨u, rfl⟩ := valC (H.pr c (by simp)) hc
 have su : SmV u := (H.sm (cv u) (by simp)).1
 obtain ⟨v, rfl⟩ := valC (H.pr d (by simp)) hd
 have sv : SmV v := (H.sm (cv v) (by simp)).1
 have hc := MM.compare hE h1 (op := op) (by omega) hstk hlen su sv
 rcases ho with rfl | rfl | rfl | rfl | rfl | rfl <;> exact hc.mono fun e W' hp => ⟨hp.1, EffR.mk0 k1 hp rfl ⟨rfl, rfl, rfl, rfl, rfl, rfl⟩⟩
theorem op39 (hE : EnvOk E) (hS : SmE E) (h : MM E X g s W tag) {a bb : Nat} {rest top : List Cell} (H : Fnd E s 39 a rest top) (pl q b : Int) (q2 : Int) :
  OpG E X g s W tag rest top 39 a bb pl q2 b q := by
 have hstk := H.stk
 have hlen := H.hl
 have hhigh := H.high
 refine MM.play71 h 39 (by omega) pl _ _ _ (fun W1 t1 h1 k1 => ?_)
 obtain ⟨c, rfl, hc⟩ := one_top H.takes
 obtain ⟨v, rfl, kv⟩ := txtC (H.pr c (by simp)) hc
 have sv : SmV v := (H.sm (cv v) (by simp)).1
 have xv : (textV E v).size ≤ 100 := textV_sm hS sv
 have hc := MM.len hE h1 hstk hlen sv
 rw [text2 E kv] at hc
 exact hc.mono fun e W' hp => ⟨hp.1, EffR.mk0 k1 hp rfl ⟨rfl, rfl, rfl, rfl, rfl, rfl⟩⟩
theorem op40 (hE : EnvOk E) (hS : SmE E) (h : MM E X g s W tag) {a bb : Nat} {rest top : List Cell} (H : Fnd E s 40 a rest top) (pl q b : Int) (q2 : Int) :
  OpG E X g s W tag rest top 40 a bb pl q2 b q := by
 have hstk := H.stk
 have hlen := H.hl
 have hhigh := H.high
 refine MM.play71 h 40 (by omega) pl _ _ _ (fun W1 t1 h1 k1 => ?_)
 obtain ⟨c, d, f, rfl, hc, hd, hf⟩ := three_top H.takes
 obtain ⟨t, rfl, kt⟩ := txtC (H.pr c (by simp)) hc
 have st : SmV t := (H.sm (cv t) (by simp)).1
 have xt : (textV E t).size ≤ 100 := textV_sm hS st
 obtain ⟨u, rfl, ku⟩ := numC (H.pr d (by simp)) hd
 have su : SmV u := (H.sm (cv u) (by simp)).1
 obtain ⟨v, rfl, kv⟩ := numC (H.pr f (by simp)) hf
 have sv : SmV v := (H.sm (cv v) (by simp)).1
 have hc := MM.part hE h1 hstk hlen st su sv xt
 have := su.lo
 have := su.hi
 have := sv.lo
 have := sv.hi
 rw [text2 E kt, num1 ku, num1 kv, ← hE.wr (u.n + v.n) (by omega) (by omega)] at hc
 exact hc.mono fun e W' hp => ⟨hp.1, EffR.mk0 k1 hp rfl ⟨rfl, rfl, rfl, rfl, rfl, rfl⟩⟩
theorem op41 (hE : EnvOk E) (hS : SmE E) (h : MM E X g s W tag) {a bb : Nat} {rest top : List Cell} (H : Fnd E s 41 a rest top) (pl q b : Int) (q2 : Int) :
  OpG E X g s W tag rest top 41 a bb pl q2 b q := by
 have hstk := H.stk
 have hlen := H.hl
 have hhigh := H.high
 refine MM.play71 h 41 (by omega) pl _ _ _ (fun W1 t1 h1 k1 => ?_)
 obtain ⟨c, d, rfl, hc, hd⟩ := two_top H.takes
 obtain ⟨u, rfl, ku⟩ := txtC (H.pr c (by simp)) hc
 have su : SmV u := (H.sm (cv u) (by simp)).1
 have xu : (textV E u).size ≤ 100 := textV_sm hS su
 obtain ⟨v, rfl, kv⟩ := txtC (H.pr d (by simp)) hd
 have sv : SmV v := (H.sm (cv v) (by simp)).1
 have xv : (textV E v).size ≤ 100 := textV_sm hS sv
 have hc := MM.index hE h1 hstk hlen su sv xu
 rw [text2 E ku, text2 E kv] at hc
 exact hc.mono fun e W' hp => ⟨hp.1, EffR.mk0 k1 hp rfl ⟨rfl, rfl, rfl, rfl, rfl, rfl⟩⟩
theorem op45 (hE : EnvOk E) (hS : SmE E) (h : MM E X g s W tag) {a bb : Nat} {rest top : List Cell} (H : Fnd E s 45 a rest top) (pl q b : Int) (q2 : Int) :
  OpG E X g s W tag rest top 45 a bb pl q2 b q := by
 have hstk := H.stk
 have hlen := H.hl
 have hhigh := H.high
 refine MM.play73 h 45 (by omega) pl _ _ _ (fun W1 t1 h1 k1 => ?_)
 obtain ⟨c, rfl, hc⟩ := one_top H.takes
 obtain ⟨v, rfl⟩ := valC (H.pr c (by simp)) hc
 have sv : SmV v := (H.sm (cv v) (by simp)).1
 have hl1 : s.fr.stk.length < 1024 := by rw [hstk, List.length_append]; have : rest.length + 2 ≤ 1024 := hhigh; simp; omega
 exact (MM.dup h1 hstk hl1).mono fun e W' hp => ⟨hp.1, EffR.mk0 k1 hp rfl ⟨rfl, rfl, rfl, rfl, rfl, rfl⟩⟩
theorem op46 (hE : EnvOk E) (hS : SmE E) (h : MM E X g s W tag) {a bb : Nat} {rest top : List Cell} (H : Fnd E s 46 a rest top) (pl q b : Int) (q2 : Int) :
  OpG E X g s W tag rest top 46 a bb pl q2 b q := by
 have hstk := H.stk
 have hlen := H.hl
 have hhigh := H.high
 refine MM.play73 h 46 (by omega) pl _ _ _ (fun W1 t1 h1 k1 => ?_)
 obtain ⟨c, d, rfl, hc, hd⟩ := two_top H.takes
 obtain ⟨u, rfl⟩ := valC (H.pr c (by simp)) hc
 have su : SmV u := (H.sm (cv u) (by simp)).1
 obtain ⟨v, rfl⟩ := valC (H.pr d (by simp)) hd
 have sv : SmV v := (H.sm (cv v) (by simp)).1
 have hl1 : s.fr.stk.length < 1024 := by rw [hstk, List.length_append]; have : rest.length + 3 ≤ 1024 := hhigh; simp; omega
 exact (MM.under h1 hstk hl1).mono fun e W' hp => ⟨hp.1, EffR.mk0 k1 hp rfl ⟨rfl, rfl, rfl, rfl, rfl, rfl⟩⟩
theorem op47 (hE : EnvOk E) (hS : SmE E) (h : MM E X g s W tag) {a bb : Nat} {rest top : List Cell} (H : Fnd E s 47 a rest top) (pl q b : Int) (q2 : Int) :
  OpG E X g s W tag rest top 47 a bb pl q2 b q := by
 have hstk := H.stk
 have hlen := H.hl
 have hhigh := H.high
 refine MM.play73 h 47 (by omega) pl _ _ _ (fun W1 t1 h1 k1 => ?_)
 obtain ⟨c, rfl, hc⟩ := one_top H.takes
 refine (MM.drop h1 hstk hlen).mono fun e W' hp => ⟨hp.1, EffR.mk0 k1 hp rfl ⟨rfl, rfl, rfl, rfl, rfl, ?_⟩⟩
 show Frm.mk _ _ _ rest = Frm.mk _ _ _ (rest ++ [])
 rw [List.append_nil]
 rfl
end
end Go.Proofs.YtmolfmgchbjnbaaGreatDoor
namespace Go.Proofs.YtmolfmgchbjnbaaGreatDoor
open Go.RowKit
open Wire Flow Mach
section
variable {E : Env} {X : Nat} {g : Pl} {s : Ms} {W W' : World} {tag t1 : Nat → Nat}
theorem op35 (hE : EnvOk E) (hS : SmE E) (h : MM E X g s W tag) {a bb : Nat} {rest top : List Cell} (H : Fnd E s 35 a rest top) (ha : a < E.mo.pats.length) (pl q b : Int) :
  OpG E X g s W tag rest top 35 a bb pl (a : Nat) b q := by
 have hstk := H.stk
 have hlen := H.hl
 have hhigh := H.high
 refine MM.play70 h 35 (by omega) pl _ _ _ (fun W1 t1 h1 k1 => ?_)
 obtain ⟨c, rfl, hc⟩ := one_top H.takes
 obtain ⟨v, rfl, kv⟩ := txtC (H.pr c (by simp)) hc
 have sv : SmV v := (H.sm (cv v) (by simp)).1
 have xv : (textV E v).size ≤ 100 := textV_sm hS sv
 obtain ⟨t, ht⟩ : ∃ t, E.mo.pats[a]? = some t := ⟨_, List.getElem?_eq_getElem ha⟩
 have et : E.mo.pats.getD a none0 = t := by rw [List.getD_eq_getElem?_getD, ht]; rfl
 have hf := hS.fnd t v.s sv.sz
 have hc := MM.pfind hE h1 hstk hlen sv xv ht (by rw [text2 E kv]; omega) pl b q
 rw [text2 E kv, ← et] at hc
 exact hc.mono fun e W' hp => ⟨0, hp.1, EffR.mk0 k1 hp rfl ⟨rfl, rfl, rfl, rfl, rfl, rfl⟩⟩
theorem op36 (hE : EnvOk E) (hS : SmE E) (h : MM E X g s W tag) {a bb : Nat} {rest top : List Cell} (H : Fnd E s 36 a rest top) (ha : a < E.mo.pats.length) (pl q b : Int) :
  OpG E X g s W tag rest top 36 a bb pl (a : Nat) b q := by
 have hstk := H.stk
 have hlen := H.hl
 have hhigh := H.high
 refine MM.play70 h 36 (by omega) pl _ _ _ (fun W1 t1 h1 k1 => ?_)
 obtain ⟨c, rfl, hc⟩ := one_top H.takes
 obtain ⟨v, rfl, kv⟩ := txtC (H.pr c (by simp)) hc
 have sv : SmV v := (H.sm (cv v) (by simp)).1
 have xv : (textV E v).size ≤ 100 := textV_sm hS sv
 obtain ⟨t, ht⟩ : ∃ t, E.mo.pats[a]? = some t := ⟨_, List.getElem?_eq_getElem ha⟩
 have et : E.mo.pats.getD a none0 = t := by rw [List.getD_eq_getElem?_getD, ht]; rfl
 have hc := MM.pspan hE h1 hstk hlen sv xv ht pl b q
 rw [text2 E kv, ← et] at hc
 exact hc.mono fun e W' hp => ⟨0, hp.1, EffR.mk0 k1 hp rfl ⟨rfl, rfl, rfl, rfl, rfl, rfl⟩⟩
theorem op37 (hE : EnvOk E) (hS : SmE E) (h : MM E X g s W tag) {a bb : Nat} {rest top : List Cell} (H : Fnd E s 37 a rest top) (ha : a < E.mo.pats.length) (pl q b : Int) :
  OpG E X g s W tag rest top 37 a bb pl (a : Nat) b q := by
 have hstk := H.stk
 have hlen := H.hl
 have hhigh := H.high
 refine MM.play70 h 37 (by omega) pl _ _ _ (fun W1 t1 h1 k1 => ?_)
 obtain ⟨c, d, rfl, hc, hd⟩ := two_top H.takes
 obtain ⟨u, rfl, ku⟩ := txtC (H.pr c (by simp)) hc
 have su : SmV u := (H.sm (cv u) (by simp)).1
 have xu : (textV E u).size ≤ 100 := textV_sm hS su
 obtain ⟨v, rfl, kv⟩ := txtC (H.pr d (by simp)) hd
 have sv : SmV v := (H.sm (cv v) (by simp)).1
 have xv : (textV E v).size ≤ 100 := textV_sm hS sv
 obtain ⟨t, ht⟩ : ∃ t, E.mo.pats[a]? = some t := ⟨_, List.getElem?_eq_getElem ha⟩
 have et : E.mo.pats.getD a none0 = t := by rw [List.getD_eq_getElem?_getD, ht]; rfl
 have hc := MM.pswap hE h1 hstk hlen su sv xu xv ht pl b q
 rw [text2 E ku, text2 E kv, ← et] at hc
 by_cases c : (E.swp (E.mo.pats.getD a none0) u.s v.s).size > 100
 ·have he : eff E s.w s.fr.locs 37 a bb [cv u, cv v] = .bad s.w s.fr.locs 6 := if_pos c
  rw [he]
  rw [if_pos c, if_pos c] at hc
  exact hc.mono fun e W' hp => ⟨6, hp.1, EffR.mk1 k1 hp rfl (show (6 : Nat) ≠ 0 by decide) ⟨rfl, rfl, rfl, H.code⟩⟩
 ·have he : eff E s.w s.fr.locs 37 a bb [cv u, cv v] = .put s.w s.fr.locs (words (E.swp (E.mo.pats.getD a none0) u.s v.s)) := if_neg c
  rw [he]
  rw [if_neg c, if_neg c] at hc
  exact hc.mono fun e W' hp => ⟨0, hp.1, EffR.mk0 k1 hp rfl ⟨rfl, rfl, rfl, rfl, rfl, rfl⟩⟩
theorem op38 (hE : EnvOk E) (hS : SmE E) (h : MM E X g s W tag) {a bb : Nat} {rest top : List Cell} (H : Fnd E s 38 a rest top) (ha : a < s.w.arrs.length) (hb : bb < E.mo.pats.length) (hbig : ∀ p x : ByteArray, x.size ≤ 100 → (E.spl p x).length ≤ 1000000) (pl q : Int) :
  OpG E X g s W tag rest top 38 a bb pl (a : Nat) (bb : Nat) q := by
 have hstk := H.stk
 have hlen := H.hl
 have hhigh := H.high
 refine MM.play70 h 38 (by omega) pl _ _ _ (fun W1 t1 h1 k1 => ?_)
 obtain ⟨c, rfl, hc⟩ := one_top H.takes
 obtain ⟨v, rfl, kv⟩ := txtC (H.pr c (by simp)) hc
 have sv : SmV v := (H.sm (cv v) (by simp)).1
 have xv : (textV E v).size ≤ 100 := textV_sm hS sv
 obtain ⟨t, ht⟩ : ∃ t, E.mo.pats[bb]? = some t := ⟨_, List.getElem?_eq_getElem hb⟩
 have et : E.mo.pats.getD bb none0 = t := by rw [List.getD_eq_getElem?_getD, ht]; rfl
 have hc := MM.psplit hE hS h1 hstk hlen sv xv ht ha H.na (hbig _ _ xv) pl q
 rw [text2 E kv, ← et] at hc
 by_cases c : (E.spl (E.mo.pats.getD bb none0) v.s).length > 30
 ·have he : eff E s.w s.fr.locs 38 a bb [cv v] = .bad s.w s.fr.locs 7 := if_pos c
  rw [he]
  rw [if_pos c, if_pos c] at hc
  exact hc.mono fun e W' hp => ⟨7, hp.1, EffR.mk1 k1 hp rfl (show (7 : Nat) ≠ 0 by decide) ⟨rfl, rfl, rfl, H.code⟩⟩
 ·have he : eff E s.w s.fr.locs 38 a bb [cv v] = .put { s.w with arrs := s.w.arrs.set a (fillA E 0 (E.spl (E.mo.pats.getD bb none0) v.s)) } s.fr.locs (whole ((E.spl (E.mo.pats.getD bb none0) v.s).length : Int)) := if_neg c
  rw [he]
  rw [if_neg c, if_neg c] at hc
  exact hc.mono fun e W' hp => ⟨0, hp.1, EffR.mk0 k1 hp rfl ⟨rfl, rfl, rfl, rfl, rfl, rfl⟩⟩
theorem op42 (hE : EnvOk E) (hS : SmE E) (h : MM E X g s W tag) {a bb : Nat} {rest top : List Cell} (H : Fnd E s 42 a rest top) (pl q b : Int) (q2 : Int) :
  OpG E X g s W tag rest top 42 a bb pl q2 b q := by
 have hstk := H.stk
 have hlen := H.hl
 have hhigh := H.high
 refine MM.play72 h 42 (by omega) pl _ _ _ (fun W1 t1 h1 k1 => ?_)
 obtain rfl := no_top H.takes
 rw [List.append_nil] at hstk
 have hl1 : s.fr.stk.length < 1024 := by rw [hstk]; have : rest.length + 1 ≤ 1024 := hhigh; omega
 exact (MM.igetline h1 hl1 (fun t ht => Nat.le_trans (H.w.recs t (List.mem_of_getElem? ht)) (by decide)) (Nat.le_trans H.w.nrec (by decide)) pl q2 b q).mono (fun e W' hp => ⟨0, hp.1, EffR.mk0 k1 hp rfl ⟨rfl, rfl, rfl, rfl, rfl, by show Frm.mk s.fr.f s.fr.at_ s.fr.locs (s.fr.stk ++ _) = _; rw [hstk]; rfl⟩⟩)
theorem op43 (hE : EnvOk E) (hS : SmE E) (h : MM E X g s W tag) {a bb : Nat} {rest top : List Cell} (H : Fnd E s 43 a rest top) (pl q b : Int) (q2 : Int) :
  OpG E X g s W tag rest top 43 a bb pl q2 b q := by
 have hstk := H.stk
 have hlen := H.hl
 have hhigh := H.high
 refine MM.play72 h 43 (by omega) pl _ _ _ (fun W1 t1 h1 k1 => ?_)
 obtain rfl := no_top H.takes
 rw [List.append_nil] at hstk
 have hl1 : s.fr.stk.length < 1024 := by rw [hstk]; have : rest.length + 1 ≤ 1024 := hhigh; omega
 cases hd : s.w.draws[s.w.drawn]? with
 | none =>
  have he : eff E s.w s.fr.locs 43 a bb [] = .put s.w s.fr.locs (whole 0) := by
   show (match s.w.draws[s.w.drawn]? with | none => _ | some n => _) = _
   rw [hd]
  rw [he]
  exact (MM.idraw0 h1 hl1 hd pl q2 b q).mono (fun e W' hp => ⟨0, hp.1, EffR.mk0 k1 hp rfl ⟨rfl, rfl, rfl, rfl, rfl, by show Frm.mk s.fr.f s.fr.at_ s.fr.locs (s.fr.stk ++ _) = _; rw [hstk]; rfl⟩⟩)
 | some n =>
  have he : eff E s.w s.fr.locs 43 a bb [] = .put { s.w with drawn := s.w.drawn + 1 } s.fr.locs (whole n) := by
   show (match s.w.draws[s.w.drawn]? with | none => _ | some n => _) = _
   rw [hd]
  rw [he]
  exact (MM.idraw1 h1 hl1 hd pl q2 b q).mono (fun e W' hp => ⟨0, hp.1, EffR.mk0 k1 hp rfl ⟨rfl, rfl, rfl, rfl, rfl, by show Frm.mk s.fr.f s.fr.at_ s.fr.locs (s.fr.stk ++ _) = _; rw [hstk]; rfl⟩⟩)
theorem txts_top {top : List Cell} {n : Nat} (h : leS (top.map kd) (List.replicate n 116)) (hp : ∀ c ∈ top, c.list = false → c = cv c.v) : ∃ vs : List Val, top = vs.map cv ∧ vs.length = n ∧ ∀ v ∈ vs, v.kind = 2 := by
 induction top generalizing n with
 | nil =>
  cases n with
  | zero => exact ⟨[], rfl, rfl, by simp⟩
  | succ n => exact h.elim
 | cons c top ih =>
  cases n with
  | zero => exact h.elim
  | succ n =>
   have h' : le (kd c) 116 ∧ leS (top.map kd) (List.replicate n 116) := h
   obtain ⟨v, rfl, hv⟩ := txtC (hp c (by simp)) h'.1
   obtain ⟨vs, rfl, hl, hk⟩ := ih h'.2 fun c hc => hp c (by simp [hc])
   exact ⟨v :: vs, rfl, by simp [hl], fun u hu => by
    rcases List.mem_cons.1 hu with rfl | hu
    ·exact hv
    ·exact hk u hu⟩
theorem op44 (hE : EnvOk E) (hS : SmE E) (h : MM E X g s W tag) {a bb : Nat} {rest top : List Cell} (H : Fnd E s 44 a rest top) (pl q b : Int) :
  OpG E X g s W tag rest top 44 a bb pl (a : Nat) b q := by
 have hstk := H.stk
 have hlen := H.hl
 have htk : leS (top.map kd) (List.replicate a 116) := H.takes
 obtain ⟨vs, rfl, hvl, hvk⟩ := txts_top htk H.pr
 have hsm : ∀ v ∈ vs, SmV v := fun v hv => (H.sm (cv v) (List.mem_map.2 ⟨v, hv, rfl⟩)).1
 refine MM.play72 h 44 (by omega) pl _ _ _ (fun W1 t1 h1 k1 => ?_)
 have hc := MM.iprint hE h1 hstk hlen hsm (fun x hx => by
  obtain ⟨v, hv, rfl⟩ := List.mem_map.1 hx
  exact Nat.le_trans (textV_sm hS (hsm v hv)) (by decide)) H.w.out pl b q
 rw [hvl] at hc
 have et : vs.map (textV E) = (vs.map cv).map fun c => c.v.s := by
  rw [List.map_map]
  refine List.map_congr_left fun v hv => ?_
  exact text2 E (hvk v hv)
 rw [et] at hc
 by_cases c0 : (printW s.w ((vs.map cv).map fun c => c.v.s)).2 = 0
 ·refine hc.mono fun e W' hp => ⟨_, hp.1, ?_⟩
  rw [show ((printW s.w ((vs.map cv).map fun c => c.v.s)).2 : Int) = 0 by rw [c0]; rfl]
  refine EffR.mk0 k1 hp c0 ⟨rfl, rfl, rfl, rfl, rfl, ?_⟩
  show Frm.mk _ _ _ rest = Frm.mk _ _ _ (rest ++ [])
  rw [List.append_nil]
  rfl
 ·exact hc.mono fun e W' hp => ⟨_, hp.1, EffR.mk1 k1 hp rfl c0 ⟨rfl, rfl, rfl, H.code⟩⟩
theorem op48 (hE : EnvOk E) (hS : SmE E) (h : MM E X g s W tag) {a bb t : Nat} {rest top : List Cell} (H : Fnd E s 48 a rest top) (ht : ∀ L, Reads E.mo s.fr.f (locsOf E.mo s.fr.f) (codeOf E.mo s.fr.f) L → PlcAt E.mo s.fr.f L t a) (pl b q : Int) :
  OpG E X g s W tag rest top 48 a bb pl q b (t : Nat) := by
 have hstk := H.stk
 obtain rfl := no_top H.takes
 rw [List.append_nil] at hstk
 refine MM.play74 h 48 (by omega) pl _ _ _ (fun W1 t1 h1 k1 => ?_)
 refine (MM.jump h1 ht pl q b).mono fun e W' hp => ⟨0, hp.1, EffR.mk0 k1 hp rfl ⟨rfl, rfl, rfl, rfl, rfl, ?_⟩⟩
 show Frm.mk s.fr.f a s.fr.locs s.fr.stk = Frm.mk _ _ _ (rest ++ [])
 rw [hstk, List.append_nil]
 rfl
theorem op49 (hE : EnvOk E) (hS : SmE E) (h : MM E X g s W tag) {a bb t : Nat} {rest top : List Cell} (H : Fnd E s 49 a rest top) (ht : ∀ L, Reads E.mo s.fr.f (locsOf E.mo s.fr.f) (codeOf E.mo s.fr.f) L → PlcAt E.mo s.fr.f L t a) (pl b q : Int) :
  OpG E X g s W tag rest top 49 a bb pl q b (t : Nat) := by
 have hstk := H.stk
 obtain ⟨c, rfl, hc⟩ := one_top H.takes
 obtain ⟨v, rfl, kv⟩ := numC (H.pr c (by simp)) hc
 have sv : SmV v := (H.sm (cv v) (by simp)).1
 refine MM.play74 h 49 (by omega) pl _ _ _ (fun W1 t1 h1 k1 => ?_)
 have hc := MM.jz h1 hstk H.hl sv ht pl q b
 rw [num1 kv] at hc
 by_cases c0 : v.n = 0
 ·have he : eff E s.w s.fr.locs 49 a bb [cv v] = ⟨s.w, s.fr.locs, [], 0, 0, some a⟩ := by
   show Eff.mk _ _ _ _ _ (if v.n = 0 then _ else _) = _
   rw [if_pos c0]
  rw [he]
  rw [if_pos c0] at hc
  refine hc.mono fun e W' hp => ⟨0, hp.1, EffR.mk0 k1 hp rfl ⟨rfl, rfl, rfl, rfl, rfl, ?_⟩⟩
  show Frm.mk _ _ _ rest = Frm.mk _ _ _ (rest ++ [])
  rw [List.append_nil]
  rfl
 ·have he : eff E s.w s.fr.locs 49 a bb [cv v] = ⟨s.w, s.fr.locs, [], 0, 0, none⟩ := by
   show Eff.mk _ _ _ _ _ (if v.n = 0 then _ else _) = _
   rw [if_neg c0]
  rw [he]
  rw [if_neg c0] at hc
  refine hc.mono fun e W' hp => ⟨0, hp.1, EffR.mk0 k1 hp rfl ⟨rfl, rfl, rfl, rfl, rfl, ?_⟩⟩
  show Frm.mk _ _ _ rest = Frm.mk _ _ _ (rest ++ [])
  rw [List.append_nil]
  rfl
theorem op53 (hE : EnvOk E) (hS : SmE E) (h : MM E X g s W tag) {a bb : Nat} {rest top : List Cell} (H : Fnd E s 53 a rest top) (pl b q t : Int) :
  OpG E X g s W tag rest top 53 a bb pl q b t := by
 have hstk := H.stk
 obtain ⟨c, rfl, hc⟩ := one_top H.takes
 obtain ⟨v, rfl, kv⟩ := numC (H.pr c (by simp)) hc
 have sv : SmV v := (H.sm (cv v) (by simp)).1
 refine MM.play74 h 53 (by omega) pl _ _ _ (fun W1 t1 h1 k1 => ?_)
 have hc := MM.exit h1 hstk H.hl sv pl q b t
 rw [num1 kv] at hc
 exact hc.mono fun e W' hp => ⟨2, hp.1, EffR.mk1 k1 hp rfl (show (2 : Nat) ≠ 0 by decide) ⟨rfl, rfl, rfl, rfl⟩⟩
end
end Go.Proofs.YtmolfmgchbjnbaaGreatDoor
namespace Go.Proofs.YtmolfmgchbjnbaaGreatDoor
open Go.RowKit
open Wire Flow Mach
theorem operand_b {m : Mo} {f locs : Nat} {c : List UInt8} {i : Nat} {s : Stp} (h : decodeL m f locs c i = .inr s) (h38 : s.op = 38) : fitN m locs 6 s.b = true := by
 unfold decodeL at h
 split at h
 ·split at h
  ·rename_i h0
   simp only [Sum.inr.injEq] at h
   subst h
   simp only at h38
   rw [h38] at h0
   exact absurd h0 (by decide)
  ·split at h
   ·cases h
   ·split at h
    ·split at h
     ·cases h
     ·rename_i hop
      obtain ⟨-, -, hf⟩ := operandL_next hop
      simp only [Sum.inr.injEq] at h
      subst h
      exact hf
    ·rename_i hne
     simp only [Sum.inr.injEq] at h
     subst h
     exact absurd h38 hne
 ·cases h
structure Lim (E : Env) : Prop where
 texts : E.mo.texts.length ≤ 2000000000
 globs : E.mo.globs.toNat ≤ 2000000000
 pats : E.mo.pats.length ≤ 2000000000
 arrs : E.mo.arrs.toNat ≤ 1000
 locs : ∀ f, f < E.mo.fns.length → locsOf E.mo f ≤ 16
 spl : ∀ p x : ByteArray, x.size ≤ 100 → (E.spl p x).length ≤ 1000000
structure Opd (E : Env) (s : Ms) (i : Stp) (t : Nat) : Prop where
 fit : ∀ sort, sortsT.getD i.op 0 = sort → sort ≠ 0 → fitN E.mo (locsOf E.mo s.fr.f) sort i.a = true
 fitb : i.op = 38 → fitN E.mo (locsOf E.mo s.fr.f) 6 i.b = true
 go : far i.op = true → ∀ L, Reads E.mo s.fr.f (locsOf E.mo s.fr.f) (codeOf E.mo s.fr.f) L → PlcAt E.mo s.fr.f L t i.a
 locs : s.fr.locs.length = locsOf E.mo s.fr.f
 l16 : locsOf E.mo s.fr.f ≤ 16
 arrs : s.w.arrs.length = E.mo.arrs.toNat
 globs : s.w.globs.length = E.mo.globs.toNat
section
variable {E : Env} {X : Nat} {g : Pl} {s : Ms} {W W' : World} {tag t1 : Nat → Nat}
theorem play_eff (hE : EnvOk E) (hS : SmE E) (hL : Lim E) (h : MM E X g s W tag) {i : Stp} {t : Nat} {rest top : List Cell} (H : Fnd E s i.op i.a rest top) (O : Opd E s i t) (hop : i.op < 54) (h50 : i.op ≠ 50) (h51 : i.op ≠ 51) (h52 : i.op ≠ 52) :
  Calls Tryz.prog 65 #[ptr X, inV (i.op : Nat) (i.pl : Nat) (min i.a 2000000000 : Nat) (min i.b 2000000000 : Nat) (t : Nat)] W (fun e W' => ∃ st : Int, e = .returned (stI st) ∧ EffR E X g s tag W rest (eff E s.w s.fr.locs i.op i.a i.b top) st W') := by
 obtain ⟨pl, nx, op, a, b⟩ := i
 simp only at *
 match op, hop with
 | 0, _ =>
  have hf := fitN_iff (O.fit 1 rfl (by decide))
  simp [Flow.low, above] at hf
  rw [show min a 2000000000 = a by omega]
  exact op0 hE hS h H (by omega) _ _ _
 | 1, _ =>
  have hf := fitN_iff (O.fit 2 rfl (by decide))
  simp [Flow.low, above] at hf
  have := hL.texts
  rw [show min a 2000000000 = a by omega]
  exact op1 hE hS h H hf _ _ _
 | 2, _ =>
  exact op2 hE hS h H _ _ _ _
 | 3, _ =>
  have hf := fitN_iff (O.fit 3 rfl (by decide))
  simp [Flow.low, above] at hf
  have := O.l16
  rw [show min a 2000000000 = a by omega]
  exact op3 hE hS h H (by omega) _ _ _
 | 4, _ =>
  have hf := fitN_iff (O.fit 3 rfl (by decide))
  simp [Flow.low, above] at hf
  have := O.l16
  have := O.locs
  rw [show min a 2000000000 = a by omega]
  exact op4 hE hS h H (by omega) (by omega) _ _ _
 | 5, _ =>
  have hf := fitN_iff (O.fit 4 rfl (by decide))
  simp [Flow.low, above] at hf
  have := hL.globs
  have := O.globs
  rw [show min a 2000000000 = a by omega]
  exact op5 hE hS h H (by omega) _ _ _
 | 6, _ =>
  have hf := fitN_iff (O.fit 4 rfl (by decide))
  simp [Flow.low, above] at hf
  have := hL.globs
  have := O.globs
  rw [show min a 2000000000 = a by omega]
  exact op6 hE hS h H (by omega) _ _ _
 | 7, _ =>
  exact op7 hE hS h H _ _ _ _
 | 8, _ =>
  exact op8 hE hS h H _ _ _ _
 | 9, _ =>
  exact op9 hE hS h H _ _ _ _
 | 10, _ =>
  exact op10 hE hS h H _ _ _ _
 | 11, _ =>
  have hf := fitN_iff (O.fit 5 rfl (by decide))
  simp [Flow.low, above] at hf
  have := hL.arrs
  have := O.arrs
  rw [show min a 2000000000 = a by omega]
  exact op11 hE hS h H (by omega) _ _ _
 | 12, _ =>
  have hf := fitN_iff (O.fit 5 rfl (by decide))
  simp [Flow.low, above] at hf
  have := hL.arrs
  have := O.arrs
  rw [show min a 2000000000 = a by omega]
  exact op12 hE hS h H (by omega) _ _ _
 | 13, _ =>
  have hf := fitN_iff (O.fit 5 rfl (by decide))
  simp [Flow.low, above] at hf
  have := hL.arrs
  have := O.arrs
  rw [show min a 2000000000 = a by omega]
  exact op13 hE hS h H (by omega) _ _ _
 | 14, _ =>
  have hf := fitN_iff (O.fit 5 rfl (by decide))
  simp [Flow.low, above] at hf
  have := hL.arrs
  have := O.arrs
  rw [show min a 2000000000 = a by omega]
  exact op14 hE hS h H (by omega) _ _ _
 | 15, _ =>
  have hf := fitN_iff (O.fit 5 rfl (by decide))
  simp [Flow.low, above] at hf
  have := hL.arrs
  have := O.arrs
  rw [show min a 2000000000 = a by omega]
  exact op15 hE hS h H (by omega) _ _ _
 | 16, _ =>
  have hf := fitN_iff (O.fit 5 rfl (by decide))
  simp [Flow.low, above] at hf
  have := hL.arrs
  have := O.arrs
  rw [show min a 2000000000 = a by omega]
  exact op16 hE hS h H (by omega) _ _ _
 | 17, _ =>
  exact op17 hE hS h H (O.go rfl) _ _ _
 | 18, _ =>
  exact op18 hE hS h (by decide) H _ _ _ _
 | 19, _ =>
  exact op18 hE hS h (by decide) H _ _ _ _
 | 20, _ =>
  exact op18 hE hS h (by decide) H _ _ _ _
 | 21, _ =>
  exact op18 hE hS h (by decide) H _ _ _ _
 | 22, _ =>
  exact op18 hE hS h (by decide) H _ _ _ _
 | 23, _ =>
  exact op23 hE hS h H _ _ _ _
 | 24, _ =>
  exact op24 hE hS h H _ _ _ _
 | 25, _ =>
  exact op25 hE hS h H _ _ _ _
 | 26, _ =>
  exact op26 hE hS h H _ _ _ _
 | 27, _ =>
  exact op27 hE hS h H _ _ _ _
 | 28, _ =>
  exact op28 hE hS h H _ _ _ _
 | 29, _ =>
  exact op29 hE hS h (by decide) H _ _ _ _
 | 30, _ =>
  exact op29 hE hS h (by decide) H _ _ _ _
 | 31, _ =>
  exact op29 hE hS h (by decide) H _ _ _ _
 | 32, _ =>
  exact op29 hE hS h (by decide) H _ _ _ _
 | 33, _ =>
  exact op29 hE hS h (by decide) H _ _ _ _
 | 34, _ =>
  exact op29 hE hS h (by decide) H _ _ _ _
 | 35, _ =>
  have hf := fitN_iff (O.fit 6 rfl (by decide))
  simp [Flow.low, above] at hf
  have := hL.pats
  rw [show min a 2000000000 = a by omega]
  exact op35 hE hS h H (by omega) _ _ _
 | 36, _ =>
  have hf := fitN_iff (O.fit 6 rfl (by decide))
  simp [Flow.low, above] at hf
  have := hL.pats
  rw [show min a 2000000000 = a by omega]
  exact op36 hE hS h H (by omega) _ _ _
 | 37, _ =>
  have hf := fitN_iff (O.fit 6 rfl (by decide))
  simp [Flow.low, above] at hf
  have := hL.pats
  rw [show min a 2000000000 = a by omega]
  exact op37 hE hS h H (by omega) _ _ _
 | 38, _ =>
  have hf := fitN_iff (O.fit 5 rfl (by decide))
  simp [Flow.low, above] at hf
  have hfb := fitN_iff (O.fitb rfl)
  simp [Flow.low, above] at hfb
  have := hL.arrs
  have := O.arrs
  have := hL.pats
  rw [show min a 2000000000 = a by omega, show min b 2000000000 = b by omega]
  exact op38 hE hS h H (by omega) hfb hL.spl _ _
 | 39, _ =>
  exact op39 hE hS h H _ _ _ _
 | 40, _ =>
  exact op40 hE hS h H _ _ _ _
 | 41, _ =>
  exact op41 hE hS h H _ _ _ _
 | 42, _ =>
  exact op42 hE hS h H _ _ _ _
 | 43, _ =>
  exact op43 hE hS h H _ _ _ _
 | 44, _ =>
  have hf := fitN_iff (O.fit 8 rfl (by decide))
  simp [Flow.low, above] at hf
  rw [show min a 2000000000 = a by omega]
  exact op44 hE hS h H _ _ _
 | 45, _ =>
  exact op45 hE hS h H _ _ _ _
 | 46, _ =>
  exact op46 hE hS h H _ _ _ _
 | 47, _ =>
  exact op47 hE hS h H _ _ _ _
 | 48, _ =>
  exact op48 hE hS h H (O.go rfl) _ _ _
 | 49, _ =>
  exact op49 hE hS h H (O.go rfl) _ _ _
 | 50, _ => exact absurd rfl h50
 | 51, _ => exact absurd rfl h51
 | 52, _ => exact absurd rfl h52
 | 53, _ =>
  exact op53 hE hS h H _ _ _ _
 | n + 54, h => exact absurd h (by omega)
end
end Go.Proofs.YtmolfmgchbjnbaaGreatDoor
namespace Go.Proofs.YtmolfmgchbjnbaaGreatDoor
open Go.RowKit
open Wire Flow Mach
def Pr (frs : List Frm) : Prop := ∀ g ∈ frs, ∀ c ∈ g.stk, c.list = false → c = cv c.v
theorem vals_top {top : List Cell} {n : Nat} (h : leS (top.map kd) (List.replicate n 97)) (hp : ∀ c ∈ top, c.list = false → c = cv c.v) : ∃ vs : List Val, top = vs.map cv ∧ vs.length = n := by
 induction top generalizing n with
 | nil =>
  cases n with
  | zero => exact ⟨[], rfl, rfl⟩
  | succ n => exact h.elim
 | cons c top ih =>
  cases n with
  | zero => exact h.elim
  | succ n =>
   have h' : le (kd c) 97 ∧ leS (top.map kd) (List.replicate n 97) := h
   obtain ⟨v, rfl⟩ := valC (hp c (by simp)) h'.1
   obtain ⟨vs, rfl, hl⟩ := ih h'.2 fun c hc => hp c (by simp [hc])
   exact ⟨v :: vs, rfl, by simp [hl]⟩
def PlP (E : Env) (X : Nat) (g : Pl) (s : Ms) (tag : Nat → Nat) (W : World) (D : St) (st : Int) (W' : World) : Prop :=
 st = (D.st : Nat) ∧ ∃ g' s' t', MM E X g' s' W' t' ∧ Kp tag t' W W' ∧ g'.en = g.en ∧ s'.st = s.st ∧ s'.w = D.w ∧ s'.code = D.code ∧ s'.used = D.used ∧ (D.st = 0 → s'.low ++ [s'.fr] = D.frs)
def fetched (S : St) (low : List Frm) (fr : Frm) (i : Stp) : Ms := ⟨S.w, low, ⟨fr.f, i.nx, fr.locs, fr.stk⟩, S.st, S.code, S.used + 1⟩
section
variable {E : Env} {X : Nat} {g : Pl} {W W' : World} {tag t1 : Nat → Nat} {S : St} {low : List Frm} {fr : Frm} {i : Stp} {rest top : List Cell} {t : Nat}
theorem found (hL : Lim E) (hG : Mach.Good E S) (hP : Pr S.frs) (hst : S.st = 0) (hcode : S.code = 0) (hR : Ready E S low fr i rest top) : Fnd E (fetched S low fr i) i.op i.a rest top := by
 obtain ⟨hI, hF, -⟩ := hG.inv hst
 have hfr : fr ∈ S.frs := by rw [hR.frs]; simp
 have hon := hI.on fr (by rw [hR.frs]; simp)
 have htop : ∀ c ∈ top, c ∈ fr.stk := fun c hc => by rw [hR.stk]; simp [hc]
 exact ⟨hR.stk, hon.2, hR.takes, hR.high, fun c hc => (hF fr hfr).2 c (htop c hc), fun c hc => hP fr hfr c (htop c hc), hG.w, hcode, by show S.w.arrs.length ≤ 1000; rw [hG.arrs]; exact hL.arrs⟩
theorem operands (hL : Lim E) (hG : Mach.Good E S) (hst : S.st = 0) (hR : Ready E S low fr i rest top) (ht : far i.op = true → ∀ L, Reads E.mo fr.f (locsOf E.mo fr.f) (codeOf E.mo fr.f) L → PlcAt E.mo fr.f L t i.a) : Opd E (fetched S low fr i) i t := by
 obtain ⟨hI, hF, -⟩ := hG.inv hst
 have hfr : fr ∈ S.frs := by rw [hR.frs]; simp
 obtain ⟨h1, h2⟩ := hI.fns fr hfr
 exact ⟨operand_call hR.dec, operand_b hR.dec, ht, h2, hL.locs _ h1, hG.arrs, hG.globs⟩
theorem play_does (hE : EnvOk E) (hS : SmE E) (hL : Lim E) (hM : ModOk E.mo) (hG : Mach.Good E S) (hP : Pr S.frs) (hst : S.st = 0) (hcode : S.code = 0) (hR : Ready E S low fr i rest top) (h : MM E X g (fetched S low fr i) W tag) (ht : far i.op = true → ∀ L, Reads E.mo fr.f (locsOf E.mo fr.f) (codeOf E.mo fr.f) L → PlcAt E.mo fr.f L t i.a) (h52 : i.op ≠ 52) :
  Calls Tryz.prog 65 #[ptr X, inV (i.op : Nat) (i.pl : Nat) (min i.a 2000000000 : Nat) (min i.b 2000000000 : Nat) (t : Nat)] W (fun e W' => ∃ st : Int, e = .returned (stI st) ∧ PlP E X g (fetched S low fr i) tag W (does E S low fr i rest top) st W') := by
 have H := found hL hG hP hst hcode hR
 have O := operands (t := t) hL hG hst hR ht
 obtain ⟨hI, hF, hlen21⟩ := hG.inv hst
 have hop := (decodeL_next hR.at_ hR.dec).2.2.2.2
 have hop54 : i.op < 54 := by
  unfold mayOp at hop
  simp at hop
  exact hop.1.1
 by_cases h50 : i.op = 50
 ·obtain ⟨ha3, haf⟩ := hR.call h50
  have hD : does E S low fr i rest top = if 20 < low.length + 1 then { S with st := 9, used := S.used + 1 } else { S with used := S.used + 1, frs := low ++ [⟨fr.f, i.nx, fr.locs, rest⟩, enter E.mo i.a (top.map Cell.v)] } := by
   unfold does
   rw [if_pos h50]
  rw [h50]
  by_cases c : 20 < low.length + 1
  ·rw [if_pos c] at hD
   rw [hD]
   refine MM.play74 h 50 (by omega) _ _ _ _ (fun W1 t1 h1 k1 => ?_)
   refine (MM.fcallDeep h1 (show 20 ≤ low.length by omega) _ _ _ _).mono fun e W' hp => ⟨9, hp.1, ?_⟩
   obtain ⟨-, t', M, K⟩ := hp
   exact ⟨rfl, g, _, t', M, k1.trans K, rfl, rfl, rfl, rfl, rfl, fun h => by cases h⟩
  ·rw [if_neg c] at hD
   rw [hD]
   have htk := H.takes
   rw [h50] at htk
   have htk' : leS (top.map kd) (List.replicate (parOf E.mo i.a) 97) := htk
   obtain ⟨vs, rfl, hvl⟩ := vals_top htk' H.pr
   obtain ⟨gf, fc, -, hfn, -⟩ := h.fnAt haf
   have hp16 : vs.length ≤ 16 := by
    have := hM.par i.a haf
    have := hL.locs i.a haf
    omega
   rw [show min i.a 2000000000 = i.a by omega]
   refine MM.play74 h 50 (by omega) _ _ _ _ (fun W1 t1 h1 k1 => ?_)
   refine (MM.fcall h1 (show low.length < 20 by omega) haf H.stk H.hl hvl.symm hp16 _ _ _).mono fun e W' ⟨he, vb, t', M, K⟩ => ⟨0, he, by show (0 : Int) = (S.st : Nat); rw [hst]; rfl, _, _, t', M, k1.trans K, rfl, rfl, rfl, rfl, rfl, fun _ => ?_⟩
   show (low ++ [Frm.mk fr.f i.nx fr.locs rest]) ++ [enter E.mo i.a vs] = low ++ [Frm.mk fr.f i.nx fr.locs rest, enter E.mo i.a ((vs.map cv).map Cell.v)]
   have : (vs.map cv).map Cell.v = vs := by
    rw [List.map_map]
    exact (List.map_congr_left fun v _ => rfl).trans (List.map_id vs)
   rw [this]
   simp
 ·by_cases h51 : i.op = 51
  ·have hlow : low ≠ [] := by
    intro e
    have h1 := hI.kinds low.length fr (by rw [hR.frs]; simp)
    rw [e] at h1
    have h3 : fr.f < 3 := h1.1 rfl
    unfold mayOp at hop
    rw [h51] at hop
    simp at hop
    omega
   obtain ⟨lo, f, hlo⟩ : ∃ lo f, low = lo ++ [f] := by
    rcases List.eq_nil_or_concat low with h0 | ⟨lo, f, h0⟩
    ·exact absurd h0 hlow
    ·exact ⟨lo, f, by simpa using h0⟩
   have htk := H.takes
   rw [h51] at htk
   obtain ⟨c, rfl, hc⟩ := one_top (b := 97) htk
   obtain ⟨v, rfl⟩ := valC (H.pr c (by simp)) hc
   have hD : does E S low fr i rest [cv v] = { S with used := S.used + 1, frs := lo ++ [⟨f.f, f.at_, f.locs, f.stk ++ [cv v]⟩] } := by
    unfold does
    rw [if_neg h50, if_pos h51, hlo]
    simp
    rfl
   rw [hD, h51]
   have hfl : f.stk.length < 1024 := by
    have := (hI.low f (by rw [hR.frs, hlo]; simp)).2
    omega
   refine MM.play74 h 51 (by omega) _ _ _ _ (fun W1 t1 h1 k1 => ?_)
   refine (MM.fret h1 H.stk H.hl (lo := lo) (f := f) hlo hfl _ _ _ _).mono fun e W' hp => ⟨0, hp.1, ?_⟩
   obtain ⟨-, t', M, K⟩ := hp
   exact ⟨by show (0 : Int) = (S.st : Nat); rw [hst]; rfl, g, _, t', M, k1.trans K, rfl, rfl, rfl, rfl, rfl, fun _ => rfl⟩
  ·refine (play_eff hE hS hL h H O hop54 h50 h51 h52).mono ?_
   rintro e W' ⟨st, he, hst', s', t', M, K, e1, e2, e3, e4, e5⟩
   refine ⟨st, he, ?_⟩
   unfold does
   rw [if_neg h50, if_neg h51, if_neg h52]
   have e3' : s'.w = (eff E S.w fr.locs i.op i.a i.b top).w := e3
   have hst2 : st = ((eff E S.w fr.locs i.op i.a i.b top).st : Nat) := hst'
   by_cases c : (eff E S.w fr.locs i.op i.a i.b top).st ≠ 0
   ·rw [if_pos c]
    refine ⟨hst2, g, s', t', M, K, rfl, e1, e3', ?_, e2, fun h0 => absurd h0 c⟩
    rw [e4]
    exact if_neg c
   ·rw [if_neg c]
    have c' : (eff E S.w fr.locs i.op i.a i.b top).st = 0 := Decidable.not_not.1 c
    refine ⟨?_, g, s', t', M, K, rfl, e1, e3', ?_, e2, fun _ => ?_⟩
    ·rw [hst2, c', hst]
    ·rw [e4]
     exact if_pos c'
    ·obtain ⟨q1, q2⟩ := e5 c'
     show s'.low ++ [s'.fr] = low ++ [_]
     rw [q1, q2]
     rfl
end
end Go.Proofs.YtmolfmgchbjnbaaGreatDoor
