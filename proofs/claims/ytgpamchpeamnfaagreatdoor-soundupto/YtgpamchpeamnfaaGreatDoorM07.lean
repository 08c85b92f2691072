/-
  Texts Wk Wf Wh.
-/
import Derived.Test.YtgpamchpeamnfaaGreatDoorMA
import Derived.Test.YtgpamchpeamnfaaGreatDoorM06
set_option linter.unusedSimpArgs false
set_option linter.unusedVariables false
set_option maxRecDepth 100000
set_option maxHeartbeats 40000000
open _root_.Go.Proofs.Tryz
namespace Go.Proofs.YtgpamchpeamnfaaGreatDoor
open Go.RowKit
variable {w : World} {r pb : Nat} {t : ByteArray} {wh : Nat → Value} {s : St}
theorem uS (h:M w r pb t wh s):Calls prog 209 #[.pointer (some ⟨r,0,none⟩)] w fun e w'=>e=.returned (.tuple #[])∧M w' r pb t wh (pN s)∧Fr [r] w w':=by
 refine (aVu r t s.pos s.fault s.atoms pb w h.rd).mono ?_
 rintro e w' ⟨rfl,rfl⟩
 exact⟨rfl,h.fail,(Fr.refl [r] w).setCell (p:=⟨r,2,none⟩) (.inl (by simp)) _⟩
theorem O2 (b:Int)(h:M w r pb t wh s)(hs:t.size≤50)(hp:s.pos≤1000):Calls prog 204 #[.pointer (some ⟨r,0,none⟩),.int .i64 b] w fun e w'=>
  e=.returned (.tuple #[])∧M w' r pb t wh (eF t s b)∧Fr [r] w w':=by
 have hk:=tG b h hs hp
 unfold eF
 unfold aU at hk
 by_cases hb:aB t s=b
 ·rw[if_pos hb] at hk ⊢
  go_enter func204,ntmps204
  go_wp2_with fail
  refine hk.mono ?_
  rintro e w1 ⟨rfl,h1,f1⟩
  go_wp2
  go_end0
  exact⟨rfl,h1,f1⟩
 ·rw[if_neg hb] at hk ⊢
  go_enter func204,ntmps204
  go_wp2_with fail
  refine hk.mono ?_
  rintro e w1 ⟨rfl,h1,f1⟩
  go_wp2_with fail
  refine (uS h1).mono ?_
  rintro e w2 ⟨rfl,h2,f2⟩
  go_wp2
  go_end0
  exact⟨rfl,h2,f1.trans f2⟩
theorem I7 (b:Int):s.pos≤(aU t s b).2.pos∧(aU t s b).2.pos≤s.pos+1:=by
 unfold aU;split <;> simp[aS]
theorem aPo (h:M w r pb t wh s)(hs:t.size≤50)(hp:s.pos≤900):Calls prog 208 #[.pointer (some ⟨r,0,none⟩)] w fun e w'=>
  e=.returned (.int .i64 (cM t s).1)∧M w' r pb t wh (cM t s).2∧Fr [r] w w':=by
 have hsp:=I7 (t:=t) (s:=s) 92
 have hk:=tG 92 h hs (by omega)
 unfold cM
 generalize (aU t s 92).1=b1 at *
 generalize (aU t s 92).2=s1 at *
 by_cases hb:aB t s1 = -1
 ·have he:(aB t s1 == -1)=true:=by simp[hb]
  rw[if_pos hb]
  clear hb
  go_enter func208,ntmps208
  go_wp2_with fail
  refine hk.mono ?_
  rintro e w1 ⟨rfl,h1,f1⟩
  go_wp2_with fail
  refine (dW h1 hs).mono ?_
  rintro e w2 ⟨rfl,n,rfl⟩
  go_wp2_with fail
  refine (uS (h1.heap (w':=w1.drewN n) rfl)).mono ?_
  rintro e w2 ⟨rfl,h2,f2⟩
  go_wp2
  go_ret
  exact⟨rfl,h2,f1.trans ((f1.drewN n).trans f2 |> fun _=>(((Fr.refl [r] w1).drewN n).trans f2))⟩
 ·have he:(aB t s1 == -1)=false:=by simpa using hb
  rw[if_neg hb]
  clear hb
  go_enter func208,ntmps208
  go_wp2_with fail
  refine hk.mono ?_
  rintro e w1 ⟨rfl,h1,f1⟩
  have c1:=h1.rd.c1
  have z1:=h1.rd.f1
  go_wp2_with fail
  refine (dW h1 hs).mono ?_
  rintro e w2 ⟨rfl,n,rfl⟩
  go_wp2
  go_ret
  exact⟨rfl,h1.adv.heap rfl,(f1.setCell (p:=⟨r,1,none⟩) (.inl (by simp)) _).drewN n⟩
theorem aMe (k:Nat)(h:M w r pb t wh s)(hs:t.size≤50)(hk:k≤1000):Calls prog 213 #[.pointer (some ⟨r,0,none⟩),.int .i64 k] w fun e w'=>
  e=.returned (.bool (gM t k))∧w'=w:=by
 have c0:=h.rd.c0
 unfold gM dZ
 by_cases hlt:k<t.size
 ·have hd:decide ((k:Int)<(t.size:Int))=true:=by simp;omega
  have hl:(k:Int)<t.size:=by omega
  rw[dif_pos hlt]
  go_enter func213,ntmps213
  go_wp2
  go_ret
  refine⟨congrArg (fun x=>Ending.returned (Value.bool x)) ?_,rfl⟩
  rw[Bool.eq_iff_iff];simp
 ·have hd:decide ((k:Int)<(t.size:Int))=false:=by simp;omega
  rw[dif_neg hlt]
  go_enter func213,ntmps213
  go_wp2
  go_ret
  exact⟨rfl,rfl⟩
theorem aCg (least:Int)(h:M w r pb t wh s)(hs:t.size≤50)(hp:s.pos≤900):Calls prog 212 #[.pointer (some ⟨r,0,none⟩),.int .i64 least] w fun e w'=>
  e=.returned (.int .i64 (aV t s least).1)∧M w' r pb t wh (aV t s least).2∧Fr [r] w w':=by
 unfold aV
 by_cases h93:aB t s=93
 ·have he:(aB t s==93)=true:=by simp[h93]
  have hpk:=dW h hs
  rw[if_pos h93]
  clear h93
  go_enter func212,ntmps212
  go_wp2_with fail
  refine hpk.mono ?_
  rintro e w1 ⟨rfl,n,rfl⟩
  go_wp2_with fail
  refine (uS (h.heap (w':=w.drewN n) rfl)).mono ?_
  rintro e w2 ⟨rfl,h2,f2⟩
  go_wp2
  go_ret
  exact⟨rfl,h2,((Fr.refl [r] w).drewN n).trans f2⟩
 ·have he0:(aB t s==93)=false:=by simpa using h93
  have hpk:=dW h hs
  rw[if_neg h93]
  clear h93
  have hsp:=I7 (t:=t) (s:=s) 92
  have hk:=fun (W:World) (hW:M W r pb t wh s)=>tG 92 hW hs (by omega)
  generalize (aU t s 92).1=b1 at *
  generalize (aU t s 92).2=s1 at *
  have Hk:=(show Hid _ from hk)
  clear hk
  by_cases hb:aB t s1<least
  ·rw[if_pos hb]
   go_enter func212,ntmps212
   go_wp2_with fail
   refine hpk.mono ?_
   rintro e w1 ⟨rfl,n,rfl⟩
   go_wp2_with fail
   refine (Hk.out _ (h.heap (w':=w.drewN n) rfl)).mono ?_
   rintro e w1 ⟨rfl,h1,f1⟩
   go_wp2_with fail
   refine (dW h1 hs).mono ?_
   rintro e w2 ⟨rfl,m,rfl⟩
   go_wp2_with fail
   refine (uS (h1.heap (w':=w1.drewN m) rfl)).mono ?_
   rintro e w2 ⟨rfl,h2,f2⟩
   go_wp2
   go_ret
   exact⟨rfl,h2,((((Fr.refl [r] w).drewN n).trans f1).drewN m).trans f2⟩
  ·rw[if_neg hb]
   go_enter func212,ntmps212
   go_wp2_with fail
   refine hpk.mono ?_
   rintro e w1 ⟨rfl,n,rfl⟩
   go_wp2_with fail
   refine (Hk.out _ (h.heap (w':=w.drewN n) rfl)).mono ?_
   rintro e w1 ⟨rfl,h1,f1⟩
   have c1:=h1.rd.c1
   have z1:=h1.rd.f1
   go_wp2_with fail
   refine (dW h1 hs).mono ?_
   rintro e w2 ⟨rfl,m,rfl⟩
   go_wp2
   go_ret
   exact⟨rfl,h1.adv.heap rfl,((((Fr.refl [r] w).drewN n).trans f1).setCell (p:=⟨r,1,none⟩) (.inl (by simp)) _).drewN m⟩
def ev (q:aMy):Value:=.agg #[.bool q.e,.int .u64 q.f,.int .u64 q.l]
def pv (q:Piece):Value:=.agg #[.bool (q 0).e,.int .u64 (q 0).f,.int .u64 (q 0).l,.bool (q 1).e,.int .u64 (q 1).f,.int .u64 (q 1).l,.bool (q 2).e,.int .u64 (q 2).f,.int .u64 (q 2).l,.bool (q 3).e,.int .u64 (q 3).f,.int .u64 (q 3).l]
theorem nD (w:World):Calls prog 183 #[] w fun e w'=>e=.returned (pv aF)∧Fr [] w w':=by
 go_enter func183,ntmps183
 go_wp2
 refine wp_loop_rounds 5 ?_
 iterate 5 (rw[rounds_succ];go_wp2)
 refine bodyPost_ret (v:=pv aF) (by simp[results,results183,go_sem,pv,aF]) rfl ⟨rfl,?_⟩
 exact ((Fr.refl _ _).alloc _).alloc _
theorem aEw (w:World):Calls prog 207 #[.int .i64 1] w fun e w'=>e=.returned (pv (fZ 1))∧Fr [] w w':=by
 go_enter func207,ntmps207
 go_wp2
 refine wp_loop_rounds 5 ?_
 iterate 5 (rw[rounds_succ];go_wp2)
 refine bodyPost_ret (v:=pv (fZ 1)) (by simp[results,results207,go_sem,pv,fZ];decide) rfl ⟨rfl,?_⟩
 exact ((Fr.refl _ _).alloc _).alloc _
theorem aMs (w:World):Calls prog 207 #[.int .i64 2] w fun e w'=>e=.returned (pv (fZ 2))∧Fr [] w w':=by
 go_enter func207,ntmps207
 go_wp2
 refine wp_loop_rounds 5 ?_
 iterate 5 (rw[rounds_succ];go_wp2)
 refine bodyPost_ret (v:=pv (fZ 2)) (by simp[results,results207,go_sem,pv,fZ];decide) rfl ⟨rfl,?_⟩
 exact ((Fr.refl _ _).alloc _).alloc _
def aMy.ok (q:aMy):Prop:=q.f<18446744073709551616∧q.l<18446744073709551616
theorem sI (a b:aMy)(ha:a.ok)(hb:b.ok)(w:World):Calls prog 197 #[ev a,ev b] w fun e w'=>e=.returned (ev (aT a b))∧Fr [] w w':=by
 obtain⟨ae,af,al⟩:=a
 obtain⟨be,bf,bl⟩:=b
 obtain⟨ha1,ha2⟩:=ha
 obtain⟨hb1,hb2⟩:=hb
 simp only at ha1 ha2 hb1 hb2
 have o1:=bits_or_u64_nat af bf ha1 hb1
 have o2:=bits_or_u64_nat bl al hb2 ha2
 unfold ev
 cases ae <;> cases be
 all_goals
  go_enter func197,ntmps197
  go_wp2
  refine bodyPost_ret (v:=ev (aT _ _)) (by simp[results,results197,go_sem,ev,aT]) rfl ⟨rfl,?_⟩
  exact ((((Fr.refl _ _).alloc _).alloc _).alloc _).alloc _
theorem qB {fo:Nat→Nat→Nat}{sp src dst:Nat} (hfo:∀ s a,fo s a<18446744073709551616) (hdst:dst<18446744073709551616) (s a:Nat):Z8 fo sp src dst s a<18446744073709551616:=by
 unfold Z8
 split
 ·exact Nat.or_lt_two_pow (n:=64) (hfo s a) hdst
 ·exact hfo s a
theorem aAy (fo:Nat→Nat→Nat)(q r:Piece)(s a:Nat)(hs:s<4) :
  Z8 (Z8 (Z8 (Z8 fo 0 (q 0).l (r 0).f) 1 (q 1).l (r 1).f) 2 (q 2).l (r 2).f) 3 (q 3).l (r 3).f s a=iJ fo q r s a:=by
 obtain rfl | rfl | rfl | rfl:s=0∨s=1∨s=2∨s=3:=by omega
 all_goals simp[Z8,iJ]
def kJ (W:World) (b:Nat) (l:List Value):Prop:=∀ i,W.cell? ⟨b,i,none⟩=l[i]?
theorem kJ.fr {S:List Nat}{w w':World}{b:Nat}{l:List Value} (h:kJ w b l) (hf:Fr S w w') (hb:b ∉ S) (hlt:b<w.heap.size):kJ w' b l:=fun i=>(hf.cell (p:=⟨b,i,none⟩) hlt hb).trans (h i)
theorem kJ.set {w:World}{b:Nat}{l:List Value} (h:kJ w b l) (k:Nat) (hk:k<l.length) (v:Value):kJ (w.setCell ⟨b,k,none⟩ v) b (l.set k v):=fun i=>by
 by_cases e:k=i
 ·subst e
  rw[List.getElem?_set_self hk]
  exact World.cell?_setCell_same' _ _ _ (by rw[h k,Lge hk];rfl)
 ·rw[List.getElem?_set_ne e];exact (aA e).trans (h i)
theorem eQ (W:World)(l:List Value)(t:TypeId):kJ (W.alloc (.cells l.toArray t)) W.heap.size l:=fun i=>by
 have h:=wan W (.cells l.toArray t)
 unfold World.cell?;rw[h];simp
theorem N0 (pb:Nat)(q:Piece)(w:World)(wh:Nat→Value)(tk:Nat→Nat)(fo:Nat→Nat→Nat)
  (hl:∀ s,(q s).l<1125899906842624) (hf:∀ s,(q s).f<18446744073709551616) (hP:dS w pb wh tk fo) (hfo:∀ s a,fo s a<18446744073709551616) (hT:Tab w) (hpb:pb≠5) :
  Calls prog 199 #[.pointer (some ⟨pb,0,none⟩),pv q] w fun e w'=>e=.returned (.tuple #[])∧dS w' pb wh tk (iJ fo q q)∧Fr [pb] w w':=by
 have hm:prog.follows Departure.mixedOrders=true:=by kernel_rfl
 have hlt:=hP.lt
 obtain⟨W0,hW0⟩:=eX (w.alloc (Obj.cells #[.bool (q 0).e,.int .u64 (q 0).f,.int .u64 (q 0).l,.bool (q 1).e,.int .u64 (q 1).f,.int .u64 (q 1).l,.bool (q 2).e,.int .u64 (q 2).f,.int .u64 (q 2).l,.bool (q 3).e,.int .u64 (q 3).f,.int .u64 (q 3).l] 217))
 have f0:Fr [pb] w W0:=by rw[← hW0];exact (Fr.refl _ _).alloc _
 have g0:Fr [] w W0:=by rw[← hW0];exact (Fr.refl _ _).alloc _
 have r0:kJ W0 w.heap.size [.bool (q 0).e,.int .u64 (q 0).f,.int .u64 (q 0).l,.bool (q 1).e,.int .u64 (q 1).f,.int .u64 (q 1).l,.bool (q 2).e,.int .u64 (q 2).f,.int .u64 (q 2).l,.bool (q 3).e,.int .u64 (q 3).f,.int .u64 (q 3).l]:=by rw[← hW0];exact eQ w _ 217
 have z0:W0.heap.size=w.heap.size+1:=by rw[← hW0];simp
 have P0:=hP.fr g0 (by simp)
 have T0:=hT.fr g0 (by simp)
 have b0:=hfo
 unfold pv
 go_enter func199,ntmps199
 go_wp2
 clear hW0
 refine wp_loop_rounds 5 ?_
 rw[rounds_succ]
 have c0a:W0.cell? ⟨w.heap.size,2,none⟩=some (.int .u64 (q 0).l):=r0 2
 have c0b:W0.cell? ⟨w.heap.size,1,none⟩=some (.int .u64 (q 0).f):=r0 1
 go_wp2
 refine aR 10 hm (by kernel_rfl) ?_
 simp only[List.take_succ_cons,List.take_zero,List.drop_succ_cons,List.drop_zero]
 repeat still_step
 refine wpStill_nil ?_
 go_wp2_with fail
 refine (qA pb 0 (q 0).l (q 0).f (by decide) (hl 0) (hf 0) W0.drew wh tk _ (P0.of_block rfl) b0 (T0.of_block rfl) hpb).mono ?_
 rintro e W1 ⟨rfl,P1,f1'⟩
 have f1':Fr [pb] W0 W1:=⟨f1'.os,f1'.tape,f1'.output,f1'.size,f1'.block⟩
 have f1:=f0.trans f1'
 have r1:=r0.fr f1' (by simp;omega) (aC c0a)
 have T1:=T0.fr f1' (by simpa using fun e=>hpb e.symm)
 have b1:=qB (sp:=0) (src:=(q 0).l) b0 (hf 0)
 go_wp2
 rw[rounds_succ]
 have c1a:W1.cell? ⟨w.heap.size,5,none⟩=some (.int .u64 (q 1).l):=r1 5
 have c1b:W1.cell? ⟨w.heap.size,4,none⟩=some (.int .u64 (q 1).f):=r1 4
 go_wp2
 refine aR 10 hm (by kernel_rfl) ?_
 simp only[List.take_succ_cons,List.take_zero,List.drop_succ_cons,List.drop_zero]
 repeat still_step
 refine wpStill_nil ?_
 go_wp2_with fail
 refine (qA pb 1 (q 1).l (q 1).f (by decide) (hl 1) (hf 1) W1.drew wh tk _ (P1.of_block rfl) b1 (T1.of_block rfl) hpb).mono ?_
 rintro e W2 ⟨rfl,P2,f2'⟩
 have f2':Fr [pb] W1 W2:=⟨f2'.os,f2'.tape,f2'.output,f2'.size,f2'.block⟩
 have f2:=f1.trans f2'
 have r2:=r1.fr f2' (by simp;omega) (aC c1a)
 have T2:=T1.fr f2' (by simpa using fun e=>hpb e.symm)
 have b2:=qB (sp:=1) (src:=(q 1).l) b1 (hf 1)
 go_wp2
 rw[rounds_succ]
 have c2a:W2.cell? ⟨w.heap.size,8,none⟩=some (.int .u64 (q 2).l):=r2 8
 have c2b:W2.cell? ⟨w.heap.size,7,none⟩=some (.int .u64 (q 2).f):=r2 7
 go_wp2
 refine aR 10 hm (by kernel_rfl) ?_
 simp only[List.take_succ_cons,List.take_zero,List.drop_succ_cons,List.drop_zero]
 repeat still_step
 refine wpStill_nil ?_
 go_wp2_with fail
 refine (qA pb 2 (q 2).l (q 2).f (by decide) (hl 2) (hf 2) W2.drew wh tk _ (P2.of_block rfl) b2 (T2.of_block rfl) hpb).mono ?_
 rintro e W3 ⟨rfl,P3,f3'⟩
 have f3':Fr [pb] W2 W3:=⟨f3'.os,f3'.tape,f3'.output,f3'.size,f3'.block⟩
 have f3:=f2.trans f3'
 have r3:=r2.fr f3' (by simp;omega) (aC c2a)
 have T3:=T2.fr f3' (by simpa using fun e=>hpb e.symm)
 have b3:=qB (sp:=2) (src:=(q 2).l) b2 (hf 2)
 go_wp2
 rw[rounds_succ]
 have c3a:W3.cell? ⟨w.heap.size,11,none⟩=some (.int .u64 (q 3).l):=r3 11
 have c3b:W3.cell? ⟨w.heap.size,10,none⟩=some (.int .u64 (q 3).f):=r3 10
 go_wp2
 refine aR 10 hm (by kernel_rfl) ?_
 simp only[List.take_succ_cons,List.take_zero,List.drop_succ_cons,List.drop_zero]
 repeat still_step
 refine wpStill_nil ?_
 go_wp2_with fail
 refine (qA pb 3 (q 3).l (q 3).f (by decide) (hl 3) (hf 3) W3.drew wh tk _ (P3.of_block rfl) b3 (T3.of_block rfl) hpb).mono ?_
 rintro e W4 ⟨rfl,P4,f4'⟩
 have f4':Fr [pb] W3 W4:=⟨f4'.os,f4'.tape,f4'.output,f4'.size,f4'.block⟩
 have f4:=f3.trans f4'
 have r4:=r3.fr f4' (by simp;omega) (aC c3a)
 have T4:=T3.fr f4' (by simpa using fun e=>hpb e.symm)
 have b4:=qB (sp:=3) (src:=(q 3).l) b3 (hf 3)
 go_wp2
 rw[rounds_succ]
 go_wp2
 go_end0
 exact⟨rfl,P4.congr (fun _ _=>rfl) (fun s a hs _=>aAy fo q q s a hs),f4⟩
end Go.Proofs.YtgpamchpeamnfaaGreatDoor
