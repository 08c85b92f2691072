/-
  Texts Xg Xh Xi.
-/
import Derived.Test.YtgpamchpeamnfaaGreatDoorMA
import Derived.Test.YtgpamchpeamnfaaGreatDoorM40
import Derived.Test.YtgpamchpeamnfaaGreatDoorM24
import Derived.Test.YtgpamchpeamnfaaGreatDoorM04
import Derived.Laws.Rows
set_option linter.unusedSimpArgs false
set_option linter.unusedVariables false
set_option maxRecDepth 100000
set_option maxHeartbeats 40000000
open _root_.Go.Proofs.Tryz
namespace Go.Proofs.YtgpamchpeamnfaaGreatDoor
open Go.RowKit
open Wire
section
variable {w w' W W' : World} {r g i : Nat} {b : ByteArray} {a e k : Nat} {l c p t : List UInt8} {V : List Value}
theorem aNc {L:List ByteArray}(pt:Bool){most:Nat}{mI:Int} (hmI:mI=(most:Int)) (hmost:most≤100) (hL:L.length≤1000) (hs:∀ s ∈ L,s.size≤most) (hp:pt=true→∀ s ∈ L,ipF s=true) (h:GS w r b e (aZ L++t)) :
  Calls prog 28 #[.pointer (some ⟨r,0,none⟩),.int .i64 mI,.bool pt] w fun ee w'=>∃ v,ee=.returned v∧bW w.heap.size w' v L∧GS w' r b e t∧Fr [r] w w':=by
 subst hmI
 obtain⟨i0,hi,hz0,hz1,hz2⟩:=info_parts Q8
 have hrl:=h.lt
 rw[aZ,List.append_assoc] at h
 have hlm:=O0 (lo:=0) (hi:=1000) rfl rfl (by omega) hL (by omega) h
 change Calls prog 30 #[.pointer (some ⟨r,0,none⟩),.int .i64 0,.int .i64 1000] w _ at hlm
 have HS:Hid _:=AI hs hp
 clear h hs hp
 cases pt
 all_goals
  go_enter func28,ntmps28
  go_wp2_with fail
  refine hlm.mono ?_
  rintro ee w1 ⟨rfl,K1,F1⟩
  clear hlm
  go_wp2
  go_loopw [7,9] (fun u i wr=>∃ k:Nat,i=.int .i64 k∧k≤L.length∧GS wr r b e (cB (L.drop k)++t)∧oG r w (L.take k) u wr) (fun _ i _=>L.length-(intOf i).toNat)
  case atStart=>exact⟨0,rfl,by omega,K1,oG.start F1⟩
  case round=>
   clear K1 F1
   obtain⟨k,rfl,hk,K,J⟩:=hrel
   obtain⟨a0,cap,rfl⟩:=J.form
   have htk:(L.take k).length=k:=by rw[List.length_take];omega
   rw[htk] at J ⊢
   have d3:wr.cell? ⟨r,3,none⟩=some (.int .i64 0):=by obtain⟨a,K⟩:=K;exact K.c.c3
   by_cases hlt:k<L.length
   ·have g1:(k:Int)<L.length:=by omega
    rw[List.drop_eq_getElem_cons hlt] at K
    simp only[cB,List.flatMap_cons,List.append_assoc] at K
    have hsz:=HS.out.1 L[k] (List.getElem_mem hlt)
    have hpt:=fun h=>HS.out.2 h L[k] (List.getElem_mem hlt)
    have hc:=aOl (lim:=most) rfl hsz (by omega) K
    generalize hx:L[k]=x at *
    obtain⟨lp,le,HL,hcase⟩:=O7 x (by omega)
    try
     have h1:ipF x=true:=by first | exact hpt rfl | exact hpt trivial
     obtain rfl:le=0:=by
      rcases hcase with h2 | h2
      ·exact h2.2
      ·rw[h1] at h2;cases h2.1
    clear K hpt hcase
    go_wp2_with fail
    refine hc.mono ?_
    rintro ee w2 ⟨rfl,K2,F2⟩
    have c3:w2.cell? ⟨r,3,none⟩=some (.int .i64 0):=by obtain⟨a,K⟩:=K2;exact K.c.c3
    clear d3 hc
    try
     go_wp2_with fail
     refine (HL.out w2).mono ?_
     rintro ee w5 ⟨rfl,F5⟩
     replace K2:=K2.fr F5 (by simp)
     replace F2:=F2.trans (F5.mono (by simp))
    have J2:=J.kept hrl F2
    have hown:=J2.own
    rw[htk] at hown
    have hsz2:=J2.fr.size
    clear J F2
    go_wp2_with (at_builtin;refine wpList_append_own _ rfl _ _ 22 rfl w.heap.size 9 i0 (.string ⟨#[]⟩) 1 16 underlying22 hi hz0 hz1 hz2 rfl (by decide) _ _ _ rfl (hown.alloc _) ⟨_,0,none⟩ 1 1 [.string x] rfl rfl (cell_one_new _ _ _) (mZ _) (by unfold maxLen;omega) (by omega) (dD _ hsz2) ?_)
    intro v' w3 hown' hgrow _
    have J3:=(J2.kept hrl ((Fr.refl [r] _).alloc _)).grown (s:=x) (by rw[htk,List.map_take];exact hown') hgrow
    have K3:GS w3 r b e (cB (L.drop (k+1))++t):=by
     obtain⟨a,K2⟩:=K2
     refine⟨a,K2.c.of_block ?_,K2.le,K2.s⟩
     rw[hgrow.block r (by have:=K2.c.lt;simp;omega) (fun e=>by have:=(hown.lt r e.symm).1;omega)]
     exact Below.heap_alloc _ _ _ K2.c.lt
    clear hown hown' hgrow J2 K2 c3
    rw[← hx,List.take_append_getElem hlt] at J3
    obtain⟨b0,cap3,rfl⟩:=J3.form
    rw[List.length_take,Nat.min_eq_left (by omega)] at J3 ⊢
    go_wp2
    refine⟨⟨k+1,by go_num,by omega,K3,J3⟩,?_⟩
    simp[intOf]
    omega
   ·obtain rfl:k=L.length:=by omega
    have g1:¬ (L.length:Int)<L.length:=by omega
    rw[List.drop_length] at K
    rw[List.take_length] at J
    go_wp2
    go_ret
    exact⟨_,rfl,J.far,K,J.fr⟩
structure CB (W:World) (g:Nat) (V:List Value):Prop where
 cs:∀ i,W.cell? ⟨g,i,none⟩=V[i]?
 fz:∀ i,W.frozen? ⟨g,i,none⟩=false
theorem CB.of (h:W.heap[g]?=some (.cells V.toArray k)):CB W g V:=⟨fun i=>by unfold World.cell?;rw[h];simp,fun i=>by unfold World.frozen?;rw[h];simp⟩
theorem CB.fr {S:List Nat}(h:CB W g V)(hf:Fr S W W')(hg:g ∉ S)(hl:g<W.heap.size):CB W' g V:=⟨fun i=>(hf.cell (p:=⟨g,i,none⟩) hl hg).trans (h.cs i),fun i=>(hf.frozen (p:=⟨g,i,none⟩) hl hg).trans (h.fz i)⟩
theorem CB.set (h:CB W g V)(hi:i<V.length)(v:Value):CB (W.setCell ⟨g,i,none⟩ v) g (V.set i v):=by
 refine⟨fun j=>?_,fun j=>by rw[wfz];exact h.fz j⟩
 by_cases hij:i=j
 ·subst hij
  rw[List.getElem?_set_self hi]
  exact aP ((h.cs i).trans (Lge hi))
 ·rw[List.getElem?_set_ne hij]
  exact (aA hij).trans (h.cs j)
theorem aYv {L:List Wire.Fn}(hL:3≤L.length∧L.length≤1000)(hf:bC L 0=true)(h:GS w r b e (gZ L++t)) :
  Calls prog 31 #[.pointer (some ⟨r,0,none⟩)] w fun ee w'=>∃ v,ee=.returned v∧eN w.heap.size w' v L∧GS w' r b e t∧Fr [r] w w':=by
 obtain⟨i0,hi,hz0,hz1,hz2⟩:=info_parts aOd
 have hrl:=h.lt
 rw[gZ,List.append_assoc] at h
 have hlm:=O0 (lo:=3) (hi:=1000) rfl rfl hL.1 hL.2 (by omega) h
 change Calls prog 30 #[.pointer (some ⟨r,0,none⟩),.int .i64 3,.int .i64 1000] w _ at hlm
 have HF:Hid _:=hf
 clear h hf
 go_enter func31,ntmps31
 go_wp2_with fail
 refine hlm.mono ?_
 rintro ee w1 ⟨rfl,K1,F1⟩
 clear hlm
 go_wp2
 go_loopw [3,5] (fun u i wr=>∃ k:Nat,i=.int .i64 k∧k≤L.length∧GS wr r b e (gL (L.drop k)++t)∧rU r w (L.take k) u wr) (fun _ i _=>L.length-(intOf i).toNat)
 case atStart=>exact⟨0,rfl,by omega,K1,rU.start F1⟩
 case round=>
  clear K1 F1
  obtain⟨k,rfl,hk,K,J⟩:=hrel
  obtain⟨a0,cap,rfl⟩:=J.form
  have htk:(L.take k).length=k:=by rw[List.length_take];omega
  rw[htk] at J ⊢
  have d3:wr.cell? ⟨r,3,none⟩=some (.int .i64 0):=by obtain⟨a,K⟩:=K;exact K.c.c3
  by_cases hlt:k<L.length
  ·have g1:(k:Int)<L.length:=by omega
   rw[List.drop_eq_getElem_cons hlt] at K
   simp only[gL,List.flatMap_cons] at K
   have hla:=aBs HF.out hlt
   rw[Nat.zero_add] at hla
   generalize hx:L[k]=x at *
   simp only[fI,Bool.and_eq_true,Bool.or_eq_true,decide_eq_true_eq] at hla
   obtain⟨x1,q1⟩:∃ n:Nat,x.params=n:=⟨x.params.toNat,by omega⟩
   obtain⟨x2,q2⟩:∃ n:Nat,x.locs=n:=⟨x.locs.toNat,by omega⟩
   obtain⟨p,q,o⟩:=x
   simp only at q1 q2 hla
   subst q1 q2
   simp only[fnB,Int.toNat_natCast,List.append_assoc] at K
   obtain⟨M,hxM,hM8,hMc⟩:∃ M:Nat,x1≤M∧M≤8∧((k<3∧M=0)∨(¬ k<3∧M=8)):=by
    by_cases h3:k<3
    ·exact⟨0,by omega,by omega,.inl ⟨h3,rfl⟩⟩
    ·exact⟨8,by omega,by omega,.inr ⟨h3,rfl⟩⟩
   have hwl:=J.fr.size
   have hrw:=K.lt
   have K0:=K.fr ((Fr.refl [] wr).alloc (.cells #[Value.int .i64 0,Value.int .i64 0,Value.string ⟨#[]⟩] 47)) (by simp)
   have F0:Fr [r] wr (wr.alloc (.cells #[Value.int .i64 0,Value.int .i64 0,Value.string ⟨#[]⟩] 47)):=(Fr.refl [r] wr).alloc _
   have B0:CB (wr.alloc (.cells #[Value.int .i64 0,Value.int .i64 0,Value.string ⟨#[]⟩] 47)) wr.heap.size [.int .i64 0,.int .i64 0,.string ⟨#[]⟩]:=CB.of (wan _ _)
   have hgl:wr.heap.size<(wr.alloc (.cells #[Value.int .i64 0,Value.int .i64 0,Value.string ⟨#[]⟩] 47)).heap.size:=by simp
   have C1:Hid _:=O0 (lo:=0) (hi:=M) rfl rfl (by omega) hxM (by omega) K0
   have hgr:wr.heap.size ∉ [r]:=by simp;omega
   have hgs:∀ x,x ∈ [wr.heap.size]→x ∈ [r]∨wr.heap.size≤x:=fun x hx=>.inr (by simp at hx;omega)
   have hrg:r ∉ [wr.heap.size]:=by simp;omega
   have hlo:x1≤x2∧x2≤16∧o.size≤20000:=by omega
   have HG:Hid _:=AI hgr (AI hgs hrg)
   clear hla K K0 hgr hgs hrg
   rcases hMc with ⟨g3,rfl⟩ | ⟨g3,rfl⟩
   all_goals
    have g3i:decide ((k:Int)<3)=decide (k<3):=by congr 1;simp;omega
    go_wp2_with fail
    refine Calls.mono C1.out ?_
    rintro ee w2 ⟨rfl,K2,F2⟩
    obtain⟨hgr,hgs,hrg⟩:=HG.out
    have B2:=B0.fr F2 hgr hgl
    have l2:=Nll hgl F2.size
    have e0:=B2.cs 0
    have z0:=B2.fz 0
    have B3:=B2.set (i:=0) (by simp) (.int .i64 x1)
    have i0h:=B3.cs 0
    simp only[List.set_cons_zero,List.set_cons_succ,List.getElem?_cons_zero,List.getElem?_cons_succ] at e0 i0h B3
    have K3:=K2.fr (cG w2 wr.heap.size 0 (.int .i64 x1)) hrg
    have F3:=(F0.trans F2).trans' (cG w2 wr.heap.size 0 (.int .i64 x1)) hgs
    have l3:wr.heap.size<(w2.setCell ⟨wr.heap.size,0,none⟩ (.int .i64 x1)).heap.size:=by simpa using l2
    have C2:Hid _:=O0 (lo:=x1) (hi:=16) rfl rfl hlo.1 hlo.2.1 (by omega) K3
    have HB:Hid _:=AI B3 F3
    clear C1 B0 F0 K2 F2 B2 B3 K3 F3 hgl hgr hgs hrg
    go_wp2_with fail
    refine Calls.mono C2.out ?_
    clear C2 i0h e0 z0
    obtain⟨B3,F3⟩:=HB.out
    clear HB
    generalize w2.setCell ⟨wr.heap.size,0,none⟩ (.int .i64 x1)=W2 at *
    rintro ee w4 ⟨rfl,K4,F4⟩
    obtain⟨hgr,hgs,hrg⟩:=HG.out
    have B4:=B3.fr F4 hgr l3
    have l4:=Nll l3 F4.size
    have e1:=B4.cs 1
    have z1:=B4.fz 1
    have B5:=B4.set (i:=1) (by simp) (.int .i64 x2)
    simp only[List.set_cons_zero,List.set_cons_succ,List.getElem?_cons_zero,List.getElem?_cons_succ] at e1 B5
    have K5:=K4.fr (cG w4 wr.heap.size 1 (.int .i64 x2)) hrg
    have F5:=(F3.trans F4).trans' (cG w4 wr.heap.size 1 (.int .i64 x2)) hgs
    have l5:wr.heap.size<(w4.setCell ⟨wr.heap.size,1,none⟩ (.int .i64 x2)).heap.size:=by simpa using l4
    have C3:Hid _:=aOl (lim:=20000) rfl hlo.2.2 (by omega) K5
    have HB:Hid _:=AI B5 F5
    clear B3 F3 K4 F4 B4 B5 K5 F5 hgr hgs hrg l2 l3
    go_wp2_with fail
    refine Calls.mono C3.out ?_
    clear C3 e1 z1
    obtain⟨B5,F5⟩:=HB.out
    clear HB
    generalize w4.setCell ⟨wr.heap.size,1,none⟩ (.int .i64 x2)=W4 at *
    rintro ee w6 ⟨rfl,K6,F6⟩
    obtain⟨hgr,hgs,hrg⟩:=HG.out
    have B6:=B5.fr F6 hgr l5
    have e2:=B6.cs 2
    have z2:=B6.fz 2
    have B7:=B6.set (i:=2) (by simp) (.string o)
    simp only[List.set_cons_zero,List.set_cons_succ,List.getElem?_cons_zero,List.getElem?_cons_succ] at e2 B7
    have n0:=B7.cs 0
    have n1:=B7.cs 1
    have n2:=B7.cs 2
    simp only[List.getElem?_cons_zero,List.getElem?_cons_succ] at n0 n1 n2
    have K7:=K6.fr (cG w6 wr.heap.size 2 (.string o)) hrg
    have F7:=(F5.trans F6).trans' (cG w6 wr.heap.size 2 (.string o)) hgs
    have J2:=J.kept hrl F7
    have hown:=J2.own
    rw[htk] at hown
    obtain⟨ys,hys⟩:=eX ((L.take k).flatMap fnC)
    rw[hys] at hown
    have hsz2:=J2.fr.size
    have hfn:=yB (w6.setCell ⟨wr.heap.size,2,none⟩ (.string o)) (x1:Int) (x2:Int) o
    rw[show (w6.setCell ⟨wr.heap.size,2,none⟩ (.string o)).heap.size=w6.heap.size by simp] at hfn
    clear B5 F5 K6 F6 B6 B7 F7 J hgr hgs hrg d3
    go_wp2_with (at_builtin;refine wpList_append_own _ rfl _ _ 23 rfl w.heap.size 47 i0 (.agg #[.int .i64 0,.int .i64 0,.string ⟨#[]⟩]) 3 32 underlying23 hi hz0 hz1 hz2 rfl (by decide) _ _ _ rfl (hown.alloc _) ⟨w6.heap.size,0,none⟩ 1 1 [.int .i64 x1,.int .i64 x2,.string o] rfl rfl hfn (yA ⟨x1,x2,o⟩) (by unfold maxLen;omega) (by omega) (dD _ hsz2) ?_)
    intro v' w8 hown' hgrow _
    clear n0 n1 n2 e2 z2 hfn
    generalize w6.setCell ⟨wr.heap.size,2,none⟩ (.string o)=W6 at *
    have J3:=(J2.kept hrl ((Fr.refl [r] W6).alloc _)).grown (s:=⟨x1,x2,o⟩) (by rw[htk,hys];exact hown') hgrow
    have K8:GS w8 r b e (gL (L.drop (k+1))++t):=by
     obtain⟨a,K7⟩:=K7
     refine⟨a,K7.c.of_block ?_,K7.le,K7.s⟩
     rw[hgrow.block r (by have:=K7.c.lt;simp;omega) (fun e=>by have:=(hown.lt r e.symm).1;omega)]
     exact Below.heap_alloc _ _ _ K7.c.lt
    clear hown hown' hgrow J2 K7
    rw[← hx,List.take_append_getElem hlt] at J3
    obtain⟨b0,cap3,rfl⟩:=J3.form
    rw[List.length_take,Nat.min_eq_left (by omega)] at J3 ⊢
    go_wp2
    refine⟨⟨k+1,by go_num,by omega,K8,J3⟩,?_⟩
    simp[intOf]
    omega
  ·obtain rfl:k=L.length:=by omega
   have g1:¬ (L.length:Int)<L.length:=by omega
   rw[List.drop_length] at K
   rw[List.take_length] at J
   go_wp2
   go_ret
   exact⟨_,rfl,J.far,K,J.fr⟩
end
section
variable {w U V1 V2 : World} {r mb i e : Nat} {b : ByteArray} {V : List Value} {v : Value}
theorem CB.cell (h:CB U mb V)(hi:i<V.length):(∃ u,U.cell? ⟨mb,i,none⟩=some u)∧U.frozen? ⟨mb,i,none⟩=false:=⟨⟨_,(h.cs i).trans (Lge hi)⟩,h.fz i⟩
theorem L6 (h:CB U mb V)(hl:mb<U.heap.size)(hrm:r≠mb)(G:Fr [r] U V2)(S:GS V2 r b e [])(hi:i<V.length):CB (V2.setCell ⟨mb,i,none⟩ v) mb (V.set i v)∧GS (V2.setCell ⟨mb,i,none⟩ v) r b e []∧Fr [r,mb] U (V2.setCell ⟨mb,i,none⟩ v):=
 ⟨(h.fr G (by simpa using fun e=>hrm e.symm) hl).set hi v,S.fr (cG V2 mb i v) (by simpa using hrm),(G.mono (by simp)).setCell (p:=⟨mb,i,none⟩) (.inl (by simp)) _⟩
end
theorem aSx {m:Mo}(b:ByteArray)(w:World)(hw:cE ipF m=true)(hb:bl b=Wire.written m)(hs:b.size≤40000):Calls prog 14 #[.string b] w (aZo m w):=by
 have hm:prog.follows Departure.mixedOrders=true:=by kernel_rfl
 have g1:¬ (b.size:Int)>40000:=by omega
 have F0:Fr [] w (((w.alloc (.cells #[.slice none 0 0,.slice none 0 0,.int .i64 0,.int .i64 0,.slice none 0 0] 25)).alloc (.cells #[.slice none 0 0,.slice none 0 0,.int .i64 0,.int .i64 0,.slice none 0 0] 25)).alloc (.cells #[.string b,.int .i64 0,.int .i64 0,.int .i64 0,.int .i64 0] 74)):=(((Fr.refl [] w).alloc _).alloc _).alloc _
 have hr0:(((w.alloc (.cells #[.slice none 0 0,.slice none 0 0,.int .i64 0,.int .i64 0,.slice none 0 0] 25)).alloc (.cells #[.slice none 0 0,.slice none 0 0,.int .i64 0,.int .i64 0,.slice none 0 0] 25)).alloc (.cells #[.string b,.int .i64 0,.int .i64 0,.int .i64 0,.int .i64 0] 74)).heap[w.heap.size+1+1]?=some (.cells #[.string b,.int .i64 0,.int .i64 0,.int .i64 0,.int .i64 0] 74):=by
  have:=wan ((w.alloc (.cells #[.slice none 0 0,.slice none 0 0,.int .i64 0,.int .i64 0,.slice none 0 0] 25)).alloc (.cells #[.slice none 0 0,.slice none 0 0,.int .i64 0,.int .i64 0,.slice none 0 0] 25)) (.cells #[.string b,.int .i64 0,.int .i64 0,.int .i64 0,.int .i64 0] 74)
  rw[World.size_alloc,World.size_alloc] at this
  exact this
 have hm0:(((w.alloc (.cells #[.slice none 0 0,.slice none 0 0,.int .i64 0,.int .i64 0,.slice none 0 0] 25)).alloc (.cells #[.slice none 0 0,.slice none 0 0,.int .i64 0,.int .i64 0,.slice none 0 0] 25)).alloc (.cells #[.string b,.int .i64 0,.int .i64 0,.int .i64 0,.int .i64 0] 74)).heap[w.heap.size+1]?=some (.cells #[.slice none 0 0,.slice none 0 0,.int .i64 0,.int .i64 0,.slice none 0 0] 25):=by
  have:=wan (w.alloc (.cells #[.slice none 0 0,.slice none 0 0,.int .i64 0,.int .i64 0,.slice none 0 0] 25)) (.cells #[.slice none 0 0,.slice none 0 0,.int .i64 0,.int .i64 0,.slice none 0 0] 25)
  rw[World.size_alloc] at this
  rw[Below.heap_alloc _ _ _ (by simp),this]
 have hres:(((w.alloc (.cells #[.slice none 0 0,.slice none 0 0,.int .i64 0,.int .i64 0,.slice none 0 0] 25)).alloc (.cells #[.slice none 0 0,.slice none 0 0,.int .i64 0,.int .i64 0,.slice none 0 0] 25)).alloc (.cells #[.string b,.int .i64 0,.int .i64 0,.int .i64 0,.int .i64 0] 74)).heap[w.heap.size]?=some (.cells #[.slice none 0 0,.slice none 0 0,.int .i64 0,.int .i64 0,.slice none 0 0] 25):=by
  rw[Below.heap_alloc _ _ _ (by simp;omega),Below.heap_alloc _ _ _ (by simp),wan]
 simp only[cE,Bool.and_eq_true,decide_eq_true_eq,List.all_eq_true] at hw
 obtain⟨⟨⟨⟨⟨⟨⟨⟨⟨⟨hx0,hx1⟩,hx2⟩,hx3⟩,hx4⟩,hx5⟩,hx6⟩,hx7⟩,hx8⟩,hx9⟩,hx10⟩:=hw
 obtain⟨gN,eg⟩:∃ x:Nat,m.globs=x:=⟨m.globs.toNat,by omega⟩
 obtain⟨aN,ea⟩:∃ x:Nat,m.arrs=x:=⟨m.arrs.toNat,by omega⟩
 have hwr:bl b=71 :: 76 :: 1 :: (bR 1 (aZ m.texts)++(bR 2 (aZ m.pats)++(bR 3 (aY gN)++(bR 4 (aY aN)++(bR 5 (gZ m.fns)++dG (body m)))))):=by
  rw[hb]
  unfold Wire.written
  generalize dG (body m)=q
  simp only[body,eg,ea,Int.toNat_natCast,List.cons_append,List.append_assoc]
 have HB:Hid (bl b=Wire.written m):=hb
 have HW:Hid _:=hwr
 clear hb hwr
 go_enter func14,ntmps14
 go_wp2_with fail
 generalize (((w.alloc (.cells #[.slice none 0 0,.slice none 0 0,.int .i64 0,.int .i64 0,.slice none 0 0] 25)).alloc (.cells #[.slice none 0 0,.slice none 0 0,.int .i64 0,.int .i64 0,.slice none 0 0] 25)).alloc (.cells #[.string b,.int .i64 0,.int .i64 0,.int .i64 0,.int .i64 0] 74))=U0 at *
 obtain⟨r,hr⟩:=eX (w.heap.size+1+1)
 obtain⟨mb,hmb⟩:=eX (w.heap.size+1)
 rw[hr] at hr0 ⊢
 rw[hmb] at hm0 ⊢
 have hrm:r≠mb:=by omega
 have hwr:w.heap.size<r:=by omega
 have hwm:w.heap.size<mb:=by omega
 clear hr hmb
 have BC:CB U0 mb [.slice none 0 0,.slice none 0 0,.int .i64 0,.int .i64 0,.slice none 0 0]:=CB.of hm0
 have hBl:mb<U0.heap.size:=(Age.1 hm0).1
 have hBr:r<U0.heap.size:=(Age.1 hr0).1
 have KR:RdC U0 r b 0 0 0 0:=by
  have c:CB U0 r [.string b,.int .i64 0,.int .i64 0,.int .i64 0,.int .i64 0]:=CB.of hr0
  exact⟨c.cs 0,c.cs 1,c.cs 2,c.cs 3,c.cs 4,c.fz 1,c.fz 2,c.fz 3,c.fz 4⟩
 have hS0:∀ x,x ∈ [r,mb]→x<U0.heap.size:=fun x hx=>by simp at hx;omega
 have HS0:Hid _:=hS0
 have FU:Fr [r,mb] U0 U0:=Fr.refl _ _
 refine Calls.mono (bCh KR hs HW.out) ?_
 rintro ee U1 ⟨rfl,KO,G⟩
 replace FU:=FU.trans (G.mono (by simp))
 replace BC:=BC.fr G (by simpa using fun e=>hrm e.symm) hBl
 clear G KR hr0 hm0 hS0
 go_wp2_with fail
 refine Calls.mono (N8 (k:=1) rfl (by omega) KO) ?_
 rintro ee V1 ⟨rfl,⟨e1,S1,T1⟩,G1⟩
 rw[← List.append_nil (aZ m.texts)] at S1
 go_wp2_with fail
 refine Calls.mono (aNc false (most:=100) rfl (by omega) hx0 (fun s hs=>hx8 s hs) (fun h=>by cases h) S1) ?_
 rintro ee V2 ⟨v0,rfl,f0,S2,G2⟩
 have l1:=Nll hBl FU.size
 obtain⟨B3,S3,G3⟩:=L6 (i:=0) (v:=v0) BC l1 hrm (G1.trans G2) S2 (by simp)
 obtain⟨⟨pv,pc⟩,pz⟩:=(BC.fr (G1.trans G2) (by simpa using fun e=>hrm e.symm) l1).cell (i:=0) (by simp)
 have l2:=Nll l1 G3.size
 simp only[List.set_cons_zero,List.set_cons_succ] at B3
 have far0:=(f0.base (B':=U0.heap.size) (Nat.le_trans FU.size G1.size)).fr (cG V2 mb 0 v0) (fun x hx=>HS0.out x (by simp at hx;simp[hx]))
 replace FU:=FU.trans G3
 have HSH:Hid _:=AI (I8 S3 T1) (AI B3 FU)
 obtain⟨aa0,cc0,-,-,rfl,-⟩:=f0
 clear KO BC FU B3 S3 G3 G1 G2 S1 S2 T1 l1
 go_wp2_with fail
 obtain⟨hsh,BC,FU⟩:=HSH.out
 refine Calls.mono hsh ?_
 rintro ee U2 ⟨rfl,KO,G⟩
 replace far0:=far0.fr (G.mono (by simp):Fr [r,mb] _ _) HS0.out
 replace FU:=FU.trans (G.mono (by simp))
 replace BC:=BC.fr G (by simpa using fun e=>hrm e.symm) l2
 clear G hsh HSH pc pz l2
 go_wp2_with fail
 refine Calls.mono (N8 (k:=2) rfl (by omega) KO) ?_
 rintro ee V1 ⟨rfl,⟨e1,S1,T1⟩,G1⟩
 rw[← List.append_nil (aZ m.pats)] at S1
 go_wp2_with fail
 refine Calls.mono (aNc true (most:=50) rfl (by omega) hx1 (fun s hs=>(hx9 s hs).1) (fun _ s hs=>(hx9 s hs).2) S1) ?_
 rintro ee V2 ⟨v1,rfl,f1,S2,G2⟩
 have l1:=Nll hBl FU.size
 obtain⟨B3,S3,G3⟩:=L6 (i:=1) (v:=v1) BC l1 hrm (G1.trans G2) S2 (by simp)
 obtain⟨⟨pv,pc⟩,pz⟩:=(BC.fr (G1.trans G2) (by simpa using fun e=>hrm e.symm) l1).cell (i:=1) (by simp)
 have l2:=Nll l1 G3.size
 simp only[List.set_cons_zero,List.set_cons_succ] at B3
 have hdis:∀ g,(Value.slice aa0 m.texts.length cc0).ownBlock=some g→v1.ownBlock=some g→False:=fun g e0 e1=>by
  have:=(far0.own.lt g e0).2
  have:=(f1.own.lt g e1).1
  have:=G1.size
  omega
 have far1:=(f1.base (B':=U0.heap.size) (Nat.le_trans FU.size G1.size)).fr (cG V2 mb 1 v1) (fun x hx=>HS0.out x (by simp at hx;simp[hx]))
 replace far0:=far0.fr G3 HS0.out
 replace FU:=FU.trans G3
 have HSH:Hid _:=AI (I8 S3 T1) (AI B3 FU)
 obtain⟨aa1,cc1,-,-,rfl,-⟩:=f1
 clear KO BC FU B3 S3 G3 G1 G2 S1 S2 T1 l1
 go_wp2_with fail
 obtain⟨hsh,BC,FU⟩:=HSH.out
 refine Calls.mono hsh ?_
 rintro ee U2 ⟨rfl,KO,G⟩
 replace far0:=far0.fr (G.mono (by simp):Fr [r,mb] _ _) HS0.out
 replace far1:=far1.fr (G.mono (by simp):Fr [r,mb] _ _) HS0.out
 replace FU:=FU.trans (G.mono (by simp))
 replace BC:=BC.fr G (by simpa using fun e=>hrm e.symm) l2
 clear G hsh HSH pc pz l2
 go_wp2_with fail
 refine Calls.mono (N8 (k:=3) rfl (by omega) KO) ?_
 rintro ee V1 ⟨rfl,⟨e1,S1,T1⟩,G1⟩
 rw[← List.append_nil (aY gN)] at S1
 go_wp2_with fail
 refine Calls.mono (O0 (lo:=0) (hi:=1000) rfl rfl (by omega) (by omega) (by omega) S1) ?_
 rintro ee V2 ⟨rfl,S2,G2⟩
 have l1:=Nll hBl FU.size
 obtain⟨B3,S3,G3⟩:=L6 (i:=2) (v:=(.int .i64 gN)) BC l1 hrm (G1.trans G2) S2 (by simp)
 obtain⟨⟨pv,pc⟩,pz⟩:=(BC.fr (G1.trans G2) (by simpa using fun e=>hrm e.symm) l1).cell (i:=2) (by simp)
 have l2:=Nll l1 G3.size
 simp only[List.set_cons_zero,List.set_cons_succ] at B3
 replace far0:=far0.fr G3 HS0.out
 replace far1:=far1.fr G3 HS0.out
 replace FU:=FU.trans G3
 have HSH:Hid _:=AI (I8 S3 T1) (AI B3 FU)
 clear KO BC FU B3 S3 G3 G1 G2 S1 S2 T1 l1
 go_wp2_with fail
 obtain⟨hsh,BC,FU⟩:=HSH.out
 refine Calls.mono hsh ?_
 rintro ee U2 ⟨rfl,KO,G⟩
 replace far0:=far0.fr (G.mono (by simp):Fr [r,mb] _ _) HS0.out
 replace far1:=far1.fr (G.mono (by simp):Fr [r,mb] _ _) HS0.out
 replace FU:=FU.trans (G.mono (by simp))
 replace BC:=BC.fr G (by simpa using fun e=>hrm e.symm) l2
 clear G hsh HSH pc pz l2
 go_wp2_with fail
 refine Calls.mono (N8 (k:=4) rfl (by omega) KO) ?_
 rintro ee V1 ⟨rfl,⟨e1,S1,T1⟩,G1⟩
 rw[← List.append_nil (aY aN)] at S1
 go_wp2_with fail
 refine Calls.mono (O0 (lo:=0) (hi:=1000) rfl rfl (by omega) (by omega) (by omega) S1) ?_
 rintro ee V2 ⟨rfl,S2,G2⟩
 have l1:=Nll hBl FU.size
 obtain⟨B3,S3,G3⟩:=L6 (i:=3) (v:=(.int .i64 aN)) BC l1 hrm (G1.trans G2) S2 (by simp)
 obtain⟨⟨pv,pc⟩,pz⟩:=(BC.fr (G1.trans G2) (by simpa using fun e=>hrm e.symm) l1).cell (i:=3) (by simp)
 have l2:=Nll l1 G3.size
 simp only[List.set_cons_zero,List.set_cons_succ] at B3
 replace far0:=far0.fr G3 HS0.out
 replace far1:=far1.fr G3 HS0.out
 replace FU:=FU.trans G3
 have HSH:Hid _:=AI (I8 S3 T1) (AI B3 FU)
 clear KO BC FU B3 S3 G3 G1 G2 S1 S2 T1 l1
 go_wp2_with fail
 obtain⟨hsh,BC,FU⟩:=HSH.out
 refine Calls.mono hsh ?_
 rintro ee U2 ⟨rfl,KO,G⟩
 replace far0:=far0.fr (G.mono (by simp):Fr [r,mb] _ _) HS0.out
 replace far1:=far1.fr (G.mono (by simp):Fr [r,mb] _ _) HS0.out
 replace FU:=FU.trans (G.mono (by simp))
 replace BC:=BC.fr G (by simpa using fun e=>hrm e.symm) l2
 clear G hsh HSH pc pz l2
 go_wp2_with fail
 refine Calls.mono (N8 (k:=5) rfl (by omega) KO) ?_
 rintro ee V1 ⟨rfl,⟨e1,S1,T1⟩,G1⟩
 rw[← List.append_nil (gZ m.fns)] at S1
 go_wp2_with fail
 refine Calls.mono (aYv ⟨hx2,hx3⟩ hx10 S1) ?_
 rintro ee V2 ⟨v4,rfl,f4,S2,G2⟩
 have l1:=Nll hBl FU.size
 obtain⟨B3,S3,G3⟩:=L6 (i:=4) (v:=v4) BC l1 hrm (G1.trans G2) S2 (by simp)
 obtain⟨⟨pv,pc⟩,pz⟩:=(BC.fr (G1.trans G2) (by simpa using fun e=>hrm e.symm) l1).cell (i:=4) (by simp)
 have l2:=Nll l1 G3.size
 simp only[List.set_cons_zero,List.set_cons_succ] at B3
 have far4:=(f4.base (B':=U0.heap.size) (Nat.le_trans FU.size G1.size)).fr (cG V2 mb 4 v4) (fun x hx=>HS0.out x (by simp at hx;simp[hx]))
 replace far0:=far0.fr G3 HS0.out
 replace far1:=far1.fr G3 HS0.out
 replace FU:=FU.trans G3
 have HSH:Hid _:=AI (I8 S3 T1) (AI B3 FU)
 obtain⟨aa4,cc4,-,-,rfl,-⟩:=f4
 clear KO BC FU B3 S3 G3 G1 G2 S1 S2 T1 l1
 go_wp2_with fail
 obtain⟨hsh,BC,FU⟩:=HSH.out
 refine Calls.mono hsh ?_
 rintro ee U2 ⟨rfl,KO,G⟩
 replace far0:=far0.fr (G.mono (by simp):Fr [r,mb] _ _) HS0.out
 replace far1:=far1.fr (G.mono (by simp):Fr [r,mb] _ _) HS0.out
 replace far4:=far4.fr (G.mono (by simp):Fr [r,mb] _ _) HS0.out
 replace FU:=FU.trans (G.mono (by simp))
 replace BC:=BC.fr G (by simpa using fun e=>hrm e.symm) l2
 clear G hsh HSH pc pz l2
 obtain⟨A,E,KC,hA,hseg⟩:=KO
 have hlB:=aD b
 have hA2:A=(body m).length:=by
  have h1:=bS (l:=bl b) (a:=A) (e:=b.size) (by omega)
  have h3:(dG (body m)).length=3:=rfl
  rw[hseg,h3] at h1
  rw[HB.out,Wire.written,Lla,h3] at hlB
  omega
 have e1:b.extract A b.size=mkB (dG (body m)):=mO (by rw[bZ,hseg,zK])
 have e2:bl (b.extract 0 A)=body m:=by rw[bZ,HB.out,hA2];unfold seg;rw[List.drop_zero,Wire.written,List.take_left]
 have hS:=fun (W:World)=>H7 (b.extract 0 A) W (by rw[ByteArray.size_extract];omega)
 rw[e2] at hS
 change ∀ W:World,Calls prog 25 _ W (fun e w'=>e=.returned (.string (mkB (dG (body m))))∧Fr [] W w') at hS
 have HS:Hid _:=hS
 obtain⟨SS,hSS⟩:∃ x,mkB (dG (body m))=x:=⟨_,rfl⟩
 rw[hSS] at HS e1
 have E1:Hid _:=e1
 have hb0:(0:Int)≤(A:Int):=by omega
 have hb1:(A:Int)≤(b.size:Int):=by omega
 have RU:=(FU.block _ (Age.1 hres).1 (by simp;omega)).trans hres
 have FW:Fr [] w U2:=F0.trans' FU (fun x hx=>.inr (by simp at hx;omega))
 have hwB:w.heap.size<U0.heap.size:=by omega
 obtain⟨c0,c1,c2,c3,c4,-⟩:=KC
 clear hS hSS e1 e2 HB HW hA2 hlB hseg FU F0 hres hx0 hx1 hx2 hx3 hx4 hx5 hx6 hx7 hx8 hx9 hx10
 go_wp2
 refine aE (fun w1:World=>w1.cell? ⟨r,0,none⟩=some (.string b)∧w1.cell? ⟨r,1,none⟩=some (.int .i64 A)∧w1.cell? ⟨r,3,none⟩=some (.int .i64 (0:Nat))) hm ?_
 have hS:(fun w1:World=>w1.cell? ⟨r,0,none⟩=some (.string b)∧w1.cell? ⟨r,1,none⟩=some (.int .i64 A)∧w1.cell? ⟨r,3,none⟩=some (.int .i64 (0:Nat))) U2.drew:=AI c0 (AI c1 c3)
 refine aH (fun _ _ _ _ _ h=>h) hS [0,1,2,3,4,5,6,7,8,9,10,11,12,13,14,15,16,17] (by kernel_rfl) ?_
 iterate 18
  refine Yls.cons (v:=?_) rfl (.inl ⟨rfl,fun w1 hS1=>?_⟩) ?_
  rotate_left
  ·obtain⟨q0,q1,q2⟩:=hS1
   go_simp
   first | rfl | (refine (if_neg (by omega)).trans ?_;rfl)
  simp only[Act.put,Z1,Z2,Z3,Z4,Z5,Z6]
 refine Yls.nil ?_
 refine rd1 (r:=18) (by kernel_rfl) rfl fun K' hK=>?_
 go_simp
 refine (HS.out _).mono ?_
 rintro ee W9 ⟨rfl,G9⟩
 have F9:Fr [] U2 W9:=⟨G9.os,G9.tape,G9.output,G9.size,G9.block⟩
 have cl:=fun i=>F9.cell (p:=⟨r,i,none⟩) (aC (a:=⟨r,0,none⟩) c0) (by simp)
 have hS2:=AI ((cl 0).trans c0) (AI ((cl 1).trans c1) ((cl 3).trans c3))
 refine hK _ _ hS2 ?_
 clear hK K' hS
 intro _
 refine rd1 (r:=19) (by kernel_rfl) rfl fun K' hK=>?_
 go_simp
 refine hK _ _ hS2 ?_
 clear hK K'
 intro _
 refine rd1 (r:=20) (by kernel_rfl) rfl fun K' hK=>?_
 go_simp
 refine hK _ _ hS2 ?_
 clear hK K'
 intro _
 refine wpAnyH_done (by kernel_rfl) ?_ _
 have g3:((b.extract A b.size).toList==SS.toList)=true:=by rw[uT];simp[E1.out]
 simp only[g3,Bool.not_true]
 have l9:=Nll (Age.1 RU).1 (Nat.le_refl _)
 have B9:=BC.fr F9 (by simp) (aC (a:=⟨mb,0,none⟩) (BC.cs 0))
 have a0:=B9.cs 0
 have a1:=B9.cs 1
 have a2:=B9.cs 2
 have a3:=B9.cs 3
 have a4:=B9.cs 4
 simp only[List.getElem?_cons_zero,List.getElem?_cons_succ] at a0 a1 a2 a3 a4
 have R9:CB W9 w.heap.size [.slice none 0 0,.slice none 0 0,.int .i64 0,.int .i64 0,.slice none 0 0]:=CB.of ((F9.block _ (Age.1 RU).1 (by simp)).trans RU)
 have r0:=R9.cs 0
 have r1:=R9.cs 1
 have r2:=R9.cs 2
 have r3:=R9.cs 3
 have r4:=R9.cs 4
 have rz:=R9.fz
 simp only[List.getElem?_cons_zero,List.getElem?_cons_succ] at r0 r1 r2 r3 r4
 have FP:=cV W9 w.heap.size (.slice aa0 m.texts.length cc0) (.slice aa1 m.pats.length cc1) (.int .i64 gN) (.int .i64 aN) (.slice aa4 m.fns.length cc4)
 have hS1:∀ x,x ∈ [w.heap.size]→x<U0.heap.size:=fun x hx=>by simp at hx;omega
 have hmod:lU w.heap.size (cK W9 w.heap.size (.slice aa0 m.texts.length cc0) (.slice aa1 m.pats.length cc1) (.int .i64 gN) (.int .i64 aN) (.slice aa4 m.fns.length cc4)) (.agg #[.slice aa0 m.texts.length cc0,.slice aa1 m.pats.length cc1,.int .i64 gN,.int .i64 aN,.slice aa4 m.fns.length cc4]) m:=
  ⟨_,_,_,by rw[eg,ea],((far0.fr F9 (by simp)).fr FP hS1).base (by omega),((far1.fr F9 (by simp)).fr FP hS1).base (by omega),((far4.fr F9 (by simp)).fr FP hS1).base (by omega),hdis⟩
 have HY:Hid _:=bQ (W:=W9) (g:=w.heap.size) (.slice aa0 m.texts.length cc0) (.slice aa1 m.pats.length cc1) (.int .i64 gN) (.int .i64 aN) (.slice aa4 m.fns.length cc4) r0 r1 r2 r3 r4
 have HZ:Hid _:=AI ((FW.trans F9).trans' FP (fun x hx=>.inr (by simp at hx;omega))) hmod
 clear g3 hmod FP FW HS E1 hS2 G9 F9 B9 R9 c0 c1 c2 c3 c4 cl hdis far0 far1 far4 RU BC
 go_wp2
 obtain⟨y0,y1,y2,y3,y4⟩:=HY.out
 obtain⟨FZ,MZ⟩:=HZ.out
 clear HY HZ
 change bodyPost prog f14 (aZo m w) Exit.ret _ (cK W9 w.heap.size (.slice aa0 m.texts.length cc0) (.slice aa1 m.pats.length cc1) (.int .i64 gN) (.int .i64 aN) (.slice aa4 m.fns.length cc4))
 clear r0 r1 r2 r3 r4 rz a0 a1 a2 a3 a4
 generalize cK W9 w.heap.size (.slice aa0 m.texts.length cc0) (.slice aa1 m.pats.length cc1) (.int .i64 gN) (.int .i64 aN) (.slice aa4 m.fns.length cc4)=Z at *
 refine bodyPost_ret (v:=.tuple #[.agg #[.slice aa0 m.texts.length cc0,.slice aa1 m.pats.length cc1,.int .i64 gN,.int .i64 aN,.slice aa4 m.fns.length cc4],.int .i64 0,.int .i64 0]) (by simp[results,results14,go_sem,y0,y1,y2,y3,y4]) rfl ?_
 exact⟨FZ,aa0,aa1,aa4,_,cc0,_,cc1,_,cc4,gN,aN,rfl,MZ⟩
open Wire Flow Mach
theorem aZf {m:Mo}(b:ByteArray)(w:World)(hw:cE ipF m=true)(hb:bl b=Wire.written m)(hs:b.size≤40000)(hT:nQ w)(hT2:pY w) :
  Calls prog 8 #[.string b] w fun e w'=>Fr [] w w'∧∃ f p x:Nat,e=.returned (.tuple #[.int .i64 f,.int .i64 p,.int .i64 x])∧Y6 m f p x∧x≤100:=by
 have hu:=aSx b w hw hb hs
 go_enter func8,ntmps8
 go_wp2_with fail
 refine hu.mono ?_
 rintro ee w1 ⟨F1,a0,a1,a4,n0,c0,n1,c1,n4,c4,gn,an,rfl,hM⟩
 obtain⟨hMo,h3⟩:=jB hw
 have hMI:=hM.mod
 obtain⟨W1,hW1⟩:=eX (w1.alloc (.cells #[.slice a0 n0 c0,.slice a1 n1 c1,.int .i64 gn,.int .i64 an,.slice a4 n4 c4] 25))
 have FA:Fr [] w1 W1:=by rw[← hW1];exact (Fr.refl [] w1).alloc _
 have k1:=wan w1 (.cells #[.slice a0 n0 c0,.slice a1 n1 c1,.int .i64 gn,.int .i64 an,.slice a4 n4 c4] 25)
 rw[hW1] at k1
 have kl:=(Age.1 k1).1
 have hcs:∀ W,Fr [] W1 W→(W.cell? ⟨w1.heap.size,0,none⟩=some (.slice a0 n0 c0)∧W.cell? ⟨w1.heap.size,1,none⟩=some (.slice a1 n1 c1)∧W.cell? ⟨w1.heap.size,2,none⟩=some (.int .i64 gn)∧W.cell? ⟨w1.heap.size,3,none⟩=some (.int .i64 an)∧W.cell? ⟨w1.heap.size,4,none⟩=some (.slice a4 n4 c4)):=fun W hW=>by
  have e1:∀ j v,(#[.slice a0 n0 c0,.slice a1 n1 c1,.int .i64 gn,.int .i64 an,.slice a4 n4 c4]:Array Value)[j]?=some v→W.cell? ⟨w1.heap.size,j,none⟩=some v:=fun j v hv=>by
   unfold World.cell?
   rw[hW.block _ kl (by simp),k1]
   exact hv
  exact⟨e1 0 _ rfl,e1 1 _ rfl,e1 2 _ rfl,e1 3 _ rfl,e1 4 _ rfl⟩
 have hn4:n4=m.fns.length:=by
  obtain⟨tv,pv,fv,hv,-,-,hfn⟩:=hMI.is
  obtain⟨aa,cap,g,off,hv2,-⟩:=hfn
  subst hv2
  simp only[Value.agg.injEq,Array.mk.injEq,List.cons.injEq,Value.slice.injEq] at hv
  exact hv.2.2.2.2.1.2.1
 have hck:=fun (W:World) (hW:Fr [] W1 W) (k:Nat) (x:Wire.Fn) (hx:m.fns[k]?=some x)=>yI _ m W k x (hT.fr ((F1.trans FA).trans hW)) (hT2.fr ((F1.trans FA).trans hW)) (hMI.fr (FA.trans hW)) hMo hx
 have HCk:Hid _:=fun (_:Unit)=>hck
 have HCs:Hid _:=hcs
 have F1A:=F1.trans FA
 have HX:Hid _:=AI F1A (AI hn4 h3)
 have hn1000:n4≤1000:=by rw[hn4];exact hMo.f.n
 clear hck hcs hMo hMI hM hu FA F1 F1A k1 kl hT hT2 h3 hn4 hw hb hs
 go_wp2
 clear hW1
 go_loopw [8] (fun i wr=>∃ k:Nat,i=.int .i64 (k:Nat)∧k≤n4∧Fr [] W1 wr∧Hid (∀ q,q<k→∃ r,C6 m q r 0)) (fun i _=>n4-(intOf i).toNat)
 case atStart=>exact⟨0,rfl,by omega,Fr.refl [] _,fun q hq=>absurd hq (by omega)⟩
 case round=>
  obtain⟨k,rfl,hk,FW,hA⟩:=hrel
  obtain⟨d0,d1,d2,d3,d4⟩:=HCs.out wr FW
  by_cases hlt:k<n4
  ·have g1:(k:Int)<(n4:Int):=by omega
   obtain⟨x,hx⟩:∃ x,m.fns[k]?=some x:=⟨_,Lge (by rw[← HX.out.2.1];exact hlt)⟩
   have hcall:=HCk.out () wr FW k x hx
   have HCall:Hid _:=fun (_:Unit)=>hcall
   clear hcall
   go_wp2_with fail
   refine (HCall.out ()).mono ?_
   rintro ee w3 ⟨F3,p,y,rfl,hans,hp2,hy2⟩
   clear d0 d1 d2 d3 d4 HCall
   by_cases hy0:y=0
   ·subst hy0
    go_wp2
    refine⟨⟨k+1,by go_num,by omega,FW.trans F3,fun q hq=>?_⟩,?_⟩
    ·by_cases e:q<k
     ·exact hA.out q e
     ·have e2:q=k:=by omega
      subst e2
      exact⟨p,x,hx,hans⟩
    ·simp[intOf]
     omega
   ·have q1:((y:Int)==0)=false:=by simp;omega
    have q2:((y:Int)!=0)=true:=by simp;omega
    go_wp2
    go_ret3
    exact⟨(HX.out.1.trans FW).trans F3,k,p,y,rfl,.inr ⟨hy0,⟨x,hx,hans⟩,hA.out⟩,by omega⟩
  ·have g1:¬ (k:Int)<(n4:Int):=by omega
   go_wp2
   go_ret3
   exact⟨HX.out.1.trans FW,0,0,0,rfl,.inl ⟨rfl,rfl,rfl,fun q hq=>hA.out q (by have:=HX.out.2.1;omega)⟩,by omega⟩
theorem c5F {w:World}{b:Nat}{v0 v1 v2 v3 v4:Value}{t:TypeId}(h:w.heap[b]?=some (.cells #[v0,v1,v2,v3,v4] t)):(w.cell? ⟨b,0,none⟩=some v0∧w.cell? ⟨b,1,none⟩=some v1∧w.cell? ⟨b,2,none⟩=some v2∧w.cell? ⟨b,3,none⟩=some v3∧w.cell? ⟨b,4,none⟩=some v4)∧∀ j,w.frozen? ⟨b,j,none⟩=false:=by
 refine⟨⟨?_,?_,?_,?_,?_⟩,fun j=>?_⟩ <;> first | (unfold World.cell?;rw[h];rfl) | (unfold World.frozen?;rw[h];simp)
def s5W (w:World)(b:Nat)(v0 v1 v2 v3 v4:Value):World:=((((w.setCell ⟨b,0,none⟩ v0).setCell ⟨b,1,none⟩ v1).setCell ⟨b,2,none⟩ v2).setCell ⟨b,3,none⟩ v3).setCell ⟨b,4,none⟩ v4
theorem s5b {w:World}{b:Nat}{u0 u1 u2 u3 u4:Value}{t:TypeId}(h:w.heap[b]?=some (.cells #[u0,u1,u2,u3,u4] t))(v0 v1 v2 v3 v4:Value):(s5W w b v0 v1 v2 v3 v4).heap[b]?=some (.cells #[v0,v1,v2,v3,v4] t):=by
 have hl:=(Array.getElem?_eq_some_iff.1 h).1
 have hg:=(Array.getElem?_eq_some_iff.1 h).2
 unfold s5W World.setCell
 simp[hl,Array.getElem_modify,hg]
theorem rr3 {P:Program}{fn:Func}{p u v x:Tmp}{ty:TypeId}(h:fn.results=#[.cell p ty,.tmp u,.tmp v,.tmp x])(tmps:Array Value)(w:World)(g:Nat)(t:TypeId)(cs:Array Value)(fr:Nat × Nat)(d:TypeDesc)(hp:tmps.getD p undef=.pointer (some ⟨g,0,none⟩))(hg:w.heap[g]?=some (.cells cs t fr))
  (hu:P.underlying ty=some d)(hd:(match d with | .struct _ | .array _ _=>true | _=>false)=true)(hi:(P.info? ty).map (·.size)=some cs.size):(results fn tmps).run P w=.ok (.tuple #[.agg cs,tmps.getD u undef,tmps.getD v undef,tmps.getD x undef]) w:=by
 have hp':tmps[p]?.getD undef=.pointer (some ⟨g,0,none⟩):=by simpa using hp
 simp[results,h,hp',asAddr,run_loadVar_row w g t ty cs fr d hg hu hd hi]
theorem ckd {m:Mo}(b:ByteArray)(w:World)(hw:cE ipF m=true)(hb:bl b=Wire.written m)(hs:b.size≤40000)(hT:Tab w) :
  Calls prog 11 #[.string b] w fun e w'=>∃ (a0 a1 a4:Option Addr)(n0 c0 n1 c1 n4 c4:Nat)(gn an:Int)(f p x:Nat),e=.returned (.tuple #[.agg #[.slice a0 n0 c0,.slice a1 n1 c1,.int .i64 gn,.int .i64 an,.slice a4 n4 c4],.int .i64 f,.int .i64 p,.int .i64 x])∧Fr [] w w'∧Y6 m f p x∧x≤100:=by
 obtain⟨hMo,h3⟩:=jB hw
 obtain⟨W1,hW1⟩:=eX (w.alloc (.cells #[.slice none 0 0,.slice none 0 0,.int .i64 0,.int .i64 0,.slice none 0 0] 25))
 have F1:Fr [] w W1:=by rw[← hW1];exact (Fr.refl [] w).alloc _
 have k1:=wan w (.cells #[.slice none 0 0,.slice none 0 0,.int .i64 0,.int .i64 0,.slice none 0 0] 25)
 rw[hW1] at k1
 have HU:Hid _:=aXh b W1 hw hb hs (hT.fr F1 (by simp))
 have H1:Hid _:=AI F1 k1
 have HM:Hid _:=AI hMo h3
 clear F1 k1 hb hT hMo h3 hw hs
 go_enter func11,ntmps11
 go_wp2_with fail
 refine Calls.mono HU.out ?_
 rintro e W2 ⟨F2,a0,a1,a4,n0,c0,n1,c1,n4,c4,gn,an,rfl,hM⟩
 have H2:Hid _:=AI F2 hM
 clear F2 hM HU
 obtain⟨W3,hW3⟩:=eX (W2.alloc (.cells #[.slice a0 n0 c0,.slice a1 n1 c1,.int .i64 gn,.int .i64 an,.slice a4 n4 c4] 25))
 have F3:Fr [] W2 W3:=by rw[← hW3];exact (Fr.refl [] W2).alloc _
 have k3:=wan W2 (.cells #[.slice a0 n0 c0,.slice a1 n1 c1,.int .i64 gn,.int .i64 an,.slice a4 n4 c4] 25)
 rw[hW3] at k3
 obtain⟨⟨q0,q1,q2,q3,q4⟩,-⟩:=c5F k3
 have H3:Hid _:=AI F3 k3
 clear F3 k3
 go_wp2_with fail
 refine Calls.mono (U6 _ m W3 (H2.out.2.mod.fr H3.out.1) HM.out.1 HM.out.2) ?_
 rintro e W4 ⟨F4,f,p,x,rfl,hA,hx⟩
 have l1:w.heap.size<W1.heap.size:=(Age.1 H1.out.2).1
 have l3:W2.heap.size<W3.heap.size:=(Age.1 H3.out.2).1
 have FA:Fr [] W1 W4:=(H2.out.1.trans H3.out.1).trans F4
 have k4:=(FA.block w.heap.size l1 (by simp)).trans H1.out.2
 have k5:=(F4.block W2.heap.size l3 (by simp)).trans H3.out.2
 obtain⟨⟨r0,r1,r2,r3,r4⟩,-⟩:=c5F k5
 obtain⟨⟨s0,s1,s2,s3,s4⟩,fz⟩:=c5F k4
 have f0:=fz 0
 have f1:=fz 1
 have f2:=fz 2
 have f3:=fz 3
 have f4:=fz 4
 have HS:Hid _:=s5b k4
 have HF:Hid _:=AI (H1.out.1.trans FA) (AI hA hx)
 clear FA k4 k5 q0 q1 q2 q3 q4 F4 hA hx fz H1 H2 H3 HM l1 l3
 go_wp2_with fail
 refine bodyPost_ret (rr3 rfl _ _ w.heap.size 25 #[.slice a0 n0 c0,.slice a1 n1 c1,.int .i64 gn,.int .i64 an,.slice a4 n4 c4] (0, 0) _ rfl (HS.out _ _ _ _ _) underlying25 rfl (by kernel_rfl)) rfl ?_
 have hl:=Nat.le_refl w.heap.size
 exact⟨a0,a1,a4,n0,c0,n1,c1,n4,c4,_,_,f,p,x,rfl,((((HF.out.1.setCell (.inr hl) _).setCell (.inr hl) _).setCell (.inr hl) _).setCell (.inr hl) _).setCell (.inr hl) _,HF.out.2⟩
theorem bCw {m:Mo}(b:ByteArray)(w:World)(hw:cE ipF m=true)(hb:bl b=Wire.written m)(hs:b.size≤40000)(hT:Tab w) :
  Calls prog 5 #[.string b] w fun e w'=>Fr [] w w'∧∃ f p x:Nat,e=.returned (.tuple #[.int .i64 f,.int .i64 p,.int .i64 x])∧Y6 m f p x∧x≤100:=by
 have HU:Hid _:=ckd b w hw hb hs hT
 clear hw hb hs hT
 go_enter func5,ntmps5
 go_wp2_with fail
 refine Calls.mono HU.out ?_
 rintro e W2 ⟨a0,a1,a4,n0,c0,n1,c1,n4,c4,gn,an,f,p,x,rfl,F2,hA⟩
 have H2:Hid _:=AI F2 hA
 clear F2 hA HU
 go_wp2_with fail
 refine bodyPost_ret (results_tmp3 rfl _ _ _) rfl ?_
 exact⟨H2.out.1.alloc _,f,p,x,rfl,H2.out.2⟩
end Go.Proofs.YtgpamchpeamnfaaGreatDoor
