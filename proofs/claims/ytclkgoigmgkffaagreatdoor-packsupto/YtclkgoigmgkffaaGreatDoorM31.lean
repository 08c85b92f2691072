/-
  Texts Lh Li Lj Lk Ll.
-/
import Derived.Laws.CopyOwn
import Derived.Test.YtclkgoigmgkffaaGreatDoorM30
set_option linter.unusedSimpArgs false
set_option linter.unusedVariables false
set_option maxRecDepth 100000
set_option maxHeartbeats 40000000
namespace Go.Proofs.YtclkgoigmgkffaaGreatDoor
open Go.RowKit
open Wire Flow Mach
theorem flatZ_at (z:Nat):∀ (bk:List Bk) (k:Nat) (x:Bk),(∀ y ∈ bk,y.m.length=z)→bk[k]?=some x→∀ i,i<z+4→(bk.flatMap Bk.cells)[k*(z+4)+i]?=x.cells[i]?
 | [],k,x,hz,h,i,hi=>by simp at h
 | y :: r,0,x,hz,h,i,hi=>by
  obtain rfl:y=x:=by simpa using h
  have:=hz y (by simp)
  rw[List.flatMap_cons,List.getElem?_append_left (by simp[Bk.cells];omega)]
  simp
 | y :: r,k+1,x,hz,h,i,hi=>by
  have h':r[k]?=some x:=by simpa using h
  have hy:=hz y (by simp)
  have e0:(k+1)*(z+4)=k*(z+4)+(z+4):=Nat.succ_mul _ _
  rw[List.flatMap_cons,List.getElem?_append_right (by simp[Bk.cells];omega)]
  have e:(k+1)*(z+4)+i-y.cells.length=k*(z+4)+i:=by simp[Bk.cells];omega
  rw[e]
  exact flatZ_at z r k x (fun y hy=>hz y (by simp[hy])) h' i hi
theorem looksP_any (w0 W:World) (b:Nat) (tag:Nat→Nat) (c:Nat→Value) (ms:Value) (bs:ByteArray) (N:Nat→Nat) (X:Nat→List Value) (bk fk:List Bk) (I:ScP w0 W b tag c ms bs N X bk fk) (hbk:bk.length≤1000000000) (hfk:fk.length≤1000000000) :
  Calls Tryz.prog 18 #[.pointer (some ⟨b,0,none⟩)] W fun e W'=>e=.returned (.bool true)∧Fr [] W W':=by
 have d7:=I.core.cell 7 (by decide)
 have d8:=I.core.cell 8 (by decide)
 have r7:RowT w0.heap.size W tag 3 89 5 (c 7) (N 7) (X 7):=I.rows 7 (by unfold isR;omega)
 have r8:RowT w0.heap.size W tag 9 92 7 (c 8) (N 8) (X 8):=I.rows 8 (by unfold isR;omega)
 rw[I.k7.1,I.k7.2] at r7
 rw[I.k8.1,I.k8.2] at r8
 obtain⟨o7,cap7,e7⟩:=own_form r7.own
 obtain⟨o8,cap8,e8⟩:=own_form r8.own
 rw[e7] at d7 r7
 rw[e8] at d8 r8
 have hz7:∀ y ∈ bk,y.m.length=1:=fun y hy=>by
  obtain⟨s,hs⟩:=(I.books y hy).isM
  rw[hs];rfl
 have hz8:∀ y ∈ fk,y.m.length=3:=fun y hy=>by
  obtain⟨p,l,s,hs⟩:=(I.funcs y hy).isM
  rw[hs];rfl
 have hlt:=I.core.lt
 have HI:Hid _:=I
 have Hr7:Hid _:=And.intro r7 hz7
 have Hr8:Hid _:=And.intro r8 hz8
 clear I r7 e7 r8 e8 hz7 hz8
 go_enter Tryz.func18,Tryz.ntmps18
 go_wp2
 go_loopw [3] (fun i wr=>∃ k:Nat,k≤bk.length∧i=.int .i64 k∧Fr [] W wr) (fun i _=>bk.length-(intOf i).toNat)
 case atStart=>exact⟨0,by omega,rfl,Fr.refl _ _⟩
 case round=>
  obtain⟨k,hk,rfl,fr⟩:=hrel
  have a7:=(fr.cell (p:=⟨b,7,none⟩) hlt (by simp)).trans d7
  have a8:=(fr.cell (p:=⟨b,8,none⟩) hlt (by simp)).trans d8
  by_cases hkl:k<bk.length
  ·have g1:(k:Int)<bk.length:=by omega
   obtain⟨⟨m',l,v1,v2,v3⟩,hx⟩:∃ x,bk[k]?=some x:=⟨_,List.getElem?_eq_getElem hkl⟩
   have hxb:=HI.out.books _ (List.mem_of_getElem? hx)
   obtain⟨m,hm'⟩:=hxb.isM
   simp only at hm'
   subst hm'
   have r7:=Hr7.out.1
   obtain⟨g,rfl⟩:∃ g,o7=some ⟨g,0,none⟩:=by
    rcases r7.own.2 with ⟨_,h'⟩ | ⟨g,cap',cur,h',_⟩
    ·omega
    ·exact⟨g,by injection h'⟩
   have hgl:=(r7.own.lt g rfl).2
   have xc:∀ i,i<5→W.cell? ⟨g,k*5+i,none⟩=(Bk.cells ⟨[.string m],l,v1,v2,v3⟩)[i]?:=fun i hi=>by
    rw[r7.own.cellAt (k*5+i) (by omega)];exact flatZ_at 1 bk k _ Hr7.out.2 hx i hi
   have x0:wr.cell? ⟨g,k*5,none⟩=some (.string m):=(fr.cell (p:=⟨g,k*5,none⟩) hgl (by simp)).trans (xc 0 (by decide))
   have x1:wr.cell? ⟨g,k*5+1,none⟩=some l:=(fr.cell (p:=⟨g,k*5+1,none⟩) hgl (by simp)).trans (xc 1 (by decide))
   have x2:wr.cell? ⟨g,k*5+2,none⟩=some v1:=(fr.cell (p:=⟨g,k*5+2,none⟩) hgl (by simp)).trans (xc 2 (by decide))
   have x3:wr.cell? ⟨g,k*5+3,none⟩=some v2:=(fr.cell (p:=⟨g,k*5+3,none⟩) hgl (by simp)).trans (xc 3 (by decide))
   have x4:wr.cell? ⟨g,k*5+4,none⟩=some v3:=(fr.cell (p:=⟨g,k*5+4,none⟩) hgl (by simp)).trans (xc 4 (by decide))
   clear xc hx r7
   obtain⟨p1,p2,p3,rfl⟩:∃ o n cap,l=.slice o n cap:=hxb.l.form
   obtain⟨q1,q2,q3,rfl⟩:∃ o n cap,v1=.slice o n cap:=hxb.g1.form
   obtain⟨r1,r2,r3,rfl⟩:∃ o n cap,v2=.slice o n cap:=hxb.g2.form
   obtain⟨s1,s2,s3,rfl⟩:∃ o n cap,v3=.slice o n cap:=hxb.g3.form
   have fa:∀ ob,Fr [] W (wr.alloc ob):=fun ob=>fr.alloc ob
   have B:∀ ob,BkOk (wr.alloc ob) tag MkT ⟨[.string m],.slice p1 p2 p3,.slice q1 q2 q3,.slice r1 r2 r3,.slice s1 s2 s3⟩:=fun ob=>hxb.chg (S:=[]) (Chg.of_fr (fa ob)) (by simp)
   have Hb:Hid _:=B
   have Hfa:Hid _:=fa
   clear hxb B fa a8 d8
   go_wp2_with fail
   refine (allT_any _ m _ (Hb.out _).l).mono ?_
   rintro e wz ⟨rfl,rfl⟩
   go_wp2_with fail
   refine (allT_any _ m _ (Hb.out _).g1).mono ?_
   rintro e wz ⟨rfl,rfl⟩
   go_wp2_with fail
   refine (allT_any _ m _ (Hb.out _).g2).mono ?_
   rintro e wz ⟨rfl,rfl⟩
   go_wp2_with fail
   refine (allT_any _ m _ (Hb.out _).g3).mono ?_
   rintro e wz ⟨rfl,rfl⟩
   go_wp2
   exact⟨⟨k+1,by omega,by go_num,Hfa.out _⟩,by simp[intOf];omega⟩
  ·have g1:¬ ((k:Int)<bk.length):=by omega
   have Fr0:Hid _:=fr
   clear Hr7 hkl hk fr
   go_wp2
   go_loopw [9] (fun i wr=>∃ k:Nat,k≤fk.length∧i=.int .i64 k∧Fr [] W wr) (fun i _=>fk.length-(intOf i).toNat)
   case atStart=>exact⟨0,by omega,rfl,Fr0.out⟩
   case round=>
    clear g1 a7 a8 Fr0 d7
    obtain⟨k,hk,rfl,fr⟩:=hrel
    have a8:=(fr.cell (p:=⟨b,8,none⟩) hlt (by simp)).trans d8
    by_cases hkl:k<fk.length
    ·have g1:(k:Int)<fk.length:=by omega
     obtain⟨⟨m',l,v1,v2,v3⟩,hx⟩:∃ x,fk[k]?=some x:=⟨_,List.getElem?_eq_getElem hkl⟩
     have hxb:=HI.out.funcs _ (List.mem_of_getElem? hx)
     obtain⟨pp,pl,m,hm'⟩:=hxb.isM
     simp only at hm'
     subst hm'
     have r8:=Hr8.out.1
     obtain⟨g,rfl⟩:∃ g,o8=some ⟨g,0,none⟩:=by
      rcases r8.own.2 with ⟨_,h'⟩ | ⟨g,cap',cur,h',_⟩
      ·omega
      ·exact⟨g,by injection h'⟩
     have hgl:=(r8.own.lt g rfl).2
     have xc:∀ i,i<7→W.cell? ⟨g,k*7+i,none⟩=(Bk.cells ⟨[.int .i64 pp,.int .i64 pl,.string m],l,v1,v2,v3⟩)[i]?:=fun i hi=>by
      rw[r8.own.cellAt (k*7+i) (by omega)];exact flatZ_at 3 fk k _ Hr8.out.2 hx i hi
     have x0:wr.cell? ⟨g,k*7,none⟩=some (.int .i64 pp):=(fr.cell (p:=⟨g,k*7,none⟩) hgl (by simp)).trans (xc 0 (by decide))
     have x1:wr.cell? ⟨g,k*7+1,none⟩=some (.int .i64 pl):=(fr.cell (p:=⟨g,k*7+1,none⟩) hgl (by simp)).trans (xc 1 (by decide))
     have x2:wr.cell? ⟨g,k*7+2,none⟩=some (.string m):=(fr.cell (p:=⟨g,k*7+2,none⟩) hgl (by simp)).trans (xc 2 (by decide))
     have x3:wr.cell? ⟨g,k*7+3,none⟩=some l:=(fr.cell (p:=⟨g,k*7+3,none⟩) hgl (by simp)).trans (xc 3 (by decide))
     have x4:wr.cell? ⟨g,k*7+4,none⟩=some v1:=(fr.cell (p:=⟨g,k*7+4,none⟩) hgl (by simp)).trans (xc 4 (by decide))
     have x5:wr.cell? ⟨g,k*7+5,none⟩=some v2:=(fr.cell (p:=⟨g,k*7+5,none⟩) hgl (by simp)).trans (xc 5 (by decide))
     have x6:wr.cell? ⟨g,k*7+6,none⟩=some v3:=(fr.cell (p:=⟨g,k*7+6,none⟩) hgl (by simp)).trans (xc 6 (by decide))
     clear xc hx r8
     obtain⟨p1,p2,p3,rfl⟩:∃ o n cap,l=.slice o n cap:=hxb.l.form
     obtain⟨q1,q2,q3,rfl⟩:∃ o n cap,v1=.slice o n cap:=hxb.g1.form
     obtain⟨r1,r2,r3,rfl⟩:∃ o n cap,v2=.slice o n cap:=hxb.g2.form
     obtain⟨s1,s2,s3,rfl⟩:∃ o n cap,v3=.slice o n cap:=hxb.g3.form
     have hAl:=World.alloc_heap_new wr (Obj.cells #[.int .i64 pp,.int .i64 pl,.string m,.slice p1 p2 p3,.slice q1 q2 q3,.slice r1 r2 r3,.slice s1 s2 s3] 92)
     have fa:Fr [] W (wr.alloc (Obj.cells #[.int .i64 pp,.int .i64 pl,.string m,.slice p1 p2 p3,.slice q1 q2 q3,.slice r1 r2 r3,.slice s1 s2 s3] 92)):=fr.alloc _
     have hbl:=(Array.getElem?_eq_some_iff.1 hAl).1
     have bc:∀ i,(wr.alloc (Obj.cells #[.int .i64 pp,.int .i64 pl,.string m,.slice p1 p2 p3,.slice q1 q2 q3,.slice r1 r2 r3,.slice s1 s2 s3] 92)).cell? ⟨wr.heap.size,i,none⟩=(#[Value.int .i64 pp,.int .i64 pl,.string m,.slice p1 p2 p3,.slice q1 q2 q3,.slice r1 r2 r3,.slice s1 s2 s3]:Array Value)[i]?:=fun i=>by
      unfold World.cell?;rw[hAl];rfl
     have B:∀ w',Fr [] (wr.alloc (Obj.cells #[.int .i64 pp,.int .i64 pl,.string m,.slice p1 p2 p3,.slice q1 q2 q3,.slice r1 r2 r3,.slice s1 s2 s3] 92)) w'→BkOk w' tag MkF ⟨[.int .i64 pp,.int .i64 pl,.string m],.slice p1 p2 p3,.slice q1 q2 q3,.slice r1 r2 r3,.slice s1 s2 s3⟩∧Fr [] W w'∧(∀ i,w'.cell? ⟨wr.heap.size,i,none⟩=(#[Value.int .i64 pp,.int .i64 pl,.string m,.slice p1 p2 p3,.slice q1 q2 q3,.slice r1 r2 r3,.slice s1 s2 s3]:Array Value)[i]?):=fun w' hw=>⟨hxb.chg (S:=[]) (Chg.of_fr (fa.trans hw)) (by simp),fa.trans hw,fun i=>(hw.cell (p:=⟨wr.heap.size,i,none⟩) hbl (by simp)).trans (bc i)⟩
     have Hb:Hid _:=B
     clear hxb B fa bc hAl hbl
     go_wp2_with fail
     refine (allF_any _ pp pl m _ (Hb.out _ (Fr.refl _ _)).1.l).mono ?_
     rintro e w1 ⟨rfl,h1⟩
     have y0:=(Hb.out _ h1).2.2 0
     have y1:=(Hb.out _ h1).2.2 1
     have y2:=(Hb.out _ h1).2.2 2
     have y3:=(Hb.out _ h1).2.2 4
     simp at y0 y1 y2 y3
     go_wp2_with fail
     refine (allF_any _ pp pl m _ (Hb.out _ h1).1.g1).mono ?_
     rintro e w2 ⟨rfl,h2⟩
     replace h2:=h1.trans h2
     have y0:=(Hb.out _ h2).2.2 0
     have y1:=(Hb.out _ h2).2.2 1
     have y2:=(Hb.out _ h2).2.2 2
     have y3:=(Hb.out _ h2).2.2 5
     simp at y0 y1 y2 y3
     clear h1
     go_wp2_with fail
     refine (allF_any _ pp pl m _ (Hb.out _ h2).1.g2).mono ?_
     rintro e w3 ⟨rfl,h3⟩
     replace h3:=h2.trans h3
     have y0:=(Hb.out _ h3).2.2 0
     have y1:=(Hb.out _ h3).2.2 1
     have y2:=(Hb.out _ h3).2.2 2
     have y3:=(Hb.out _ h3).2.2 6
     simp at y0 y1 y2 y3
     clear h2
     go_wp2_with fail
     refine (allF_any _ pp pl m _ (Hb.out _ h3).1.g3).mono ?_
     rintro e w4 ⟨rfl,h4⟩
     have f4:=(Hb.out _ (h3.trans h4)).2.1
     clear Hb h3 h4
     go_wp2
     exact⟨⟨k+1,by omega,by go_num,f4⟩,by simp[intOf];omega⟩
    ·have g1:¬ ((k:Int)<fk.length):=by omega
     go_wp2
     go_ret
     exact⟨rfl,fr⟩
theorem sameT_P (L:List ByteArray) (o o':Option Addr) (c d:Nat) (w:World) (hn:L.length≤1000) (h1:LsAt w (.slice o L.length c) L.length 1 (L.map .string)) (h2:LsAt w (.slice o' L.length d) L.length 1 (L.map .string)) :
  Calls Tryz.prog 33 #[.slice o L.length c,.slice o' L.length d] w fun e w'=>e=.returned (.bool true)∧Fr [] w w':=by
 have hc:L.length≤c:=by
  rcases h1.2 with ⟨h0,h'⟩ | ⟨g,cap,h',hh,_⟩
  ·omega
  ·injection h' with _ _ h3;omega
 have hd:L.length≤d:=by
  rcases h2.2 with ⟨h0,h'⟩ | ⟨g,cap,h',hh,_⟩
  ·omega
  ·injection h' with _ _ h3;omega
 have H1:Hid _:=h1
 have H2:Hid _:=h2
 clear h1 h2
 go_enter Tryz.func33,Tryz.ntmps33
 go_wp2
 go_loopw [5] (fun i wr=>∃ k:Nat,k≤L.length∧i=.int .i64 k∧Fr [] w wr) (fun i _=>L.length-(intOf i).toNat)
 case atStart=>exact⟨0,by omega,rfl,Fr.refl _ _⟩
 case round=>
  obtain⟨k,hk,rfl,f1⟩:=hrel
  by_cases hlt:k<L.length
  ·have g1:(k:Int)<L.length:=by omega
   obtain⟨x,hx⟩:∃ x,L[k]?=some x:=⟨_,List.getElem?_eq_getElem hlt⟩
   rcases H1.out.2 with ⟨h0,_⟩ | ⟨g,cap,hv,_,hgl,hxx⟩
   ·omega
   rcases H2.out.2 with ⟨h0,_⟩ | ⟨h,cap',hv',_,hhl,hyy⟩
   ·omega
   obtain rfl:o=some ⟨g,0,none⟩:=by injection hv
   obtain rfl:o'=some ⟨h,0,none⟩:=by injection hv'
   have c1:=(f1.cell (p:=⟨g,k,none⟩) hgl (by simp)).trans (hxx k (.string x) (by rw[List.getElem?_map,hx];rfl))
   have c2:=(f1.cell (p:=⟨h,k,none⟩) hhl (by simp)).trans (hyy k (.string x) (by rw[List.getElem?_map,hx];rfl))
   clear hx hv hv' hxx hyy
   go_wp2
   go_region
   go_wp2
   exact⟨⟨k+1,by omega,by go_num,f1.drew⟩,by simp[intOf];omega⟩
  ·have g1:¬ ((k:Int)<L.length):=by omega
   go_wp2
   go_ret
   exact⟨rfl,f1⟩
theorem sameM_P (LT LP:List ByteArray) (LF:List Wire.Fn) (gn an:Int) (o1 o2 o3 o4 o5 o6:Option Addr) (c1 c2 c3 c4 c5 c6:Nat) (w:World) (hT:LT.length≤1000) (hP:LP.length≤1000) (hF:LF.length≤1000)
  (t1:LsAt w (.slice o1 LT.length c1) LT.length 1 (LT.map .string)) (t2:LsAt w (.slice o2 LT.length c2) LT.length 1 (LT.map .string))
  (p1:LsAt w (.slice o3 LP.length c3) LP.length 1 (LP.map .string)) (p2:LsAt w (.slice o4 LP.length c4) LP.length 1 (LP.map .string))
  (f1:LsAt w (.slice o5 LF.length c5) LF.length 3 (LF.flatMap fnC)) (f2:LsAt w (.slice o6 LF.length c6) LF.length 3 (LF.flatMap fnC)) :
  Calls Tryz.prog 34 #[.agg #[.slice o1 LT.length c1,.slice o3 LP.length c3,.int .i64 gn,.int .i64 an,.slice o5 LF.length c5],.agg #[.slice o2 LT.length c2,.slice o4 LP.length c4,.int .i64 gn,.int .i64 an,.slice o6 LF.length c6]] w fun e w'=>e=.returned (.bool true)∧Fr [] w w':=by
 have hc5:LF.length≤c5:=by
  rcases f1.2 with ⟨h0,h'⟩ | ⟨g,cap,h',hh,_⟩
  ·omega
  ·injection h' with _ _ h3;omega
 have hc6:LF.length≤c6:=by
  rcases f2.2 with ⟨h0,h'⟩ | ⟨g,cap,h',hh,_⟩
  ·omega
  ·injection h' with _ _ h3;omega
 obtain⟨W1,hW1⟩:∃ W1,(w.alloc (.cells #[.slice o1 LT.length c1,.slice o3 LP.length c3,.int .i64 gn,.int .i64 an,.slice o5 LF.length c5] 30)).alloc (.cells #[.slice o2 LT.length c2,.slice o4 LP.length c4,.int .i64 gn,.int .i64 an,.slice o6 LF.length c6] 30)=W1:=⟨_,rfl⟩
 have F1:Fr [] w W1:=by rw[← hW1];exact ((Fr.refl [] w).alloc _).alloc _
 have k1:=World.alloc_heap_new w (.cells #[.slice o1 LT.length c1,.slice o3 LP.length c3,.int .i64 gn,.int .i64 an,.slice o5 LF.length c5] 30)
 have hl1:=(Array.getElem?_eq_some_iff.1 k1).1
 have k1':W1.heap[w.heap.size]?=some (.cells #[.slice o1 LT.length c1,.slice o3 LP.length c3,.int .i64 gn,.int .i64 an,.slice o5 LF.length c5] 30):=by
  rw[← hW1];exact (((Fr.refl [] _).alloc _).block w.heap.size hl1 (by simp)).trans k1
 have k2:=World.alloc_heap_new (w.alloc (.cells #[.slice o1 LT.length c1,.slice o3 LP.length c3,.int .i64 gn,.int .i64 an,.slice o5 LF.length c5] 30)) (.cells #[.slice o2 LT.length c2,.slice o4 LP.length c4,.int .i64 gn,.int .i64 an,.slice o6 LF.length c6] 30)
 rw[hW1] at k2
 have hsz:(w.alloc (.cells #[.slice o1 LT.length c1,.slice o3 LP.length c3,.int .i64 gn,.int .i64 an,.slice o5 LF.length c5] 30)).heap.size=w.heap.size+1:=by simp
 rw[hsz] at k2
 have l1:=(Array.getElem?_eq_some_iff.1 k1').1
 have l2:=(Array.getElem?_eq_some_iff.1 k2).1
 have B1:∀ W i,Fr [] W1 W→W.cell? ⟨w.heap.size,i,none⟩=(#[Value.slice o1 LT.length c1,.slice o3 LP.length c3,.int .i64 gn,.int .i64 an,.slice o5 LF.length c5]:Array Value)[i]?:=fun W i hf=>(hf.cell (p:=⟨w.heap.size,i,none⟩) l1 (by simp)).trans (by unfold World.cell?;rw[k1'];rfl)
 have B2:∀ W i,Fr [] W1 W→W.cell? ⟨w.heap.size+1,i,none⟩=(#[Value.slice o2 LT.length c2,.slice o4 LP.length c4,.int .i64 gn,.int .i64 an,.slice o6 LF.length c6]:Array Value)[i]?:=fun W i hf=>(hf.cell (p:=⟨w.heap.size+1,i,none⟩) l2 (by simp)).trans (by unfold World.cell?;rw[k2];rfl)
 have HB1:Hid _:=B1
 have HB2:Hid _:=B2
 have HS1:Hid _:=fun W (hf:Fr [] w W)=>sameT_P LT o1 o2 c1 c2 W hT (t1.fr hf) (t2.fr hf)
 have HS2:Hid _:=fun W (hf:Fr [] w W)=>sameT_P LP o3 o4 c3 c4 W hP (p1.fr hf) (p2.fr hf)
 have HF1:Hid _:=f1
 have HF2:Hid _:=f2
 have HF0:Hid _:=F1
 have a0:=B1 W1 0 (Fr.refl _ _)
 have b0:=B2 W1 0 (Fr.refl _ _)
 simp at a0 b0
 clear B1 B2 t1 t2 p1 p2 f1 f2 k1 k1' k2 hl1 l1 l2 F1 hsz
 go_enter Tryz.func34,Tryz.ntmps34
 go_wp2_with fail
 refine (HS1.out W1 HF0.out).mono ?_
 rintro e W2 ⟨rfl,g2⟩
 have a1:=HB1.out W2 1 g2
 have b1:=HB2.out W2 1 g2
 simp at a1 b1
 clear a0 b0 HS1 hW1
 go_wp2_with fail
 refine (HS2.out W2 (HF0.out.trans g2)).mono ?_
 rintro e W3 ⟨rfl,g3'⟩
 have g3:=g2.trans g3'
 have a2:=HB1.out W3 2 g3
 have b2:=HB2.out W3 2 g3
 have a3:=HB1.out W3 3 g3
 have b3:=HB2.out W3 3 g3
 have a4:=HB1.out W3 4 g3
 have b4:=HB2.out W3 4 g3
 simp at a2 b2 a3 b3 a4 b4
 have q1:(gn != gn)=false:=by simp
 have q2:(an != an)=false:=by simp
 have q3:((LF.length:Int)!=(LF.length:Int))=false:=by simp
 clear a1 b1 g2 g3' HS2
 go_wp2
 go_loopw [7] (fun i wr=>∃ k:Nat,k≤LF.length∧i=.int .i64 k∧Fr [] W1 wr) (fun i _=>LF.length-(intOf i).toNat)
 case atStart=>exact⟨0,by omega,rfl,g3⟩
 case round=>
  clear a2 b2 a3 b3 a4 b4 g3 q1 q2 q3
  obtain⟨k,hk,rfl,gw⟩:=hrel
  have a4:=HB1.out wr 4 gw
  have b4:=HB2.out wr 4 gw
  simp at a4 b4
  by_cases hlt:k<LF.length
  ·have g1:(k:Int)<LF.length:=by omega
   obtain⟨⟨xp,xl,xc⟩,hx⟩:∃ x,LF[k]?=some x:=⟨_,List.getElem?_eq_getElem hlt⟩
   rcases HF1.out.2 with ⟨h0,_⟩ | ⟨g,cap,hv,_,hgl,hxx⟩
   ·omega
   rcases HF2.out.2 with ⟨h0,_⟩ | ⟨h,cap',hv',_,hhl,hyy⟩
   ·omega
   obtain rfl:o5=some ⟨g,0,none⟩:=by injection hv
   obtain rfl:o6=some ⟨h,0,none⟩:=by injection hv'
   have gg:=HF0.out.trans gw
   have d0:=(gg.cell (p:=⟨g,k*3,none⟩) hgl (by simp)).trans (hxx (k*3) _ ((fnC_at LF k 0 _ hx (by decide)).trans rfl))
   have d1:=(gg.cell (p:=⟨g,k*3+1,none⟩) hgl (by simp)).trans (hxx (k*3+1) _ ((fnC_at LF k 1 _ hx (by decide)).trans rfl))
   have d2:=(gg.cell (p:=⟨g,k*3+2,none⟩) hgl (by simp)).trans (hxx (k*3+2) _ ((fnC_at LF k 2 _ hx (by decide)).trans rfl))
   have e0:=(gg.cell (p:=⟨h,k*3,none⟩) hhl (by simp)).trans (hyy (k*3) _ ((fnC_at LF k 0 _ hx (by decide)).trans rfl))
   have e1:=(gg.cell (p:=⟨h,k*3+1,none⟩) hhl (by simp)).trans (hyy (k*3+1) _ ((fnC_at LF k 1 _ hx (by decide)).trans rfl))
   have e2:=(gg.cell (p:=⟨h,k*3+2,none⟩) hhl (by simp)).trans (hyy (k*3+2) _ ((fnC_at LF k 2 _ hx (by decide)).trans rfl))
   clear hx hv hv' hxx hyy gg HF1 HF2 HB1 HB2
   go_wp2
   go_region
   go_wp2
   exact⟨⟨k+1,by omega,by go_num,gw.drew⟩,by simp[intOf];omega⟩
  ·have g1:¬ ((k:Int)<LF.length):=by omega
   go_wp2
   go_ret
   exact⟨rfl,HF0.out.trans gw⟩
def QT (n:Nat) (xs:List Value):Prop:=∃ L:List ByteArray,n=L.length∧xs=L.map Value.string
def QF (n:Nat) (xs:List Value):Prop:=∃ L:List Wire.Fn,n=L.length∧xs=L.flatMap fnC
def WT (B:Nat) (W:World) (tag:Nat→Nat) (wl el:List Value) (d:Nat):Prop:=Wts B W tag 12 9 1 QT wl el d
def WF (B:Nat) (W:World) (tag:Nat→Nat) (wl el:List Value) (d:Nat):Prop:=Wts B W tag 13 65 3 QF wl el d
theorem WT.fr {B:Nat}{W W':World}{tag:Nat→Nat}{wl el:List Value}{d:Nat} (h:WT B W tag wl el d) (hf:Fr [] W W'):WT B W' tag wl el d:=
 Wts.step (tag':=tag) (S:=[]) h (Nat.le_refl _) (Chg.of_fr hf) (by simp) (by simp) (fun _ _ _=>rfl)
theorem WF.fr {B:Nat}{W W':World}{tag:Nat→Nat}{wl el:List Value}{d:Nat} (h:WF B W tag wl el d) (hf:Fr [] W W'):WF B W' tag wl el d:=
 Wts.step (tag':=tag) (S:=[]) h (Nat.le_refl _) (Chg.of_fr hf) (by simp) (by simp) (fun _ _ _=>rfl)
theorem WT.marked {B:Nat}{W W':World}{tag tag':Nat→Nat}{wl el:List Value}{d:Nat} (h:WT B W tag wl el d) (hc:Chg tag [0,3,6,12+2*d] W W') (hr:∀ k,k<W.heap.size→tag k≠12+2*d→tag' k=tag k):WT B W' tag' wl el (d+1):=
 Wts.step h (Nat.le_succ d) hc (by simp;omega) (fun i hi=>by simp;omega) (fun k hk e=>hr k hk (by rcases e with e | ⟨i,hi,e⟩ <;> omega))
theorem WF.markedT {B:Nat}{W W':World}{tag tag':Nat→Nat}{wl el:List Value}{d q:Nat} (h:WF B W tag wl el q) (hc:Chg tag [0,3,6,12+2*d] W W') (hr:∀ k,k<W.heap.size→tag k≠12+2*d→tag' k=tag k):WF B W' tag' wl el q:=
 Wts.step h (Nat.le_refl _) hc (by simp;omega) (fun i hi=>by simp;omega) (fun k hk e=>hr k hk (by rcases e with e | ⟨i,hi,e⟩ <;> omega))
theorem WF.marked {B:Nat}{W W':World}{tag tag':Nat→Nat}{wl el:List Value}{d:Nat} (h:WF B W tag wl el d) (hc:Chg tag [0,9,6,13+2*d] W W') (hr:∀ k,k<W.heap.size→tag k≠13+2*d→tag' k=tag k):WF B W' tag' wl el (d+1):=
 Wts.step h (Nat.le_succ d) hc (by simp;omega) (fun i hi=>by simp;omega) (fun k hk e=>hr k hk (by rcases e with e | ⟨i,hi,e⟩ <;> omega))
theorem ScP.none_ {w0 W:World}{b:Nat}{tag:Nat→Nat}{c:Nat→Value}{ms:Value}{bs:ByteArray}{N:Nat→Nat}{X:Nat→List Value}{bk fk:List Bk} (I:ScP w0 W b tag c ms bs N X bk fk) (i:Nat) (hi:isR i) (h7:i≠7) (h8:i≠8) :
  ScP w0 (W.setCell ⟨b,i,none⟩ (.slice none 0 0)) b tag (upd c i (.slice none 0 0)) ms bs (up N i 0) (up X i []) bk fk:=
 I.grow i hi h7 h8 ⟨Chg.setCell W (by rw[I.core.tb];simp) _,fun _ _=>rfl⟩ (I.core.set i hi.lt _) (RowT.nil _ _ _ _ _ _)
structure StlP (w0:World) (b:Nat) (ms:Value) (bs:ByteArray) (N:Nat→Nat) (nb nf:Nat) (e:Ending) (W':World):Prop where
 ret:e=.returned (.bool true)
 ex:∃ tag' c' N' X' bk' fk',ScP w0 W' b tag' c' ms bs N' X' bk' fk'∧X' 11=[]∧X' 12=[]∧X' 13=[]∧X' 14=[]∧bk'.length=nb∧fk'.length=nf∧N' 3=N 3∧N' 4=N 4
theorem settleP_any (w0 W:World) (b:Nat) (tag:Nat→Nat) (c:Nat→Value) (ms:Value) (bs:ByteArray) (N:Nat→Nat) (X:Nat→List Value) (bk fk:List Bk) (I:ScP w0 W b tag c ms bs N X bk fk) (WT0:WT w0.heap.size W tag (X 11) (X 12) 0) (WF0:WF w0.heap.size W tag (X 13) (X 14) 0) (hp:PowTab w0) (hbk:bk.length+fk.length+(X 11).length+(X 13).length≤1000000000) :
  Calls Tryz.prog 17 #[.pointer (some ⟨b,0,none⟩)] W (StlP w0 b ms bs N (bk.length+(X 11).length) (fk.length+(X 13).length)):=by
 have hm:Tryz.prog.follows .mixedOrders=true:=by kernel_rfl
 obtain⟨wl,hwl⟩:∃ wl,X 11=wl:=⟨_,rfl⟩
 obtain⟨el,hel⟩:∃ wl,X 12=wl:=⟨_,rfl⟩
 obtain⟨wf,hwf⟩:∃ wl,X 13=wl:=⟨_,rfl⟩
 obtain⟨ef,hef⟩:∃ wl,X 14=wl:=⟨_,rfl⟩
 -- the rows as they lie,whatever the state
 have rows:∀ {W':World}{tag':Nat→Nat}{c':Nat→Value}{N':Nat→Nat}{X':Nat→List Value}{bk' fk':List Bk},ScP w0 W' b tag' c' ms bs N' X' bk' fk'→(∀ j,j≠7→j≠8→X' j=X j)→∀ i t e (l:List Value),isR i→i≠7→i≠8→rtag i=t→relt i=e→rwid i=1→X i=l→∃ o cap,RowT w0.heap.size W' tag' t e 1 (.slice o l.length cap) l.length l∧W'.cell? ⟨b,i,none⟩=some (.slice o l.length cap):=by
  intro W' tag' c' N' X' bk' fk' I' hX i t e l hi h7 h8 ht he hw hl
  have r:=I'.rows i hi
  rw[ht,he,hw,hX i h7 h8,hl] at r
  have hn:N' i=l.length:=by have:=r.own.1;omega
  rw[hn] at r
  obtain⟨o,cap,ho⟩:=own_form r.own
  rw[ho] at r
  have d:=I'.core.cell i hi.lt
  rw[ho] at d
  exact⟨o,cap,r,d⟩
 obtain⟨o11,cap11,r11,d11⟩:=rows I (fun _ _ _=>rfl) 11 4 27 wl (by unfold isR;omega) (by decide) (by decide) rfl rfl rfl hwl
 obtain⟨o12,cap12,r12,d12⟩:=rows I (fun _ _ _=>rfl) 12 5 27 el (by unfold isR;omega) (by decide) (by decide) rfl rfl rfl hel
 obtain⟨o13,cap13,r13,d13⟩:=rows I (fun _ _ _=>rfl) 13 10 28 wf (by unfold isR;omega) (by decide) (by decide) rfl rfl rfl hwf
 obtain⟨o14,cap14,r14,d14⟩:=rows I (fun _ _ _=>rfl) 14 11 28 ef (by unfold isR;omega) (by decide) (by decide) rfl rfl rfl hef
 rw[hwl,hel] at WT0
 rw[hwf,hef] at WF0
 rw[hwl,hwf] at hbk ⊢
 have hlen:=WT0.len
 have hlenF:=WF0.len
 rw[← hlen] at d12
 rw[← hlenF] at d14
 have hlt:=I.core.lt
 have HI:Hid _:=I
 have HW:Hid _:=WT0
 have HV:Hid _:=WF0
 have H11:Hid _:=r11
 have H12:Hid _:=r12
 have H13:Hid _:=r13
 have H14:Hid _:=r14
 have HR:Hid _:=fun (_:Unit)=>@rows
 have HX:Hid _:=And.intro hwl (And.intro hel (And.intro hwf hef))
 clear I WT0 WF0 r11 r12 r13 r14 rows hwl hel hwf hef
 go_enter Tryz.func17,Tryz.ntmps17
 go_wp2
 go_loopw [3,4] (fun ok i wr=>∃ k:Nat,k≤wl.length∧ok=.bool true∧i=.int .i64 k∧Fr [] W wr) (fun _ i _=>wl.length-(intOf i).toNat)
 case atStart=>exact⟨0,by omega,rfl,rfl,Fr.refl _ _⟩
 case round=>
  obtain⟨k,hk,rfl,rfl,fr⟩:=hrel
  have a11:=(fr.cell (p:=⟨b,11,none⟩) hlt (by simp)).trans d11
  have a12:=(fr.cell (p:=⟨b,12,none⟩) hlt (by simp)).trans d12
  by_cases hkl:k<wl.length
  ·have g1:(k:Int)<wl.length:=by omega
   obtain⟨v,hv⟩:∃ x,wl[k]?=some x:=⟨_,List.getElem?_eq_getElem hkl⟩
   obtain⟨u,hu⟩:∃ x,el[k]?=some x:=⟨_,List.getElem?_eq_getElem (by omega)⟩
   obtain⟨n,xs,wo,L,rfl,rfl⟩:=HW.out.at_ k v u (by omega) hv hu
   have r11:=H11.out
   have r12:=H12.out
   obtain⟨g,rfl⟩:∃ g,o11=some ⟨g,0,none⟩:=by
    rcases r11.own.2 with ⟨_,h'⟩ | ⟨g,cap',cur,h',_⟩
    ·omega
    ·exact⟨g,by injection h'⟩
   obtain⟨h,rfl⟩:∃ g,o12=some ⟨g,0,none⟩:=by
    rcases r12.own.2 with ⟨_,h'⟩ | ⟨g,cap',cur,h',_⟩
    ·omega
    ·exact⟨g,by injection h'⟩
   have hgl:=(r11.own.lt g rfl).2
   have hhl:=(r12.own.lt h rfl).2
   have x1:wr.cell? ⟨g,k,none⟩=some v:=(fr.cell (p:=⟨g,k,none⟩) hgl (by simp)).trans ((r11.own.cellAt k (by omega)).trans hv)
   have x2:wr.cell? ⟨h,k,none⟩=some u:=(fr.cell (p:=⟨h,k,none⟩) hhl (by simp)).trans ((r12.own.cellAt k (by omega)).trans hu)
   obtain⟨vo,vc,rfl⟩:=own_form wo.own.own
   obtain⟨uo,uc,rfl⟩:=wo.were.form
   have hsame:=fun w (hf:Fr [] W w)=>sameT_P L vo uo vc uc w wo.len ((LsAt.of_own wo.own.own).fr hf) (wo.were.fr hf)
   have Hs:Hid _:=hsame
   clear hv hu wo r11 r12 hsame d13 d14
   go_wp2
   refine wp_region_tail 14 hm (by kernel_rfl) ?_
   repeat still_step
   refine wpStill_nil ?_
   go_wp2_with fail
   refine (Hs.out _ fr.drew).mono ?_
   rintro e w2 ⟨rfl,f2⟩
   have f3:Fr [] W w2:=fr.drew.trans f2
   go_wp2
   exact⟨⟨k+1,by omega,rfl,by go_num,f3⟩,by simp[intOf];omega⟩
  ·have g1:¬ ((k:Int)<wl.length):=by omega
   have Fr0:Hid _:=fr
   clear H11 H12 hkl hk fr
   go_wp2
   go_loopw [3,6] (fun ok i wr=>∃ k:Nat,k≤wf.length∧ok=.bool true∧i=.int .i64 k∧Fr [] W wr) (fun _ i _=>wf.length-(intOf i).toNat)
   case atStart=>exact⟨0,by omega,rfl,rfl,Fr0.out⟩
   case round=>
    clear a11 a12 Fr0 g1 d11 d12
    obtain⟨k,hk,rfl,rfl,fr⟩:=hrel
    have a13:=(fr.cell (p:=⟨b,13,none⟩) hlt (by simp)).trans d13
    have a14:=(fr.cell (p:=⟨b,14,none⟩) hlt (by simp)).trans d14
    by_cases hkl:k<wf.length
    ·have g1:(k:Int)<wf.length:=by omega
     obtain⟨v,hv⟩:∃ x,wf[k]?=some x:=⟨_,List.getElem?_eq_getElem hkl⟩
     obtain⟨u,hu⟩:∃ x,ef[k]?=some x:=⟨_,List.getElem?_eq_getElem (by omega)⟩
     obtain⟨n,xs,wo,L,rfl,rfl⟩:=HV.out.at_ k v u (by omega) hv hu
     have r13:=H13.out
     have r14:=H14.out
     obtain⟨g,rfl⟩:∃ g,o13=some ⟨g,0,none⟩:=by
      rcases r13.own.2 with ⟨_,h'⟩ | ⟨g,cap',cur,h',_⟩
      ·omega
      ·exact⟨g,by injection h'⟩
     obtain⟨h,rfl⟩:∃ g,o14=some ⟨g,0,none⟩:=by
      rcases r14.own.2 with ⟨_,h'⟩ | ⟨g,cap',cur,h',_⟩
      ·omega
      ·exact⟨g,by injection h'⟩
     have hgl:=(r13.own.lt g rfl).2
     have hhl:=(r14.own.lt h rfl).2
     have x1:wr.cell? ⟨g,k,none⟩=some v:=(fr.cell (p:=⟨g,k,none⟩) hgl (by simp)).trans ((r13.own.cellAt k (by omega)).trans hv)
     have x2:wr.cell? ⟨h,k,none⟩=some u:=(fr.cell (p:=⟨h,k,none⟩) hhl (by simp)).trans ((r14.own.cellAt k (by omega)).trans hu)
     obtain⟨vo,vc,rfl⟩:=own_form wo.own.own
     obtain⟨uo,uc,rfl⟩:=wo.were.form
     have hsame:=fun w (hf:Fr [] W w)=>sameM_P [] [] L 0 0 none none none none vo uo 0 0 0 0 vc uc w (by simp) (by simp) wo.len (LsAt.nil _ _) (LsAt.nil _ _) (LsAt.nil _ _) (LsAt.nil _ _) ((LsAt.of_own wo.own.own).fr hf) (wo.were.fr hf)
     have Hs:Hid _:=hsame
     clear hv hu wo r13 r14 hsame
     go_wp2
     refine wp_region_tail 16 hm (by kernel_rfl) ?_
     repeat still_step
     refine wpStill_nil ?_
     go_wp2_with fail
     refine (Hs.out _ fr.drew).mono ?_
     rintro e w2 ⟨rfl,f2⟩
     have f3:Fr [] W w2:=fr.drew.trans f2
     go_wp2
     exact⟨⟨k+1,by omega,rfl,by go_num,f3⟩,by simp[intOf];omega⟩
    ·have g1:¬ ((k:Int)<wf.length):=by omega
     have HI2:Hid _:=HI.out.frm fr
     have HW2:Hid _:=WT.fr HW.out fr
     have HV2:Hid _:=WF.fr HV.out fr
     clear H13 H14 hkl hk HW HI HV fr d13 d14
     go_wp2
     go_loopw [8] (fun i w3=>∃ (k:Nat) (tag':Nat→Nat) (c':Nat→Value) (N':Nat→Nat) (X':Nat→List Value) (bk':List Bk),k≤wl.length∧i=.int .i64 k∧Hid (ScP w0 w3 b tag' c' ms bs N' X' bk' fk∧(∀ j,j≠7→j≠8→X' j=X j)∧(∀ j,j≠7→j≠8→N' j=N j)∧WT w0.heap.size w3 tag' wl el k∧WF w0.heap.size w3 tag' wf ef 0∧bk'.length=bk.length+k)) (fun i _=>wl.length-(intOf i).toNat)
     case atStart=>exact⟨0,tag,c,N,X,bk,by omega,rfl,HI2.out,fun _ _ _=>rfl,fun _ _ _=>rfl,HW2.out,HV2.out,rfl⟩
     case round=>
      clear a13 a14 HI2 HW2 HV2 g1
      obtain⟨k,tag',c',N',X',bk',hk',rfl,HA⟩:=hrel
      obtain⟨I,hX,hN,Wt,Wf,hb'⟩:=HA.out
      obtain⟨p11,cp11,r11,d11⟩:=HR.out () I hX 11 4 27 wl (by unfold isR;omega) (by decide) (by decide) rfl rfl rfl HX.out.1
      obtain⟨p13,cp13,r13,d13⟩:=HR.out () I hX 13 10 28 wf (by unfold isR;omega) (by decide) (by decide) rfl rfl rfl HX.out.2.2.1
      by_cases hkl:k<wl.length
      ·have g1:(k:Int)<wl.length:=by omega
       obtain⟨v,hv⟩:∃ x,wl[k]?=some x:=⟨_,List.getElem?_eq_getElem hkl⟩
       obtain⟨u,hu⟩:∃ x,el[k]?=some x:=⟨_,List.getElem?_eq_getElem (by omega)⟩
       obtain⟨n,xs,wo,L,rfl,rfl⟩:=Wt.at_ k v u (by omega) hv hu
       obtain⟨g,rfl⟩:∃ g,p11=some ⟨g,0,none⟩:=by
        rcases r11.own.2 with ⟨_,h'⟩ | ⟨g,cap',cur,h',_⟩
        ·omega
        ·exact⟨g,by injection h'⟩
       have x1:wr.cell? ⟨g,k,none⟩=some v:=(r11.own.cellAt k (by omega)).trans hv
       obtain⟨pv,cv,rfl⟩:=own_form wo.own.own
       have hmk:=markT_any w0 wr b tag' c' ms bs N' X' bk' fk pv cv (12+2*k) L.length (L.map .string) I (by omega) wo.own wo.len hp (by omega)
       have Hmk:Hid _:=fun (_:Unit)=>hmk
       have HH:Hid _:=And.intro hX (And.intro hN (And.intro Wt (And.intro Wf hb')))
       clear hv hu wo r11 r13 d13 I Wt Wf hX hN HA hmk hb'
       go_wp2_with fail
       refine (Hmk.out ()).mono ?_
       rintro e w4 ⟨rfl,tag2,c2,x,I4,ch4,rt4⟩
       obtain⟨hX,hN,Wt,Wf,hb'⟩:=HH.out
       have HZ:Hid (ScP w0 w4 b tag2 c2 ms bs (up N' 7 (N' 7+1)) (up X' 7 (X' 7++x.cells)) (bk'++[x]) fk∧(∀ j,j≠7→j≠8→up X' 7 (X' 7++x.cells) j=X j)∧(∀ j,j≠7→j≠8→up N' 7 (N' 7+1) j=N j)∧WT w0.heap.size w4 tag2 wl el (k+1)∧WF w0.heap.size w4 tag2 wf ef 0∧(bk'++[x]).length=bk.length+(k+1)):=
        ⟨I4,fun j h7 h8=>by rw[up_off _ _ h7];exact hX j h7 h8,fun j h7 h8=>by rw[up_off _ _ h7];exact hN j h7 h8,WT.marked Wt ch4 rt4,WF.markedT Wf ch4 rt4,by simp;omega⟩
       clear Hmk HH I4 ch4 rt4 hX hN Wt Wf hb'
       go_wp2
       exact⟨⟨k+1,tag2,c2,_,_,bk'++[x],by omega,by go_num,HZ⟩,by simp[intOf];omega⟩
      ·have g1:¬ ((k:Int)<wl.length):=by omega
       obtain rfl:wl.length=k:=by omega
       have HA2:Hid (ScP w0 wr b tag' c' ms bs N' X' bk' fk∧(∀ j,j≠7→j≠8→X' j=X j)∧(∀ j,j≠7→j≠8→N' j=N j)∧WF w0.heap.size wr tag' wf ef 0∧bk'.length=bk.length+wl.length):=⟨I,hX,hN,Wf,hb'⟩
       clear I hX hN Wt Wf hb' HA r11 r13 hkl hk' d13
       go_wp2
       go_loopw [9] (fun i w3=>∃ (k:Nat) (tag':Nat→Nat) (c':Nat→Value) (N':Nat→Nat) (X':Nat→List Value) (bk' fk':List Bk),k≤wf.length∧i=.int .i64 k∧Hid (ScP w0 w3 b tag' c' ms bs N' X' bk' fk'∧(∀ j,j≠7→j≠8→X' j=X j)∧(∀ j,j≠7→j≠8→N' j=N j)∧WF w0.heap.size w3 tag' wf ef k∧bk'.length=bk.length+wl.length∧fk'.length=fk.length+k)) (fun i _=>wf.length-(intOf i).toNat)
       case atStart=>exact⟨0,tag',c',N',X',bk',fk,by omega,rfl,HA2.out.1,HA2.out.2.1,HA2.out.2.2.1,HA2.out.2.2.2.1,HA2.out.2.2.2.2,rfl⟩
       case round=>
        clear HA2 d11 g1
        obtain⟨k,tag',c',N',X',bk',fk',hk',rfl,HA⟩:=hrel
        obtain⟨I,hX,hN,Wf,hb',hf'⟩:=HA.out
        obtain⟨p13,cp13,r13,d13⟩:=HR.out () I hX 13 10 28 wf (by unfold isR;omega) (by decide) (by decide) rfl rfl rfl HX.out.2.2.1
        by_cases hkl:k<wf.length
        ·have g1:(k:Int)<wf.length:=by omega
         obtain⟨v,hv⟩:∃ x,wf[k]?=some x:=⟨_,List.getElem?_eq_getElem hkl⟩
         obtain⟨u,hu⟩:∃ x,ef[k]?=some x:=⟨_,List.getElem?_eq_getElem (by omega)⟩
         obtain⟨n,xs,wo,L,rfl,rfl⟩:=Wf.at_ k v u (by omega) hv hu
         obtain⟨g,rfl⟩:∃ g,p13=some ⟨g,0,none⟩:=by
          rcases r13.own.2 with ⟨_,h'⟩ | ⟨g,cap',cur,h',_⟩
          ·omega
          ·exact⟨g,by injection h'⟩
         have x1:wr.cell? ⟨g,k,none⟩=some v:=(r13.own.cellAt k (by omega)).trans hv
         obtain⟨pv,cv,rfl⟩:=own_form wo.own.own
         have hmk:=markF_any w0 wr b tag' c' ms bs N' X' bk' fk' pv cv (13+2*k) L.length (L.flatMap fnC) I (by omega) wo.own wo.len hp (by omega)
         have Hmk:Hid _:=fun (_:Unit)=>hmk
         have HH:Hid _:=And.intro hX (And.intro hN (And.intro Wf (And.intro hb' hf')))
         clear hv hu wo r13 I Wf hX hN HA hmk hb' hf'
         go_wp2_with fail
         refine (Hmk.out ()).mono ?_
         rintro e w4 ⟨rfl,tag2,c2,x,I4,ch4,rt4⟩
         obtain⟨hX,hN,Wf,hb',hf'⟩:=HH.out
         have HZ:Hid (ScP w0 w4 b tag2 c2 ms bs (up N' 8 (N' 8+1)) (up X' 8 (X' 8++x.cells)) bk' (fk'++[x])∧(∀ j,j≠7→j≠8→up X' 8 (X' 8++x.cells) j=X j)∧(∀ j,j≠7→j≠8→up N' 8 (N' 8+1) j=N j)∧WF w0.heap.size w4 tag2 wf ef (k+1)∧bk'.length=bk.length+wl.length∧(fk'++[x]).length=fk.length+(k+1)):=
          ⟨I4,fun j h7 h8=>by rw[up_off _ _ h8];exact hX j h7 h8,fun j h7 h8=>by rw[up_off _ _ h8];exact hN j h7 h8,WF.marked Wf ch4 rt4,hb',by simp;omega⟩
         clear Hmk HH I4 ch4 rt4 hX hN Wf hb' hf'
         go_wp2
         exact⟨⟨k+1,tag2,c2,_,_,bk',fk'++[x],by omega,by go_num,HZ⟩,by simp[intOf];omega⟩
        ·have g1:¬ ((k:Int)<wf.length):=by omega
         obtain rfl:wf.length=k:=by omega
         have k1:=I.core.cell 11 (by decide)
         have k2:=I.core.cell 12 (by decide)
         have k4:=I.core.cell 14 (by decide)
         have z11:=I.core.fz 11 (by decide)
         have z12:=I.core.fz 12 (by decide)
         have z13:=I.core.fz 13 (by decide)
         have z14:=I.core.fz 14 (by decide)
         have IC:=(((I.none_ 11 (by unfold isR;omega) (by decide) (by decide)).none_ 12 (by unfold isR;omega) (by decide) (by decide)).none_ 13 (by unfold isR;omega) (by decide) (by decide)).none_ 14 (by unfold isR;omega) (by decide) (by decide)
         have Hf:Hid _:=And.intro IC (And.intro hN (And.intro hb' hf'))
         clear I Wf r13 IC hN hX hb' hf' HA
         go_wp2
         go_ret
         refine⟨rfl,_,_,_,_,_,_,Hf.out.1,rfl,rfl,rfl,rfl,by have:=Hf.out.2.2.1;omega,by have:=Hf.out.2.2.2;omega,?_,?_⟩
         ·exact Hf.out.2.1 3 (by decide) (by decide)
         ·exact Hf.out.2.1 4 (by decide) (by decide)
theorem fr_setRow (w:World) (g:Nat) (cs:Array Value):Fr [g] w (w.setRow g cs):=
 ⟨rfl,rfl,rfl,by simp[World.setRow],fun k hk hn=>setRow_other w g k cs (by simpa using hn)⟩
theorem copyZ_run {st e:TypeId}{i0:TypeInfo}{zv:Value}{z bytes:Nat} (ti:TyI st e i0 zv z bytes) (w:World) (ty:TypeId) (g n m sCap:Nat) (sp:Option Addr) (hnm:n≤m)
  (B:Nat) (cs ys:List Value) (hcs:cs.length=n*z) (h1:∀ v ∈ cs,v.oneCell'=true) (hsrc:0<n→∃ ad,sp=some ad∧∀ j v,cs[j]?=some v→w.cell? (ad.add j)=some v) (own:w.ownsRow B e z (.slice (some ⟨g,0,none⟩) m m) m ys) :
  ∃ w',(Builtin.copy_ #[st,st] ty #[.slice (some ⟨g,0,none⟩) m m,.slice sp n sCap]).run Tryz.prog w=.ok (goInt n) w'∧w'.ownsRow B e z (.slice (some ⟨g,0,none⟩) m m) m (cs++ys.drop (n*z))∧Fr [g] w w':=by
 have hmin:Nat.min n m=n:=Nat.min_eq_left hnm
 by_cases h0:n=0
 ·subst h0
  obtain rfl:cs=[]:=List.eq_nil_of_length_eq_zero (by simpa using hcs)
  refine⟨w,?_,by simpa using own,Fr.refl _ _⟩
  cases sp <;> simp[Builtin.copy_,run_underlying ti.ht,Builtin.lenOf,Builtin.firstCells,sizeOf,typeInfo,ti.hi,loadCells,loadCellsFrom,storeCells]
 ·obtain⟨ad,rfl,hsr⟩:=hsrc (by omega)
  rcases own.2 with ⟨hv,_⟩ | ⟨g',cap,cur,hv,hB,hg,hnc,hcm,hcsz,htake⟩
  ·cases hv
  simp only[Value.slice.injEq,Option.some.injEq,Addr.mk.injEq,and_true,true_and] at hv
  obtain⟨rfl,rfl⟩:=hv
  have hcur:cur.toList=ys:=by rw[← htake,List.take_of_length_le (by simp[hcsz])]
  have hle:n*z≤m*z:=Nat.mul_le_mul_right z hnm
  have hl:=run_loadCells_list (P:=Tryz.prog) w ad cs hsr
  have hst:=run_storeCells_at Tryz.prog g 0 e cs 0 cur w hg (by simp;omega) h1
  refine⟨w.setRow g (cs++ys.drop (n*z)).toArray,?_,⟨?_,.inr ⟨g,m,(cs++ys.drop (n*z)).toArray,rfl,hB,setRow_heap w g cur _ e _ hg,Nat.le_refl _,hcm,?_,?_⟩⟩,fr_setRow w g _⟩
  ·simp only[Nat.zero_add,List.take_zero,List.nil_append] at hst
   rw[hcur,hcs] at hst
   rw[hcs] at hl
   simp[Builtin.copy_,run_underlying ti.ht,Builtin.lenOf,Builtin.firstCells,sizeOf,typeInfo,ti.hi,ti.hz1,hmin,hl,hst]
  ·have:=own.1
   simp;omega
  ·have:=own.1
   simp;omega
  ·have:=own.1
   simp
   rw[List.take_of_length_le (by simp;omega)]
def beyS:ByteArray:=⟨#[98,101,121,111,110,100]⟩
def spoS:ByteArray:=⟨#[115,112,111,105,108,116]⟩
def elT (s:ByteArray):List Value:=[.string s]
def elF (s:ByteArray):List Value:=[.int .i64 (-1),.int .i64 (-1),.string s]
structure SrcZ (W:World) (v:Value) (n z:Nat) (xs:List Value):Prop where
 len:xs.length=n*z
 one:∀ x ∈ xs,x.oneCell'=true
 at_:(v=.slice none 0 0∧n=0)∨∃ ad c,v=.slice (some ad) n c∧n≤c∧(0<n→ad.spot=none∧ad.block<W.heap.size)∧∀ j x,xs[j]?=some x→W.cell? (ad.add j)=some x
theorem SrcZ.cells {W:World}{ad:Addr}{n c z:Nat}{xs:List Value} (h:∀ j x,xs[j]?=some x→W.cell? (ad.add j)=some x) (hl:xs.length=n*z) {W':World} (hb:0<n→W'.heap[ad.block]?=W.heap[ad.block]?):∀ j x,xs[j]?=some x→W'.cell? (ad.add j)=some x:=fun j x hj=>by
 have hn:0<n:=by
  rcases Nat.eq_zero_or_pos n with h0 | h0
  ·subst h0
   have:xs=[]:=List.eq_nil_of_length_eq_zero (by simpa using hl)
   subst this
   cases hj
  ·exact h0
 have e:(ad.add j).block=ad.block:=by unfold Addr.add;split <;> rfl
 exact (World.cell?_of_block (w:=W) (a:=ad.add j) (by rw[e];exact hb hn)).trans (h j x hj)
theorem SrcZ.fr {W W':World}{v:Value}{n z:Nat}{xs:List Value} (h:SrcZ W v n z xs) (hf:Fr [] W W'):SrcZ W' v n z xs:=by
 refine⟨h.len,h.one,?_⟩
 rcases h.at_ with h' | ⟨ad,c,hv,hc,hb,hx⟩
 ·exact .inl h'
 ·exact .inr ⟨ad,c,hv,hc,fun h0=>⟨(hb h0).1,Nat.lt_of_lt_of_le (hb h0).2 hf.size⟩,SrcZ.cells (c:=c) hx h.len fun h0=>hf.block _ (hb h0).2 (by simp)⟩
def Lent (B:Nat) (W:World) (e:TypeId) (bey:List Value) (v v':Value) (n:Nat) (xs:List Value):Prop:=
 (v=.slice none 0 0∧v'=.slice none 0 0∧n=0∧xs=[])∨∃ g ad c,v=.slice (some ad) n c∧v'=.slice (some ⟨g,0,none⟩) n (n+8)∧W.ownsRow B e bey.length (.slice (some ⟨g,0,none⟩) (n+8) (n+8)) (n+8) (xs++repsZ 8 bey)
theorem fill_set1 (xs ys:List Value) (n j:Nat) (v:Value) (hx:xs.length=n) (hy:n+j<ys.length):(xs++(repsZ j [v]++ys.drop (n+j))).set (n+j) v=xs++(repsZ (j+1) [v]++ys.drop (n+(j+1))):=by
 have hl:(repsZ j [v]).length=j:=by rw[repsZ_len];simp
 rw[List.set_append_right _ _ (by omega),hx,Nat.add_sub_cancel_left,List.set_append_right _ _ (by omega),hl,Nat.sub_self,List.drop_eq_getElem_cons hy,List.set_cons_zero,← repsZ_app,repsZ_one,List.append_assoc]
 rfl
theorem lentT_some (ad:Addr) (n c:Nat) (xs:List Value) (W:World) (hn:n≤2000000) (hc:n≤c) (hl:xs.length=n*1) (h1:∀ x ∈ xs,x.oneCell'=true) (hx:∀ j x,xs[j]?=some x→W.cell? (ad.add j)=some x) (hb:0<n→ad.spot=none∧ad.block<W.heap.size) :
  Calls Tryz.prog 80 #[.slice (some ad) n c] W fun e W'=>∃ g,e=.returned (.slice (some ⟨g,0,none⟩) n (n+8))∧Fr [] W W'∧W'.ownsRow W.heap.size 9 1 (.slice (some ⟨g,0,none⟩) (n+8) (n+8)) (n+8) (xs++repsZ 8 (elT beyS)):=by
 obtain⟨i0,ti⟩:=tyT
 have hi:=ti.hi
 have hz0:=ti.hz0
 have hz1:=ti.hz1
 have hz2:=ti.hz2
 have hnil:∀ W,(binOp .eql 27 (.slice (some ad) n c) (.slice none 0 0)).run Tryz.prog W=.ok (.bool false) W:=fun W=>by
  have:=Lib.run_eql_slice_nil (P:=Tryz.prog) W 27 9 (some ad) n c 0 0 Tryz.underlying27
  simpa using this
 have HX:Hid _:=And.intro hx (And.intro hb h1)
 clear hx hb h1
 go_enter Tryz.func80,Tryz.ntmps80
 go_wp2_with (at_make;refine wpList_make_full _ rfl _ _ 27 rfl W.heap.size 9 i0 (.string ⟨#[]⟩) 1 Tryz.underlying27 hi hz0 hz1 .i64 .i64 _ _ (n+8) rfl rfl (by first | rfl | omega | simp) (by first | rfl | omega | simp) ?b2 ?b3 ?b4 ?_)
 case b2=>rw[hz2];omega
 case b3=>unfold maxLen;omega
 case b4=>exact Nat.le_refl _
 intro W1 own1 hg1
 have f1:Fr [] W W1:=⟨hg1.os,hg1.tape,hg1.output,hg1.size,fun k hk _=>hg1.block k hk (by simp)⟩
 obtain⟨ys,own1⟩:∃ ys,W1.ownsRow W.heap.size 9 1 (.slice (some ⟨W.heap.size,0,none⟩) (n+8) (n+8)) (n+8) ys:=⟨_,own1⟩
 have hyl:=own1.1
 have hsrc:0<n→∃ a,some ad=some a∧∀ j v,xs[j]?=some v→W1.cell? (a.add j)=some v:=fun h0=>⟨ad,rfl,SrcZ.cells (c:=c) HX.out.1 hl fun h0=>f1.block _ (HX.out.2.1 h0).2 (by simp)⟩
 have Hown:Hid (W1.ownsRow W.heap.size 9 1 (.slice (some ⟨W.heap.size,0,none⟩) (n+8) (n+8)) (n+8) ys):=own1
 have Hsrc:Hid _:=hsrc
 have Hf1:Hid _:=f1
 clear own1 hg1 hsrc f1
 obtain⟨W2,hrun,own2,f2⟩:=copyZ_run ti W1 3 W.heap.size n (n+8) c (some ad) (by omega) W.heap.size xs ys hl HX.out.2.2 Hsrc.out Hown.out
 have Hown2:Hid (W2.ownsRow W.heap.size 9 1 (.slice (some ⟨W.heap.size,0,none⟩) (n+8) (n+8)) (n+8) (xs++(repsZ 0 (elT beyS)++ys.drop (n+0)))):=by
  have h:=own2
  have e:xs++(repsZ 0 (elT beyS)++ys.drop (n+0))=xs++ys.drop (n*1):=by simp[repsZ]
  rw[← e] at h
  exact h
 have Hf2:Hid (Fr [] W W2):=Hf1.out.trans' f2 (fun x hx=>.inr (by simp at hx;omega))
 clear own2 f2 Hown Hsrc Hf1
 go_wp2
 go_loopw [5] (fun i wr=>∃ j:Nat,j≤8∧i=.int .i64 ((n+j:Nat):Int)∧Hid (wr.ownsRow W.heap.size 9 1 (.slice (some ⟨W.heap.size,0,none⟩) (n+8) (n+8)) (n+8) (xs++(repsZ j (elT beyS)++ys.drop (n+j))))∧Hid (Fr [] W wr)) (fun i _=>n+8-(intOf i).toNat)
 case atStart=>exact⟨0,by omega,by simp,Hown2,Hf2⟩
 case round=>
  clear Hown2 Hf2
  obtain⟨j,hj,rfl,ow,fw⟩:=hrel
  obtain⟨q,hq⟩:∃ q,n+j=q:=⟨_,rfl⟩
  by_cases hlt:j<8
  ·have g1:(q:Int)<(n:Int)+8:=by omega
   have hst:=(ow.out.stored (n+j) (.string beyS)).1
   have hset:=fill_set1 xs ys n j (.string beyS) (by omega) (by omega)
   have hset':(xs++(repsZ j (elT beyS)++ys.drop (n+j))).set (n+j) (.string beyS)=xs++(repsZ (j+1) (elT beyS)++ys.drop (n+(j+1))):=hset
   rw[hset'] at hst
   obtain⟨y,hy⟩:∃ y,wr.cell? ⟨W.heap.size,n+j,none⟩=some y:=by
    have hc:=ow.out.cellAt (n+j) (by have:=ow.out.1;omega)
    exact⟨_,hc.trans (List.getElem?_eq_getElem (by have:=ow.out.1;omega))⟩
   have hfz:=ow.out.frozenAt (n+j)
   rw[hq] at hst hy hfz ⊢
   have Hst:Hid _:=And.intro hst (fw.out.setCell (p:=⟨W.heap.size,q,none⟩) (.inr (Nat.le_refl _)) (.string beyS))
   have e1:(⟨#[98,101,121,111,110,100]⟩:ByteArray)=beyS:=rfl
   clear hst hset hset' ow fw
   go_wp2
   exact⟨⟨j+1,by omega,by go_num,Hst.out.1,Hst.out.2⟩,by simp[intOf];omega⟩
  ·obtain rfl:j=8:=by omega
   have g1:¬ ((q:Int)<(n:Int)+8):=by omega
   have hq2:(q:Int)=(n:Int)+8:=by omega
   have Hfin:Hid _:=And.intro ow.out fw.out
   rw[hq]
   clear ow fw
   go_wp2
   go_ret
   refine⟨W.heap.size,rfl,Hfin.out.2,?_⟩
   have h:=Hfin.out.1
   rw[List.drop_of_length_le (by omega),List.append_nil,hq] at h
   exact h
end Go.Proofs.YtclkgoigmgkffaaGreatDoor
