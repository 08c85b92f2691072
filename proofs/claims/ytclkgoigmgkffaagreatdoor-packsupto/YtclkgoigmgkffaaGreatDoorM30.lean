/-
  Texts Lf Lg.
-/
import Derived.Test.YtclkgoigmgkffaaGreatDoorM29
set_option linter.unusedSimpArgs false
set_option linter.unusedVariables false
set_option maxRecDepth 100000
set_option maxHeartbeats 40000000
namespace Go.Proofs.YtclkgoigmgkffaaGreatDoor
open Go.RowKit
open Wire Flow Mach
theorem infoP92:(Tryz.prog.info? 92).map (fun i=>(i.zero,i.size,i.bytes))=some (some (.agg #[.int .i64 0,.int .i64 0,.string ⟨#[]⟩,.slice none 0 0,.slice none 0 0,.slice none 0 0,.slice none 0 0]),7,128):=by kernel_rfl
theorem repsZ_set3 (xs:List Value) (k:Nat) (u v w:Value) (hk:k*3+2<xs.length):(((repsZ k [u,v,w]++xs.drop (k*3)).set (k*3) u).set (k*3+1) v).set (k*3+2) w=repsZ (k+1) [u,v,w]++xs.drop ((k+1)*3):=by
 have hl:(repsZ k [u,v,w]).length=k*3:=by rw[repsZ_len];simp
 rw[List.set_append_right _ _ (by omega),List.set_append_right _ _ (by omega),List.set_append_right _ _ (by omega),hl,Nat.sub_self,Nat.add_sub_cancel_left,Nat.add_sub_cancel_left,
  List.drop_eq_getElem_cons (by omega),List.drop_eq_getElem_cons (by omega),List.drop_eq_getElem_cons (by omega),← repsZ_app,repsZ_one,List.append_assoc]
 have e:(k+1)*3=k*3+1+1+1:=by omega
 rw[e]
 rfl
theorem farP_any (s:ByteArray) (w:World):Calls Tryz.prog 95 #[.string s] w fun e w'=>e=.returned (.agg #[.int .i64 (-1),.int .i64 (-1),.string s])∧Fr [] w w':=by
 have f:=fun o=>(Fr.refl [] w).alloc o
 have HF:Hid _:=f
 clear f
 go_enter Tryz.func95,Tryz.ntmps95
 go_wp2
 refine bodyPost_ret (v:=.agg #[.int .i64 (-1),.int .i64 (-1),.string s]) (by simp[results,Tryz.results95,go_sem]) rfl ?_
 exact⟨rfl,HF.out _⟩
theorem start0 {B:Nat}{W:World}{tag:Nat→Nat}{t:Nat}{e:TypeId}{z:Nat}{v:Value}{n:Nat}{m xs:List Value} (h:RowT B W tag t e z v n xs):Hid (RowT B W tag t e z v n (repsZ 0 m++xs.drop (0*3))):=by
 have h2:RowT B W tag t e z v n (repsZ 0 m++xs.drop (0*3)):=by simpa [repsZ] using h
 exact h2
structure FmAt (W:World) (g:Nat) (m:ByteArray):Prop where
 c0:W.cell? ⟨g,0,none⟩=some (.int .i64 (-1))
 c1:W.cell? ⟨g,1,none⟩=some (.int .i64 (-1))
 c2:W.cell? ⟨g,2,none⟩=some (.string m)
theorem FmAt.lt {W:World}{g:Nat}{m:ByteArray} (h:FmAt W g m):g<W.heap.size:=lt_of_cell (a:=⟨g,0,none⟩) h.c0
theorem FmAt.new (W:World) (m:ByteArray):FmAt (W.alloc (Obj.cells #[.int .i64 (-1),.int .i64 (-1),.string m] 65)) W.heap.size m:=by
 have hm:=World.alloc_heap_new W (.cells #[.int .i64 (-1),.int .i64 (-1),.string m] 65)
 refine⟨?_,?_,?_⟩
 ·unfold World.cell?;rw[hm];simp
 ·unfold World.cell?;rw[hm];simp
 ·unfold World.cell?;rw[hm];simp
theorem FmAt.fr {W W':World}{g:Nat}{m:ByteArray} (h:FmAt W g m) (hf:Fr [] W W'):FmAt W' g m:=
 ⟨(hf.cell (p:=⟨g,0,none⟩) h.lt (by simp)).trans h.c0,(hf.cell (p:=⟨g,1,none⟩) h.lt (by simp)).trans h.c1,(hf.cell (p:=⟨g,2,none⟩) h.lt (by simp)).trans h.c2⟩
theorem FmAt.chg {W W':World}{tag:Nat→Nat}{S:List Nat}{g:Nat}{m:ByteArray} (h:FmAt W g m) (hf:Chg tag S W W') (hn:tag g ∉ S):FmAt W' g m:=
 ⟨(hf.cell (p:=⟨g,0,none⟩) h.lt hn).trans h.c0,(hf.cell (p:=⟨g,1,none⟩) h.lt hn).trans h.c1,(hf.cell (p:=⟨g,2,none⟩) h.lt hn).trans h.c2⟩
theorem FmAt.set {W:World}{g4 g j:Nat}{v:Value}{m:ByteArray} (h:FmAt W g4 m) (hn:g≠g4):FmAt (W.setCell ⟨g,j,none⟩ v) g4 m:=by
 have e:∀ i,(W.setCell ⟨g,j,none⟩ v).cell? ⟨g4,i,none⟩=W.cell? ⟨g4,i,none⟩:=fun i=>World.cell?_of_block (w:=W) (a:=⟨g4,i,none⟩) (setCell_block (fun h=>hn h.symm))
 exact⟨(e 0).trans h.c0,(e 1).trans h.c1,(e 2).trans h.c2⟩
structure BkFt (W:World) (hb:Nat) (m:ByteArray) (v x1 x2 x3:Value):Prop where
 c0:W.cell? ⟨hb,0,none⟩=some (.int .i64 (-1))
 c1:W.cell? ⟨hb,1,none⟩=some (.int .i64 (-1))
 c2:W.cell? ⟨hb,2,none⟩=some (.string m)
 c3:W.cell? ⟨hb,3,none⟩=some v
 c4:W.cell? ⟨hb,4,none⟩=some x1
 c5:W.cell? ⟨hb,5,none⟩=some x2
 c6:W.cell? ⟨hb,6,none⟩=some x3
 z:∀ i,i<7→W.frozen? ⟨hb,i,none⟩=false
theorem BkFt.lt {W:World}{hb:Nat}{m:ByteArray}{v x1 x2 x3:Value} (h:BkFt W hb m v x1 x2 x3):hb<W.heap.size:=lt_of_cell (a:=⟨hb,0,none⟩) h.c0
theorem BkFt.chg {W W':World}{tag:Nat→Nat}{S:List Nat}{hb:Nat}{m:ByteArray}{v x1 x2 x3:Value} (h:BkFt W hb m v x1 x2 x3) (hc:Chg tag S W W') (ht:tag hb ∉ S):BkFt W' hb m v x1 x2 x3:=
 ⟨(hc.cell (p:=⟨hb,0,none⟩) h.lt ht).trans h.c0,(hc.cell (p:=⟨hb,1,none⟩) h.lt ht).trans h.c1,(hc.cell (p:=⟨hb,2,none⟩) h.lt ht).trans h.c2,(hc.cell (p:=⟨hb,3,none⟩) h.lt ht).trans h.c3,(hc.cell (p:=⟨hb,4,none⟩) h.lt ht).trans h.c4,(hc.cell (p:=⟨hb,5,none⟩) h.lt ht).trans h.c5,(hc.cell (p:=⟨hb,6,none⟩) h.lt ht).trans h.c6,
  fun i hi=>(hc.frozen (p:=⟨hb,i,none⟩) h.lt ht).trans (h.z i hi)⟩
theorem BkFt.new (W:World) (m:ByteArray) (v x1 x2 x3:Value) (t:TypeId):BkFt (W.alloc (.cells #[.int .i64 (-1),.int .i64 (-1),.string m,v,x1,x2,x3] t)) W.heap.size m v x1 x2 x3:=by
 have hm:=World.alloc_heap_new W (.cells #[.int .i64 (-1),.int .i64 (-1),.string m,v,x1,x2,x3] t)
 refine⟨?_,?_,?_,?_,?_,?_,?_,fun i hi=>?_⟩
 ·unfold World.cell?;rw[hm];simp
 ·unfold World.cell?;rw[hm];simp
 ·unfold World.cell?;rw[hm];simp
 ·unfold World.cell?;rw[hm];simp
 ·unfold World.cell?;rw[hm];simp
 ·unfold World.cell?;rw[hm];simp
 ·unfold World.cell?;rw[hm];simp
 ·unfold World.frozen?;rw[hm];simp
theorem BkFt.set4 {W:World}{hb:Nat}{m:ByteArray}{v x1 x2 x3:Value} (h:BkFt W hb m v x1 x2 x3) (u:Value):BkFt (W.setCell ⟨hb,4,none⟩ u) hb m v u x2 x3:=
 ⟨(setCell_off (by decide)).trans h.c0,(setCell_off (by decide)).trans h.c1,(setCell_off (by decide)).trans h.c2,(setCell_off (by decide)).trans h.c3,World.cell?_setCell_same' _ _ _ (by rw[h.c4];rfl),(setCell_off (by decide)).trans h.c5,(setCell_off (by decide)).trans h.c6,fun i hi=>by rw[World.frozen?_setCell];exact h.z i hi⟩
theorem BkFt.set5 {W:World}{hb:Nat}{m:ByteArray}{v x1 x2 x3:Value} (h:BkFt W hb m v x1 x2 x3) (u:Value):BkFt (W.setCell ⟨hb,5,none⟩ u) hb m v x1 u x3:=
 ⟨(setCell_off (by decide)).trans h.c0,(setCell_off (by decide)).trans h.c1,(setCell_off (by decide)).trans h.c2,(setCell_off (by decide)).trans h.c3,(setCell_off (by decide)).trans h.c4,World.cell?_setCell_same' _ _ _ (by rw[h.c5];rfl),(setCell_off (by decide)).trans h.c6,fun i hi=>by rw[World.frozen?_setCell];exact h.z i hi⟩
theorem BkFt.set6 {W:World}{hb:Nat}{m:ByteArray}{v x1 x2 x3:Value} (h:BkFt W hb m v x1 x2 x3) (u:Value):BkFt (W.setCell ⟨hb,6,none⟩ u) hb m v x1 x2 u:=
 ⟨(setCell_off (by decide)).trans h.c0,(setCell_off (by decide)).trans h.c1,(setCell_off (by decide)).trans h.c2,(setCell_off (by decide)).trans h.c3,(setCell_off (by decide)).trans h.c4,(setCell_off (by decide)).trans h.c5,World.cell?_setCell_same' _ _ _ (by rw[h.c6];rfl),fun i hi=>by rw[World.frozen?_setCell];exact h.z i hi⟩
theorem markF_any (w0 W:World) (b:Nat) (tag:Nat→Nat) (c:Nat→Value) (ms:Value) (bs:ByteArray) (N:Nat→Nat) (X:Nat→List Value) (bk fk:List Bk) (o:Option Addr) (cap:Nat) (t n:Nat) (xs:List Value) (I:ScP w0 W b tag c ms bs N X bk fk) (ht:12≤t)
  (hv:RowT w0.heap.size W tag t 65 3 (.slice o n cap) n xs) (hL:n≤1000) (hp:PowTab w0) (hbk:bk.length+fk.length≤1000000000) :
  Calls Tryz.prog 36 #[.pointer (some ⟨b,0,none⟩),.slice o n cap] W fun e W'=>e=.returned (.tuple #[])∧∃ tag' c' x,ScP w0 W' b tag' c' ms bs (up N 8 (N 8+1)) (up X 8 (X 8++x.cells)) bk (fk++[x])∧Chg tag [0,9,6,t] W W'∧(∀ k,k<W.heap.size→tag k≠t→tag' k=tag k):=by
 obtain⟨i9,ti⟩:=tyF
 have hxl:xs.length=n*3:=hv.own.1
 obtain⟨K,hK⟩:∃ K,bk.length+fk.length=K:=⟨_,rfl⟩
 have h7:N 8≤1000000000:=by have:=I.k8.1;omega
 rw[hK] at hbk
 have hm:Tryz.prog.follows .mixedOrders=true:=by kernel_rfl
 have d6:=I.core.cell 6 (by decide)
 have z6:=I.core.fz 6 (by decide)
 rw[I.n6,hK] at d6
 have HK:Hid _:=hK
 clear hK
 have core1:=I.core.set 6 (by decide) (.int .i64 ((K:Int)+1))
 have hit:=itoa_any ((K:Int)+1) _ (by omega) (by omega) (hp.fr core1.fr)
 have ch1:Chg tag [0] W (W.setCell ⟨b,6,none⟩ (.int .i64 ((K:Int)+1))):=Chg.setCell W (by rw[I.core.tb];simp) _
 have HI:Hid _:=I
 have d61:=core1.cell 6 (by decide)
 have e61:upd c 6 (.int .i64 ((K:Int)+1)) 6=.int .i64 ((K:Int)+1):=rfl
 rw[e61] at d61
 have hv1:=hv.chg ch1 (by simp;omega)
 have Hc1:Hid _:=core1
 clear I hv core1 e61
 go_enter Tryz.func36,Tryz.ntmps36
 go_wp2_with fail
 refine hit.mono ?_
 generalize hW1:W.setCell ⟨b,6,none⟩ (.int .i64 ((K:Int)+1))=W1 at *
 rintro e W2 ⟨s,hs,rfl,f2⟩
 have hsm:((⟨#[109,97,114,107,32]⟩:ByteArray)++s).size=5+s.size:=by rw[ByteArray.size_append];rfl
 have Hf1:Hid _:=f2
 clear hit d6 z6 d61 hW1 f2
 go_wp2_with fail
 refine (farP_any _ _).mono ?_
 generalize hgm:(⟨#[109,97,114,107,32]⟩:ByteArray)++s=m at *
 clear hgm
 rintro e W2b ⟨rfl,f2b⟩
 have f2:Fr [] W1 W2b:=Hf1.out.trans f2b
 have hv2:=hv1.chg (S:=[]) (Chg.of_fr f2) (by simp)
 have hgo:Hid (∀ g,(Value.slice o n cap).ownBlock=some g→g<W2b.heap.size):=fun g hg=>(hv2.own.lt g hg).2
 have hv3:RowT w0.heap.size (W2b.alloc (Obj.cells #[.int .i64 (-1),.int .i64 (-1),.string m] 65)) tag t 65 3 (.slice o n cap) n xs:=hv2.chg (S:=[]) (Chg.of_fr ((Fr.refl [] _).alloc _)) (by simp)
 have Fm0:=FmAt.new W2b m
 have HF2:Hid _:=f2
 have Hv3:Hid _:=And.intro hv3 Fm0
 clear hv1 hv2 hv3 Fm0 f2 f2b Hf1
 go_wp2
 go_loopw [5] (fun i wr=>∃ k:Nat,k≤n∧i=.int .i64 k∧Hid (RowT w0.heap.size wr tag t 65 3 (.slice o n cap) n (repsZ k [.int .i64 (-1),.int .i64 (-1),.string m]++xs.drop (k*3)))∧Hid (Chg tag [t] W2b wr)∧Hid (FmAt wr W2b.heap.size m)) (fun i _=>n-(intOf i).toNat)
 case atStart=>exact⟨0,by omega,rfl,start0 Hv3.out.1,Chg.of_fr ((Fr.refl [] _).alloc _),Hv3.out.2⟩
 case round=>
  obtain⟨k,hk,rfl,hv,ch2,hFm⟩:=hrel
  clear Hv3
  by_cases hlt:k<n
  ·have g1:(k:Int)<n:=by omega
   obtain⟨g,rfl⟩:∃ g,o=some ⟨g,0,none⟩:=by
    rcases hv.out.own.2 with ⟨_,h'⟩ | ⟨g,cap',cur,h',_⟩
    ·omega
    ·exact⟨g,by injection h'⟩
   have hgl:g<W2b.heap.size:=hgo.out g rfl
   have hst0:=(hv.out.own.stored (k*3) (.int .i64 (-1))).1
   have hst1:=(hst0.stored (k*3+1) (.int .i64 (-1))).1
   have hst2:=(hst1.stored (k*3+2) (.string m)).1
   rw[repsZ_set3 xs k _ _ _ (by omega)] at hst2
   have hlen:(repsZ k [.int .i64 (-1),.int .i64 (-1),.string m]++xs.drop (k*3)).length=n*3:=by simp[repsZ_len];omega
   have hcl:∀ j,j<n*3→∃ y,wr.cell? ⟨g,j,none⟩=some y:=fun j hj=>⟨_,(hv.out.own.cellAt j (by omega)).trans (List.getElem?_eq_getElem (by omega))⟩
   obtain⟨y0,cl0⟩:=hcl (k*3) (by omega)
   obtain⟨y1,cl1⟩:=hcl (k*3+1) (by omega)
   obtain⟨y2,cl2⟩:=hcl (k*3+2) (by omega)
   have fz0:=hv.out.own.frozenAt (k*3)
   have fz1:=hv.out.own.frozenAt (k*3+1)
   have fz2:=hv.out.own.frozenAt (k*3+2)
   have htg:=hv.out.tg
   have n0:=hFm.out.c0
   have n1:=hFm.out.c1
   have n2:=hFm.out.c2
   have hne:g≠W2b.heap.size:=by omega
   have hfin:=And.intro (ch2.out.trans (tag':=tag) (S':=[t]) (((Chg.setCell (S:=[t]) wr (p:=⟨g,k*3,none⟩) (by rw[htg g rfl];simp) (.int .i64 (-1))).trans (tag':=tag) (S':=[t]) (Chg.setCell (S:=[t]) _ (p:=⟨g,k*3+1,none⟩) (by rw[htg g rfl];simp) (.int .i64 (-1))) (fun _ _ h=>h)).trans (tag':=tag) (S':=[t]) (Chg.setCell (S:=[t]) _ (p:=⟨g,k*3+2,none⟩) (by rw[htg g rfl];simp) (.string m)) (fun _ _ h=>h)) (fun _ _ h=>h)) (((hFm.out.set (j:=k*3) (v:=.int .i64 (-1)) hne).set (j:=k*3+1) (v:=.int .i64 (-1)) hne).set (j:=k*3+2) (v:=.string m) hne)
   have Hst:Hid _:=And.intro hst2 (And.intro htg hfin)
   clear hst0 hst1 hst2 hv hcl hlen htg hfin hFm ch2 hgl hne
   go_wp2
   have hst:=Hst.out
   refine⟨⟨k+1,by omega,by go_num,⟨hst.1,hst.2.1⟩,hst.2.2.1,hst.2.2.2⟩,by simp[intOf];omega⟩
  ·have g1:¬ ((k:Int)<n):=by omega
   obtain rfl:n=k:=by omega
   have hv:=hv.out
   have ch2:=ch2.out
   have Fm:=hFm.out
   have f2:=HF2.out
   rw[List.drop_of_length_le (by omega),List.append_nil] at hv
   have hg4:=Fm.lt
   have tA:∃ tagA:Nat→Nat,(∀ i,i<W2b.heap.size→tagA i=tag i)∧(∀ i,W2b.heap.size≤i→i≤wr.heap.size→tagA i=6)∧∀ i,wr.heap.size<i→tagA i=t:=
    ⟨fun i=>if i<W2b.heap.size then tag i else if i≤wr.heap.size then 6 else t,fun i hi=>by simp[hi],fun i h1 h2=>by show (if i<_ then _ else _)=6;rw[if_neg (by omega),if_pos h2],fun i hi=>by show (if i<_ then _ else _)=t;rw[if_neg (by omega),if_neg (by omega)]⟩
   obtain⟨tagA,hA1,hA6,hA3⟩:=tA
   have hA2:tagA wr.heap.size=6:=hA6 _ (by omega) (Nat.le_refl _)
   have hA4:tagA W2b.heap.size=6:=hA6 _ (Nat.le_refl _) (by omega)
   have hvA:RowT w0.heap.size wr tagA t 65 3 (.slice o n cap) n (repsZ n [.int .i64 (-1),.int .i64 (-1),.string m]):=⟨hv.own,fun g hg=>by rw[hA1 g (hgo.out g hg)];exact hv.tg g hg⟩
   have ch2A:Chg tagA [t] W2b wr:=⟨ch2.os,ch2.tape,ch2.output,ch2.size,fun k hk hn=>ch2.block k hk (by rw[← hA1 k hk];exact hn)⟩
   have n0:=Fm.c0
   have n1:=Fm.c1
   have n2:=Fm.c2
   have Fm3:=Fm.fr ((Fr.refl [] wr).alloc (Obj.cells #[.int .i64 (-1),.int .i64 (-1),.string m,.slice o n cap,.slice none 0 0,.slice none 0 0,.slice none 0 0] 92))
   have p0:=Fm3.c0
   have p1:=Fm3.c1
   have p2:=Fm3.c2
   have HFm:Hid _:=Fm3
   clear Fm Fm3
   have hsz0:w0.heap.size≤wr.heap.size:=Nat.le_trans Hc1.out.fr.size (Nat.le_trans f2.size ch2.size)
   have B0:=BkFt.new wr m (.slice o n cap) (.slice none 0 0) (.slice none 0 0) (.slice none 0 0) 92
   have HB0:Hid _:=B0
   have HvA:Hid _:=hvA
   clear B0 hvA hv
   go_wp2_with (at_builtin;refine wpList_append_famZ ti rfl _ _ rfl w0.heap.size tagA t _ n [.int .i64 (-1),.int .i64 (-1),.string m] rfl (by intro u hu;simp at hu;rcases hu with rfl | rfl | rfl <;> rfl) 1 ⟨wr.heap.size+1,0,none⟩ 1 rfl rfl ?a1 (by decide) ?a2 ?a3 ?a4 ?a5 ?_)
   case a1=>exact HvA.out.chg (S:=[]) (Chg.of_fr (((Fr.refl [] wr).alloc _).alloc _)) (by simp)
   case a2=>exact fun i u h=>by rw[repsZ_one] at h;exact h
   case a3=>omega
   case a4=>omega
   intro o1 cap1 w5 hv5 F1 keep5 ch5
   have B5:=(HB0.out.chg (tag:=tagA) (S:=[]) (Chg.of_fr ((Fr.refl [] _).alloc (Obj.cells #[Value.int IntKind.i64 (-1),Value.int IntKind.i64 (-1),Value.string m] 65))) (by simp)).chg ch5 (by rw[hA2];simp;omega)
   have hs5:=ch5.size
   simp only[World.size_alloc] at hs5
   have q2:=B5.c4
   have y2:=B5.z 4 (by decide)
   have ch6:Chg tagA [6] w5 (w5.setCell ⟨wr.heap.size,4,none⟩ (.slice o1 (n+1) cap1)):=Chg.setCell w5 (by rw[hA2];simp) _
   have B6:=B5.set4 (.slice o1 (n+1) cap1)
   have HB6:Hid _:=B6
   have Fm6:=((HFm.out.fr ((Fr.refl [] _).alloc (Obj.cells #[Value.int IntKind.i64 (-1),Value.int IntKind.i64 (-1),Value.string m] 65))).chg ch5 (by rw[hA4];simp;omega)).set (j:=4) (v:=.slice o1 (n+1) cap1) (g:=wr.heap.size) (by omega)
   have p0:=Fm6.c0
   have p1:=Fm6.c1
   have p2:=Fm6.c2
   have HFm6:Hid _:=Fm6
   clear Fm6
   have Hv6:Hid _:=hv5.chg ch6 (by simp;omega)
   have HF6:Hid _:=F1.chg ch6 (by simp;omega)
   clear B5 B6 hv5 F1 keep5
   go_wp2_with (at_builtin;refine wpList_append_famZ ti rfl _ _ rfl w0.heap.size tagA t _ n [.int .i64 (-1),.int .i64 (-1),.string m] rfl (by intro u hu;simp at hu;rcases hu with rfl | rfl | rfl <;> rfl) 2 ⟨w5.heap.size,0,none⟩ 2 rfl rfl ?b1 (by decide) ?b2 ?b3 ?b4 ?b5 ?_)
   case b1=>exact Hv6.out.chg (S:=[]) (Chg.of_fr ((Fr.refl [] _).alloc _)) (by simp)
   case b2=>have h:=repsZ_new (w5.setCell ⟨wr.heap.size,4,none⟩ (.slice o1 (n+1) cap1)) [.int .i64 (-1),.int .i64 (-1),.string m] 2 #[.int .i64 (-1),.int .i64 (-1),.string m,.int .i64 (-1),.int .i64 (-1),.string m] 65 rfl;simpa using h
   case b3=>omega
   case b4=>simp;omega
   case b5=>exact hA3 _ (by simp;omega)
   intro o2 cap2 w8 hv8 F2 keep8 ch8
   have F18:=keep8 1 _ (by decide) (HF6.out.chg (S:=[]) (Chg.of_fr ((Fr.refl [] _).alloc _)) (by simp))
   have B8:=(HB6.out.chg (tag:=tagA) (S:=[]) (Chg.of_fr ((Fr.refl [] _).alloc (Obj.cells #[.int .i64 (-1),.int .i64 (-1),.string m,.int .i64 (-1),.int .i64 (-1),.string m] 65))) (by simp)).chg ch8 (by rw[hA2];simp;omega)
   have hs8:=ch8.size
   simp only[World.size_alloc] at hs8
   have hs6:(w5.setCell ⟨wr.heap.size,4,none⟩ (.slice o1 (n+1) cap1)).heap.size=w5.heap.size:=by simp
   have q3:=B8.c5
   have y3:=B8.z 5 (by decide)
   have ch9:Chg tagA [6] w8 (w8.setCell ⟨wr.heap.size,5,none⟩ (.slice o2 (n+2) cap2)):=Chg.setCell w8 (by rw[hA2];simp) _
   have Fm9:=((HFm6.out.fr ((Fr.refl [] _).alloc (Obj.cells #[.int .i64 (-1),.int .i64 (-1),.string m,.int .i64 (-1),.int .i64 (-1),.string m] 65))).chg ch8 (by rw[hA4];simp;omega)).set (j:=5) (v:=.slice o2 (n+2) cap2) (g:=wr.heap.size) (by omega)
   have p0:=Fm9.c0
   have p1:=Fm9.c1
   have p2:=Fm9.c2
   clear Fm9
   have HB9:Hid _:=B8.set5 (.slice o2 (n+2) cap2)
   have Hv9:Hid _:=hv8.chg ch9 (by simp;omega)
   have HF9:Hid _:=F2.chg ch9 (by simp;omega)
   have HG9:Hid _:=F18.chg ch9 (by simp;omega)
   clear B8 hv8 F2 F18 keep8
   go_wp2_with (at_builtin;refine wpList_append_famZ ti rfl _ _ rfl w0.heap.size tagA t _ n [.int .i64 (-1),.int .i64 (-1),.string m] rfl (by intro u hu;simp at hu;rcases hu with rfl | rfl | rfl <;> rfl) 3 ⟨w8.heap.size,0,none⟩ 3 rfl rfl ?d1 (by decide) ?d2 ?d3 ?d4 ?d5 ?_)
   case d1=>exact Hv9.out.chg (S:=[]) (Chg.of_fr ((Fr.refl [] _).alloc _)) (by simp)
   case d2=>have h:=repsZ_new (w8.setCell ⟨wr.heap.size,5,none⟩ (.slice o2 (n+2) cap2)) [.int .i64 (-1),.int .i64 (-1),.string m] 3 #[.int .i64 (-1),.int .i64 (-1),.string m,.int .i64 (-1),.int .i64 (-1),.string m,.int .i64 (-1),.int .i64 (-1),.string m] 65 rfl;simpa using h
   case d3=>omega
   case d4=>simp;omega
   case d5=>exact hA3 _ (by simp;omega)
   intro o3 cap3 w11 hv11 F3 keep11 ch11
   have F1_11:=keep11 1 _ (by decide) (HG9.out.chg (S:=[]) (Chg.of_fr ((Fr.refl [] _).alloc _)) (by simp))
   have F2_11:=keep11 2 _ (by decide) (HF9.out.chg (S:=[]) (Chg.of_fr ((Fr.refl [] _).alloc _)) (by simp))
   have B11:=(HB9.out.chg (tag:=tagA) (S:=[]) (Chg.of_fr ((Fr.refl [] _).alloc (Obj.cells #[.int .i64 (-1),.int .i64 (-1),.string m,.int .i64 (-1),.int .i64 (-1),.string m,.int .i64 (-1),.int .i64 (-1),.string m] 65))) (by simp)).chg ch11 (by rw[hA2];simp;omega)
   have q4:=B11.c6
   have y4:=B11.z 6 (by decide)
   have ch12:Chg tagA [6] w11 (w11.setCell ⟨wr.heap.size,6,none⟩ (.slice o3 (n+3) cap3)):=Chg.setCell w11 (by rw[hA2];simp) _
   have B12:=B11.set6 (.slice o3 (n+3) cap3)
   have v12:=hv11.chg ch12 (by simp;omega)
   have F1:=F1_11.chg ch12 (by simp;omega)
   have F2:=F2_11.chg ch12 (by simp;omega)
   have F3':=F3.chg ch12 (by simp;omega)
   have tr:∀ i,i<wr.heap.size→tagA i ∉ [t,6]→tagA i ∉ [t,6]:=fun _ _ h=>h
   have chA:Chg tagA [t,6] wr (w11.setCell ⟨wr.heap.size,6,none⟩ (.slice o3 (n+3) cap3)):=by
    have e1:Chg tagA [t,6] wr w5:=(Chg.of_fr (((Fr.refl [] wr).alloc _).alloc _)).trans (ch5.mono (S':=[t,6]) (by simp)) (fun _ _ h=>h)
    have e2:=e1.trans (ch6.mono (S':=[t,6]) (by simp)) (fun _ _ h=>h)
    have e3:=e2.trans (Chg.of_fr (tag:=tagA) (S:=[t,6]) ((Fr.refl [] _).alloc (Obj.cells #[.int .i64 (-1),.int .i64 (-1),.string m,.int .i64 (-1),.int .i64 (-1),.string m] 65))) (fun _ _ h=>h)
    have e4:=e3.trans (ch8.mono (S':=[t,6]) (by simp)) (fun _ _ h=>h)
    have e5:=e4.trans (ch9.mono (S':=[t,6]) (by simp)) (fun _ _ h=>h)
    have e6:=e5.trans (Chg.of_fr (tag:=tagA) (S:=[t,6]) ((Fr.refl [] _).alloc (Obj.cells #[.int .i64 (-1),.int .i64 (-1),.string m,.int .i64 (-1),.int .i64 (-1),.string m,.int .i64 (-1),.int .i64 (-1),.string m] 65))) (fun _ _ h=>h)
    have e7:=e6.trans (ch11.mono (S':=[t,6]) (by simp)) (fun _ _ h=>h)
    exact e7.trans (ch12.mono (S':=[t,6]) (by simp)) (fun _ _ h=>h)
   clear p0 p1 p2 n0 n1 n2 HFm HFm6 hv11 F3 keep11 F1_11 F2_11 B11 ch5 ch6 ch8 ch9 ch11 ch12 HB0 HvA HB6 Hv6 HF6 HB9 Hv9 HF9 HG9 hs5 hs8 hs6 tr
   have HF:Hid (_∧_∧_∧_∧_∧_):=⟨B12,v12,F1,F2,F3',chA⟩
   clear B12 v12 F1 F2 F3' chA q2 y2 q3 y3
   go_wp2
   generalize w11.setCell ⟨wr.heap.size,6,none⟩ (.slice o3 (n+3) cap3)=W12 at *
   clear q4 y4
   obtain⟨B12,v12,F1,F2,F3,chA⟩:=HF.out
   clear HF
   have hW1:=ch1.size
   have hW2:=f2.size
   have hWr:=ch2.size
   have hWA:=chA.size
   have chW:Chg tag [0,6,t] W W12:=by
    have e1:Chg tag [0,6,t] W W2b:=(ch1.mono (S':=[0,6,t]) (by simp)).trans (Chg.of_fr (tag:=tag) (S:=[0,6,t]) f2) (fun _ _ h=>h)
    have e2:Chg tag [0,6,t] W wr:=e1.trans (ch2.mono (S':=[0,6,t]) (by simp)) (fun _ _ h=>h)
    exact e2.trans chA (fun i hi h=>by rw[hA1 i (by omega)];simp at h ⊢;omega)
   obtain⟨tagB,hB⟩:∃ tagB:Nat→Nat,∀ i,tagB i=if tagA i=t then 8 else tagA i:=⟨fun i=>if tagA i=t then 8 else tagA i,fun _=>rfl⟩
   have sQ:Stq tag tagB t W W12:=⟨chW,fun i hi hne=>by rw[hB,hA1 i (by omega),if_neg hne]⟩
   have core12:CorI w0 W12 b tagB (upd c 6 (.int .i64 ((K:Int)+1))):=by
    have e1:=((Hc1.out.chg (S:=[]) (Chg.of_fr f2) (by simp) (by simp)).retag (tag':=tagA) (fun i hi _=>hA1 i hi)).chg ch2A (by simp;omega) (by simp;omega)
    have e2:=e1.chg chA (by simp;omega) (by simp;omega)
    exact e2.retag (fun i hi h=>by rw[hB,if_neg (by omega)])
   have I:=HI.out
   have r7:RowT w0.heap.size W12 tagB 9 92 7 (c 8) (N 8) (X 8):=sQ.row (I.rows 8 (by unfold isR;omega)) (by decide) (by decide) (by show (9:Nat)≠t;omega)
   have tg8:∀ u,Tg tagA u t→Tg tagB u 8:=fun u h g hg=>by rw[hB,if_pos (h g hg)]
   have bkx:BkOk W12 tagB MkF ⟨[.int .i64 (-1),.int .i64 (-1),.string m],(.slice o n cap),(.slice o1 (n+1) cap1),(.slice o2 (n+2) cap2),(.slice o3 (n+3) cap3)⟩:=
    ⟨⟨-1,-1,m,rfl⟩,v12.allZ (by omega),F1.row.allZ (by omega),F2.row.allZ (by omega),F3.row.allZ (by omega),tg8 _ v12.tg,tg8 _ F1.row.tg,tg8 _ F2.row.tg,tg8 _ F3.row.tg⟩
   have HI:Hid _:=I
   clear I v12 F1 F2 F3 tg8 chA hA1 hA2 hA3
   have d7:=core12.cell 8 (by decide)
   obtain⟨v7,e7⟩:∃ v,c 8=v:=⟨_,rfl⟩
   have e7':upd c 6 (.int .i64 ((K:Int)+1)) 8=v7:=e7
   rw[e7'] at d7
   rw[e7] at r7
   have hsz12:=core12.fr.size
   obtain⟨i0,hi,hz0,hz1,hz2⟩:=info_parts infoP92
   obtain⟨vv,w13,hr2,hown',hgrow,hnil,hwh⟩:=run_append_own_at (P:=Tryz.prog) (W12.drew.alloc (Obj.cells #[.int .i64 (-1),.int .i64 (-1),Value.string m,Value.slice o n cap,Value.slice o1 (n+1) cap1,Value.slice o2 (n+2) cap2,Value.slice o3 (n+3) cap3] 92)) w0.heap.size 54 54 92 i0 _ 7 128 Tryz.underlying54 hi hz0 hz1 hz2 rfl (by decide) v7 (N 8) (X 8) ((show W12.drew.ownsRow _ _ _ _ _ _ from r7.own).alloc _) ⟨W12.heap.size,0,none⟩ 1 1 (Bk.cells ⟨[.int .i64 (-1),.int .i64 (-1),.string m],(.slice o n cap),(.slice o1 (n+1) cap1),(.slice o2 (n+2) cap2),(.slice o3 (n+3) cap3)⟩) rfl
    (by
     intro j u hj
     have hnw:∀ i,(W12.drew.alloc (Obj.cells #[.int .i64 (-1),.int .i64 (-1),Value.string m,Value.slice o n cap,Value.slice o1 (n+1) cap1,Value.slice o2 (n+2) cap2,Value.slice o3 (n+3) cap3] 92)).cell? ⟨W12.heap.size,i,none⟩=(Bk.cells ⟨[.int .i64 (-1),.int .i64 (-1),.string m],(.slice o n cap),(.slice o1 (n+1) cap1),(.slice o2 (n+2) cap2),(.slice o3 (n+3) cap3)⟩)[i]?:=fun i=>by
      have hm:=World.alloc_heap_new W12.drew (Obj.cells #[.int .i64 (-1),.int .i64 (-1),Value.string m,Value.slice o n cap,Value.slice o1 (n+1) cap1,Value.slice o2 (n+2) cap2,Value.slice o3 (n+3) cap3] 92)
      have hm':(W12.drew.alloc (Obj.cells #[.int .i64 (-1),.int .i64 (-1),Value.string m,Value.slice o n cap,Value.slice o1 (n+1) cap1,Value.slice o2 (n+2) cap2,Value.slice o3 (n+3) cap3] 92)).heap[W12.heap.size]?=some _:=hm
      unfold World.cell?;rw[hm'];simp[Bk.cells]
     rcases j with _ | j
     ·simpa [Addr.add,hnw] using hj
     ·simpa [Addr.add,hnw] using hj)
    (by intro u hu;simp[Bk.cells] at hu;rcases hu with rfl | rfl | rfl | rfl | rfl | rfl <;> rfl) (by unfold maxLen;omega) (by omega) (by simp;omega)
   obtain⟨q1,q2,rfl⟩:=own_form hown'
   have fa:Fr [] W12 (W12.drew.alloc (Obj.cells #[.int .i64 (-1),.int .i64 (-1),Value.string m,Value.slice o n cap,Value.slice o1 (n+1) cap1,Value.slice o2 (n+2) cap2,Value.slice o3 (n+3) cap3] 92)):=((Fr.refl [] W12).drew).alloc _
   obtain⟨s3,core3,row3,cl,fz,_⟩:=row_step 8 9 core12 (by rw[e7'];exact r7) fa hown' (by rw[e7'];exact hgrow) (by rw[e7'];exact hwh) (by decide) (by decide) (by decide)
   have cl7:=cl 8 (by decide)
   have fz7:=fz 8 (by decide)
   rw[e7'] at cl7
   have IF:ScP w0 (w13.setCell ⟨b,8,none⟩ (.slice q1 (N 8+1) q2)) b (newTag tagB (W12.drew.alloc (Obj.cells #[.int .i64 (-1),.int .i64 (-1),Value.string m,Value.slice o n cap,Value.slice o1 (n+1) cap1,Value.slice o2 (n+2) cap2,Value.slice o3 (n+3) cap3] 92)).heap.size 9) (upd (upd c 6 (.int .i64 ((K:Int)+1))) 8 (.slice q1 (N 8+1) q2)) ms bs (up N 8 (N 8+1)) (up X 8 (X 8++(Bk.cells ⟨[.int .i64 (-1),.int .i64 (-1),.string m],(.slice o n cap),(.slice o1 (n+1) cap1),(.slice o2 (n+2) cap2),(.slice o3 (n+3) cap3)⟩))) bk (fk++[⟨[.int .i64 (-1),.int .i64 (-1),.string m],(.slice o n cap),(.slice o1 (n+1) cap1),(.slice o2 (n+2) cap2),(.slice o3 (n+3) cap3)⟩]):=by
    have hh:=HI.out.book (v':=.slice q1 (N 8+1) q2) ht sQ 8 (.inr rfl) s3 (by rw[HK.out];exact core3) row3 (by rw[if_neg (by decide)];exact bkx)
    rw[HK.out] at hh
    exact hh
   have cfin:Chg tag [0,9,6,t] W (w13.setCell ⟨b,8,none⟩ (.slice q1 (N 8+1) q2)):=(sQ.chg.mono (S':=[0,9,6,t]) (by simp)).trans s3.chg (fun i hi h=>by
    simp at h
    rw[sQ.ret i hi (by omega)]
    simp;omega)
   have rfin:∀ k,k<W.heap.size→tag k≠t→newTag tagB (W12.drew.alloc (Obj.cells #[.int .i64 (-1),.int .i64 (-1),Value.string m,Value.slice o n cap,Value.slice o1 (n+1) cap1,Value.slice o2 (n+2) cap2,Value.slice o3 (n+3) cap3] 92)).heap.size 9 k=tag k:=fun k hk hne=>by
    rw[s3.ret k (by omega),sQ.ret k hk hne]
   have Hr2:Hid _:=hr2
   have c0:=B12.c0
   have c1:=B12.c1
   have c2:=B12.c2
   have c3:=B12.c3
   have c4:=B12.c4
   have c5:=B12.c5
   have c6:=B12.c6
   have HIF:Hid _:=IF
   have Hcf:Hid _:=cfin
   have Hrf:Hid _:=rfin
   have hbl:=B12.lt
   have b0:=((Fr.refl [] W12).alloc (Obj.cells #[.int .i64 (-1),.int .i64 (-1),Value.string m,Value.slice o n cap,Value.slice o1 (n+1) cap1,Value.slice o2 (n+2) cap2,Value.slice o3 (n+3) cap3] 92)).cell (p:=⟨b,8,none⟩) core12.lt (by simp)
   rw[d7] at b0
   clear hr2 IF cfin rfin sQ s3 core3 row3 cl fz hown' hgrow hnil hwh bkx r7 chW ch1 ch2 ch2A HI Hc1 B12 core12 e7 e7' hB fa
   refine wp_region_heldD (fun _=>True) hm ?_
   have hS:(fun _:World=>True) W12.drew:=trivial
   refine wpAnyH_take (i:=0) (v:=?_) rfl (by kernel_rfl) (by kernel_rfl) (by kernel_rfl) (fun _ _ _ h=>h) (.inl ⟨rfl,fun w1 hS1=>?_⟩) hS ?_
   rotate_left
   ·have q9:=hS1
    go_simp
    rfl
   simp only[Act.put,List.setIfInBounds_toArray,List.set_cons_zero,List.set_cons_succ]
   refine wpAnyH_take (i:=1) (v:=?_) rfl (by kernel_rfl) (by kernel_rfl) (by kernel_rfl) (fun _ _ _ h=>h) (.inl ⟨rfl,fun w1 hS1=>?_⟩) hS ?_
   rotate_left
   ·have q9:=hS1
    go_simp
    rfl
   simp only[Act.put,List.setIfInBounds_toArray,List.set_cons_zero,List.set_cons_succ]
   refine wpAnyH_take (i:=2) (v:=?_) rfl (by kernel_rfl) (by kernel_rfl) (by kernel_rfl) (fun _ _ _ h=>h) (.inl ⟨rfl,fun w1 hS1=>?_⟩) hS ?_
   rotate_left
   ·have q9:=hS1
    go_simp
    rfl
   simp only[Act.put,List.setIfInBounds_toArray,List.set_cons_zero,List.set_cons_succ]
   refine wpAnyH_take (i:=3) (v:=?_) rfl (by kernel_rfl) (by kernel_rfl) (by kernel_rfl) (fun _ _ _ h=>h) (.inl ⟨rfl,fun w1 hS1=>?_⟩) hS ?_
   rotate_left
   ·have q9:=hS1
    go_simp
    rfl
   simp only[Act.put,List.setIfInBounds_toArray,List.set_cons_zero,List.set_cons_succ]
   refine wpAnyH_ready (rs:=[4,5]) (by kernel_rfl) (by simp) ?_
   refine AllReadyH.cons rfl (fun K hK=>?_) ?_
   ·go_simp
    refine hK _ _ trivial ?_
    clear hK K
    intro _
    refine wpAnyH_ready (rs:=[5]) (by kernel_rfl) (by simp) ?_
    refine AllReadyH.cons rfl (fun K hK=>?_) AllReadyH.nil
    go_simp
    refine hK _ _ trivial ?_
    clear hK K
    intro _
    refine wpAnyH_ready (rs:=[6]) (by kernel_rfl) (by simp) ?_
    refine AllReadyH.cons rfl (fun K hK=>?_) AllReadyH.nil
    go_simp
    refine hK _ _ trivial ?_
    clear hK K
    intro _
    refine wpAnyH_ready (rs:=[7]) (by kernel_rfl) (by simp) ?_
    refine AllReadyH.cons rfl (fun K hK=>?_) AllReadyH.nil
    refine wanted_of (by rfl) ?_
    refine wp_append_run _ _ 54 rfl _ _ rfl rfl Hr2.out ?_
    refine hK _ _ trivial ?_
    clear hK K
    intro _
    simp only[Act.put,List.setIfInBounds_toArray,List.set_cons_zero,List.set_cons_succ]
    refine wpAnyH_ready (rs:=[8]) (by kernel_rfl) (by simp) ?_
    refine AllReadyH.cons rfl (fun K hK=>?_) AllReadyH.nil
    go_simp
    refine hK _ _ trivial ?_
    clear hK K
    intro _
    refine wpAnyH_ready (rs:=[9]) (by kernel_rfl) (by simp) ?_
    refine AllReadyH.cons rfl (fun K hK=>?_) AllReadyH.nil
    go_simp
    refine hK _ _ trivial ?_
    clear hK K
    intro _
    refine wpAnyH_ready (rs:=[10]) (by kernel_rfl) (by simp) ?_
    refine AllReadyH.cons rfl (fun K hK=>?_) AllReadyH.nil
    go_simp
    refine hK _ _ trivial ?_
    clear hK K
    intro _
    refine wpAnyH_done (by kernel_rfl) ?_ _
    go_wp2
    go_end0
    exact⟨rfl,_,⟨_,_,HIF.out⟩,Hcf.out,Hrf.out⟩
   ·refine AllReadyH.cons rfl (fun K hK=>?_) AllReadyH.nil
    go_simp
    refine hK _ _ trivial ?_
    clear hK K
    intro _
    refine wpAnyH_ready (rs:=[4,6]) (by kernel_rfl) (by simp) ?_
    refine AllReadyH.cons rfl (fun K hK=>?_) ?_
    ·go_simp
     refine hK _ _ trivial ?_
     clear hK K
     intro _
     refine wpAnyH_ready (rs:=[6]) (by kernel_rfl) (by simp) ?_
     refine AllReadyH.cons rfl (fun K hK=>?_) AllReadyH.nil
     go_simp
     refine hK _ _ trivial ?_
     clear hK K
     intro _
     refine wpAnyH_ready (rs:=[7]) (by kernel_rfl) (by simp) ?_
     refine AllReadyH.cons rfl (fun K hK=>?_) AllReadyH.nil
     refine wanted_of (by rfl) ?_
     refine wp_append_run _ _ 54 rfl _ _ rfl rfl Hr2.out ?_
     refine hK _ _ trivial ?_
     clear hK K
     intro _
     simp only[Act.put,List.setIfInBounds_toArray,List.set_cons_zero,List.set_cons_succ]
     refine wpAnyH_ready (rs:=[8]) (by kernel_rfl) (by simp) ?_
     refine AllReadyH.cons rfl (fun K hK=>?_) AllReadyH.nil
     go_simp
     refine hK _ _ trivial ?_
     clear hK K
     intro _
     refine wpAnyH_ready (rs:=[9]) (by kernel_rfl) (by simp) ?_
     refine AllReadyH.cons rfl (fun K hK=>?_) AllReadyH.nil
     go_simp
     refine hK _ _ trivial ?_
     clear hK K
     intro _
     refine wpAnyH_ready (rs:=[10]) (by kernel_rfl) (by simp) ?_
     refine AllReadyH.cons rfl (fun K hK=>?_) AllReadyH.nil
     go_simp
     refine hK _ _ trivial ?_
     clear hK K
     intro _
     refine wpAnyH_done (by kernel_rfl) ?_ _
     go_wp2
     go_end0
     exact⟨rfl,_,⟨_,_,HIF.out⟩,Hcf.out,Hrf.out⟩
    ·refine AllReadyH.cons rfl (fun K hK=>?_) AllReadyH.nil
     go_simp
     refine hK _ _ trivial ?_
     clear hK K
     intro _
     refine wpAnyH_ready (rs:=[4]) (by kernel_rfl) (by simp) ?_
     refine AllReadyH.cons rfl (fun K hK=>?_) AllReadyH.nil
     go_simp
     refine hK _ _ trivial ?_
     clear hK K
     intro _
     refine wpAnyH_ready (rs:=[7]) (by kernel_rfl) (by simp) ?_
     refine AllReadyH.cons rfl (fun K hK=>?_) AllReadyH.nil
     refine wanted_of (by rfl) ?_
     refine wp_append_run _ _ 54 rfl _ _ rfl rfl Hr2.out ?_
     refine hK _ _ trivial ?_
     clear hK K
     intro _
     simp only[Act.put,List.setIfInBounds_toArray,List.set_cons_zero,List.set_cons_succ]
     refine wpAnyH_ready (rs:=[8]) (by kernel_rfl) (by simp) ?_
     refine AllReadyH.cons rfl (fun K hK=>?_) AllReadyH.nil
     go_simp
     refine hK _ _ trivial ?_
     clear hK K
     intro _
     refine wpAnyH_ready (rs:=[9]) (by kernel_rfl) (by simp) ?_
     refine AllReadyH.cons rfl (fun K hK=>?_) AllReadyH.nil
     go_simp
     refine hK _ _ trivial ?_
     clear hK K
     intro _
     refine wpAnyH_ready (rs:=[10]) (by kernel_rfl) (by simp) ?_
     refine AllReadyH.cons rfl (fun K hK=>?_) AllReadyH.nil
     go_simp
     refine hK _ _ trivial ?_
     clear hK K
     intro _
     refine wpAnyH_done (by kernel_rfl) ?_ _
     go_wp2
     go_end0
     exact⟨rfl,_,⟨_,_,HIF.out⟩,Hcf.out,Hrf.out⟩
theorem repsZ_get:∀ (n:Nat) (m:List Value) (i j:Nat),i<n→j<m.length→(repsZ n m)[i*m.length+j]?=m[j]?
 | 0,m,i,j,hi,hj=>by omega
 | n+1,m,0,j,hi,hj=>by
  unfold repsZ
  rw[List.replicate_succ,List.flatten_cons,List.getElem?_append_left (by omega)]
  simp
 | n+1,m,i+1,j,hi,hj=>by
  have h:=repsZ_get n m i j (by omega) hj
  unfold repsZ at h ⊢
  rw[List.replicate_succ,List.flatten_cons,List.getElem?_append_right (by rw[Nat.succ_mul];omega)]
  have e:(i+1)*m.length+j-m.length=i*m.length+j:=by rw[Nat.succ_mul];omega
  rw[e]
  exact h
theorem AllZ.form {W:World}{v:Value}{m:List Value} (h:AllZ W v m):∃ o n cap,v=.slice o n cap:=by
 obtain⟨n,-,h⟩:=h
 obtain⟨o,cap,h⟩:=h.form
 exact⟨o,n,cap,h⟩
theorem allT_some (g n c:Nat) (m:ByteArray) (w:World) (hc:n≤c) (hn:n≤2000) (h:∀ i,i<n→w.cell? ⟨g,i,none⟩=some (.string m)) :
  Calls Tryz.prog 37 #[.slice (some ⟨g,0,none⟩) n c,.string m] w fun e w'=>e=.returned (.bool true)∧w'=w:=by
 have H1:Hid _:=h
 clear h
 go_enter Tryz.func37,Tryz.ntmps37
 go_wp2
 go_loop [5] (fun i=>∃ k:Nat,k≤n∧i=.int .i64 k) (fun i=>n-(intOf i).toNat)
 case atStart=>exact⟨0,by omega,rfl⟩
 case round=>
  obtain⟨k,hk,rfl⟩:=hrel
  by_cases hlt:k<n
  ·have g1:(k:Int)<n:=by omega
   have c1:=H1.out k hlt
   go_wp2
   go_round
   case rel=>exact⟨k+1,by omega,by go_num⟩
   case measure=>simp[intOf];omega
  ·have g1:¬ ((k:Int)<n):=by omega
   go_wp2
   go_ret
   exact⟨rfl,rfl⟩
theorem allT_nil (o:Option Addr) (c:Nat) (m:ByteArray) (w:World) :
  Calls Tryz.prog 37 #[.slice o 0 c,.string m] w fun e w'=>e=.returned (.bool true)∧w'=w:=by
 go_enter Tryz.func37,Tryz.ntmps37
 go_wp2
 go_loop [5] (fun i=>i=.int .i64 0) (fun _=>0)
 case atStart=>exact rfl
 case round=>
  subst hrel
  go_wp2
  go_ret
  exact⟨rfl,rfl⟩
theorem allT_any (v:Value) (m:ByteArray) (w:World) (h:AllZ w v [.string m]):Calls Tryz.prog 37 #[v,.string m] w fun e w'=>e=.returned (.bool true)∧w'=w:=by
 obtain⟨n,hn,hl,⟨rfl,rfl⟩ | ⟨g,cap,rfl,hc,hg,hx⟩⟩:=h
 ·exact allT_nil none 0 m w
 ·refine allT_some g n cap m w hc hn fun i hi=>?_
  have:=repsZ_get n [.string m] i 0 hi (by simp)
  exact hx i _ (by simpa using this)
theorem allF_some (g n c:Nat) (p l:Int) (m:ByteArray) (w:World) (hc:n≤c) (hn:n≤2000) (hg:g<w.heap.size)
  (h:∀ i,i<n→w.cell? ⟨g,i*3,none⟩=some (.int .i64 p)∧w.cell? ⟨g,i*3+1,none⟩=some (.int .i64 l)∧w.cell? ⟨g,i*3+2,none⟩=some (.string m)) :
  Calls Tryz.prog 38 #[.slice (some ⟨g,0,none⟩) n c,.agg #[.int .i64 p,.int .i64 l,.string m]] w fun e w'=>e=.returned (.bool true)∧Fr [] w w':=by
 have f0:Fr [] w (w.alloc (Obj.cells #[.int .i64 p,.int .i64 l,.string m] 65)):=(Fr.refl [] w).alloc _
 have k1:=World.alloc_heap_new w (Obj.cells #[.int .i64 p,.int .i64 l,.string m] 65)
 have n0:(w.alloc (Obj.cells #[.int .i64 p,.int .i64 l,.string m] 65)).cell? ⟨w.heap.size,0,none⟩=some (.int .i64 p):=by unfold World.cell?;rw[k1];rfl
 have n1:(w.alloc (Obj.cells #[.int .i64 p,.int .i64 l,.string m] 65)).cell? ⟨w.heap.size,1,none⟩=some (.int .i64 l):=by unfold World.cell?;rw[k1];rfl
 have n2:(w.alloc (Obj.cells #[.int .i64 p,.int .i64 l,.string m] 65)).cell? ⟨w.heap.size,2,none⟩=some (.string m):=by unfold World.cell?;rw[k1];rfl
 have hlt0:=(Array.getElem?_eq_some_iff.1 k1).1
 have H1:Hid _:=h
 have Hn:Hid _:=And.intro n0 (And.intro n1 n2)
 have Hf:Hid _:=f0
 clear h n0 n1 n2 f0 k1
 go_enter Tryz.func38,Tryz.ntmps38
 go_wp2
 generalize hW1:w.alloc (Obj.cells #[.int .i64 p,.int .i64 l,.string m] 65)=W1 at *
 clear hW1
 go_loopw [5] (fun i wr=>∃ k:Nat,k≤n∧i=.int .i64 k∧Fr [] W1 wr) (fun i _=>n-(intOf i).toNat)
 case atStart=>exact⟨0,by omega,rfl,Fr.refl _ _⟩
 case round=>
  obtain⟨k,hk,rfl,f⟩:=hrel
  have e0:=(f.cell (p:=⟨w.heap.size,0,none⟩) hlt0 (by simp)).trans Hn.out.1
  have e1:=(f.cell (p:=⟨w.heap.size,1,none⟩) hlt0 (by simp)).trans Hn.out.2.1
  have e2:=(f.cell (p:=⟨w.heap.size,2,none⟩) hlt0 (by simp)).trans Hn.out.2.2
  have ff:=Hf.out.trans f
  by_cases hlt:k<n
  ·have g1:(k:Int)<n:=by omega
   have c0:=(ff.cell (p:=⟨g,k*3,none⟩) hg (by simp)).trans (H1.out k hlt).1
   have c1:=(ff.cell (p:=⟨g,k*3+1,none⟩) hg (by simp)).trans (H1.out k hlt).2.1
   have c2:=(ff.cell (p:=⟨g,k*3+2,none⟩) hg (by simp)).trans (H1.out k hlt).2.2
   clear ff
   go_wp2
   go_region
   go_wp2
   exact⟨⟨k+1,by omega,by go_num,f.drew⟩,by simp[intOf];omega⟩
  ·have g1:¬ ((k:Int)<n):=by omega
   clear e0 e1 e2
   go_wp2
   go_ret
   exact⟨rfl,ff⟩
theorem allF_nil (o:Option Addr) (c:Nat) (p l:Int) (m:ByteArray) (w:World) :
  Calls Tryz.prog 38 #[.slice o 0 c,.agg #[.int .i64 p,.int .i64 l,.string m]] w fun e w'=>e=.returned (.bool true)∧Fr [] w w':=by
 have HF:Hid _:=fun o=>(Fr.refl [] w).alloc o
 go_enter Tryz.func38,Tryz.ntmps38
 go_wp2
 go_loop [5] (fun i=>i=.int .i64 0) (fun _=>0)
 case atStart=>exact rfl
 case round=>
  subst hrel
  go_wp2
  go_ret
  exact⟨rfl,HF.out _⟩
theorem allF_any (v:Value) (p l:Int) (m:ByteArray) (w:World) (h:AllZ w v [.int .i64 p,.int .i64 l,.string m]):Calls Tryz.prog 38 #[v,.agg #[.int .i64 p,.int .i64 l,.string m]] w fun e w'=>e=.returned (.bool true)∧Fr [] w w':=by
 obtain⟨n,hn,hl,⟨rfl,rfl⟩ | ⟨g,cap,rfl,hc,hg,hx⟩⟩:=h
 ·exact allF_nil none 0 p l m w
 ·refine allF_some g n cap p l m w hc hn hg fun i hi=>⟨?_,?_,?_⟩
  ·have:=repsZ_get n [.int .i64 p,.int .i64 l,.string m] i 0 hi (by simp)
   exact hx (i*3) _ (by simpa using this)
  ·have:=repsZ_get n [.int .i64 p,.int .i64 l,.string m] i 1 hi (by simp)
   exact hx (i*3+1) _ (by simpa using this)
  ·have:=repsZ_get n [.int .i64 p,.int .i64 l,.string m] i 2 hi (by simp)
   exact hx (i*3+2) _ (by simpa using this)
end Go.Proofs.YtclkgoigmgkffaaGreatDoor
