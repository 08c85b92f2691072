/-
  Texts Ab.
-/
import Derived.Test.YtclkgoigmgkffaaGreatDoorM35
import Derived.Test.YtclkgoigmgkffaaGreatDoorM26
set_option linter.unusedSimpArgs false
set_option linter.unusedVariables false
set_option maxRecDepth 100000
set_option maxHeartbeats 40000000
namespace Go.Proofs.YtclkgoigmgkffaaGreatDoor
open Go.RowKit
open Wire Flow Mach
structure MoQ (w0:World) (m:Mo) (tv pv fv:Value):Prop where
 sm:ModSm m
 lt:m.texts.length≤2000000
 lp:m.pats.length≤2000000
 lf:m.fns.length≤2000000
 mi:ModIn w0 (.agg #[tv,pv,.int .i64 m.globs,.int .i64 m.arrs,fv]) m
 st:SrcZ w0 tv m.texts.length 1 (m.texts.map .string)
 sp:SrcZ w0 pv m.pats.length 1 (m.pats.map .string)
 sf:SrcZ w0 fv m.fns.length 3 (m.fns.flatMap fnC)
structure MsQ (w0:World) (mg moff mn:Nat) (L:List Mo):Prop where
 len:L.length=mn
 lt:mg<w0.heap.size
 at_:∀ (i:Nat) (m:Mo),L[i]?=some m→∃ tv pv fv,MoQ w0 m tv pv fv∧w0.cell? ⟨mg,moff+i*5,none⟩=some tv∧w0.cell? ⟨mg,moff+i*5+1,none⟩=some pv∧w0.cell? ⟨mg,moff+i*5+2,none⟩=some (.int .i64 m.globs)∧w0.cell? ⟨mg,moff+i*5+3,none⟩=some (.int .i64 m.arrs)∧w0.cell? ⟨mg,moff+i*5+4,none⟩=some fv
theorem MsQ.ms {w0:World}{mg moff mn:Nat}{L:List Mo} (h:MsQ w0 mg moff mn L):MsAt w0 mg moff mn L:=
 ⟨h.len,h.lt,fun i m hi=>by
  obtain⟨tv,pv,fv,q,c⟩:=h.at_ i m hi
  exact⟨q.sm,tv,pv,fv,q.mi,c⟩⟩
def PkR (w0 W1:World) (x:Value) (wx:World):Prop:=
 ∃ (gm:Nat) (m:Mo) (o1 o2 o3:Option Addr) (n1 n2 n3:Nat),x=.pointer (some ⟨gm,0,none⟩)∧Fr [] W1 wx∧C5 wx gm (.slice o1 m.texts.length n1) (.slice o2 m.pats.length n2) (.int .i64 m.globs) (.int .i64 m.arrs) (.slice o3 m.fns.length n3)∧MoQ w0 m (.slice o1 m.texts.length n1) (.slice o2 m.pats.length n2) (.slice o3 m.fns.length n3)
theorem modPack_any (w0 W:World) (b mg moff mn mc:Nat) (a b':Int) (s t u:ByteArray) (L:List Mo) (hc:W.cell? ⟨b,0,none⟩=some (.slice (some ⟨mg,moff,none⟩) mn mc)) (hF:Fr [] w0 W) (hM:MsQ w0 mg moff mn L) (h0:0<mn) (hmn:mn≤9223372036854775807) (ha0:-9223372036854775808≤a) (ha1:a≤9223372036854775807) (hT:Tab w0) :
  Calls Tryz.prog 29 #[.pointer (some ⟨b,0,none⟩),opV 12 a b' s t u] W fun e W'=>e=.returned (.bool true)∧Fr [] W W':=by
 unfold opV
 have hm:Tryz.prog.follows Departure.mixedOrders=true:=by kernel_rfl
 obtain⟨W1,hW1⟩:∃ W1,W.alloc (.cells #[.int .i64 12,.int .i64 a,.int .i64 b',.string s,.string t,.string u] 61)=W1:=⟨_,rfl⟩
 have F1:Fr [] W W1:=by rw[← hW1];exact (Fr.refl [] W).alloc _
 have k1:=World.alloc_heap_new W (.cells #[.int .i64 12,.int .i64 a,.int .i64 b',.string s,.string t,.string u] 61)
 rw[hW1] at k1
 have hWl:=(Array.getElem?_eq_some_iff.1 k1).1
 have c0:W1.cell? ⟨W.heap.size,0,none⟩=some (.int .i64 12):=by unfold World.cell?;rw[k1];rfl
 have c1:W1.cell? ⟨W.heap.size,1,none⟩=some (.int .i64 a):=by unfold World.cell?;rw[k1];rfl
 have hbl:b<W.heap.size:=lt_of_cell hc
 have e0:=(F1.cell (p:=⟨b,0,none⟩) hbl (by simp)).trans hc
 have g1:((mn:Int)==0)=false:=by simp;omega
 have hbl1:=Nat.lt_of_lt_of_le hbl F1.size
 have hSt:∀ w,Fr [] W1 w→(fun w1:World=>w1.cell? ⟨b,0,none⟩=some (.slice (some ⟨mg,moff,none⟩) mn mc)∧w1.cell? ⟨W.heap.size,1,none⟩=some (.int .i64 a)∧Fr [] w0 w1) w:=fun w hw=>⟨(hw.cell (p:=⟨b,0,none⟩) hbl1 (by simp)).trans e0,(hw.cell (p:=⟨W.heap.size,1,none⟩) hWl (by simp)).trans c1,(hF.trans F1).trans hw⟩
 have HSt:Hid _:=hSt
 have Hpk:Hid _:=fun W=>pickC_any a mn W h0 ha0 ha1 (by omega)
 have HX:Hid _:=hM
 have HF1:Hid _:=And.intro F1 (hF.trans F1)
 have HT:Hid _:=And.intro hT True.intro
 clear F1 k1 hSt hM c1 hWl hbl hbl1 hF hc hT
 go_enter Tryz.func29,Tryz.ntmps29
 go_upto_region 4 with fail
 go_cut[5] from 40 to 53 (fun x wx=>PkR w0 W1 x wx)
 case first=>
  refine wp_region_heldD (fun w1:World=>w1.cell? ⟨b,0,none⟩=some (.slice (some ⟨mg,moff,none⟩) mn mc)∧w1.cell? ⟨W.heap.size,1,none⟩=some (.int .i64 a)∧Fr [] w0 w1) hm ?_
  have hS:(fun w1:World=>w1.cell? ⟨b,0,none⟩=some (.slice (some ⟨mg,moff,none⟩) mn mc)∧w1.cell? ⟨W.heap.size,1,none⟩=some (.int .i64 a)∧Fr [] w0 w1) W1.drew:=HSt.out W1.drew (Fr.refl [] W1).drew
  refine wpAnyH_take (i:=0) (v:=?_) rfl (by kernel_rfl) (by kernel_rfl) (by kernel_rfl) (fun _ _ _ h=>h) (.inl ⟨rfl,fun w1 hS1=>?_⟩) hS ?_
  rotate_left
  ·obtain⟨p0,p1,p2⟩:=hS1
   go_simp
   first | rfl | (refine (if_neg (by omega)).trans ?_;rfl)
  simp only[Act.put,List.setIfInBounds_toArray,List.set_cons_zero,List.set_cons_succ,List.getElem_toArray,List.getElem_cons_succ,List.getElem_cons_zero]
  refine wpAnyH_take (i:=1) (v:=?_) rfl (by kernel_rfl) (by kernel_rfl) (by kernel_rfl) (fun _ _ _ h=>h) (.inl ⟨rfl,fun w1 hS1=>?_⟩) hS ?_
  rotate_left
  ·obtain⟨p0,p1,p2⟩:=hS1
   go_simp
   first | rfl | (refine (if_neg (by omega)).trans ?_;rfl)
  simp only[Act.put,List.setIfInBounds_toArray,List.set_cons_zero,List.set_cons_succ,List.getElem_toArray,List.getElem_cons_succ,List.getElem_cons_zero]
  refine wpAnyH_take (i:=2) (v:=?_) rfl (by kernel_rfl) (by kernel_rfl) (by kernel_rfl) (fun _ _ _ h=>h) (.inl ⟨rfl,fun w1 hS1=>?_⟩) hS ?_
  rotate_left
  ·obtain⟨p0,p1,p2⟩:=hS1
   go_simp
   first | rfl | (refine (if_neg (by omega)).trans ?_;rfl)
  simp only[Act.put,List.setIfInBounds_toArray,List.set_cons_zero,List.set_cons_succ,List.getElem_toArray,List.getElem_cons_succ,List.getElem_cons_zero]
  refine wpAnyH_take (i:=3) (v:=?_) rfl (by kernel_rfl) (by kernel_rfl) (by kernel_rfl) (fun _ _ _ h=>h) (.inl ⟨rfl,fun w1 hS1=>?_⟩) hS ?_
  rotate_left
  ·obtain⟨p0,p1,p2⟩:=hS1
   go_simp
   first | rfl | (refine (if_neg (by omega)).trans ?_;rfl)
  simp only[Act.put,List.setIfInBounds_toArray,List.set_cons_zero,List.set_cons_succ,List.getElem_toArray,List.getElem_cons_succ,List.getElem_cons_zero]
  refine wpAnyH_take (i:=4) (v:=?_) rfl (by kernel_rfl) (by kernel_rfl) (by kernel_rfl) (fun _ _ _ h=>h) (.inl ⟨rfl,fun w1 hS1=>?_⟩) hS ?_
  rotate_left
  ·obtain⟨p0,p1,p2⟩:=hS1
   go_simp
   first | rfl | (refine (if_neg (by omega)).trans ?_;rfl)
  simp only[Act.put,List.setIfInBounds_toArray,List.set_cons_zero,List.set_cons_succ,List.getElem_toArray,List.getElem_cons_succ,List.getElem_cons_zero]
  refine wpAnyH_take (i:=5) (v:=?_) rfl (by kernel_rfl) (by kernel_rfl) (by kernel_rfl) (fun _ _ _ h=>h) (.inl ⟨rfl,fun w1 hS1=>?_⟩) hS ?_
  rotate_left
  ·obtain⟨p0,p1,p2⟩:=hS1
   go_simp
   first | rfl | (refine (if_neg (by omega)).trans ?_;rfl)
  simp only[Act.put,List.setIfInBounds_toArray,List.set_cons_zero,List.set_cons_succ,List.getElem_toArray,List.getElem_cons_succ,List.getElem_cons_zero]
  refine wpAnyH_take (i:=6) (v:=?_) rfl (by kernel_rfl) (by kernel_rfl) (by kernel_rfl) (fun _ _ _ h=>h) (.inl ⟨rfl,fun w1 hS1=>?_⟩) hS ?_
  rotate_left
  ·obtain⟨p0,p1,p2⟩:=hS1
   go_simp
   first | rfl | (refine (if_neg (by omega)).trans ?_;rfl)
  simp only[Act.put,List.setIfInBounds_toArray,List.set_cons_zero,List.set_cons_succ,List.getElem_toArray,List.getElem_cons_succ,List.getElem_cons_zero]
  refine wpAnyH_take (i:=7) (v:=?_) rfl (by kernel_rfl) (by kernel_rfl) (by kernel_rfl) (fun _ _ _ h=>h) (.inl ⟨rfl,fun w1 hS1=>?_⟩) hS ?_
  rotate_left
  ·obtain⟨p0,p1,p2⟩:=hS1
   go_simp
   first | rfl | (refine (if_neg (by omega)).trans ?_;rfl)
  simp only[Act.put,List.setIfInBounds_toArray,List.set_cons_zero,List.set_cons_succ,List.getElem_toArray,List.getElem_cons_succ,List.getElem_cons_zero]
  refine wpAnyH_take (i:=8) (v:=?_) rfl (by kernel_rfl) (by kernel_rfl) (by kernel_rfl) (fun _ _ _ h=>h) (.inl ⟨rfl,fun w1 hS1=>?_⟩) hS ?_
  rotate_left
  ·obtain⟨p0,p1,p2⟩:=hS1
   go_simp
   first | rfl | (refine (if_neg (by omega)).trans ?_;rfl)
  simp only[Act.put,List.setIfInBounds_toArray,List.set_cons_zero,List.set_cons_succ,List.getElem_toArray,List.getElem_cons_succ,List.getElem_cons_zero]
  refine wpAnyH_take (i:=9) (v:=?_) rfl (by kernel_rfl) (by kernel_rfl) (by kernel_rfl) (fun _ _ _ h=>h) (.inl ⟨rfl,fun w1 hS1=>?_⟩) hS ?_
  rotate_left
  ·obtain⟨p0,p1,p2⟩:=hS1
   go_simp
   first | rfl | (refine (if_neg (by omega)).trans ?_;rfl)
  simp only[Act.put,List.setIfInBounds_toArray,List.set_cons_zero,List.set_cons_succ,List.getElem_toArray,List.getElem_cons_succ,List.getElem_cons_zero]
  refine wpAnyH_take (i:=10) (v:=?_) rfl (by kernel_rfl) (by kernel_rfl) (by kernel_rfl) (fun _ _ _ h=>h) (.inl ⟨rfl,fun w1 hS1=>?_⟩) hS ?_
  rotate_left
  ·obtain⟨p0,p1,p2⟩:=hS1
   go_simp
   first | rfl | (refine (if_neg (by omega)).trans ?_;rfl)
  simp only[Act.put,List.setIfInBounds_toArray,List.set_cons_zero,List.set_cons_succ,List.getElem_toArray,List.getElem_cons_succ,List.getElem_cons_zero]
  refine wpAnyH_ready (rs:=[11,14]) (by kernel_rfl) (by simp) ?_
  refine (AllReadyH.cons rfl (fun K hK=>?_) (AllReadyH.cons rfl (fun K hK=>?_) AllReadyH.nil))
  ·go_simp
   refine (Hpk.out _).mono ?_
   rintro e wz ⟨⟨k,hk,rfl⟩,hw⟩
   replace hw:=hw.symm
   subst hw
   refine hK _ _ hS ?_
   clear hK K
   intro _
   obtain⟨m,hm2⟩:∃ m,L[k]?=some m:=⟨_,List.getElem?_eq_getElem (by rw[HX.out.len];exact hk)⟩
   obtain⟨tv,pv,fv,hq,m0,m1,m2,m3,m4⟩:=HX.out.at_ k m hm2
   obtain⟨o1,n1,rfl⟩:=hq.st.form
   obtain⟨o2,n2,rfl⟩:=hq.sp.form
   obtain⟨o3,n3,rfl⟩:=hq.sf.form
   have gk:(k:Int)<(mn:Int):=by omega
   have hmg:=HX.out.lt
   refine wpAnyH_take (i:=12) (v:=?_) rfl (by kernel_rfl) (by kernel_rfl) (by kernel_rfl) (fun _ _ _ h=>h) (.inl ⟨rfl,fun w1 hS1=>?_⟩) hS ?_
   rotate_left
   ·obtain⟨p0,p1,p2⟩:=hS1
    go_simp
    first | rfl | (refine (if_neg (by omega)).trans ?_;rfl)
   simp only[Act.put,List.setIfInBounds_toArray,List.set_cons_zero,List.set_cons_succ,List.getElem_toArray,List.getElem_cons_succ,List.getElem_cons_zero]
   refine wpAnyH_take (i:=13) (v:=.agg #[.slice o1 m.texts.length n1,.slice o2 m.pats.length n2,.int .i64 m.globs,.int .i64 m.arrs,.slice o3 m.fns.length n3]) rfl (by kernel_rfl) (by kernel_rfl) (by kernel_rfl) (fun _ _ _ h=>h) (.inl ⟨rfl,fun w1 hS1=>?_⟩) hS ?_
   ·obtain⟨p0,p1,p2⟩:=hS1
    have n0:=(p2.cell (p:=⟨mg,moff+k*5,none⟩) hmg (by simp)).trans m0
    have n1:=(p2.cell (p:=⟨mg,moff+k*5+1,none⟩) hmg (by simp)).trans m1
    have n2:=(p2.cell (p:=⟨mg,moff+k*5+2,none⟩) hmg (by simp)).trans m2
    have n3:=(p2.cell (p:=⟨mg,moff+k*5+3,none⟩) hmg (by simp)).trans m3
    have n4:=(p2.cell (p:=⟨mg,moff+k*5+4,none⟩) hmg (by simp)).trans m4
    go_simp
    (try rfl)
   simp only[Act.put,List.setIfInBounds_toArray,List.set_cons_zero,List.set_cons_succ,List.getElem_toArray,List.getElem_cons_succ,List.getElem_cons_zero]
   refine wpAnyH_ready (rs:=[14]) (by kernel_rfl) (by simp) ?_
   refine AllReadyH.cons rfl (fun K hK=>?_) AllReadyH.nil
   go_simp
   refine hK _ _ (HSt.out _ (((Fr.refl [] W1).drew).alloc _)) ?_
   clear hK K
   intro _
   refine wpAnyH_ready (rs:=[15]) (by kernel_rfl) (by simp) ?_
   refine AllReadyH.cons rfl (fun K hK=>?_) AllReadyH.nil
   go_simp
   refine hK _ _ (HSt.out _ (((Fr.refl [] W1).drew).alloc _)) ?_
   clear hK K
   intro _
   refine wpAnyH_done (by kernel_rfl) ?_ _
   have n5:=C5.new W1.drew (.slice o1 m.texts.length n1) (.slice o2 m.pats.length n2) (.int .i64 m.globs) (.int .i64 m.arrs) (.slice o3 m.fns.length n3)
   have FF:Fr [] W1 (W1.drew.alloc (.cells #[.slice o1 m.texts.length n1,.slice o2 m.pats.length n2,.int .i64 m.globs,.int .i64 m.arrs,.slice o3 m.fns.length n3] 30)):=((Fr.refl [] W1).drew).alloc _
   have HN:Hid _:=And.intro n5 (And.intro FF hq)
   clear n5 FF hq m0 m1 m2 m3 m4 hS
   go_wp2_with fail
   go_meet
   exact⟨_,m,o1,o2,o3,n1,n2,n3,rfl,HN.out.2.1,HN.out.1,HN.out.2.2⟩
  ·go_simp
   refine hK _ _ (HSt.out _ (((Fr.refl [] W1).drew).alloc _)) ?_
   clear hK K
   intro _
   have hS2:(fun w1:World=>w1.cell? ⟨b,0,none⟩=some (.slice (some ⟨mg,moff,none⟩) mn mc)∧w1.cell? ⟨W.heap.size,1,none⟩=some (.int .i64 a)∧Fr [] w0 w1) (W1.drew.alloc (.cells #[.slice none 0 0,.slice none 0 0,.int .i64 0,.int .i64 0,.slice none 0 0] 30)):=HSt.out _ (((Fr.refl [] W1).drew).alloc _)
   refine wpAnyH_ready (rs:=[11]) (by kernel_rfl) (by simp) ?_
   refine AllReadyH.cons rfl (fun K hK=>?_) AllReadyH.nil
   go_simp
   refine (Hpk.out _).mono ?_
   rintro e wz ⟨⟨k,hk,rfl⟩,hw⟩
   replace hw:=hw.symm
   subst hw
   refine hK _ _ hS2 ?_
   clear hK K
   intro _
   obtain⟨m,hm2⟩:∃ m,L[k]?=some m:=⟨_,List.getElem?_eq_getElem (by rw[HX.out.len];exact hk)⟩
   obtain⟨tv,pv,fv,hq,m0,m1,m2,m3,m4⟩:=HX.out.at_ k m hm2
   obtain⟨o1,n1,rfl⟩:=hq.st.form
   obtain⟨o2,n2,rfl⟩:=hq.sp.form
   obtain⟨o3,n3,rfl⟩:=hq.sf.form
   have gk:(k:Int)<(mn:Int):=by omega
   have hmg:=HX.out.lt
   refine wpAnyH_take (i:=12) (v:=?_) rfl (by kernel_rfl) (by kernel_rfl) (by kernel_rfl) (fun _ _ _ h=>h) (.inl ⟨rfl,fun w1 hS1=>?_⟩) hS2 ?_
   rotate_left
   ·obtain⟨p0,p1,p2⟩:=hS1
    go_simp
    first | rfl | (refine (if_neg (by omega)).trans ?_;rfl)
   simp only[Act.put,List.setIfInBounds_toArray,List.set_cons_zero,List.set_cons_succ,List.getElem_toArray,List.getElem_cons_succ,List.getElem_cons_zero]
   refine wpAnyH_take (i:=13) (v:=.agg #[.slice o1 m.texts.length n1,.slice o2 m.pats.length n2,.int .i64 m.globs,.int .i64 m.arrs,.slice o3 m.fns.length n3]) rfl (by kernel_rfl) (by kernel_rfl) (by kernel_rfl) (fun _ _ _ h=>h) (.inl ⟨rfl,fun w1 hS1=>?_⟩) hS2 ?_
   ·obtain⟨p0,p1,p2⟩:=hS1
    have n0:=(p2.cell (p:=⟨mg,moff+k*5,none⟩) hmg (by simp)).trans m0
    have n1:=(p2.cell (p:=⟨mg,moff+k*5+1,none⟩) hmg (by simp)).trans m1
    have n2:=(p2.cell (p:=⟨mg,moff+k*5+2,none⟩) hmg (by simp)).trans m2
    have n3:=(p2.cell (p:=⟨mg,moff+k*5+3,none⟩) hmg (by simp)).trans m3
    have n4:=(p2.cell (p:=⟨mg,moff+k*5+4,none⟩) hmg (by simp)).trans m4
    go_simp
    (try rfl)
   simp only[Act.put,List.setIfInBounds_toArray,List.set_cons_zero,List.set_cons_succ,List.getElem_toArray,List.getElem_cons_succ,List.getElem_cons_zero]
   refine wpAnyH_ready (rs:=[15]) (by kernel_rfl) (by simp) ?_
   refine AllReadyH.cons rfl (fun K hK=>?_) AllReadyH.nil
   go_simp
   refine hK _ _ (HSt.out _ (((Fr.refl [] W1).drew).alloc _)) ?_
   clear hK K
   intro _
   refine wpAnyH_done (by kernel_rfl) ?_ _
   have n5:=C5.new W1.drew (.slice o1 m.texts.length n1) (.slice o2 m.pats.length n2) (.int .i64 m.globs) (.int .i64 m.arrs) (.slice o3 m.fns.length n3)
   have FF:Fr [] W1 (W1.drew.alloc (.cells #[.slice o1 m.texts.length n1,.slice o2 m.pats.length n2,.int .i64 m.globs,.int .i64 m.arrs,.slice o3 m.fns.length n3] 30)):=((Fr.refl [] W1).drew).alloc _
   have HN:Hid _:=And.intro n5 (And.intro FF hq)
   clear n5 FF hq m0 m1 m2 m3 m4 hS
   go_wp2_with fail
   go_meet
   exact⟨_,m,o1,o2,o3,n1,n2,n3,rfl,HN.out.2.1,HN.out.1,HN.out.2.2⟩
 case rest=>
  clear HX Hpk HSt
  obtain⟨gm,m,o1,o2,o3,n1,n2,n3,rfl,Fx,c5,hq⟩:=hcut
  have F0c:Fr [] w0 wc:=HF1.out.2.trans Fx
  have H75:=lentM_any _ _ _ m.globs m.arrs _ _ _ _ _ _ wc (hq.st.fr F0c) (hq.sp.fr F0c) (hq.sf.fr F0c) hq.lt hq.lp hq.lf
  obtain⟨hlt,p0,p1,p2,p3,p4⟩:=id c5
  have KX:Hid _:=And.intro Fx (And.intro c5 (And.intro hq F0c))
  clear Fx c5 hq F0c hlt e0 c0
  go_wp2_with fail
  refine H75.mono ?_
  rintro e W2 ⟨tv',pv',fv',rfl,f2,LM⟩
  obtain⟨o4,n4,rfl⟩:=LM.t.form
  obtain⟨o5,n5,rfl⟩:=LM.p.form
  obtain⟨o6,n6,rfl⟩:=LM.f.form
  obtain⟨Fx,c5,hq,F0c⟩:=KX.out
  obtain⟨W3,hW3⟩:∃ W3,W2.alloc (.cells #[.slice o4 m.texts.length n4,.slice o5 m.pats.length n5,.int .i64 m.globs,.int .i64 m.arrs,.slice o6 m.fns.length n6] 30)=W3:=⟨_,rfl⟩
  have F3:Fr [] W2 W3:=by rw[← hW3];exact (Fr.refl [] W2).alloc _
  have d5:=C5.new W2 (.slice o4 m.texts.length n4) (.slice o5 m.pats.length n5) (.int .i64 m.globs) (.int .i64 m.arrs) (.slice o6 m.fns.length n6)
  rw[hW3] at d5
  have LM3:LentM wc.heap.size W3 (.slice o1 m.texts.length n1) (.slice o2 m.pats.length n2) (.slice o3 m.fns.length n3) (.slice o4 m.texts.length n4) (.slice o5 m.pats.length n5) (.slice o6 m.fns.length n6) m.texts.length m.pats.length m.fns.length (m.texts.map .string) (m.pats.map .string) (m.fns.flatMap fnC):=⟨LM.t.blk fun g hg=>F3.block g (LM.t.lt g hg).2 (by simp),LM.p.blk fun g hg=>F3.block g (LM.p.lt g hg).2 (by simp),LM.f.blk fun g hg=>F3.block g (LM.f.lt g hg).2 (by simp),LM.tp,LM.tf,LM.pf⟩
  have hb2:∀ x,x ∈ blks (.slice o4 m.texts.length n4)++(blks (.slice o5 m.pats.length n5)++blks (.slice o6 m.fns.length n6))→wc.heap.size≤x∧x<W2.heap.size:=fun x hx=>by
   rcases List.mem_append.1 hx with h | h
   ·exact LM.t.lt x (blks_mem h)
   ·rcases List.mem_append.1 h with h | h
    ·exact LM.p.lt x (blks_mem h)
    ·exact LM.f.lt x (blks_mem h)
  have HB2:Hid _:=hb2
  have Fc3:Fr [] wc W3:=f2.trans F3
  have H76:=pack_any _ m W3 ⟨_,_,_,rfl,LM3.t.strs,LM3.p.strs,LM3.f.fns⟩ hq.sm.sz (HT.out.1.fr (F0c.trans Fc3) (by simp))
  obtain⟨hlt,q0,q1,q2,q3,q4⟩:=id d5
  have K3:Hid _:=And.intro Fc3 (And.intro d5 LM3)
  clear hb2 Fx c5 hq F0c F3 d5 LM LM3 Fc3 hlt f2 H75 p0 p1 p2 p3 p4
  go_wp2_with fail
  refine H76.mono ?_
  rintro e W4 ⟨rfl,f4⟩
  obtain⟨Fx,c5,hq,F0c⟩:=KX.out
  obtain⟨Fc3,d5,LM3⟩:=K3.out
  have H11:=packR_any _ m W4 (hq.mi.fr (F0c.trans (Fc3.trans f4))) hq.sm
  have a5:=c5.fr (Fc3.trans f4) (by simp)
  obtain⟨hlt,p0,p1,p2,p3,p4⟩:=id a5
  have K4:Hid _:=And.intro f4 a5
  clear Fx c5 hq F0c Fc3 d5 LM3 f4 hlt a5 H76 q0 q1 q2 q3 q4
  go_wp2_with fail
  refine H11.mono ?_
  rintro e W5 ⟨rfl,f5⟩
  obtain⟨Fx,c5,hq,F0c⟩:=KX.out
  obtain⟨Fc3,d5,LM3⟩:=K3.out
  obtain⟨f4,a5⟩:=K4.out
  have f35:=f4.trans f5
  have Fc5:=Fc3.trans f35
  have LM5:LentM wc.heap.size W5 (.slice o1 m.texts.length n1) (.slice o2 m.pats.length n2) (.slice o3 m.fns.length n3) (.slice o4 m.texts.length n4) (.slice o5 m.pats.length n5) (.slice o6 m.fns.length n6) m.texts.length m.pats.length m.fns.length (m.texts.map .string) (m.pats.map .string) (m.fns.flatMap fnC):=⟨LM3.t.blk fun g hg=>f35.block g (LM3.t.lt g hg).2 (by simp),LM3.p.blk fun g hg=>f35.block g (LM3.p.lt g hg).2 (by simp),LM3.f.blk fun g hg=>f35.block g (LM3.f.lt g hg).2 (by simp),LM3.tp,LM3.tf,LM3.pf⟩
  have H77:=wholeM_any wc.heap.size _ _ _ _ _ _ m.globs m.arrs m.texts m.pats m.fns W5 LM5 (hq.st.fr (F0c.trans Fc5)) (hq.sp.fr (F0c.trans Fc5)) (hq.sf.fr (F0c.trans Fc5)) (hq.st.low F0c.size) (hq.sp.low F0c.size) (hq.sf.low F0c.size) hq.lt hq.lp hq.lf
  have b5:=a5.fr f5 (by simp)
  have b6:=d5.fr f35 (by simp)
  obtain⟨hlt,p0,p1,p2,p3,p4⟩:=id b5
  obtain⟨hlt',q0,q1,q2,q3,q4⟩:=id b6
  have K5:Hid _:=And.intro Fc5 (And.intro b5 (And.intro b6 LM5))
  clear Fx c5 hq F0c Fc3 d5 LM3 f4 a5 f5 f35 Fc5 LM5 b5 b6 hlt hlt' H11
  generalize hps:packS m=ps
  generalize hpe:packE m=pe
  have HP:Hid _:=And.intro hps hpe
  clear hps hpe
  go_wp2_with fail
  refine H77.mono ?_
  rintro e W6 ⟨rfl,f6,S1,S2,S3⟩
  obtain⟨Fx,c5,hq,F0c⟩:=KX.out
  obtain⟨Fc5,b5,b6,LM5⟩:=K5.out
  obtain⟨LT,lt1,lt2,lt3,lt4⟩:=S1.texts
  obtain⟨LP,lp1,lp2,lp3,lp4⟩:=S2.texts
  obtain⟨LF,lf1,lf2,lf3,lf4⟩:=S3.fns
  have Fc6:Fr [] wc W6:=Fc5.trans' f6 (fun x hx=>.inr (HB2.out x hx).1)
  have H75:=lentM_any _ _ _ m.globs m.arrs _ _ _ _ _ _ W6 lt4 lp4 lf4 (by rw[lt1];exact hq.lt) (by rw[lp1];exact hq.lp) (by rw[lf1];exact hq.lf)
  have e6:=b6.fr f6 (fun hx=>by have:=(HB2.out _ hx).2;omega)
  obtain⟨hlt',q0,q1,q2,q3,q4⟩:=id e6
  have hs2:ModSm ⟨LT,LP,m.globs,m.arrs,LF⟩:=by
   refine⟨?_,fun s hs=>by rw[lt2 s hs];decide,?_,fun s hs=>by rw[lp2 s hs];decide,?_,fun s hs=>by rw[lf2 s hs];decide⟩
   ·show LT.length≤_;rw[lt1];have:=hq.lt;omega
   ·show LP.length≤_;rw[lp1];have:=hq.lp;omega
   ·show LF.length≤_;rw[lf1];have:=hq.lf;omega
  have K6:Hid _:=And.intro Fc6 (And.intro e6 (And.intro lt3 (And.intro lp3 (And.intro lf3 hs2))))
  clear Fx c5 hq F0c Fc5 b5 b6 LM5 Fc6 e6 hlt' f6 S1 S2 S3 lt1 lt2 lt3 lt4 lp1 lp2 lp3 lp4 lf1 lf2 lf3 lf4 hs2 H77 p0 p1 p2 p3 p4
  go_wp2_with fail
  refine H75.mono ?_
  rintro e W7 ⟨tv',pv',fv',rfl,f7,LM⟩
  obtain⟨o7,n7,rfl⟩:=LM.t.form
  obtain⟨o8,n8,rfl⟩:=LM.p.form
  obtain⟨o9,n9,rfl⟩:=LM.f.form
  obtain⟨Fx,c5,hq,F0c⟩:=KX.out
  obtain⟨Fc6,e6,st,sp,sf,hs2⟩:=K6.out
  obtain⟨W8,hW8⟩:∃ W8,W7.alloc (.cells #[.slice o7 LT.length n7,.slice o8 LP.length n8,.int .i64 m.globs,.int .i64 m.arrs,.slice o9 LF.length n9] 30)=W8:=⟨_,rfl⟩
  have F8:Fr [] W7 W8:=by rw[← hW8];exact (Fr.refl [] W7).alloc _
  have d8:=C5.new W7 (.slice o7 LT.length n7) (.slice o8 LP.length n8) (.int .i64 m.globs) (.int .i64 m.arrs) (.slice o9 LF.length n9)
  rw[hW8] at d8
  have f68:=f7.trans F8
  have Fc8:=Fc6.trans f68
  have MI:ModIn W8 (.agg #[.slice o7 LT.length n7,.slice o8 LP.length n8,.int .i64 m.globs,.int .i64 m.arrs,.slice o9 LF.length n9]) ⟨LT,LP,m.globs,m.arrs,LF⟩:=⟨_,_,_,rfl,LM.t.strs.fr F8,LM.p.strs.fr F8,LM.f.fns.fr F8⟩
  have H76:=pack_any (.agg #[.slice o4 m.texts.length n4,.slice o5 m.pats.length n5,.int .i64 m.globs,.int .i64 m.arrs,.slice o6 m.fns.length n6]) ⟨LT,LP,m.globs,m.arrs,LF⟩ W8 ⟨_,_,_,rfl,st.fr f68,sp.fr f68,sf.fr f68⟩ hs2.sz (HT.out.1.fr (F0c.trans Fc8) (by simp))
  have e8:=e6.fr f68 (by simp)
  obtain⟨hlt',q0,q1,q2,q3,q4⟩:=id e8
  have K8:Hid _:=And.intro Fc8 (And.intro d8 (And.intro MI hs2))
  clear Fx c5 hq F0c Fc6 e6 st sp sf hs2 F8 d8 f68 Fc8 MI e8 hlt' f7 LM H75 K6
  go_wp2_with fail
  refine H76.mono ?_
  rintro e W9 ⟨rfl,f9⟩
  obtain⟨Fc8,d8,MI,hs2⟩:=K8.out
  have H11:=packR_any _ _ W9 (MI.fr f9) hs2
  have d9:=d8.fr f9 (by simp)
  obtain⟨hlt',p0,p1,p2,p3,p4⟩:=id d9
  have K9:Hid _:=Fc8.trans f9
  clear Fc8 d8 MI hs2 d9 hlt' f9 q0 q1 q2 q3 q4 H76 K8
  go_wp2_with fail
  refine H11.mono ?_
  rintro e W10 ⟨rfl,f10⟩
  have FZ:Hid _:=HF1.out.1.trans (KX.out.1.trans (K9.out.trans f10))
  have HN:Hid _:=fun (n:Int) (W:World)=>numC_any n W
  clear H11 K9 KX K3 K4 K5 HB2 HF1 HT f10 HP p0 p1 p2 p3 p4 hW1 hW3 hW8
  generalize packS _=qs at *
  generalize packE _=qe at *
  go_wp2_with fail
  refine (HN.out _ _).mono ?_
  rintro e wz ⟨rfl,hw⟩
  replace hw:=hw.symm
  subst hw
  go_wp2_with fail
  refine (HN.out _ _).mono ?_
  rintro e wz ⟨rfl,hw⟩
  replace hw:=hw.symm
  subst hw
  go_wp2
  go_ret
  exact⟨rfl,FZ.out⟩
end Go.Proofs.YtclkgoigmgkffaaGreatDoor
