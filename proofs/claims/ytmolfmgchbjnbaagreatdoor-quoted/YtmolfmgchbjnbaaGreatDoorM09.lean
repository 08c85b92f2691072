import Derived.Test.YtmolfmgchbjnbaaGreatDoorM08
set_option linter.unusedSimpArgs false
set_option linter.unusedVariables false
set_option linter.unusedSectionVars false
set_option maxRecDepth 100000
set_option maxHeartbeats 40000000
open _root_.Go.Proofs.Tryz
namespace Go.Proofs.YtmolfmgchbjnbaaGreatDoor
open Go.RowKit
open Wire Flow Mach
section
variable {E:Env}{X:Nat}{g:Pl}{s:Ms}{W W':WL}{tag:NN}
end
section
variable {E:Env}{X:Nat}{g:Pl}{s:Ms}{W W':WL}{tag:NN}
def onCut (s:Ms) (lo:List Frm) (f:Frm):Ms:={ s with low:=lo,fr:=f }
theorem fAt_cut {s:Ms}{lo:List Frm}{f:Frm} (hl:s.low=lo++[f]) {k:Nat} (hk:k≤lo.length):fAt (onCut s lo f) k=fAt s k:=by
 unfold fAt onCut;rw[hl];simp only[Lla,List.length_cons,List.length_nil];rw[if_pos (show k<lo.length+(0+1) by omega)];rcases Nat.lt_or_ge k lo.length with c | c
 ·rw[if_pos c,List.getD_eq_getElem?_getD,List.getD_eq_getElem?_getD,List.getElem?_append_left c]
 have:k=lo.length:=by omega
 subst this;rw[if_neg (Nat.lt_irrefl _),List.getD_eq_getElem?_getD,List.getElem?_append_right (Nat.le_refl _),Nat.sub_self];rfl
theorem MM.cutF (h:MM E X g s W tag){lo:List Frm}{f:Frm} (hl:s.low=lo++[f]) :
  ∃ cap,W.cell? (Ad X 11)=some (.slice (some (Ad g.g 0)) (lo.length+2) cap)∧lo.length+2≤cap∧lo.length≤20∧W.frozen? (Ad X 11)=false ∧
  MM E X g (onCut s lo f) (W.setCell ⟨X,11,none⟩ (.slice (some ⟨g.g,0,none⟩) (lo.length+1) cap)) tag∧Kp tag tag W (W.setCell ⟨X,11,none⟩ (.slice (some ⟨g.g,0,none⟩) (lo.length+1) cap)):=by
 obtain⟨h6,lv,R,mp,x,hx,h⟩:=h;obtain⟨cap,hc⟩:=h.vF;have hlen:s.low.length=lo.length+1:=by rw[hl];simp
 have hnF:=h.nF;have hnA:=h.nA;have o10:=(h.S.rows 10 h.lX).1;rw[h.rX] at o10;have o11:=(h.S.rows 11 h.lF).1;rw[h.rF,hc,hlen] at o11;simp only at o11;have hcap:lo.length+2≤cap:=by
  rcases o11.2 with ⟨h',_⟩ | ⟨g',cap',cur,h',hb,hg,hnc,hcm,hcs,ht⟩
  ·cases h'
  simp only[Value.slice.injEq,Option.some.injEq,Addr.mk.injEq,and_true,true_and] at h';obtain⟨rfl,rfl⟩:=h';omega
 have r11:R 11=⟨.slice (some (Ad g.g 0)) (lo.length+2) cap,225,51,lo.length+2,rng (s.low.length+1) fun k=>frC (x.F k) (fAt s k)⟩:=by rw[h.rF,hc,hlen]
 have S1:=h.S.cut h.lF r11 (n':=lo.length+1) (by omega);obtain⟨S2,K2⟩:=S1.put (i:=10) h.lX (by rw[up_off _ _ (by decide)];exact h.rX) (j:=11) (by omega) (.slice (some (Ad g.g 0)) (lo.length+1) cap);obtain⟨R',hS',hR10,hR11,hR⟩:∃ R',Sto (W.setCell ⟨X,11,none⟩ (.slice (some ⟨g.g,0,none⟩) (lo.length+1) cap)) tag lv R' mp∧R' 10=⟨.slice (some (Ad X 0)) 1 1,135,16,1,(xC x s).set 11 (.slice (some (Ad g.g 0)) (lo.length+1) cap)⟩∧R' 11=⟨.slice (some (Ad g.g 0)) (lo.length+1) cap,225,51,lo.length+1,(rng (s.low.length+1) fun k=>frC (x.F k) (fAt s k)).take ((lo.length+1)*51)⟩∧∀ i,i≠10→i≠11→R' i=R i:=
  ⟨_,S2,up_same _ _ _,by rw[up_off _ _ (by decide),up_same],fun i h1 h2=>by rw[up_off _ _ h1,up_off _ _ h2]⟩
 refine⟨cap,own_cell o10 (by show some x.frv=_;rw[hc,hlen]),hcap,by omega,own_thaw o10 _,⟨Nat.le_trans h6 K2.size,lv,R',mp,{ x with frv:=.slice (some (Ad g.g 0)) (lo.length+1) cap },hx,?_⟩,K2⟩;refine⟨hS',h.sta.kp K2 h6,h.lX,?_,h.lF,?_,⟨cap,rfl⟩,?_,h.lG,?_,h.lA,?_,h.nA,fun i hi=>?_,fun i hi=>?_,fun i j c hi hj hcl=>?_,fun i hi=>?_,h.rcs.kp K2,h.drw.kp K2,h.fld.kp K2⟩
 ·rw[hR10];rfl
 ·rw[hR11];show _=Rw.mk _ 225 51 (lo.length+1) (rng (lo.length+1) fun k=>frC (x.F k) (fAt (onCut s lo f) k));rw[rng_take (fun _ _=>frC_len _ _) (by omega)];congr 1;refine rng_congr fun j hj=>?_;rw[fAt_cut hl (by omega)]
 ·show lo.length≤20;omega
 ·rw[hR 12 (by decide) (by decide)];exact h.rG
 ·rw[hR 13 (by decide) (by decide)];exact h.rA
 ·have hi':i<s.w.arrs.length:=hi;obtain⟨a,b,c⟩:=h.arr i hi;exact⟨a,b,by rw[hR _ (by omega) (by omega)];exact c⟩
 ·have hi':i≤lo.length:=hi;obtain⟨a,b⟩:=h.stk i (by omega);rw[fAt_cut hl hi',hR _ (by omega) (by omega)];exact⟨a,b⟩
 ·have hi':i≤lo.length:=hi;rw[fAt_cut hl hi'] at hj;obtain⟨q1,q2,q3,ga,ca,lf,q4,q5,q6⟩:=h.wlk i j c (by omega) hj hcl;exact⟨q1,q2,q3,ga,ca,lf,q4,by rw[hR _ (by omega) (by omega)];exact q5,q6.kp K2⟩
 have hi':i≤lo.length:=hi;rw[fAt_cut hl hi'];exact h.fn i (by omega)
theorem MM.leave (h:MM E X g s W tag){l:List Cell}{v:Val} (hs:s.fr.stk=l++[cv v]) (hl:s.fr.stk.length≤1024) {lo:List Frm}{f:Frm} (hlo:s.low=lo++[f]) (hf:f.stk.length<1024) :
  Calls prog 227 #[ptr X] W (MP E X g (onStk (onCut s lo f) (f.stk++[cv v])) tag W unit):=by
 have hm:=hmX
 have HF:Hid _:=fun (_:Unit)=>h.frame;have HP:Hid _:=fun (W1:WL) (t1:NN) (h1:MM E X g s W1 t1)=>MM.popV h1 hs hl;have HC:Hid _:=fun (W1:WL) (t1:NN) (h1:MM E X g (onStk s l) W1 t1)=>MM.cutF h1 (lo:=lo) (f:=f) hlo;have HF2:Hid _:=fun (W1:WL) (t1:NN) (h1:MM E X g (onCut s lo f) W1 t1)=>MM.frame h1;have HQ:Hid _:=fun (W1:WL) (t1:NN) (h1:MM E X g (onCut s lo f) W1 t1)=>MM.push h1 (show f.stk.length<1024 from hf) v;replace HC:Hid (∀ (W1:WL) (t1:NN),MM E X g (onStk s l) W1 t1→∃ cap,W1.cell? (Ad X 11)=some (.slice (some (Ad g.g 0)) (lo.length+2) cap)∧lo.length+2≤cap∧lo.length≤20∧W1.frozen? (Ad X 11)=false ∧
  MM E X g (onCut s lo f) (W1.setCell ⟨X,11,none⟩ (.slice (some ⟨g.g,0,none⟩) (lo.length+1) cap)) t1∧Kp t1 t1 W1 (W1.setCell ⟨X,11,none⟩ (.slice (some ⟨g.g,0,none⟩) (lo.length+1) cap))):=HC
 have hfp2:fp g (onCut s lo f)=.pointer (some (Ad g.g (lo.length*51))):=rfl;rw[hfp2] at HF2 HQ;have hst:(onCut s lo f).fr.stk=f.stk:=rfl;rw[hst] at HQ;generalize onStk (onCut s lo f) (f.stk++[cv v])=s2 at HQ ⊢;generalize onCut s lo f=s1 at HC HF2 HQ;unfold vV at HQ;generalize (v.kind:Int)=kk at HP HQ;generalize vN v=mm at HP HQ;generalize vS v=tt at HP HQ;generalize lo.length=lol at *;clear h hs hlo hf hfp2 hst;go_enter func227,ntmps227;go_wp2_with fail;refine (HF.out ()).mono ?_;rintro e W1 ⟨rfl,t1,h1,k1⟩;have HM1:Hid _:=AI h1 (k1);have HK1:Hid _:=k1;clear h1 k1 HF;go_wp2_with fail;refine (HP.out W1 t1 HM1.out.1).mono ?_;rintro e W2 ⟨rfl,t2,h2,k2⟩;have HM2:Hid _:=AI h2 (HM1.out.2.trans k2);have HK2:Hid _:=k2;clear h2 k2 HP;obtain⟨W3,hW3,F3,c0,c1,c2,l3⟩:=box_cells W2 kk mm tt;obtain⟨t3,h3,k3,hb3⟩:=MM.box HM2.out.1 F3;have HX3:Hid _:=BoxAt.mk l3 (hb3 _ (Nat.le_refl _)) c0 c1 c2;have HM3:Hid _:=AI h3 (HM2.out.2.trans k3);have HK3:Hid _:=k3;clear h3 k3 F3 hb3 l3;go_wp2_with fail;obtain⟨cap,x11,hcap,hlol,z11,M5,K5⟩:=HC.out W3 t3 HM3.out.1;obtain⟨m,hm1⟩:=eXi (lol+1);rw[show lol+2=m+1 by omega] at x11 hcap;rw[hm1] at M5 K5;obtain⟨W5,hW5⟩:=eXi (W3.setCell ⟨X,11,none⟩ (.slice (some ⟨g.g,0,none⟩) m cap));rw[hW5] at M5 K5;have F6:Fr [] W5 W5.drew:=(Fr.refl [] W5).drew;obtain⟨t6,h6,k6⟩:=MM.fr M5 F6;have HM6:Hid _:=AI h6 ((HM3.out.2.trans K5).trans k6);have HX6:Hid _:=(HX3.out.kp K5).kp k6;have hw1:IntKind.i64.wrap (m:Int)=m:=by rw[IntKind.wrap_i64];omega
 have hcs:(m:Int)≤cap:=by omega
 have hn0:(0:Int)≤m:=by omega
 clear M5 K5 HX3 HC F6 h6 k6 hlol hcap hm1 HM3 HK3;refine wp_region_tail 14 hm (by kernel_rfl) ?_;simp only[Zt]
 repeat still_step
 refine wpStill_nil ?_;clear c0 c1 c2;go_wp2_with fail;refine wp_region_heldD (fun w=>w.cell? (Ad W2.heap.size 0)=some (.int .u8 kk)∧w.cell? (Ad W2.heap.size 1)=some (iA mm)∧w.cell? (Ad W2.heap.size 2)=some (.string tt)) hm ?_;obtain⟨WD,hWD⟩:=eXi (W5.drew.drew);rw[hWD];have F7:Fr [] W5.drew WD:=by rw[← hWD];exact (Fr.refl [] _).drew
 obtain⟨t7,h7,k7⟩:=MM.fr HM6.out.1 F7;have HM7:Hid _:=AI h7 (HM6.out.2.trans k7);have HX7:Hid _:=HX6.out.kp k7;have hS:WD.cell? (Ad W2.heap.size 0)=some (.int .u8 kk)∧WD.cell? (Ad W2.heap.size 1)=some (iA mm)∧WD.cell? (Ad W2.heap.size 2)=some (.string tt):=⟨HX7.out.c0,HX7.out.c1,HX7.out.c2⟩;clear h7 k7 F7 hWD HX6 HM6 x11 z11 hW5 hW3;refine wpAnyH_takes (fun _ _ _ _ _ h=>h) hS [0,2] (by kernel_rfl) ?_
 iterate 2
  refine Yls.cons (v:=?_) rfl (.inl ⟨rfl,fun w1 hS1=>?_⟩) ?_;rotate_left
  ·obtain⟨p0,p1,p2⟩:=hS1;go_simp
   first | rfl | (refine (if_neg (by omega)).trans ?_;rfl)
  simp only[Act.put,Zp,Zq]
 refine Yls.nil ?_;refine rd1 (r:=1) (by kernel_rfl) rfl fun K hK=>?_;go_simp;refine (HF2.out WD t7 HM7.out.1).mono ?_;rintro e W8 ⟨rfl,t8,h8,k8⟩;have HX8:Hid _:=HX7.out.kp k8;have HM8:Hid _:=AI h8 (HM7.out.2.trans k8);clear h8 k8 HF2 HX7 hS;refine hK _ _ ⟨HX8.out.c0,HX8.out.c1,HX8.out.c2⟩ ?_;clear hK K;intro _
 try simp only[Act.put,Zp,Zq]
 refine rd1 (r:=3) (by kernel_rfl) rfl fun K hK=>?_;go_simp;refine (HQ.out W8 t8 HM8.out.1).mono ?_;rintro e W9 ⟨rfl,t9,h9,k9⟩;have HX9:Hid _:=HX8.out.kp k9;have HM9:Hid _:=AI h9 (HM8.out.2.trans k9);clear h9 k9 HQ HX8;refine hK _ _ ⟨HX9.out.c0,HX9.out.c1,HX9.out.c2⟩ ?_;clear hK K;intro _
 try simp only[Act.put,Zp,Zq]
 refine wpAnyH_done (by kernel_rfl) ?_ _;refine bodyPost_end (results_none rfl _ _ _) rfl ?_;exact⟨rfl,t9,HM9.out.1,HM9.out.2⟩
end
def frZ (cv:Value):LV:=[cv,.int .i64 0]++locC []++[.slice none 0 0]
theorem frZ_len (cv:Value):(frZ cv).length=51:=by simp[frZ,locC_len]
theorem begin_any (X gf fn fc f n c:Nat)(vo:OA)(W:WL)(hX:X≠gf)(x2:W.cell? (Ad X 2)=some (.slice (some (Ad gf 0)) fn fc))(hf:f<fn)(hf1:fn≤1000)(y:W.cell? (Ad gf (f*2+1))=some (.slice vo n c)){u10 u11:Value}(x10:W.cell? (Ad X 10)=some u10)(x11:W.cell? (Ad X 11)=some u11)(z10:W.frozen? (Ad X 10)=false)(z11:W.frozen? (Ad X 11)=false) :
  Calls prog 62 #[ptr X,iA (f:Nat)] W fun e W'=>e=.returned unit∧W'=((W.setCell ⟨X,10,none⟩ (.int .i64 (f:Nat))).alloc (.cells (frZ (.slice vo n c)).toArray 225)).setCell ⟨X,11,none⟩ (.slice (some ⟨W.heap.size,0,none⟩) 1 1):=by
 obtain⟨W1,hW1⟩:=eXi (W.setCell ⟨X,10,none⟩ (.int .i64 (f:Nat)));have q2:W1.cell? (Ad X 2)=some (.slice (some (Ad gf 0)) fn fc):=by rw[← hW1,setCell_off (by decide)];exact x2
 have q11:W1.cell? (Ad X 11)=some u11:=by rw[← hW1,setCell_off (by decide)];exact x11
 have qz:W1.frozen? (Ad X 11)=false:=by rw[← hW1,wfz];exact z11
 have qy:W1.cell? (Ad gf (f*2+1))=some (.slice vo n c):=by rw[← hW1,setCell_far hX];exact y
 have hs1:W1.heap.size=W.heap.size:=by rw[← hW1];simp[World.setCell]
 have hXl:X<W1.heap.size:=lt_of_cell q11;have hlit:(frZ (.slice vo n c)).toArray=#[.slice vo n c,iA 0,.int .u8 0,iA 0,.string ⟨#[]⟩,.int .u8 0,iA 0,.string ⟨#[]⟩,.int .u8 0,iA 0,.string ⟨#[]⟩,.int .u8 0,iA 0,.string ⟨#[]⟩,.int .u8 0,iA 0,.string ⟨#[]⟩,.int .u8 0,iA 0,.string ⟨#[]⟩,.int .u8 0,iA 0,.string ⟨#[]⟩,.int .u8 0,iA 0,.string ⟨#[]⟩,.int .u8 0,iA 0,.string ⟨#[]⟩,.int .u8 0,iA 0,.string ⟨#[]⟩,.int .u8 0,iA 0,.string ⟨#[]⟩,.int .u8 0,iA 0,.string ⟨#[]⟩,.int .u8 0,iA 0,.string ⟨#[]⟩,.int .u8 0,iA 0,.string ⟨#[]⟩,.int .u8 0,iA 0,.string ⟨#[]⟩,.int .u8 0,iA 0,.string ⟨#[]⟩,.slice none 0 0]:=rfl;rw[hlit];have F2:Fr [] W1 (W1.alloc (.cells #[.slice vo n c,iA 0,.int .u8 0,iA 0,.string ⟨#[]⟩,.int .u8 0,iA 0,.string ⟨#[]⟩,.int .u8 0,iA 0,.string ⟨#[]⟩,.int .u8 0,iA 0,.string ⟨#[]⟩,.int .u8 0,iA 0,.string ⟨#[]⟩,.int .u8 0,iA 0,.string ⟨#[]⟩,.int .u8 0,iA 0,.string ⟨#[]⟩,.int .u8 0,iA 0,.string ⟨#[]⟩,.int .u8 0,iA 0,.string ⟨#[]⟩,.int .u8 0,iA 0,.string ⟨#[]⟩,.int .u8 0,iA 0,.string ⟨#[]⟩,.int .u8 0,iA 0,.string ⟨#[]⟩,.int .u8 0,iA 0,.string ⟨#[]⟩,.int .u8 0,iA 0,.string ⟨#[]⟩,.int .u8 0,iA 0,.string ⟨#[]⟩,.int .u8 0,iA 0,.string ⟨#[]⟩,.slice none 0 0] 225)):=(Fr.refl [] W1).alloc _;obtain⟨W2,hW2⟩:=eXi (W1.alloc (.cells #[.slice vo n c,iA 0,.int .u8 0,iA 0,.string ⟨#[]⟩,.int .u8 0,iA 0,.string ⟨#[]⟩,.int .u8 0,iA 0,.string ⟨#[]⟩,.int .u8 0,iA 0,.string ⟨#[]⟩,.int .u8 0,iA 0,.string ⟨#[]⟩,.int .u8 0,iA 0,.string ⟨#[]⟩,.int .u8 0,iA 0,.string ⟨#[]⟩,.int .u8 0,iA 0,.string ⟨#[]⟩,.int .u8 0,iA 0,.string ⟨#[]⟩,.int .u8 0,iA 0,.string ⟨#[]⟩,.int .u8 0,iA 0,.string ⟨#[]⟩,.int .u8 0,iA 0,.string ⟨#[]⟩,.int .u8 0,iA 0,.string ⟨#[]⟩,.int .u8 0,iA 0,.string ⟨#[]⟩,.int .u8 0,iA 0,.string ⟨#[]⟩,.int .u8 0,iA 0,.string ⟨#[]⟩,.slice none 0 0] 225));rw[hW2] at F2;have r11:W2.cell? (Ad X 11)=some u11:=(F2.cell (p:=Ad X 11) hXl (by simp)).trans q11;have rz:W2.frozen? (Ad X 11)=false:=(F2.frozen (p:=Ad X 11) hXl (by simp)).trans qz;rw[hW1,hW2,← hs1];have hi:(f:Int)<fn:=by omega
 clear F2 hs1 hXl x11 z11 y x2 hlit;go_enter func62,ntmps62;go_wp2_with fail;refine bodyPost_end (results_none rfl _ _ _) rfl ?_;exact⟨rfl,rfl⟩
theorem plc_zero {m:Mo}{f:Nat}{L:List Stp} (h:Reads m f (locsOf m f) (codeOf m f) L):PlcAt m f L 0 0:=by
 cases L with
 | nil=>exact .inr ⟨rfl,h⟩
 | cons i l=>exact .inl ⟨i,rfl,Chain.first h rfl⟩
section
variable {E:Env}{X:Nat}{g:Pl}{s:Ms}{W W':WL}{tag:NN}
def onBegin (E:Env) (s:Ms) (f:Nat):Ms:={ s with low:=[],fr:=enter E.mo f [] }
def Pl.at_ (g:Pl) (b f:Nat):Pl:={ g with g:=b,en:=f }
theorem locC_nothing (n:Nat):locC (List.replicate n nothing)=locC []:=by
 unfold locC;refine rng_congr fun i hi=>?_;congr 1;rw[List.getD_eq_getElem?_getD,List.getElem?_replicate];split <;> rfl
theorem MM.begin_ (h:MM E X g s W tag){f:Nat}(hf:f<E.mo.fns.length) :
  Calls prog 62 #[ptr X,iA (f:Nat)] W fun e W'=>e=.returned unit∧∃ b tag',MM E X (g.at_ b f) (onBegin E s f) W' tag'∧Kp tag tag' W W':=by
 obtain⟨h6,lv,R,mp,x,hx,h⟩:=h;obtain⟨gf,fc,e1,e2,e3,e4,e5⟩:=h.sta.fns;have C:=h.sta.code f hf;obtain⟨gc,cc,T,v1,v2,v3,v4,v5,v6⟩:=C.at_;have o10:=(h.S.rows 10 h.lX).1;have t10:=(h.S.rows 10 h.lX).2;rw[h.rX] at o10 t10;simp only at o10 t10;have hXgf:X≠gf:=by
  intro e;have:=t10 X rfl;rw[e] at this;omega
 have hnA:=h.nA;refine (begin_any X gf E.mo.fns.length fc f (x.code f).2.length cc (some (Ad gc 0)) W hXgf (h.xc (by rw[← e1];rfl)) hf e4 (by rw[← v1];exact (e5 f hf).2) (u10:=iA (x.entry:Nat)) (u11:=x.frv) (own_cell o10 rfl) (own_cell o10 rfl) (own_thaw o10 _) (own_thaw o10 _)).mono ?_;rintro e W' ⟨he,hW'⟩;refine⟨he,W.heap.size,?_⟩;rw[← v1] at hW';obtain⟨S1,K1⟩:=h.S.put h.lX h.rX (j:=10) (by omega) (iA (f:Nat));have hsz:(W.setCell ⟨X,10,none⟩ (.int .i64 (f:Nat))).heap.size=W.heap.size:=by simp[World.setCell]
 generalize W.setCell ⟨X,10,none⟩ (.int .i64 (f:Nat))=W1 at hW' S1 K1 hsz;have hnew:=wan W1 (.cells (frZ (x.code f).1).toArray 225);have F2:Fr [] W1 (W1.alloc (.cells (frZ (x.code f).1).toArray 225)):=(Fr.refl [] W1).alloc _;generalize W1.alloc (.cells (frZ (x.code f).1).toArray 225)=W2 at hW' hnew F2;rw[hsz] at hnew;obtain⟨S2,K2⟩:=S1.new (i:=11) (r:=⟨.slice (some (Ad W.heap.size 0)) 1 1,225,51,1,frZ (x.code f).1⟩) (h.S.far _ h.lF) (by omega) F2 (own_one hnew (frZ_len _)) (fun q hq=>by
  have:W.heap.size=q:=by simpa [Value.ownBlock] using hq
  omega)
 rw[up_true h.lF] at S2;have l5:=(h.stk 0 (Nat.zero_le _)).1;have S3:=S2.turn (i:=5000) (tag':=newTag tag W1.heap.size 11) (h.S.far _ l5) (by omega) (Chg.refl _ [5000] _) (fun _ _=>rfl) (r:=⟨.slice none 0 0,306,4,0,[]⟩) ⟨rfl,.inl ⟨rfl,rfl⟩⟩ (Tg.nil _ _);rw[up_true (show lv 5000=true from l5)] at S3;obtain⟨S4,K4⟩:=S3.put (i:=10) h.lX (by rw[up_off _ _ (by decide),up_off _ _ (by decide),up_same]) (j:=11) (by omega) (.slice (some (Ad W.heap.size 0)) 1 1);rw[← hW'] at S4 K4;have K:=(K1.trans K2).trans K4;refine⟨newTag tag W1.heap.size 11,?_,K⟩;obtain⟨R',hS',hR10,hR11,hR5,hR⟩:∃ R',Sto W' (newTag tag W1.heap.size 11) lv R' mp∧R' 10=⟨.slice (some (Ad X 0)) 1 1,135,16,1,((xC x s).set 10 (iA (f:Nat))).set 11 (.slice (some (Ad W.heap.size 0)) 1 1)⟩∧R' 11=⟨.slice (some (Ad W.heap.size 0)) 1 1,225,51,1,frZ (x.code f).1⟩∧R' 5000=⟨.slice none 0 0,306,4,0,[]⟩∧∀ i,i≠10→i≠11→i≠5000→R' i=R i:=
  ⟨_,S4,up_same _ _ _,by rw[up_off _ _ (by decide),up_off _ _ (by decide),up_same],by rw[up_off _ _ (by decide),up_same],fun i h1 h2 h3=>by rw[up_off _ _ h1,up_off _ _ h3,up_off _ _ h2,up_off _ _ h1]⟩
 have hfA:∀ k,k≤0→fAt (onBegin E s f) k=enter E.mo f []:=fun k hk=>by
  have:k=0:=by omega
  subst this;rfl
 refine⟨Nat.le_trans h6 K.size,lv,R',mp,{ x with frv:=.slice (some (Ad W.heap.size 0)) 1 1,entry:=f,F:=fun _=>⟨(x.code f).1,0,.slice none 0 0,fun _=>0⟩ },⟨⟨hx.1.1,rfl,hx.1.2.2⟩,hx.2⟩,?_⟩;refine⟨hS',h.sta.kp K h6,h.lX,?_,h.lF,?_,⟨1,rfl⟩,Nat.zero_le _,h.lG,?_,h.lA,?_,h.nA,fun i hi=>?_,fun i hi=>?_,fun i j c hi hj hcl=>?_,fun i hi=>?_,h.rcs.kp K,h.drw.kp K,h.fld.kp K⟩
 ·rw[hR10];rfl
 ·rw[hR11];show _=Rw.mk _ 225 51 1 (rng 1 fun k=>frC ⟨(x.code f).1,0,.slice none 0 0,fun _=>0⟩ (fAt (onBegin E s f) k));congr 1;rw[rng_succ,rng_zero,List.nil_append,hfA 0 (Nat.le_refl _)];unfold frZ frC enter;simp only[List.nil_append,List.length_nil,Nat.sub_zero,locC_nothing];rfl
 ·rw[hR 12 (by decide) (by decide) (by decide)];exact h.rG
 ·rw[hR 13 (by decide) (by decide) (by decide)];exact h.rA
 ·have hi':i<s.w.arrs.length:=hi;obtain⟨a,b,c⟩:=h.arr i hi;exact⟨a,b,by rw[hR _ (by omega) (by omega) (by omega)];exact c⟩
 ·have hi':i≤0:=hi;have:i=0:=by omega
  subst this;exact⟨l5,hR5⟩
 ·have hi':i≤0:=hi;rw[hfA i hi'] at hj;simp[enter] at hj
 have hi':i≤0:=hi;rw[hfA i hi'];exact⟨hf,rfl,plc_zero C.reads⟩
end
theorem infoFr:(prog.info? 225).map (fun i=>(i.zero,i.size,i.bytes))=some (some (.agg (frZ (.slice none 0 0)).toArray),51,568):=by kernel_rfl
section
variable {E:Env}{X:Nat}{g:Pl}{s:Ms}{W W':WL}{tag:NN}
def onCall (s:Ms) (f:Frm):Ms:={ s with low:=s.low++[s.fr],fr:=f }
theorem fAt_call (s:Ms)(f:Frm){k:Nat}(hk:k≤s.low.length):fAt (onCall s f) k=fAt s k:=by
 unfold fAt onCall;simp only[Lla,List.length_cons,List.length_nil];rw[if_pos (show k<s.low.length+(0+1) by omega)];rcases Nat.lt_or_ge k s.low.length with c | c
 ·rw[if_pos c,List.getD_eq_getElem?_getD,List.getD_eq_getElem?_getD,List.getElem?_append_left c]
 have:k=s.low.length:=by omega
 subst this;rw[if_neg (Nat.lt_irrefl _),List.getD_eq_getElem?_getD,List.getElem?_append_right (Nat.le_refl _),Nat.sub_self];rfl
theorem fAt_call_top (s:Ms)(f:Frm):fAt (onCall s f) (s.low.length+1)=f:=by
 have:=fAt_top (onCall s f)
 rwa [show (onCall s f).low.length=s.low.length+1 by simp[onCall]] at this
abbrev FrX.new (cv:Value):FrX:=⟨cv,0,.slice none 0 0,fun _=>0⟩
theorem frC_one (x:FrX)(hx:∃ o n c,x.cv=.slice o n c)(hs:∃ o n c,x.sv=.slice o n c)(f:Frm):∀ u ∈ frC x f,u.oneCell'=true:=by
 intro u hu;obtain⟨o,n,c,hx⟩:=hx;obtain⟨o',n',c',hs⟩:=hs;unfold frC at hu;rcases List.mem_append.1 hu with hu | hu
 ·rcases List.mem_append.1 hu with hu | hu
  ·simp only[List.mem_cons,List.not_mem_nil,or_false] at hu;rcases hu with rfl | rfl
   ·rw[hx];rfl
   rfl
  unfold locC rng at hu;obtain⟨i,-,hu⟩:=List.mem_flatMap.1 hu;unfold vC at hu;simp only[List.mem_cons,List.not_mem_nil,or_false] at hu;rcases hu with rfl | rfl | rfl <;> rfl
 simp only[List.mem_cons,List.not_mem_nil,or_false] at hu;rw[hu,hs];rfl
theorem MM.pushF (h:MM E X g s W tag)(hd:s.low.length<20){f:Nat}(hf:f<E.mo.fns.length){fr:Frm}(hff:fr.f=f∧fr.at_=0∧fr.stk=[]){fz:LV}(hfz:fz=frC (FrX.new (g.code f).1) fr) :
  ∃ cap,W.cell? (Ad X 11)=some (.slice (some (Ad g.g 0)) (s.low.length+1) cap)∧∃ vb vc W2 t',(Builtin.append_ #[133,133] 133 #[.slice (some (Ad g.g 0)) (s.low.length+1) cap,.slice (some (Ad W.heap.size 0)) 1 1]).run prog (W.alloc (.cells fz.toArray 225))=.ok (.slice (some (Ad vb 0)) (s.low.length+2:Nat) vc) W2∧(∃ u,W2.cell? (Ad X 11)=some u)∧W2.frozen? (Ad X 11)=false ∧
   MM E X { g with g:=vb } (onCall s fr) (W2.setCell ⟨X,11,none⟩ (.slice (some ⟨vb,0,none⟩) (s.low.length+2:Nat) vc)) t'∧Kp tag t' W (W2.setCell ⟨X,11,none⟩ (.slice (some ⟨vb,0,none⟩) (s.low.length+2:Nat) vc)):=by
 obtain⟨h6,lv,R,mp,x,hx,h⟩:=h;replace h:=h.norm;generalize hmp:(fun q=>if q<5000 then mp q else none)=mp' at h;have hnone:mp' (5000+(s.low.length+1))=none:=by
  rw[← hmp];show (if _<5000 then _ else _)=_;rw[if_neg (by omega)]
 have hcode:x.code=g.code:=hx.1.2.2.2;obtain⟨cap,hc⟩:=h.vF;have hnA:=h.nA;have C:=h.sta.code f hf;obtain⟨gc,cc,T,v1,v2,v3,v4,v5,v6⟩:=C.at_;have o10:=(h.S.rows 10 h.lX).1;rw[h.rX] at o10;refine⟨cap,own_cell o10 (by show some x.frv=_;rw[hc]),?_⟩;obtain⟨i0,hi,hz0,hz1,hz2⟩:=info_parts infoFr;have hfl:fz.length=51:=by rw[hfz];exact frC_len _ _
 have F1:Fr [] W (W.alloc (.cells fz.toArray 225)):=(Fr.refl [] W).alloc _;have hnews:=cells_new W fz.toArray 225;have S1:=h.S.frm F1 6;have K1:Kp tag (newTag tag W.heap.size 6) W (W.alloc (.cells fz.toArray 225)):=Kp.new F1 6;generalize W.alloc (.cells fz.toArray 225)=W1 at hnews S1 K1 F1 ⊢;have o11:W1.ownsRow 0 225 51 (.slice (some (Ad g.g 0)) (s.low.length+1) cap) (s.low.length+1) (rng (s.low.length+1) fun k=>frC (x.F k) (fAt s k)):=by have:=(S1.rows 11 h.lF).1;rw[h.rF,hc] at this;exact this
 obtain⟨v',W2,hr2,hown',hgrow,-,hwh⟩:=run_append_own_at (P:=prog) (w:=W1) 0 133 133 225 i0 _ 51 568 underlying133 hi hz0 hz1 hz2 (by show (frZ (.slice none 0 0)).toArray.size=51;simp[frZ_len]) (by decide) _ _ _ o11 (Ad W.heap.size 0) 1 1 fz (by omega) (fun j u hj=>hnews j u hj) (by rw[hfz];exact frC_one _ ⟨_,_,_,by rw[← hcode,v1]⟩ ⟨_,_,_,rfl⟩ _) (by unfold maxLen;omega) (by omega) (Nat.zero_le _);obtain⟨vb,vc,rfl,hvc,hvb⟩:=own_some hown' (by omega);obtain⟨S2,K2⟩:=S1.grow (i:=11) h.lF hown' (by rw[h.rF,hc];exact hgrow) (by rw[h.rF,hc];exact hwh);have S3:=S2.turn (i:=5000+(s.low.length+1)) (tag':=newTag (newTag tag W.heap.size 6) W1.heap.size 11) hnone (by omega) (Chg.refl _ [5000+(s.low.length+1)] _) (fun _ _=>rfl) (r:=⟨.slice none 0 0,306,4,0,[]⟩) ⟨rfl,.inl ⟨rfl,rfl⟩⟩ (Tg.nil _ _);have l10:up lv (5000+(s.low.length+1)) true 10=true:=by rw[up_off _ _ (by omega)];exact h.lX
 have r10:up (up R 11 ⟨.slice (some (Ad vb 0)) (s.low.length+1+1) vc,225,51,s.low.length+1+1,(rng (s.low.length+1) fun k=>frC (x.F k) (fAt s k))++fz⟩) (5000+(s.low.length+1)) ⟨.slice none 0 0,306,4,0,[]⟩ 10=⟨.slice (some (Ad X 0)) 1 1,135,16,1,xC x s⟩:=by rw[up_off _ _ (by omega),up_off _ _ (by decide)];exact h.rX
 have o102:=(S3.rows 10 l10).1;rw[r10] at o102;simp only at o102;obtain⟨S4,K4⟩:=S3.put (i:=10) l10 r10 (j:=11) (by omega) (.slice (some (Ad vb 0)) (s.low.length+2:Nat) vc);have K:=(K1.trans K2).trans K4;refine⟨vb,vc,W2,newTag (newTag tag W.heap.size 6) W1.heap.size 11,hr2,⟨x.frv,own_cell o102 rfl⟩,own_thaw o102 _,?_,K⟩;obtain⟨R',hS',hR10,hR11,hR5,hR⟩:∃ R',Sto (W2.setCell ⟨X,11,none⟩ (.slice (some ⟨vb,0,none⟩) (s.low.length+2:Nat) vc)) (newTag (newTag tag W.heap.size 6) W1.heap.size 11) (up lv (5000+(s.low.length+1)) true) R' mp'∧R' 10=⟨.slice (some (Ad X 0)) 1 1,135,16,1,(xC x s).set 11 (.slice (some (Ad vb 0)) (s.low.length+2:Nat) vc)⟩∧R' 11=⟨.slice (some (Ad vb 0)) (s.low.length+1+1) vc,225,51,s.low.length+1+1,(rng (s.low.length+1) fun k=>frC (x.F k) (fAt s k))++fz⟩∧R' (5000+(s.low.length+1))=⟨.slice none 0 0,306,4,0,[]⟩∧∀ i,i≠10→i≠11→i≠5000+(s.low.length+1)→R' i=R i:=
  ⟨_,S4,up_same _ _ _,by rw[up_off _ _ (by decide),up_off _ _ (by omega),up_same],by rw[up_off _ _ (by omega),up_same],fun i h1 h2 h3=>by rw[up_off _ _ h1,up_off _ _ h3,up_off _ _ h2]⟩
 have hlv:∀ i,lv i=true→up lv (5000+(s.low.length+1)) true i=true:=fun i hi=>by
  by_cases e:i=5000+(s.low.length+1)
  ·rw[e,up_same]
  rw[up_off _ _ e];exact hi
 have hlow:(onCall s fr).low.length=s.low.length+1:=by simp[onCall]
 refine⟨Nat.le_trans h6 K.size,up lv (5000+(s.low.length+1)) true,R',mp',{ x with frv:=.slice (some (Ad vb 0)) (s.low.length+2:Nat) vc,F:=up x.F (s.low.length+1) (FrX.new (g.code f).1) },hx,?_⟩;refine⟨hS',h.sta.kp K h6,hlv _ h.lX,?_,hlv _ h.lF,?_,⟨vc,by rw[hlow]⟩,by rw[hlow];omega,hlv _ h.lG,?_,hlv _ h.lA,?_,h.nA,fun i hi=>?_,fun i hi=>?_,fun i j c hi hj hcl=>?_,fun i hi=>?_,h.rcs.kp K,h.drw.kp K,h.fld.kp K⟩
 ·rw[hR10];rfl
 ·rw[hR11,hlow];have e:(rng (s.low.length+1) fun k=>frC (x.F k) (fAt s k))++fz=rng (s.low.length+1+1) fun k=>frC (up x.F (s.low.length+1) (FrX.new (g.code f).1) k) (fAt (onCall s fr) k):=by
   rw[rng_succ (s.low.length+1),up_same,fAt_call_top,hfz];exact congrArg (·++_) (rng_congr fun j hj=>by rw[up_off _ _ (by omega),fAt_call s fr (by omega)])
  rw[e]
 ·rw[hR 12 (by decide) (by decide) (by omega)];exact h.rG
 ·rw[hR 13 (by decide) (by decide) (by omega)];exact h.rA
 ·have hi':i<s.w.arrs.length:=hi;obtain⟨a,b,c⟩:=h.arr i hi;exact⟨a,hlv _ b,by rw[hR _ (by omega) (by omega) (by omega)];exact c⟩
 ·rw[hlow] at hi;show _∧R' (5000+i)=Rw.mk (up x.F (s.low.length+1) (FrX.new (g.code f).1) i).sv 306 4 (fAt (onCall s fr) i).stk.length (stkC (up x.F (s.low.length+1) (FrX.new (g.code f).1) i).pw (fAt (onCall s fr) i).stk);rcases Nat.lt_or_ge s.low.length i with c | c
  ·have:i=s.low.length+1:=by omega
   subst this;refine⟨up_same _ _ _,?_⟩;rw[fAt_call_top,up_same,hff.2.2];exact hR5
  obtain⟨a,b⟩:=h.stk i c;refine⟨hlv _ a,?_⟩;rw[fAt_call s fr c,up_off _ _ (by omega),hR _ (by omega) (by omega) (by omega)];exact b
 ·rw[hlow] at hi;rcases Nat.lt_or_ge s.low.length i with c' | c'
  ·have:i=s.low.length+1:=by omega
   subst this;rw[fAt_call_top,hff.2.2] at hj;simp at hj
  rw[fAt_call s fr c'] at hj;obtain⟨q1,q2,q3,ga,ca,lf,q4,q5,q6⟩:=h.wlk i j c c' hj hcl;refine⟨q1,q2,hlv _ q3,ga,ca,lf,q4,?_,q6.kp K⟩;rw[hR _ (by omega) (by omega) (by omega)];show _=Rw.mk (.slice (some (Ad ((up x.F (s.low.length+1) (FrX.new (g.code f).1) i).pw j) 0)) 1 1) 315 2 1 _;rw[up_off _ _ (by omega)];exact q5
 rw[hlow] at hi;show _∧(up x.F (s.low.length+1) (FrX.new (g.code f).1) i).cv=(x.code (fAt (onCall s fr) i).f).1∧PlcAt E.mo (fAt (onCall s fr) i).f (x.code (fAt (onCall s fr) i).f).2 (up x.F (s.low.length+1) (FrX.new (g.code f).1) i).ix (fAt (onCall s fr) i).at_;rcases Nat.lt_or_ge s.low.length i with c | c
 ·have:i=s.low.length+1:=by omega
  subst this;rw[fAt_call_top,up_same,hff.1,hff.2.1];exact⟨hf,by rw[hcode],plc_zero C.reads⟩
 rw[fAt_call s fr c,up_off _ _ (by omega)];exact h.fn i c
end
theorem wpList_storeA {ops:Array Oper}{rest:List Oper}{o:Oper}{a:Act}{w w':WL}{Q:Exit→Act→WL→Prop} (hgd:o.guard=none) (t:TypeId) (p x:Operand) (ho:o.op=.store t p x) (hd:o.dst=none) (ad:Addr) (hp:a.eval p=.pointer (some ad)) (v:Value) (hx:a.eval x=v)
  (hrun:(storeVar t ad v).run prog w=.ok () w') (h:wpList prog ops Q rest a w'):wpList prog ops Q (o :: rest) a w:=by
 refine wpList_plain hgd fun K hK=>?_;unfold Oper.wp execOp;simp only[ho,Sem.run_bind,Sem.run_pure,Result.andThen_ok,hp,hx,Instr.storeAt,Instr.sureAddr,hrun];refine hK _ _ ?_;rw[hd];exact h
theorem wpList_allocA {ops:Array Oper}{rest:List Oper}{o:Oper}{a:Act}{w:WL}{Q:Exit→Act→WL→Prop} (hgd:o.guard=none) (t:TypeId) (ho:o.op=.alloc t) (z:Value) (hz:(zeroValue t).run prog w=.ok z w)
  (h:wpList prog ops Q rest (a.put o.dst (.pointer (some (Ad w.heap.size 0)))) (w.alloc (.cells z.cells t))):wpList prog ops Q (o :: rest) a w:=by
 refine wpList_plain hgd fun K hK=>?_;unfold Oper.wp execOp;simp only[ho,Sem.run_bind,Sem.run_pure,Result.andThen_ok];have hr:(Instr.alloc t true (.tuple #[])).run prog w=.ok (.pointer (some (Ad w.heap.size 0))) (w.alloc (.cells z.cells t)):=by
  unfold Instr.alloc;simp[go_sem,hz,Result.andThen]
 rw[hr];exact hK _ _ h
theorem wpList_buildB {ops:Array Oper}{rest:List Oper}{o:Oper}{a:Act}{w:WL}{Q:Exit→Act→WL→Prop} (hgd:o.guard=none) (t:TypeId) (x:Operand) (ho:o.op=.build t #[(0,x)]) (u:Value) (hx:a.eval x=u) (v:Value)
  (hrun:(Instr.build t #[(0,u)]).run prog w=.ok v w) (h:wpList prog ops Q rest (a.put o.dst v) w):wpList prog ops Q (o :: rest) a w:=by
 refine wpList_plain hgd fun K hK=>?_;unfold Oper.wp execOp;simp only[ho,Sem.run_bind,Sem.run_pure,Result.andThen_ok,hx,List.map_toArray,List.map_cons,List.map_nil,hrun];exact hK _ _ h
theorem build139 (vo:OA)(n c:Nat)(w:WL):(Instr.build 225 #[(0,.slice vo n c)]).run prog w=.ok (.agg (frZ (.slice vo n c)).toArray) w:=by
 kernel_rfl
theorem oper_buildSB {o:Oper}{a:Act}{w w':WL}{K:Act→WL→Prop}{Q:Exit→Act→WL→Prop} (x:Operand) (t:TypeId) (ho:o.op=.buildSlice t 1 #[(0,x)]) (u:Value) (hx:a.eval x=u) (r:Value)
  (hr:(Instr.buildSlice t 1 #[(0,u)]).run prog w=.ok r w') (h:K (a.put o.dst r) w'):o.wp prog a w K Q:=by
 unfold Oper.wp execOp;simp only[ho,Sem.run_bind,Sem.run_pure,Result.andThen_ok,List.map_toArray,List.map_cons,List.map_nil,hx,hr];exact h
theorem exec_loadA {ρ:Operand→Value}{o:Oper}{w:WL} (t:TypeId) (x:Operand) (ho:o.op=.load t x) (ad:Addr) (hx:ρ x=.pointer (some ad)) (v:Value) (hrun:(loadVar t ad).run prog w=.ok v w):(execOp ρ o).run prog w=.ok (Next.value v) w:=by
 unfold execOp;simp only[ho,Sem.run_bind,Sem.run_pure,Result.andThen_ok,hx,Instr.loadAt,Instr.sureAddr,hrun]
theorem cells2_set {w:WL}{b:Nat}{x y:Value}{t:TypeId} (h:w.heap[b]?=some (.cells #[x,y] t)) (x' y':Value):((w.setCell ⟨b,0,none⟩ x').setCell ⟨b,1,none⟩ y').heap[b]?=some (.cells #[x',y'] t):=by
 have hl:=(Age.1 h).1;have hg:=(Age.1 h).2;unfold World.setCell;simp[hl,Array.getElem_modify,hg]
theorem own_block {w:WL}{B b:Nat}{e:TypeId}{z:Nat}{xs:LV} (h:w.ownsRow B e z (.slice (some (Ad b 0)) 1 1) 1 xs):w.heap[b]?=some (.cells xs.toArray e (0,0)):=by
 rcases h.2 with ⟨h',_⟩ | ⟨g',cap',cur,h',hb,hg,hnc,hcm,hcs,ht⟩
 ·cases h'
 simp only[Value.slice.injEq,Option.some.injEq,Addr.mk.injEq,and_true,true_and] at h';obtain⟨rfl,rfl⟩:=h';rw[hg];congr 2;have:cur.toList=xs:=by
  rw[← ht,List.take_of_length_le];rw[Array.length_toList,hcs];exact Nat.le_refl _
 rw[← this]
theorem infoF2:(prog.info? 225).map (fun i=>(i.zero,i.size))=some (some (.agg (frZ (.slice none 0 0)).toArray),51):=by kernel_rfl
theorem store139 (o:OA)(n c:Nat)(w:WL):(storeVar 225 (Ad w.heap.size 0) (.agg (frZ (.slice o n c)).toArray)).run prog (w.alloc (.cells (frZ (.slice none 0 0)).toArray 225))=.ok () (w.alloc (.cells (frZ (.slice o n c)).toArray 225)):=
 run_storeVar_new (P:=prog) w 225 _ _ (by rw[(zero_of_info infoF2).2];simp[frZ_len]) (by simp[frZ_len]) (by kernel_rfl)
theorem loadF {w:WL}{b:Nat}{xs:LV} (h:w.heap[b]?=some (.cells xs.toArray 225 (0,0))) (hl:xs.length=51):(loadVar 225 (Ad b 0)).run prog w=.ok (.agg xs.toArray) w:=
 run_loadVar_row (P:=prog) w b 225 225 xs.toArray (0,0) _ h underlying225 rfl (by
  have:=infoFr
  rcases hq:prog.info? 225 with _ | i
  ·rw[hq] at this;simp at this
  ·rw[hq] at this
   simp only[Option.map_some,Option.some.injEq,Prod.mk.injEq] at this ⊢
   rw[this.2.1,List.size_toArray,hl])
theorem buildF (o:OA)(n c:Nat)(f:Frm)(w:WL):(Instr.buildSlice 133 1 #[(0,.agg (frC (FrX.new (.slice o n c)) f).toArray)]).run prog w=.ok (.slice (some (Ad w.heap.size 0)) 1 1) (w.alloc (.cells (frC (FrX.new (.slice o n c)) f).toArray 225)):=by
 kernel_rfl
theorem locC_pad (l:List Val)(n:Nat):locC (l++List.replicate n nothing)=locC l:=by
 unfold locC;refine rng_congr fun i hi=>?_;congr 1;rw[List.getD_eq_getElem?_getD,List.getD_eq_getElem?_getD];rcases Nat.lt_or_ge i l.length with c | c
 ·rw[List.getElem?_append_left c]
 rw[List.getElem?_append_right c,List.getElem?_eq_none c,List.getElem?_replicate];split <;> rfl
theorem frC_enter (x:FrX)(m:Mo)(f:Nat)(vs:List Val):frC x (enter m f vs)=frC x ⟨0,0,vs,[]⟩:=by
 unfold frC enter;rw[locC_pad]
section
variable {E:Env}{X:Nat}{g:Pl}{s:Ms}{W W':WL}{tag:NN}
theorem MM.fnAt (h:MM E X g s W tag){f:Nat}(hf:f<E.mo.fns.length) :
  ∃ gf fc,W.cell? (Ad X 2)=some (.slice (some (Ad gf 0)) E.mo.fns.length fc)∧E.mo.fns.length≤1000∧W.cell? (Ad gf (f*2))=some (iA (parOf E.mo f:Nat))∧W.cell? (Ad gf (f*2+1))=some (g.code f).1∧∃ o n c,(g.code f).1=.slice o n c:=by
 obtain⟨h6,lv,R,mp,x,hx,h⟩:=h;obtain⟨gf,fc,e1,e2,e3,e4,e5⟩:=h.sta.fns;obtain⟨gc,cc,T,v1,-⟩:=(h.sta.code f hf).at_;have hcode:x.code=g.code:=hx.1.2.2.2;rw[hcode] at v1 e5;exact⟨gf,fc,h.xc (by rw[← e1];rfl),e4,(e5 f hf).1,(e5 f hf).2,_,_,_,v1⟩
theorem MM.frv (h:MM E X g s W tag):∃ cap,W.cell? (Ad X 11)=some (.slice (some (Ad g.g 0)) (s.low.length+1) cap)∧s.low.length≤20:=by
 obtain⟨h6,lv,R,mp,x,hx,h⟩:=h;obtain⟨cap,hc⟩:=h.vF;exact⟨cap,h.xc (by rw[← hc];rfl),h.nF⟩
theorem MM.callDeep (h:MM E X g s W tag)(hd:20≤s.low.length)(f:Int):Calls prog 226 #[ptr X,iA f] W (MP E X g s tag W (stI 9)):=by
 obtain⟨cap,x11,hn⟩:=h.frv;have c:((s.low.length+1:Nat):Int)>20:=by omega
 have hw:IntKind.i64.wrap ((s.low.length+1:Nat):Int)=((s.low.length+1:Nat):Int):=by rw[IntKind.wrap_i64];omega
 have HM:Hid (MM E X g s W tag):=h;generalize s.low.length=n at *;clear h;go_enter func226,ntmps226;go_wp2_with fail;go_ret;exact⟨rfl,tag,HM.out,Kp.refl _ _⟩
def CI (E:Env) (X:Nat) (g:Pl) (s:Ms) (l:List Cell) (vs:List Val) (cvv:Value) (b7:Nat) (tag:NN) (W:WL) (k:Nat) (wr:WL):Prop:=
 ∃ t,MM E X g (onStk s (l++(vs.take (vs.length-k)).map cv)) wr t∧Kp tag t W wr∧t b7=6∧6≤b7∧b7<wr.heap.size∧wr.ownsRow 0 225 51 (.slice (some ⟨b7,0,none⟩) 1 1) 1 (frC (FrX.new cvv) ⟨0,0,List.replicate (vs.length-k) nothing++vs.drop (vs.length-k),[]⟩)
theorem CI.step {l:List Cell}{vs:List Val}{cvv:Value}{b7 k:Nat}{wr:WL} (h:CI E X g s l vs cvv b7 tag W k wr) (hW:W.heap.size≤b7) (hl:l.length+vs.length≤1024) (hp:vs.length≤16) (hk:k<vs.length) :
  ∃ v,Calls prog 196 #[fp g s] wr fun e W'=>e=.returned (vV v)∧(∀ j,j<3→W'.frozen? (Ad b7 (2+(vs.length-1-k)*3+j))=false∧∃ u,W'.cell? (Ad b7 (2+(vs.length-1-k)*3+j))=some u)∧CI E X g s l vs cvv b7 tag W (k+1) (set3W W' b7 (2+(vs.length-1-k)*3) (.int .u8 v.kind) (iA (vN v)) (.string (vS v))):=by
 obtain⟨t,M,K,hb,h6b,hlt,ow⟩:=h;obtain⟨v,hvm⟩:∃ v,vs[vs.length-1-k]?=some v:=⟨_,Lge (by omega)⟩;have e1:(vs.take (vs.length-k)).map cv=(vs.take (vs.length-(k+1))).map cv++[cv v]:=by
  rw[show vs.length-k=(vs.length-1-k)+1 by omega,List.take_add_one,hvm,List.map_append,show vs.length-(k+1)=vs.length-1-k by omega];rfl
 have hs1:(onStk s (l++(vs.take (vs.length-k)).map cv)).fr.stk=(l++(vs.take (vs.length-(k+1))).map cv)++[cv v]:=by
  show l++(vs.take (vs.length-k)).map cv=_;rw[e1,List.append_assoc]
 have hl1:(onStk s (l++(vs.take (vs.length-k)).map cv)).fr.stk.length≤1024:=by
  show (l++(vs.take (vs.length-k)).map cv).length≤1024;simp only[Lla,List.length_map,List.length_take];omega
 refine⟨v,(MM.popV M hs1 hl1).mono fun e W' ⟨he,t',M',K'⟩=>⟨he,?_,?_⟩⟩
 ·have ow':=own_of_block ow fun q hq=>K'.blk q (ow.lt q hq).2 (by
   have:b7=q:=by simpa [Value.ownBlock] using hq
   rw[← this,hb];decide)
  intro j hj;refine⟨own_thaw ow' _,?_⟩;obtain⟨u,hu⟩:∃ u,(frC (FrX.new cvv) ⟨0,0,List.replicate (vs.length-k) nothing++vs.drop (vs.length-k),[]⟩)[2+(vs.length-1-k)*3+j]?=some u:=⟨_,Lge (by rw[frC_len];omega)⟩;exact⟨u,own_cell ow' hu⟩
 have ow':=own_of_block ow fun q hq=>K'.blk q (ow.lt q hq).2 (by
  have:b7=q:=by simpa [Value.ownBlock] using hq
  rw[← this,hb];decide)
 have hb':t' b7=6:=(K'.ret _ hlt).trans hb;refine⟨t',?_,?_,hb',h6b,?_,?_⟩
 ·exact ((M'.poke hb' h6b _ _).poke hb' h6b _ _).poke hb' h6b _ _
 ·exact (((K.trans K').poke hW _ _).poke hW _ _).poke hW _ _
 ·unfold set3W;simp only[World.setCell,Array.size_modify];exact Nll hlt K'.size
 have o3:=own_set (own_set (own_set ow' (j:=2+(vs.length-1-k)*3) (by omega) (.int .u8 v.kind)) (j:=2+(vs.length-1-k)*3+1) (by omega) (iA (vN v))) (j:=2+(vs.length-1-k)*3+2) (by omega) (.string (vS v));have e2:=frC_setLoc (FrX.new cvv) ⟨0,0,List.replicate (vs.length-k) nothing++vs.drop (vs.length-k),[]⟩ (i:=vs.length-1-k) (by omega) (by simp;omega) v;unfold set3L at e2;rw[e2] at o3;have e3:(List.replicate (vs.length-k) nothing++vs.drop (vs.length-k)).set (vs.length-1-k) v=List.replicate (vs.length-(k+1)) nothing++vs.drop (vs.length-(k+1)):=by
  have a1:vs.length-k=(vs.length-(k+1))+1:=by omega
  have a2:vs.length-1-k=vs.length-(k+1):=by omega
  rw[a2] at hvm;have a3:vs.drop (vs.length-(k+1))=v :: vs.drop (vs.length-k):=by
   have hlt:vs.length-(k+1)<vs.length:=by omega
   rw[List.drop_eq_getElem_cons hlt,← a1];congr 1;rw[Lge hlt] at hvm;simpa using hvm
  rw[a2,a3,a1,List.replicate_succ',List.append_assoc,List.set_append_right _ _ (by simp)];simp
 simp only[e3] at o3;exact o3
theorem MM.call (h:MM E X g s W tag)(hd:s.low.length<20){f:Nat}(hf:f<E.mo.fns.length){l:List Cell}{vs:List Val} (hs:s.fr.stk=l++vs.map cv) (hl:s.fr.stk.length≤1024) (hp:parOf E.mo f=vs.length) (hp16:vs.length≤16) :
  Calls prog 226 #[ptr X,iA (f:Nat)] W fun e W'=>e=.returned (stI 0)∧∃ vb t',MM E X { g with g:=vb } (onCall (onStk s l) (enter E.mo f vs)) W' t'∧Kp tag t' W W':=by
 have hm:=hmX
 obtain⟨cap,x11,hn⟩:=h.frv;obtain⟨gf,fc,x2,hfn,y0,y1,co,cn,cc,hco⟩:=h.fnAt hf;have hl1:l.length+vs.length≤1024:=by rw[hs] at hl;simpa using hl
 rw[hp] at y0;rw[hco] at y1;have c20:¬ ((s.low.length+1:Nat):Int)>20:=by omega
 have hw:IntKind.i64.wrap ((s.low.length+1:Nat):Int)=((s.low.length+1:Nat):Int):=by rw[IntKind.wrap_i64];omega
 have hfi:(f:Int)<(E.mo.fns.length:Int):=by omega
 have HF:Hid (∀ (W1:WL),Fr [] W W1→Calls prog 63 #[ptr X] W1 (fun e W'=>e=.returned (fp g s)∧Fr [] W1 W')):=fun W1 F1=>by
  refine (frame_any X g.g s.low.length cap W1 ((F1.cell (p:=Ad X 11) (lt_of_cell x11) (by simp)).trans x11) (by omega)).mono fun e W' ⟨he,hf⟩=>⟨he,hf⟩
 have HX:Hid (∀ (W1:WL),Fr [] W W1→W1.cell? (Ad X 2)=some (.slice (some (Ad gf 0)) E.mo.fns.length fc)∧W1.cell? (Ad gf (f*2))=some (iA (vs.length:Nat))∧W1.cell? (Ad gf (f*2+1))=some (.slice co cn cc)):=fun W1 F1=>
  ⟨(F1.cell (p:=Ad X 2) (lt_of_cell x2) (by simp)).trans x2,(F1.cell (p:=Ad gf (f*2)) (lt_of_cell y0) (by simp)).trans y0,(F1.cell (p:=Ad gf (f*2+1)) (lt_of_cell y1) (by simp)).trans y1⟩
 have HM:Hid (MM E X g s W tag):=h;generalize hfl:E.mo.fns.length=fnl at *;generalize hlow:s.low.length=ll at *;clear h y0 y1 x2;generalize hs2:onCall (onStk s l) (enter E.mo f vs)=s2;go_enter func226,ntmps226;go_upto_region 3 with fail
 go_cut[5,6] from 15 to 23 (fun x y wx=>∃ b5:Nat,x=.pointer (some (Ad b5 0))∧y=fp g s∧Fr [] W wx∧W.heap.size≤b5∧wx.heap[b5]?=some (.cells #[iA (vs.length:Nat),.slice co cn cc] 143))
 case first=>
  refine wp_region_heldD (fun V=>Fr [] W V) hm ?_;have FD:Fr [] W W.drew:=(Fr.refl [] W).drew;obtain⟨WD,hWD⟩:=eXi (W.drew);rw[hWD] at FD ⊢;have hS:=FD;clear hWD x11 HM hs hl;refine wpAnyH_takes (fun _ _ _ _ _ h=>h) hS [0,1,2,3,4,5,6,7] (by kernel_rfl) ?_
  iterate 8
   refine Yls.cons (v:=?_) rfl (.inl ⟨rfl,fun w1 hS1=>?_⟩) ?_;rotate_left
   ·obtain⟨p0,p1,p2⟩:=HX.out w1 hS1;go_simp
    first | rfl | (refine (if_neg (by omega)).trans ?_;rfl)
   simp only[Act.put,Zp,Zq]
  refine Yls.nil ?_;refine wpAnyH_ready (rs:=[8,9]) (by kernel_rfl) (by simp) ?_;refine AllReadyH.cons rfl (fun K hK=>?_) (AllReadyH.cons rfl (fun K hK=>?_) AllReadyH.nil)
  ·skip;go_simp;refine (HF.out WD (hS)).mono ?_;rintro e V1 ⟨rfl,G1⟩;have F1:Fr [] W V1:=(hS).trans G1;refine hK _ _ F1 ?_;clear hK K;intro _
   try simp only[Act.put,Zp,Zq]
   refine rd1 (r:=9) (by kernel_rfl) rfl fun K hK=>?_;go_simp;obtain⟨V2,hV2⟩:=eXi (V1.alloc (.cells #[iA 0,.slice none 0 0] 143));have F2:Fr [] W V2:=by rw[← hV2];exact (F1).alloc _
   have kk:=kA hV2;rw[hV2];refine hK _ _ F2 ?_;clear hK K;intro _
   try simp only[Act.put,Zp,Zq]
   have hbk:W.heap.size≤V1.heap.size:=F1.size;obtain⟨⟨q0,q1⟩,z0,z1⟩:=cells2 kk;have kk3:=cells2_set kk (iA (vs.length:Nat)) (.slice co cn cc);have q1':(V2.setCell ⟨V1.heap.size,0,none⟩ (.int .i64 (vs.length:Nat))).cell? (Ad V1.heap.size 1)=some (.slice none 0 0):=by rw[setCell_off (by decide)];exact q1
   have F7:Fr [] W ((V2.setCell ⟨V1.heap.size,0,none⟩ (.int .i64 (vs.length:Nat))).setCell ⟨V1.heap.size,1,none⟩ (.slice co cn cc)):=(F2.setCell (p:=⟨V1.heap.size,0,none⟩) (.inr hbk) _).setCell (p:=⟨V1.heap.size,1,none⟩) (.inr hbk) _;refine rd1 (r:=10) (by kernel_rfl) rfl fun K hK=>?_;go_simp;obtain⟨V7,hV7⟩:=eXi ((V2.setCell ⟨V1.heap.size,0,none⟩ (.int .i64 (vs.length:Nat))).setCell ⟨V1.heap.size,1,none⟩ (.slice co cn cc));rw[hV7] at kk3 F7
   try rw[hV7]
   refine hK _ _ F7 ?_;clear hK K;intro _;refine rd1 (r:=11) (by kernel_rfl) rfl fun K hK=>?_;go_simp;refine hK _ _ F7 ?_;clear hK K;intro _
   try simp only[Act.put,Zp,Zq]
   refine wpAnyH_done (by kernel_rfl) ?_ _;go_wp2_with fail;go_meet;exact⟨V1.heap.size,rfl,rfl,F7,hbk,kk3⟩
  skip;go_simp;obtain⟨V1,hV1⟩:=eXi (WD.alloc (.cells #[iA 0,.slice none 0 0] 143));have F1:Fr [] W V1:=by rw[← hV1];exact (hS).alloc _
  have kk:=kA hV1;rw[hV1];refine hK _ _ F1 ?_;clear hK K;intro _
  try simp only[Act.put,Zp,Zq]
  refine rd1 (r:=8) (by kernel_rfl) rfl fun K hK=>?_;go_simp;refine (HF.out V1 (F1)).mono ?_;rintro e V2 ⟨rfl,G2⟩;have F2:Fr [] W V2:=(F1).trans G2;refine hK _ _ F2 ?_;clear hK K;intro _
  try simp only[Act.put,Zp,Zq]
  replace kk:=(G2.block _ (Age.1 kk).1 (by simp)).trans kk;have hbk:W.heap.size≤WD.heap.size:=hS.size;obtain⟨⟨q0,q1⟩,z0,z1⟩:=cells2 kk;have kk3:=cells2_set kk (iA (vs.length:Nat)) (.slice co cn cc);have q1':(V2.setCell ⟨WD.heap.size,0,none⟩ (.int .i64 (vs.length:Nat))).cell? (Ad WD.heap.size 1)=some (.slice none 0 0):=by rw[setCell_off (by decide)];exact q1
  have F7:Fr [] W ((V2.setCell ⟨WD.heap.size,0,none⟩ (.int .i64 (vs.length:Nat))).setCell ⟨WD.heap.size,1,none⟩ (.slice co cn cc)):=(F2.setCell (p:=⟨WD.heap.size,0,none⟩) (.inr hbk) _).setCell (p:=⟨WD.heap.size,1,none⟩) (.inr hbk) _;refine rd1 (r:=10) (by kernel_rfl) rfl fun K hK=>?_;go_simp;obtain⟨V7,hV7⟩:=eXi ((V2.setCell ⟨WD.heap.size,0,none⟩ (.int .i64 (vs.length:Nat))).setCell ⟨WD.heap.size,1,none⟩ (.slice co cn cc));rw[hV7] at kk3 F7
  try rw[hV7]
  refine hK _ _ F7 ?_;clear hK K;intro _;refine rd1 (r:=11) (by kernel_rfl) rfl fun K hK=>?_;go_simp;refine hK _ _ F7 ?_;clear hK K;intro _
  try simp only[Act.put,Zp,Zq]
  refine wpAnyH_done (by kernel_rfl) ?_ _;go_wp2_with fail;go_meet;exact⟨WD.heap.size,rfl,rfl,F7,hbk,kk3⟩
 case rest=>
  obtain⟨b5,rfl,rfl,F,hb5,k5⟩:=hcut;obtain⟨⟨q0,q1⟩,-,-⟩:=cells2 k5;have hb5l:=(Age.1 k5).1;obtain⟨W4,hW4⟩:=eXi (wc.alloc (.cells (frZ (.slice co cn cc)).toArray 225));have hnew:=kA hW4;have F4:Fr [] W W4:=by rw[← hW4];exact F.alloc _
  have F4':Fr [] wc W4:=by rw[← hW4];exact (Fr.refl [] wc).alloc _
  have q0':W4.cell? (Ad b5 0)=some (iA (vs.length:Nat)):=(F4'.cell (p:=Ad b5 0) hb5l (by simp)).trans q0;obtain⟨t4,h4,k4,hb4⟩:=MM.box HM.out F4;have hl4:=(Age.1 hnew).1;have HJ:Hid (CI E X g s l vs (.slice co cn cc) wc.heap.size tag W 0 W4):=by
   refine⟨t4,?_,k4,hb4 _ F.size,Nat.le_trans HM.out.1 F.size,hl4,?_⟩
   ·rw[Nat.sub_zero,List.take_length,← hs];exact h4
   refine own_one ?_ (frC_len _ _);rw[hnew];congr 2;rw[Nat.sub_zero,List.drop_length,List.append_nil];show _=([Value.slice co cn cc,iA 0]++locC (List.replicate vs.length nothing)++[Value.slice none 0 0]).toArray;rw[locC_nothing];rfl
  have HST:Hid _:=fun (k:Nat) (wr:WL) (J:CI E X g s l vs (.slice co cn cc) wc.heap.size tag W k wr) (hk:k<vs.length)=>J.step F.size hl1 hp16 hk;have HEND:Hid (∀ wr,CI E X g s l vs (.slice co cn cc) wc.heap.size tag W vs.length wr→∃ t,MM E X g (onStk s l) wr t∧Kp tag t W wr∧t wc.heap.size=6∧wr.ownsRow 0 225 51 (.slice (some (Ad wc.heap.size 0)) 1 1) 1 (frC (FrX.new (.slice co cn cc)) (enter E.mo f vs))):=fun wr J=>by
   obtain⟨t,M,K,hb,-,-,ow⟩:=J;rw[Nat.sub_self,List.take_zero,List.map_nil,List.append_nil] at M;rw[Nat.sub_self,List.replicate_zero,List.nil_append,List.drop_zero] at ow;rw[frC_enter];exact⟨t,M,K,hb,ow⟩
  have HPF:Hid _:=fun (wr:WL) (t:NN) (M:MM E X g (onStk s l) wr t)=>M.pushF (show s.low.length<20 by omega) (f:=f) (by omega) (fr:=enter E.mo f vs) ⟨rfl,rfl,rfl⟩ (fz:=frC (FrX.new (.slice co cn cc)) (enter E.mo f vs)) (by rw[hco]);have hb0:=buildF co cn cc (enter E.mo f vs);have hfl51:(frC (FrX.new (.slice co cn cc)) (enter E.mo f vs)).length=51:=frC_len _ _;generalize frC (FrX.new (.slice co cn cc)) (enter E.mo f vs)=fz at HEND HPF hb0 hfl51;replace HPF:Hid (∀ (wr:WL) (t:NN),MM E X g (onStk s l) wr t→∃ cap,wr.cell? (Ad X 11)=some (.slice (some (Ad g.g 0)) (ll+1) cap)∧∃ vb vc W2 t',(Builtin.append_ #[133,133] 133 #[.slice (some (Ad g.g 0)) (ll+1) cap,.slice (some (Ad wr.heap.size 0)) 1 1]).run prog (wr.alloc (.cells fz.toArray 225))=.ok (.slice (some (Ad vb 0)) (ll+2:Nat) vc) W2∧(∃ u,W2.cell? (Ad X 11)=some u)∧W2.frozen? (Ad X 11)=false ∧
   MM E X { g with g:=vb } (onCall (onStk s l) (enter E.mo f vs)) (W2.setCell ⟨X,11,none⟩ (.slice (some ⟨vb,0,none⟩) (ll+2:Nat) vc)) t'∧Kp t t' wr (W2.setCell ⟨X,11,none⟩ (.slice (some ⟨vb,0,none⟩) (ll+2:Nat) vc))):=by
   rw[← hlow];exact HPF
  rw[hs2] at HPF;obtain⟨p,hpp⟩:=eXi (vs.length);rw[hpp] at HST HEND q0 q0' hp16 k5;have hw1:IntKind.i64.wrap ((p:Int)-1)=(p:Int)-1:=by rw[IntKind.wrap_i64];omega
  have hzv:(zeroValue 225).run prog wc=.ok (.agg (frZ (.slice none 0 0)).toArray) wc:=(zero_of_info infoF2).1 wc;have hsv:=store139 co cn cc wc;have hbv:=build139 co cn cc wc;rw[hW4] at hsv;generalize frZ (.slice none 0 0)=fz0 at hzv hsv;generalize frZ (.slice co cn cc)=fz1 at hsv hbv;have HZV:Hid _:=hzv;have HSV:Hid _:=hsv;have HBV:Hid _:=hbv;clear hW4 hzv hsv hbv;clear hnew F4 F4' h4 k4 hb4 hl4 HX HF HM hs hl hfl hf hfn hfi x11 c20 hw hb5 hb5l k5 hlow hd hn hl1 hco hp F hs2;go_wp2_with (first | (refine wpList_buildB rfl 225 (.tmp 25) rfl (.slice co cn cc) rfl (.agg fz1.toArray) HBV.out ?_) | (refine wpList_allocA rfl 225 rfl (.agg fz0.toArray) HZV.out ?_;simp only[Value.cells]) | (refine wpList_storeA rfl 225 (.tmp 7) (.tmp 26) rfl rfl (Ad wc.heap.size 0) rfl (.agg fz1.toArray) rfl HSV.out ?_))
  go_loopw [8] (fun q wr=>∃ k:Nat,k≤p∧q=iA ((p:Int)-1-k)∧Hid (CI E X g s l vs (.slice co cn cc) wc.heap.size tag W k wr)) (fun q _=>(intOf q+1).toNat)
  case atStart=>exact⟨0,by omega,by simp,HJ⟩
  case round=>
   clear HJ;obtain⟨k,hk,rfl,J⟩:=hrel;by_cases hlt:k<p
   ·obtain⟨m,hm1⟩:∃ m:Nat,p-1-k=m:=⟨_,rfl⟩;have hm2:(p:Int)-1-k=(m:Int):=by omega
    obtain⟨v,HC⟩:=HST.out k wr J.out hlt;rw[hm1] at HC;have HC':Hid _:=fun (_:Unit)=>HC;have g1:(m:Int) ≥ 0:=by omega
    have g2:(m:Int)<16:=by omega
    have hwm:IntKind.i64.wrap ((m:Int)-1)=(m:Int)-1:=by rw[IntKind.wrap_i64];omega
    have hfin:Hid ((m:Int)-1=(p:Int)-1-((k+1:Nat):Int)):=by show _=_;omega
    rw[hm2];unfold vV at HC';generalize (v.kind:Int)=kk at HC';generalize vN v=mm at HC';generalize vS v=tt at HC';clear HC HST J HEND HPF hm1 hb0;go_wp2_with fail;refine (HC'.out ()).mono ?_;rintro e W5 ⟨rfl,hz,J5⟩;obtain⟨z0,u0,x0⟩:=hz 0 (by decide);obtain⟨z1,u1,x1⟩:=hz 1 (by decide);obtain⟨z2,u2,x2⟩:=hz 2 (by decide);rw[Nat.add_zero] at z0 x0;unfold set3W at J5;have x1':(W5.setCell ⟨wc.heap.size,2+m*3,none⟩ (.int .u8 kk)).cell? (Ad wc.heap.size (2+m*3+1))=some u1:=by rw[setCell_off (by omega)];exact x1
    have x2':((W5.setCell ⟨wc.heap.size,2+m*3,none⟩ (.int .u8 kk)).setCell ⟨wc.heap.size,2+m*3+1,none⟩ (.int .i64 mm)).cell? (Ad wc.heap.size (2+m*3+2))=some u2:=by rw[setCell_off (by omega),setCell_off (by omega)];exact x2
    have HJ5:Hid _:=J5;clear J5 hz HC';go_wp2_with fail;exact⟨⟨k+1,by omega,by rw[hfin.out],HJ5⟩,by simp[intOf] <;> omega⟩
   have hkp:k=p:=by omega
   subst hkp;have g1:¬ ((k:Int)-1-(k:Int) ≥ 0):=by omega
   obtain⟨t,M,K,hb,ow⟩:=HEND.out wr J.out;obtain⟨WD,hWD⟩:=eXi (wr.drew);have FD:Fr [] wr WD:=by rw[← hWD];exact (Fr.refl [] wr).drew
   obtain⟨tD,MD,KD⟩:=M.fr FD;have owD:=own_block (own_of_block ow fun q hq=>FD.block q (ow.lt q hq).2 (by simp));obtain⟨cap',x11,vb,vc,W6,t6,hr,⟨u,xu⟩,zu,M6,K6⟩:=HPF.out WD tD MD;have HR:Hid _:=hr;have HM6:Hid _:=AI M6 ((K.trans KD).trans K6);have HB0:Hid _:=hb0 WD;have HQ:Hid (∀ V,Fr [] WD V→V.cell? (Ad X 11)=some (.slice (some (Ad g.g 0)) (ll+1) cap')∧V.heap[wc.heap.size]?=some (.cells fz.toArray 225 (0,0))):=fun V FV=>⟨(FV.cell (p:=Ad X 11) (lt_of_cell x11) (by simp)).trans x11,(FV.block _ (Age.1 owD).1 (by simp)).trans owD⟩;have hS:Fr [] WD WD:=Fr.refl _ _;clear M K hb ow MD KD owD hr M6 K6 HEND HPF HST J hb0 FD x11;go_wp2_with fail;refine wp_region_L (fun w=>Fr [] WD w) 7 hm ?_;rw[hWD];refine wpAnyL_takesU (fuel:=7) [0,1,2,3] (by kernel_rfl) (fun _ _ _ _ _ h=>h) (.inr hS) ?_
   iterate 4
    refine Yls.cons (v:=?_) rfl (.inl ⟨rfl,fun w1 hS1=>?_⟩) ?_;rotate_left
    ·go_simp
     first | rfl | (refine (if_neg (by omega)).trans ?_;rfl)
    simp only[Act.put,Zp,Zq]
   refine Yls.nil ?_;refine wpAnyL_takes (fuel:=5) [4,5] (by kernel_rfl) (fun _ _ _ _ _ h=>h) hS ?_;refine Yls.cons (v:=?_) rfl (.inl ⟨rfl,fun w1 hS1=>?_⟩) ?_;rotate_left
   ·obtain⟨s0,s1⟩:=HQ.out _ hS1;go_simp
    first | rfl | (refine (if_neg (by omega)).trans ?_;rfl)
   simp only[Act.put,Zp,Zq];refine Yls.cons (v:=.agg fz.toArray) rfl (.inl ⟨rfl,fun w1 hS1=>?_⟩) ?_
   ·exact exec_loadA 225 (.tmp 7) rfl (Ad wc.heap.size 0) rfl (.agg fz.toArray) (loadF (HQ.out _ hS1).2 hfl51)
   simp only[Act.put,Zp,Zq];refine Yls.nil ?_;refine wpAnyL_ready (rs:=[6]) (by kernel_rfl) (by simp) ?_;refine AllReadyL.cons rfl (fun K hK=>?_) AllReadyL.nil;refine oper_buildSB (.tmp 44) 133 rfl (.agg fz.toArray) rfl (.slice (some (Ad WD.heap.size 0)) 1 1) HB0.out ?_;refine hK _ _ (.inr (hS.alloc _)) ?_;clear hK K
   try simp only[Act.put,Zp,Zq]
   refine wpAnyL_ready (rs:=[7]) (by kernel_rfl) (by simp) ?_;refine AllReadyL.cons rfl (fun K hK=>?_) AllReadyL.nil;refine oper_appendB (.tmp 43) (.tmp 45) 133 rfl _ _ _ rfl rfl HR.out ?_;refine hK _ _ (.inl rfl) ?_;clear hK K
   try simp only[Act.put,Zp,Zq]
   refine wpAnyL_takesU (fuel:=1) [8,9] (by kernel_rfl) (fun _ _ _ _ _ h=>h) (.inl rfl) ?_
   iterate 2
    refine Yls.cons (v:=?_) rfl (.inl ⟨rfl,fun w1 hS1=>?_⟩) ?_;rotate_left
    ·go_simp
     first | rfl | (refine (if_neg (by omega)).trans ?_;rfl)
    simp only[Act.put,Zp,Zq]
   refine Yls.nil ?_;refine wpAnyL_ready (rs:=[10]) (by kernel_rfl) (by simp) ?_;refine AllReadyL.cons rfl (fun K hK=>?_) AllReadyL.nil;go_simp;refine hK _ _ (.inl rfl) ?_;clear hK K
   try simp only[Act.put,Zp,Zq]
   refine wpAnyL_done (by kernel_rfl) ?_ _;refine NoPanic.normal ?_;go_wp2_with fail;go_ret;exact⟨rfl,vb,t6,HM6.out.1,HM6.out.2⟩
end
section
variable {E:Env}{X:Nat}{g:Pl}{s:Ms}{W W':WL}{tag:NN}
theorem MM.fcallDeep (h:MM E X g s W tag)(hd:20≤s.low.length)(pl a b q:Int) :
  Calls prog 128 #[ptr X,fp g s,inV 50 pl a b q] W (MP E X g s tag W (stI 9)):=by
 obtain⟨W1,hW1,F1,⟨b0,b1,b2,b3,b4⟩,l1⟩:=box5 W 50 pl a b q;obtain⟨t1,h1,k1,-⟩:=MM.box h F1;have HM1:Hid _:=AI h1 k1;have HC:Hid _:=fun (_:Unit)=>h1.callDeep hd a;clear h h1 k1 F1 l1;go_enter func128,ntmps128;go_wp2_with fail;refine (HC.out ()).mono ?_;rintro e W2 ⟨rfl,t2,h2,k2⟩;have HM2:Hid _:=AI h2 (HM1.out.2.trans k2);have HK2:Hid _:=k2;clear h2 k2 HC;go_wp2_with fail;go_ret;exact⟨rfl,t2,HM2.out.1,HM2.out.2⟩
theorem MM.fcall (h:MM E X g s W tag)(hd:s.low.length<20){f:Nat}(hf:f<E.mo.fns.length){l:List Cell}{vs:List Val} (hs:s.fr.stk=l++vs.map cv) (hl:s.fr.stk.length≤1024) (hp:parOf E.mo f=vs.length) (hp16:vs.length≤16) (pl b q:Int) :
  Calls prog 128 #[ptr X,fp g s,inV 50 pl (f:Nat) b q] W fun e W'=>e=.returned (stI 0)∧∃ vb t',MM E X { g with g:=vb } (onCall (onStk s l) (enter E.mo f vs)) W' t'∧Kp tag t' W W':=by
 obtain⟨W1,hW1,F1,⟨b0,b1,b2,b3,b4⟩,l1⟩:=box5 W 50 pl (f:Nat) b q;obtain⟨t1,h1,k1,-⟩:=MM.box h F1;have HK1:Hid _:=k1;have HC:Hid _:=fun (_:Unit)=>h1.call hd hf hs hl hp hp16;generalize onCall (onStk s l) (enter E.mo f vs)=s2 at HC ⊢;clear h h1 k1 F1 l1;go_enter func128,ntmps128;go_wp2_with fail;refine (HC.out ()).mono ?_;rintro e W2 ⟨rfl,vb,t2,h2,k2⟩;have HM2:Hid _:=AI h2 (HK1.out.trans k2);clear h2 k2 HC;go_wp2_with fail;go_ret;exact⟨rfl,vb,t2,HM2.out.1,HM2.out.2⟩
theorem MM.fret (h:MM E X g s W tag){l:List Cell}{v:Val} (hs:s.fr.stk=l++[cv v]) (hl:s.fr.stk.length≤1024) {lo:List Frm}{f:Frm} (hlo:s.low=lo++[f]) (hf:f.stk.length<1024) (pl a b q:Int) :
  Calls prog 128 #[ptr X,fp g s,inV 51 pl a b q] W (MP E X g (onStk (onCut s lo f) (f.stk++[cv v])) tag W (stI 0)):=by
 obtain⟨W1,hW1,F1,⟨b0,b1,b2,b3,b4⟩,l1⟩:=box5 W 51 pl a b q;obtain⟨t1,h1,k1,-⟩:=MM.box h F1;have HM1:Hid _:=AI h1 k1;have HC:Hid _:=fun (_:Unit)=>h1.leave hs hl hlo hf;generalize onStk (onCut s lo f) (f.stk++[cv v])=s2 at HC ⊢;clear h h1 k1 F1 l1;go_enter func128,ntmps128;go_wp2_with fail;refine (HC.out ()).mono ?_;rintro e W2 ⟨rfl,t2,h2,k2⟩;have HM2:Hid _:=AI h2 (HM1.out.2.trans k2);have HK2:Hid _:=k2;clear h2 k2 HC;go_wp2_with fail;go_ret;exact⟨rfl,t2,HM2.out.1,HM2.out.2⟩
theorem MM.nextFn (h:MM E X g s W tag)(ht:∀ t,s.w.recs[s.w.nr]?=some t→t.size≤4294967296)(hn:s.w.recs.length≤1000000)(h3:2<E.mo.fns.length) :
  Calls prog 66 #[ptr X] W fun e W'=>e=.returned unit∧∃ b t',MM E X (g.at_ b (if (nextR s.w).2=true then 1 else 2)) (onBegin E (onNext s) (if (nextR s.w).2=true then 1 else 2)) W' t'∧Kp tag t' W W':=by
 have HR:Hid _:=fun (_:Unit)=>h.readR ht hn;have HB1:Hid _:=fun (W1:WL) (t1:NN) (h1:MM E X g (onNext s) W1 t1)=>h1.begin_ (f:=1) (by omega);have HB2:Hid _:=fun (W1:WL) (t1:NN) (h1:MM E X g (onNext s) W1 t1)=>h1.begin_ (f:=2) (by omega);generalize (nextR s.w).2=bb at HR ⊢;generalize onNext s=s1 at *;clear h ht hn;cases bb
 ·simp only[Bool.false_eq_true,if_false];generalize onBegin E s1 2=s2 at HB2 ⊢;go_enter func66,ntmps66;go_wp2_with fail;refine (HR.out ()).mono ?_;rintro e W1 ⟨rfl,t1,h1,k1⟩;have HM1:Hid _:=AI h1 (k1);have HK1:Hid _:=k1;clear h1 k1 HR;go_wp2_with fail;refine (HB2.out W1 t1 HM1.out.1).mono ?_;rintro e W2 ⟨rfl,b,t2,h2,k2⟩;have HM2:Hid _:=AI h2 (HM1.out.2.trans k2);clear h2 k2 HB1 HB2;go_wp2_with fail;refine bodyPost_end (results_none rfl _ _ _) rfl ?_;exact⟨rfl,b,t2,HM2.out.1,HM2.out.2⟩
 simp only[if_true];generalize onBegin E s1 1=s2 at HB1 ⊢;go_enter func66,ntmps66;go_wp2_with fail;refine (HR.out ()).mono ?_;rintro e W1 ⟨rfl,t1,h1,k1⟩;have HM1:Hid _:=AI h1 (k1);have HK1:Hid _:=k1;clear h1 k1 HR;go_wp2_with fail;refine (HB1.out W1 t1 HM1.out.1).mono ?_;rintro e W2 ⟨rfl,b,t2,h2,k2⟩;have HM2:Hid _:=AI h2 (HM1.out.2.trans k2);clear h2 k2 HB1 HB2;go_wp2_with fail;refine bodyPost_end (results_none rfl _ _ _) rfl ?_;exact⟨rfl,b,t2,HM2.out.1,HM2.out.2⟩
end
end Go.Proofs.YtmolfmgchbjnbaaGreatDoor
