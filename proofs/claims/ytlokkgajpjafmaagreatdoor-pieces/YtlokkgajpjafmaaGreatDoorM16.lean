import Derived.Test.YtlokkgajpjafmaaGreatDoorM15
set_option linter.unusedSimpArgs false
set_option linter.unusedVariables false
set_option maxRecDepth 100000
set_option maxHeartbeats 40000000
open _root_.Go.Proofs.Tryz
namespace Go.Proofs.YtlokkgajpjafmaaGreatDoor
open Go.RowKit
open Wire Flow Mach
theorem aQz (ga o n c:Nat)(vo:OA)(w:WL):(Instr.build 199 #[(0,.pointer (some (Ad ga o))),(1,.slice vo n c)]).run prog w=.ok (.agg #[.pointer (some (Ad ga o)),.slice vo n c]) w:=by
 kernel_rfl
section
variable {E:Env}{X:Nat}{g:Pl}{s:Ms}{W W':WL}{tag:NN}
theorem MM.keysOp (h:MM E X g s W tag)(hl:s.fr.stk.length<1024){a:Nat}(ha:a<s.w.arrs.length)(hn:s.w.arrs.length≤1000)(hn2:(s.w.arrs.getD a []).length≤100000)(pl b q:Int) :
  Calls prog 65 #[ptr X,fp g s,inV 16 pl (a:Nat) b q] W (MP E X g (aC s (s.fr.stk++[⟨true,nothing,a,aM (s.w.arrs.getD a [])⟩])) tag W (stI 0)):=by
 have hm:=hmX
 obtain⟨W1,hW1,F1,⟨b0,b1,b2,b3,b4⟩,l1⟩:=gG W 16 pl (a:Nat) b q;obtain⟨t1,h1,k1,hb1⟩:=MM.box h F1;obtain⟨ga,c,hg⟩:=h.avS ha;have HM1:Hid _:=AI h1 k1;have x9:=h1.avc;rw[hg] at x9;have hkl:(aM (s.w.arrs.getD a [])).length=(s.w.arrs.getD a []).length:=List.length_map _;have HP:Hid _:=fun (W1:WL) (t1:NN) (h1:MM E X g s W1 t1)=>by
  obtain⟨b,ov,c0,c1,hm,ow⟩:=h1.arrAt hg ha;rw[← hkl] at ow;exact aBy ga (a*2) W1 c1 ow (by omega)
 have HK:Hid _:=fun (W1:WL) (t1:NN) (h1:MM E X g s W1 t1) (W2:WL) (F2:Fr [] W1 W2) (v':Value) (ow:W2.ownsRow W1.heap.size 9 1 v' (aM (s.w.arrs.getD a [])).length ((aM (s.w.arrs.getD a [])).map .string))=>aTt h1 hl hg ha F2 ow;generalize aC s (s.fr.stk++[⟨true,nothing,a,aM (s.w.arrs.getD a [])⟩])=s2 at HK ⊢;generalize aM (s.w.arrs.getD a [])=L at HP HK;clear h h1 k1 F1 l1 hb1 hkl hn2;have hi':(a:Int)<s.w.arrs.length:=by omega
 go_enter func65,ntmps65;go_wp2_with fail;refine aY hm (by kernel_rfl) ?_
 repeat still_step
 refine wpStill_nil ?_;have F2:Fr [] W1 W1.drew:=(Fr.refl [] W1).drew;obtain⟨t2,h2,k2⟩:=MM.fr HM1.out.1 F2;have HM2:Hid _:=AI h2 (HM1.out.2.trans k2);have HK2:Hid _:=k2;clear h2 k2 F2;go_wp2_with fail;refine (HP.out W1.drew t2 HM2.out.1).mono ?_;rintro e W3 ⟨v',rfl,F3,ow⟩;have hk:=HK.out _ _ HM2.out.1 W3 F3 v' ow;obtain⟨vo,vc,rfl⟩:=bF ow;have hbd:=aQz ga (a*2) L.length vc vo;have Hk:Hid _:=fun (_:Unit)=>hk;clear hk ow F3 HP HK;generalize L.length=n at Hk hbd;go_wp2_with fail;refine (Hk.out ()).mono ?_;rintro e W5 ⟨rfl,t5,h5,k5⟩;have HM5:Hid _:=AI h5 (HM2.out.2.trans k5);clear h5 k5 Hk;go_wp2_with fail;go_ret;exact⟨rfl,t5,HM5.out.1,HM5.out.2⟩
end
def lD (W:WL) (pw:Nat) (pa lf:Value):Prop:=W.heap[pw]?=some (.cells #[pa,lf] 199 (0,0))
theorem lD.cells {W:WL}{pw:Nat}{pa lf:Value} (h:lD W pw pa lf):W.cell? (Ad pw 0)=some pa∧W.cell? (Ad pw 1)=some lf∧W.frozen? (Ad pw 1)=false:=by
 unfold lD at h;refine⟨?_,?_,?_⟩
 ·unfold World.cell?;rw[h];rfl
 ·unfold World.cell?;rw[h];rfl
 unfold World.frozen?;rw[h];simp
theorem lD.set {W:WL}{pw:Nat}{pa lf:Value} (h:lD W pw pa lf) (lf':Value):lD (W.setCell ⟨pw,1,none⟩ lf') pw pa lf':=by
 unfold lD at h ⊢;have hl:=(Age.1 h).1;have hg:=(Age.1 h).2;unfold World.setCell;simp[hl,Array.getElem_modify,hg]
theorem lD.fr {W W':WL}{pw:Nat}{pa lf:Value} (h:lD W pw pa lf) (F:Fr [] W W'):lD W' pw pa lf:=(F.block pw (Age.1 h).1 (by simp)).trans h
theorem RoL.fr {W W':WL}{tag:NN}{v:Value}{xs:LV}{S:LN} (h:RoL W tag v xs) (F:Fr S W W') (hS:∀ b ∈ S,tag b≠9):RoL W' tag v xs:=by
 obtain⟨o,c,h1,h2,h2',h3⟩:=h;refine⟨o,c,h1,h2,h2',fun h0=>?_⟩;obtain⟨g,off,e1,e2,e3,e4⟩:=h3 h0;exact⟨g,off,e1,Nll e2 F.size,e3,fun i x hx=>(F.cell (p:=Ad g (off+i)) e2 (fun hc=>hS g hc e3)).trans (e4 i x hx)⟩
def qW (W:WL) (pw:Nat):Nat:=match W.cell? ⟨pw,1,none⟩ with
 | some (.slice _ n _)=>n
 | _=>0
theorem pO {W:WL}{pw:Nat}{o:OA}{n c:Nat} (h:W.cell? (Ad pw 1)=some (.slice o n c)):qW W pw=n:=by
 unfold qW;rw[h]
def NxP (W:WL) (tag:NN) (pw:Nat) (pa:Value) (r:Option (BA × LY)) (e:Ending) (W':WL):Prop:=
 Fr [pw] W W'∧(match r with
  | none=>e=.returned (.tuple #[.string ⟨#[]⟩,.bool false])
  | some kl=>e=.returned (.tuple #[.string kl.1,.bool true]))∧∃ lf',lD W' pw pa lf'∧RoL W' tag lf' ((match r with | none=>[] | some kl=>kl.2).map .string)
theorem aIl {W V:WL}{tag:NN}{pw:Nat}{pa lf:Value}{k:BA}{K:LY} (hw:lD V pw pa lf) (hr:RoL V tag lf ((k :: K).map .string)) (F:Fr [pw] W V) (ht:tag pw≠9) :
  ∃ gl off c,lf=.slice (some (Ad gl off)) (K.length+1) c∧K.length+1≤c∧c≤9223372036854775807∧V.cell? (Ad gl off)=some (.string k)∧∀ o',(c≠1→o'=some (Ad gl (off+1))) →
   lD (V.setCell ⟨pw,1,none⟩ (.slice o' K.length (c-1))) pw pa (.slice o' K.length (c-1))∧RoL (V.setCell ⟨pw,1,none⟩ (.slice o' K.length (c-1))) tag (.slice o' K.length (c-1)) (K.map .string)∧Fr [pw] W (V.setCell ⟨pw,1,none⟩ (.slice o' K.length (c-1))):=by
 obtain⟨o,c,e1,e2,e2',e3⟩:=hr;simp only[List.map_cons,List.length_cons,List.length_map] at e1 e2 e3;obtain⟨gt,off,e4,e5,e6,e7⟩:=e3 (by omega);refine⟨gt,off,c,by rw[e1,e4],e2,e2',by have:=e7 0 _ rfl;exact this,fun o' ho=>?_⟩;have F1:Fr [pw] V (V.setCell ⟨pw,1,none⟩ (.slice o' K.length (c-1))):=(Fr.refl [pw] V).setCell (.inl (by simp)) _;refine⟨hw.set _,⟨o',c-1,by rw[List.length_map],by rw[List.length_map];omega,by omega,fun h0=>?_⟩,F.trans F1⟩;rw[List.length_map] at h0;refine⟨gt,off+1,ho (by omega),Nll e5 F1.size,e6,fun i v hv=>?_⟩;have:=e7 (i+1) v hv;rw[show off+(i+1)=off+1+i by omega] at this;exact (F1.cell (p:=Ad gt (off+1+i)) e5 (by simp;rintro rfl;exact ht e6)).trans this
theorem aOj (pw ga o:Nat){l:List (BA × Val)}(keys:LY){lf:Value}(W:WL){tag:NN}(hw:lD W pw (.pointer (some (Ad ga o))) lf)(hr:RoL W tag lf (keys.map .string))(ht:tag pw≠9)(hk:∀ k ∈ keys,k.size≤1048576)
  (HH:∀ (V:WL) (k:BA),Fr [pw] W V→k.size≤1048576→Calls prog 119 #[.pointer (some (Ad ga o)),.string k] V fun e W'=>e=.returned (.bool (bI l k))∧Fr [] V W') :
  Calls prog 114 #[ptr pw] W (NxP W tag pw (.pointer (some (Ad ga o))) (dJ l keys)):=by
 have HR:Hid (∃ K lf,lD W pw (.pointer (some (Ad ga o))) lf∧RoL W tag lf (K.map .string)∧Fr [pw] W W∧dJ l K=dJ l keys∧∀ k ∈ K,k.size≤1048576):=⟨keys,lf,hw,hr,Fr.refl _ _,rfl,hk⟩;have HH':Hid _:=HH;have ht':Hid _:=ht;clear hw hr HH ht hk;go_enter func114,ntmps114;go_wp2
 go_loopw [2] (fun v wr=>v=.string ⟨#[]⟩∧Hid (∃ K lf,lD wr pw (.pointer (some (Ad ga o))) lf∧RoL wr tag lf (K.map .string)∧Fr [pw] W wr∧dJ l K=dJ l keys∧∀ k ∈ K,k.size≤1048576)) (fun _ wr=>qW wr pw)
 case atStart=>exact⟨rfl,HR⟩
 case round=>
  clear HR;obtain⟨rfl,J⟩:=hrel;obtain⟨K,lf,hw,hr,F,hnx,hks⟩:=J.out;obtain⟨c0,c1,z1⟩:=hw.cells;rcases K with _ | ⟨k,K⟩
  ·obtain⟨oo,cc,e1,-⟩:=id hr;have e1':lf=.slice oo 0 cc:=e1;subst e1';have hN:Hid (dJ l keys=none):=by
    show _=_;rw[← hnx];rfl
   have HW:Hid _:=AI hw (AI hr F);clear hw hr F hnx hks J HH' ht' e1;go_wp2_with fail;go_ret2;rw[hN.out];exact⟨HW.out.2.2,rfl,_,HW.out.1,HW.out.2.1⟩
  obtain⟨gl,off,c,rfl,hc,hc',ck,hst⟩:=aIl hw hr F ht'.out;have g1:((K.length+1:Nat):Int)>0:=by omega
  have hw64:IntKind.i64.wrap ((K.length+1:Nat):Int)=((K.length+1:Nat):Int):=by rw[IntKind.wrap_i64];omega
  have HC':Hid _:=fun (V:WL) (F:Fr [pw] W V)=>HH'.out V k F (hks k (by simp));have F':Hid _:=F;clear hw hr J HH' F;obtain⟨m,hm⟩:=eXi (K.length);rw[hm] at hst c1 g1 hw64 hc;rcases Decidable.em (c=1) with hc1 | hc1
  ·subst hc1;have hm0:m=0:=by omega
   subst hm0;have HST:Hid _:=hst (some (Ad gl off)) (fun h=>absurd rfl h);clear hst;cases hb:bI l k with
   | true=>
    rw[hb] at HC';have HV:Hid _:=fun (_:Unit)=>HC'.out _ HST.out.2.2;clear HC';go_wp2_with fail;refine (HV.out ()).mono ?_;rintro e W4 ⟨rfl,F4⟩;obtain⟨j1,j2,j3⟩:=HST.out;have w4:=j1.fr F4;have r4:=j2.fr F4 (by simp);have F04:=j3.trans (F4.mono (by simp));have hN:Hid (dJ l keys=some (k,K)):=by
     show _=_;rw[← hnx];simp[dJ,hb]
    have HW:Hid _:=AI w4 (AI r4 F04);clear w4 r4 F04 j1 j2 j3 HST F4 hnx hks hb HV;go_wp2_with fail;go_ret2;rw[hN.out];exact⟨HW.out.2.2,rfl,_,HW.out.1,HW.out.2.1⟩
   | false=>
    rw[hb] at HC';have HV:Hid _:=fun (_:Unit)=>HC'.out _ HST.out.2.2;clear HC';go_wp2_with fail;refine (HV.out ()).mono ?_;rintro e W4 ⟨rfl,F4⟩;obtain⟨j1,j2,j3⟩:=HST.out;have w4:=j1.fr F4;have r4:=j2.fr F4 (by simp);have F04:=j3.trans (F4.mono (by simp));have hN:dJ l K=dJ l keys:=by
     rw[← hnx];simp[dJ,hb]
    have HW:Hid (∃ K lf,lD W4 pw (.pointer (some (Ad ga o))) lf∧RoL W4 tag lf (K.map .string)∧Fr [pw] W W4∧dJ l K=dJ l keys∧∀ k ∈ K,k.size≤1048576):=⟨K,_,w4,r4,F04,hN,fun q hq=>hks q (by simp[hq])⟩;have hle:=pO w4.cells.2.1;have hle0:=pO c1;have HLE:Hid (qW W4 pw<qW wr pw):=by show _<_;rw[hle,hle0];omega
    clear w4 r4 F04 j1 j2 j3 HST F4 hnx hks hb hN hle hle0 HV;go_wp2_with fail;exact⟨⟨rfl,HW⟩,HLE.out⟩
  skip;have HST:Hid _:=hst _ (fun _=>rfl);clear hst;cases hb:bI l k with
  | true=>
   rw[hb] at HC';have HV:Hid _:=fun (_:Unit)=>HC'.out _ HST.out.2.2;clear HC';go_wp2_with fail;refine (HV.out ()).mono ?_;rintro e W4 ⟨rfl,F4⟩;obtain⟨j1,j2,j3⟩:=HST.out;have w4:=j1.fr F4;have r4:=j2.fr F4 (by simp);have F04:=j3.trans (F4.mono (by simp));have hN:Hid (dJ l keys=some (k,K)):=by
    show _=_;rw[← hnx];simp[dJ,hb]
   have HW:Hid _:=AI w4 (AI r4 F04);clear w4 r4 F04 j1 j2 j3 HST F4 hnx hks hb HV;go_wp2_with fail;go_ret2;rw[hN.out];exact⟨HW.out.2.2,rfl,_,HW.out.1,HW.out.2.1⟩
  | false=>
   rw[hb] at HC';have HV:Hid _:=fun (_:Unit)=>HC'.out _ HST.out.2.2;clear HC';go_wp2_with fail;refine (HV.out ()).mono ?_;rintro e W4 ⟨rfl,F4⟩;obtain⟨j1,j2,j3⟩:=HST.out;have w4:=j1.fr F4;have r4:=j2.fr F4 (by simp);have F04:=j3.trans (F4.mono (by simp));have hN:dJ l K=dJ l keys:=by
    rw[← hnx];simp[dJ,hb]
   have HW:Hid (∃ K lf,lD W4 pw (.pointer (some (Ad ga o))) lf∧RoL W4 tag lf (K.map .string)∧Fr [pw] W W4∧dJ l K=dJ l keys∧∀ k ∈ K,k.size≤1048576):=⟨K,_,w4,r4,F04,hN,fun q hq=>hks q (by simp[hq])⟩;have hle:=pO w4.cells.2.1;have hle0:=pO c1;have HLE:Hid (qW W4 pw<qW wr pw):=by show _<_;rw[hle,hle0];omega
   clear w4 r4 F04 j1 j2 j3 HST F4 hnx hks hb hN hle hle0 HV;go_wp2_with fail;exact⟨⟨rfl,HW⟩,HLE.out⟩
theorem aWm {l:LV}{i:Nat}{v:Value} (h:l[i]?=some v):l.set i v=l:=by
 obtain⟨hi,e⟩:=Lgs.1 h;rw[← e];exact List.set_getElem_self hi
theorem yP (a b:Int)(s:BA)(p:OA)(w:WL):(Instr.field 191 (.agg #[.int .u8 a,iA b,.string s,.pointer p]) 1).run prog w=.ok (.pointer p) w:=by
 kernel_rfl
section
variable {E:Env}{X:Nat}{g:Pl}{s:Ms}{W W':WL}{tag tag':NN}
theorem MM.walkAt (h:MM E X g s W tag){l:List aJ}{v:Val}{a:Nat}{K:LY} (hs:s.fr.stk=l++[⟨true,v,a,K⟩]) :
  ∃ pw ga c lf,a<s.w.arrs.length∧g.av=.slice (some (Ad ga 0)) s.w.arrs.length c∧10≤tag pw∧lD W pw (.pointer (some (Ad ga (a*2)))) lf∧RoL W tag lf (K.map .string) ∧
   Calls prog 113 #[fp g s] W (fun e W'=>e=.returned (.agg #[.int .u8 0,iA 0,.string ⟨#[]⟩,ptr pw])∧Fr [] W W') ∧
   (∀ V,Fr [pw] W V→∃ b ov,V.cell? (Ad ga (a*2))=some (.map (some b))∧V.cell? (Ad ga (a*2+1))=some ov∧dV V b (cY (s.w.arrs.getD a []))) ∧
   ∀ (W':WL) (lf':Value) (K':LY),Fr [pw] W W'→lD W' pw (.pointer (some (Ad ga (a*2)))) lf'→RoL W' tag lf' (K'.map .string)→MM E X g (aC s (l++[⟨true,v,a,K'⟩])) W' tag∧Kp tag tag W W':=by
 obtain⟨h6,lv,R,mp,x,hx,h⟩:=h;obtain⟨⟨cap,r11,hv⟩,lm,rm,hxx⟩:=h.top;have hn:=h.nF;have hnA:=h.nA;have hlen:s.fr.stk.length=l.length+1:=by rw[hs];simp
 have hj:s.fr.stk[l.length]?=some ⟨true,v,a,K⟩:=by rw[hs];simp
 obtain⟨w1,w2,w3,ga,ca,lf,w4,w5,w6⟩:=h.wlk s.low.length l.length _ (Nat.le_refl _) (by rw[cQ];exact hj) rfl;simp only at w2 w5 w6;have hq:=h.S.rows _ w3;rw[w5] at hq;obtain⟨oq,tq⟩:=hq;simp only at oq tq;have tpw:tag ((x.F s.low.length).pw l.length)=10000+1024*s.low.length+l.length:=tq _ rfl;generalize hpw:(x.F s.low.length).pw l.length=pw at w5 oq tq tpw;have hwk:lD W pw (.pointer (some (Ad ga (a*2)))) lf:=by
  rcases oq.2 with ⟨h',_⟩ | ⟨g',cap',cur,h',hb,hg,hnc,hcm,hcs,ht⟩
  ·cases h'
  simp only[Value.slice.injEq,Option.some.injEq,Addr.mk.injEq,and_true,true_and] at h';obtain⟨rfl,rfl⟩:=h';unfold lD;rw[hg];congr 2;have:cur.toList=[.pointer (some (Ad ga (a*2))),lf]:=by
   rw[← ht,List.take_of_length_le];rw[Array.length_toList,hcs];exact Nat.le_refl _
  exact Array.toList_inj.1 this
 have o13:=(h.S.rows 13 h.lA).1;have t13:=(h.S.rows 13 h.lA).2;rw[h.rA,w4] at o13 t13;simp only at o13 t13;obtain⟨a1,a2,a3⟩:=h.arr a w2;obtain⟨hmap,tb⟩:=h.S.maps _ _ _ a1;have e:=fun t (ht:t<2)=>dC (n:=s.w.arrs.length) (z:=2) (f:=fun i=>[Value.map (some (x.A i).1),(x.A i).2]) (fun _ _=>rfl) w2 ht;have tga:tag ga=13:=t13 ga rfl;refine⟨pw,ga,ca,lf,w2,hx.2.symm.trans w4,by omega,hwk,w6,?_,fun V F=>?_,fun W' lf' K' F hw' hr'=>?_⟩
 ·have o11:W.ownsRow 0 139 51 (.slice (some (Ad g.g 0)) (s.low.length+1) cap) (s.low.length+1) (rng (s.low.length+1) fun k=>frC (x.F k) (fAt s k)):=by have:=(h.S.rows 11 h.lF).1;rw[r11] at this;exact this
  have om:W.ownsRow 0 191 4 (x.F s.low.length).sv (l.length+1) (mZ (x.F s.low.length).pw (l++[⟨true,v,a,K⟩])):=by have:=(h.S.rows _ lm).1;rw[rm,hlen,hs] at this;exact this
  obtain⟨gs,cs,hsv,hcs,hgs⟩:=fR om (by omega);rw[hsv] at om hxx;have e:=fun t (ht:t<4)=>n9 (x.F s.low.length).pw l ⟨true,v,a,K⟩ t ht;rw[← hpw];exact aHb g.g (s.low.length*51) gs l.length cs 0 0 ⟨#[]⟩ (some (Ad ((x.F s.low.length).pw l.length) 0)) W (aF o11 hxx) (by omega) (aF om ((e 0 (by decide)).trans rfl)) (aF om ((e 1 (by decide)).trans rfl)) (aF om ((e 2 (by decide)).trans rfl)) (aF om ((e 3 (by decide)).trans rfl))
 ·have hga:ga ∉ [pw]:=by simp;rintro rfl;omega
  have hbm:(x.A a).1 ∉ [pw]:=by simp;intro e;rw[e] at tb;omega
  have hgl:=(o13.lt ga rfl).2;exact⟨(x.A a).1,(x.A a).2,(F.cell (p:=Ad ga (a*2)) hgl hga).trans (aF o13 ((e 0 (by decide)).trans rfl)),(F.cell (p:=Ad ga (a*2+1)) hgl hga).trans (aF o13 ((e 1 (by decide)).trans rfl)),hmap.of_block (F.block _ hmap.lt hbm)⟩
 have hc:Chg tag [10000+1024*s.low.length+l.length] W W':=⟨F.os,F.tape,F.output,F.size,fun k hk hn=>F.block k hk (by simp;rintro rfl;exact hn (by simp[tpw]))⟩;have S':=h.S.turn (i:=10000+1024*s.low.length+l.length) (tag':=tag) (h.S.far _ w3) (by omega) hc (fun _ _=>rfl) (r:=⟨.slice (some (Ad pw 0)) 1 1,199,2,1,[.pointer (some (Ad ga (a*2))),lf']⟩) (pL hw' rfl) (fun b hb=>by
  have:pw=b:=by simpa [Value.ownBlock] using hb
  rw[← this];exact tpw)
 rw[lJ w3] at S';have K0:Kp tag tag W W':=Kp.chg hc (fun _ _=>rfl) (by simp;omega);refine⟨⟨Nat.le_trans h6 K0.size,lv,_,mp,onF x s.low.length _,hx,h.restack h6 (l:=l++[⟨true,v,a,K'⟩]) (pw:=(x.F s.low.length).pw) (sv:=(x.F s.low.length).sv) K0 S' (fun _ h=>h) ?_ ?_ ?_ ?_⟩,K0⟩
 ·rw[aE _ _ (by omega),h.rF,aWm hxx]
 ·rw[aE _ _ (by omega),rm,hs,jW,jW,Lla,Lla];rfl
 ·intro i h1 h2 h3;rw[aE _ _ (by omega)]
 intro j c hj' hc';rcases Nat.lt_or_ge j l.length with c1 | c1
 ·rw[List.getElem?_append_left c1] at hj';obtain⟨q1,q2,q3,ga',ca',lf0,q4,q5,q6⟩:=h.wlk s.low.length j c (Nat.le_refl _) (by rw[cQ,hs,List.getElem?_append_left c1];exact hj') hc';exact⟨q1,q2,q3,ga',ca',lf0,q4,by rw[aE _ _ (by omega)];exact q5,q6.kp K0⟩
 rw[List.getElem?_append_right c1] at hj';have e0:j=l.length:=by
  rcases e:j-l.length with _ | q
  ·omega
  rw[e] at hj';simp at hj'
 subst e0;have:c=⟨true,v,a,K'⟩:=by simpa using hj'.symm
 subst this;refine⟨w1,w2,w3,ga,ca,lf',w4,?_,hr'⟩;rw[aG,hpw]
end
section
variable {E:Env}{X:Nat}{g:Pl}{s:Ms}{W W':WL}{tag tag':NN}
theorem MM.nextKey (h:MM E X g s W tag){l:List aJ}{v:Val}{a:Nat}{K:LY} (hs:s.fr.stk=l++[⟨true,v,a,K⟩]) (ho:dO (s.w.arrs.getD a [])) (hK:∀ k ∈ K,k.size≤1048576) :
  ∃ pw,Calls prog 113 #[fp g s] W (fun e W1=>e=.returned (.agg #[.int .u8 0,iA 0,.string ⟨#[]⟩,ptr pw]) ∧
   Calls prog 114 #[ptr pw] W1 (fun e W'=>(match dJ (s.w.arrs.getD a []) K with
    | none=>e=.returned (.tuple #[.string ⟨#[]⟩,.bool false])
    | some kl=>e=.returned (.tuple #[.string kl.1,.bool true]))∧∃ t',MM E X g (aC s (l++[⟨true,v,a,match dJ (s.w.arrs.getD a []) K with | none=>[] | some kl=>kl.2⟩])) W' t'∧Kp tag t' W W')):=by
 obtain⟨pw,ga,c,lf,ha,hg,tpw,hw,hr,H113,hB,hN⟩:=h.walkAt hs;refine⟨pw,H113.mono ?_⟩;rintro e W1 ⟨rfl,F1⟩;refine⟨rfl,?_⟩;have F1':Fr [pw] W W1:=F1.mono (by simp);refine (aOj pw ga (a*2) (l:=s.w.arrs.getD a []) K W1 (tag:=tag) (hw.fr F1) (hr.fr F1 (by simp)) (by omega) hK (fun V k FV hk=>?_)).mono ?_
 ·obtain⟨b,ov,c0,c1,hm⟩:=hB V (F1'.trans FV);exact gV ga (a*2) b k V c0 hm ho.1 ho.2 hk
 rintro e W' ⟨F',he,lf',hw',hr'⟩;exact⟨he,tag,hN W' lf' _ (F1'.trans F') hw' hr'⟩
theorem MM.eachSome (h:MM E X g s W tag){l:List aJ}{v:Val}{a:Nat}{K:LY} (hs:s.fr.stk=l++[⟨true,v,a,K⟩]) (hl:s.fr.stk.length<1024) (ho:dO (s.w.arrs.getD a [])) (hK:∀ k ∈ K,k.size≤1048576) {k:BA}{rest:LY} (hn:dJ (s.w.arrs.getD a []) K=some (k,rest)) (t:Int) :
  Calls prog 64 #[fp g s,iA t] W (MP E X g (aC s (l++[⟨true,v,a,rest⟩,cv (dZ k)])) tag W cR):=by
 obtain⟨pw,H⟩:=h.nextKey hs ho hK;rw[hn] at H;simp only at H;have hlen:l.length+1<1024:=by rw[hs] at hl;simpa using hl
 have HT:Hid _:=fun (W1:WL) (t1:NN) (h1:MM E X g (aC s (l++[(⟨true,v,a,rest⟩:aJ)])) W1 t1)=>MM.pushText h1 (show (l++[(⟨true,v,a,rest⟩:aJ)]).length<1024 by simp;omega) k;have hfin:Hid ((l++[(⟨true,v,a,rest⟩:aJ)])++[cv (dZ k)]=l++[⟨true,v,a,rest⟩,cv (dZ k)]):=by show _=_;simp
 have HQ:Hid _:=fun (_:Unit)=>H;have hfd:=yP 0 0 ⟨#[]⟩ (some (Ad pw 0));clear H h hs;go_enter func64,ntmps64;go_wp2_with fail;refine (HQ.out ()).mono ?_;rintro e W1 ⟨rfl,H⟩;have HN:Hid _:=fun (_:Unit)=>H;clear H HQ;go_wp2_with fail;refine (HN.out ()).mono ?_;rintro e W2 ⟨rfl,t2,h2,k2⟩;have HM2:Hid _:=AI h2 k2;clear h2 k2 HN;go_wp2_with fail;refine (HT.out W2 t2 HM2.out.1).mono ?_;rintro e W3 ⟨rfl,t3,h3,k3⟩;have HM3:Hid _:=AI h3 (HM2.out.2.trans k3);clear h3 k3 HT;go_wp2_with fail;refine bodyPost_ret (results_none rfl _ _ _) rfl ?_;rw[← hfin.out];exact⟨rfl,t3,HM3.out.1,HM3.out.2⟩
theorem MM.eachNone (h:MM E X g s W tag){l:List aJ}{v:Val}{a:Nat}{K:LY} (hs:s.fr.stk=l++[⟨true,v,a,K⟩]) (hl:s.fr.stk.length≤1024) (ho:dO (s.w.arrs.getD a [])) (hK:∀ k ∈ K,k.size≤1048576) (hn:dJ (s.w.arrs.getD a []) K=none) {t p:Nat} (ht:∀ L,eO E.mo s.fr.f (locsOf E.mo s.fr.f) (codeOf E.mo s.fr.f) L→fJ E.mo s.fr.f L t p) :
  Calls prog 64 #[fp g s,iA (t:Nat)] W (MP E X g (oH (aC s l) p) tag W cR):=by
 obtain⟨pw,H⟩:=h.nextKey hs ho hK;rw[hn] at H;simp only at H;have hlen:(l++[(⟨true,v,a,[]⟩:aJ)]).length≤1024:=by rw[hs] at hl;simpa using hl
 have HP:Hid _:=fun (W1:WL) (t1:NN) (h1:MM E X g (aC s (l++[(⟨true,v,a,[]⟩:aJ)])) W1 t1)=>MM.pop h1 (l:=l) (c:=⟨true,v,a,[]⟩) rfl hlen;have HA:Hid _:=fun (W2:WL) (t2:NN) (h2:MM E X g (aC s l) W2 t2)=>MM.setAt h2 (t:=t) (a:=p) ht;have HQ:Hid _:=fun (_:Unit)=>H;have hfd:=yP 0 0 ⟨#[]⟩ (some (Ad pw 0));have hcel:aGj ⟨true,v,a,[]⟩=vlV 0 0 ⟨#[]⟩:=rfl;rw[hcel] at HP;replace HP:Hid (∀ (W1:WL) (t1:NN),MM E X g (aC s (l++[⟨true,v,a,[]⟩])) W1 t1→Calls prog 108 #[fp g s] W1 (MP E X g (aC s l) t1 W1 (vlV 0 0 ⟨#[]⟩))):=HP;clear H h hs hcel;go_enter func64,ntmps64;go_wp2_with fail;refine (HQ.out ()).mono ?_;rintro e W1 ⟨rfl,H⟩;have HN:Hid _:=fun (_:Unit)=>H;clear H HQ;go_wp2_with fail;refine (HN.out ()).mono ?_;rintro e W2 ⟨rfl,t2,h2,k2⟩;have HM2:Hid _:=AI h2 k2;clear h2 k2 HN;go_wp2_with fail;refine (HP.out W2 t2 HM2.out.1).mono ?_;rintro e W3 ⟨rfl,t3,h3,k3⟩;have HM3:Hid _:=AI h3 (HM2.out.2.trans k3);clear h3 k3 HP;obtain⟨z1,⟨u,x1⟩,M4,K4⟩:=HA.out W3 t3 HM3.out.1;obtain⟨W4,hW4⟩:=eXi (W3.setCell ⟨g.g,s.low.length*51+1,none⟩ (.int .i64 (t:Nat)));replace M4:MM E X g (oH (aC s l) p) (W3.setCell ⟨g.g,s.low.length*51+1,none⟩ (.int .i64 (t:Nat))) t3:=M4;replace K4:Kp t3 t3 W3 (W3.setCell ⟨g.g,s.low.length*51+1,none⟩ (.int .i64 (t:Nat))):=K4;replace z1:W3.frozen? (Ad g.g (s.low.length*51+1))=false:=z1;replace x1:W3.cell? (Ad g.g (s.low.length*51+1))=some u:=x1;rw[hW4] at M4 K4;have HM4:Hid _:=AI M4 (HM3.out.2.trans K4);clear M4 K4 HA;go_wp2_with fail;refine bodyPost_end (results_none rfl _ _ _) rfl ?_;exact⟨rfl,t3,HM4.out.1,HM4.out.2⟩
end
theorem aQu (c:Nat):128≤(UInt8.ofNat (128+c % 64)).toNat:=by
 rw[UInt8.toNat_ofNat'];omega
theorem bBw (r:Int)(h1:128≤r)(h2:r<2048):∃ b0 b1:UInt8,Utf8.encode r=⟨#[b0,b1]⟩∧128≤b1.toNat:=by
 have hv:Utf8.valid r=true:=by unfold Utf8.valid;simp;left;omega
 refine⟨UInt8.ofNat (0xC0+r.toNat / 64),UInt8.ofNat (0x80+r.toNat % 64),?_,aQu _⟩;unfold Utf8.encode;simp only[hv,if_true];rw[if_neg (by omega),if_pos (by omega)]
theorem bBv (r:Int)(h1:2048≤r)(h2:r<65536)(hv:Utf8.valid r=true):∃ b0 b1 b2:UInt8,Utf8.encode r=⟨#[b0,b1,b2]⟩∧128≤b2.toNat:=by
 refine⟨UInt8.ofNat (0xE0+r.toNat / 4096),UInt8.ofNat (0x80+r.toNat / 64 % 64),UInt8.ofNat (0x80+r.toNat % 64),?_,aQu _⟩;unfold Utf8.encode;simp only[hv,if_true];rw[if_neg (by omega),if_neg (by omega),if_pos (by omega)]
theorem bBu (r:Int)(h1:65536≤r)(hv:Utf8.valid r=true):∃ b0 b1 b2 b3:UInt8,Utf8.encode r=⟨#[b0,b1,b2,b3]⟩:=by
 refine⟨UInt8.ofNat (0xF0+r.toNat / 262144),UInt8.ofNat (0x80+r.toNat / 4096 % 64),UInt8.ofNat (0x80+r.toNat / 64 % 64),UInt8.ofNat (0x80+r.toNat % 64),?_⟩;unfold Utf8.encode;simp only[hv,if_true];rw[if_neg (by omega),if_neg (by omega),if_neg (by omega)]
theorem aXf (r:Int)(h1:128≤r)(h2:r≠65533)(hv:Lib.validRune r=false)(w:WL) :
  Calls prog 232 #[.string ⟨#[32,9,10]⟩,.int .i32 r] w fun e w'=>e=.returned (iA (-1))∧w'=w:=by
 have HV:Hid _:=fun (_:Unit)=>utf8_ValidRune r w;rw[hv] at HV;have g1:(0:Int)≤r:=by omega
 have g2:¬ (r<128):=by omega
 have g3:(r==65533)=false:=by simp[h2]
 clear hv;go_enter func232,ntmps232;go_wp2_with fail;refine (HV.out ()).mono ?_;rintro e w' ⟨rfl,rfl⟩;go_wp2_with fail;go_ret;exact⟨rfl,rfl⟩
theorem aTw (r:Int)(h1:65536≤r)(hv:Lib.validRune r=true)(w:WL) :
  Calls prog 232 #[.string ⟨#[32,9,10]⟩,.int .i32 r] w fun e w'=>e=.returned (iA (-1))∧w'=w:=by
 have HV:Hid _:=fun (_:Unit)=>utf8_ValidRune r w;rw[hv] at HV;have g1:(0:Int)≤r:=by omega
 have g2:¬ (r<128):=by omega
 have g3:(r==65533)=false:=by simp;omega
 have hv':Utf8.valid r=true:=by unfold Utf8.valid;unfold Lib.validRune at hv;simp at hv ⊢;omega
 obtain⟨b0,b1,b2,b3,he⟩:=bBu r h1 hv';have hcv:∀ w,(convert 21 9 (.int .i32 r)).run prog w=.ok (.string ⟨#[b0,b1,b2,b3]⟩) w:=fun w=>by
  rw[← he];rfl
 clear hv hv' he;go_enter func232,ntmps232;go_wp2_with fail;refine (HV.out ()).mono ?_;rintro e w' ⟨rfl,rfl⟩;clear h1 g1 g2 g3;go_wp2_with fail
 go_step3
 go_wp2_with fail
 go_loop [9,10] (fun i f=>i=iA 3∧f=iA 0) (fun _ _=>0)
 case atStart=>exact⟨rfl,rfl⟩
 case round=>
  obtain⟨rfl,rfl⟩:=hrel;go_wp2_with fail;go_ret;exact⟨rfl,rfl⟩
theorem aXd (r:Int)(h1:128≤r)(h2:r<2048)(w:WL) :
  Calls prog 232 #[.string ⟨#[32,9,10]⟩,.int .i32 r] w fun e w'=>e=.returned (iA (-1))∧Below w.heap.size w w':=by
 have hm:=hmX
 have HV:Hid _:=fun (_:Unit)=>utf8_ValidRune r w;rw[show Lib.validRune r=true by unfold Lib.validRune;simp;omega] at HV;have g1:(0:Int)≤r:=by omega
 have g2:¬ (r<128):=by omega
 have g3:(r==65533)=false:=by simp;omega
 obtain⟨b0,b1,he,hb⟩:=bBw r h1 h2;have hcv:∀ w,(convert 21 9 (.int .i32 r)).run prog w=.ok (.string ⟨#[b0,b1]⟩) w:=fun w=>by
  rw[← he];rfl
 have HI:Hid _:=fun (w:WL)=>strings_IndexByte ⟨#[10]⟩ (b1.toNat:Int) w;rw[show Lib.indexByte [10] (b1.toNat:Int).toNat.toUInt8 = -1 by
  unfold Lib.indexByte Lib.indexByte;rw[if_neg (by
   simp;intro e;rw[← e] at hb;exact absurd hb (by decide))]
  rfl] at HI
 have hx:((((⟨#[32,9,10]⟩:BA)[1]'(by decide)).toNat:Int)!=(((⟨#[b0,b1]⟩:BA)[1]'(by show 1<2;decide)).toNat:Int))=true:=by
  show ((9:Int)!=(b1.toNat:Int))=true;simp;omega
 clear he hb h2;go_enter func232,ntmps232;go_wp2_with fail;refine (HV.out ()).mono ?_;rintro e w' ⟨rfl,rfl⟩;clear h1 g1 g2 g3 HV;go_wp2_with fail
 go_step3
 go_wp2_with fail
 go_loop [9,10] (fun i f=>i=iA 1∧f=iA 0) (fun _ _=>0)
 case atStart=>exact⟨rfl,rfl⟩
 case round=>
  obtain⟨rfl,rfl⟩:=hrel;go_wp2_with fail
  go_step3
  go_wp2_with fail;refine aY hm (by kernel_rfl) ?_
  repeat still_step
  refine wpStill_nil ?_;go_wp2_with fail;refine aI (fun _=>True) hm ?_;have HB:Hid (Below w'.heap.size w' w'.drew.drew):=((Below.refl _ w').drew).drew;generalize w'.drew.drew=WD at HB ⊢;refine aK (fun _ _ _ _ _ h=>h) trivial [0,1,2,3,4,5,6] (by kernel_rfl) ?_
  iterate 7
   refine Yls.cons (v:=?_) rfl (.inl ⟨rfl,fun w1 hS1=>?_⟩) ?_;rotate_left
   ·go_simp
    first | rfl | (refine (if_neg (by omega)).trans ?_;rfl)
   simp only[Act.put,Zp,Zq]
  refine Yls.nil ?_;refine rd1 (r:=7) (by kernel_rfl) rfl fun K hK=>?_;go_simp;refine (HI.out _).mono ?_;rintro e W4 ⟨rfl,rfl⟩;refine hK _ _ trivial ?_;clear hK K;intro _
  try simp only[Act.put,Zp,Zq]
  refine rd1 (r:=8) (by kernel_rfl) rfl fun K hK=>?_;go_simp;refine hK _ _ trivial ?_;clear hK K;intro _
  try simp only[Act.put,Zp,Zq]
  refine wpAnyH_done (by kernel_rfl) ?_ _;go_wp2_with fail;rw[Exit.noGoto_ret];dsimp +zetaDelta only [Exit.inBlock,Exit.then];rw[Exit.noGoto_ret]
  try dsimp +zetaDelta only [Exit.inBlock,Exit.then]
  go_ret;exact⟨rfl,HB.out⟩
theorem aPg (r:Int)(h1:2048≤r)(h2:r<65536)(h3:r≠65533)(hv:Lib.validRune r=true)(w:WL) :
  Calls prog 232 #[.string ⟨#[32,9,10]⟩,.int .i32 r] w fun e w'=>e=.returned (iA (-1))∧Below w.heap.size w w':=by
 have hm:=hmX
 have HV:Hid _:=fun (_:Unit)=>utf8_ValidRune r w;rw[hv] at HV;have hv':Utf8.valid r=true:=by unfold Utf8.valid;unfold Lib.validRune at hv;simp at hv ⊢;omega
 have g1:(0:Int)≤r:=by omega
 have g2:¬ (r<128):=by omega
 have g3:(r==65533)=false:=by simp;omega
 obtain⟨b0,b1,b2,he,hb⟩:=bBv r h1 h2 hv';have hcv:∀ w,(convert 21 9 (.int .i32 r)).run prog w=.ok (.string ⟨#[b0,b1,b2]⟩) w:=fun w=>by
  rw[← he];rfl
 have HI:Hid _:=fun (w:WL)=>strings_IndexByte ⟨#[]⟩ (b2.toNat:Int) w;rw[show Lib.indexByte (⟨#[]⟩:BA).data.toList (b2.toNat:Int).toNat.toUInt8 = -1 from rfl] at HI;have hx:((((⟨#[32,9,10]⟩:BA)[2]'(by decide)).toNat:Int)!=(((⟨#[b0,b1,b2]⟩:BA)[2]'(by show 2<3;decide)).toNat:Int))=true:=by
  show ((10:Int)!=(b2.toNat:Int))=true;simp;omega
 clear he hb h2 h3 hv hv';go_enter func232,ntmps232;go_wp2_with fail;refine (HV.out ()).mono ?_;rintro e w' ⟨rfl,rfl⟩;clear h1 g1 g2 g3 HV;go_wp2_with fail
 go_step3
 go_wp2_with fail
 go_loop [9,10] (fun i f=>i=iA 2∧f=iA 0) (fun _ _=>0)
 case atStart=>exact⟨rfl,rfl⟩
 case round=>
  obtain⟨rfl,rfl⟩:=hrel;go_wp2_with fail
  go_step3
  go_wp2_with fail;refine aY hm (by kernel_rfl) ?_
  repeat still_step
  refine wpStill_nil ?_;go_wp2_with fail;refine aI (fun _=>True) hm ?_;have HB:Hid (Below w'.heap.size w' w'.drew.drew):=((Below.refl _ w').drew).drew;generalize w'.drew.drew=WD at HB ⊢;refine aK (fun _ _ _ _ _ h=>h) trivial [0,1,2,3,4,5,6] (by kernel_rfl) ?_
  iterate 7
   refine Yls.cons (v:=?_) rfl (.inl ⟨rfl,fun w1 hS1=>?_⟩) ?_;rotate_left
   ·go_simp
    first | rfl | (refine (if_neg (by omega)).trans ?_;rfl)
   simp only[Act.put,Zp,Zq]
  refine Yls.nil ?_;refine rd1 (r:=7) (by kernel_rfl) rfl fun K hK=>?_;go_simp;refine (HI.out _).mono ?_;rintro e W4 ⟨rfl,rfl⟩;refine hK _ _ trivial ?_;clear hK K;intro _
  try simp only[Act.put,Zp,Zq]
  refine rd1 (r:=8) (by kernel_rfl) rfl fun K hK=>?_;go_simp;refine hK _ _ trivial ?_;clear hK K;intro _
  try simp only[Act.put,Zp,Zq]
  refine wpAnyH_done (by kernel_rfl) ?_ _;go_wp2_with fail;rw[Exit.noGoto_ret];dsimp +zetaDelta only [Exit.inBlock,Exit.then];rw[Exit.noGoto_ret]
  try dsimp +zetaDelta only [Exit.inBlock,Exit.then]
  go_ret;exact⟨rfl,HB.out⟩
abbrev jU:BA:=⟨#[32,9,10]⟩
theorem aHp (w:WL)(ty:TypeId):(Instr.next (.pointer (some (Ad w.heap.size 0))) true ty).run prog (w.iter jU 0)=.ok (.tuple #[.bool true,iA 0,.int .i32 32]) (w.iter jU 1) ∧
  (Instr.next (.pointer (some (Ad w.heap.size 0))) true ty).run prog (w.iter jU 1)=.ok (.tuple #[.bool true,iA 1,.int .i32 9]) (w.iter jU 2) ∧
  (Instr.next (.pointer (some (Ad w.heap.size 0))) true ty).run prog (w.iter jU 2)=.ok (.tuple #[.bool true,iA 2,.int .i32 10]) (w.iter jU 3) ∧
  (Instr.next (.pointer (some (Ad w.heap.size 0))) true ty).run prog (w.iter jU 3)=.ok (.tuple #[.bool false]) (w.iter jU 3):=by
 refine⟨?_,?_,?_,?_⟩
 ·exact run_next_any w jU 0 ty (by decide)
 ·exact run_next_any w jU 1 ty (by decide)
 ·exact run_next_any w jU 2 ty (by decide)
 exact run_next_end w jU 3 ty (by decide)
theorem aXe (w:WL) :
  Calls prog 232 #[.string ⟨#[32,9,10]⟩,.int .i32 65533] w fun e w'=>e=.returned (iA (-1))∧Below w.heap.size w w':=by
 obtain⟨n0,n1,n2,n3⟩:(∀ ty,_)∧(∀ ty,_)∧(∀ ty,_)∧(∀ ty,_):=⟨fun ty=>(aHp w ty).1,fun ty=>(aHp w ty).2.1,fun ty=>(aHp w ty).2.2.1,fun ty=>(aHp w ty).2.2.2⟩;go_enter func232,ntmps232;go_wp2_with fail
 go_loopw [5,6] (fun _ _ wr=>Hid (∃ pos,pos≤3∧wr=w.iter jU pos)) (fun _ _ wr=>3-wr.iterPos w.heap.size)
 case atStart=>exact⟨0,by decide,rfl⟩
 case round=>
  obtain⟨pos,hp,rfl⟩:=hrel.out;clear hrel;rcases (by omega:pos=0∨pos=1∨pos=2∨pos=3) with rfl | rfl | rfl | rfl
  ·obtain⟨V,hV⟩:=eXi (w.iter jU 1);have HR:Hid (∃ pos,pos≤3∧V=w.iter jU pos):=⟨1,by decide,hV.symm⟩;have HM:Hid (3-V.iterPos w.heap.size<3-(w.iter jU 0).iterPos w.heap.size):=by
    show _<_;rw[← hV,World.iterPos_iter,World.iterPos_iter];decide
   rw[hV] at n0;clear hV;clear n1 n2 n3;go_wp2_with fail;exact⟨HR,HM.out⟩
  ·obtain⟨V,hV⟩:=eXi (w.iter jU 2);have HR:Hid (∃ pos,pos≤3∧V=w.iter jU pos):=⟨2,by decide,hV.symm⟩;have HM:Hid (3-V.iterPos w.heap.size<3-(w.iter jU 1).iterPos w.heap.size):=by
    show _<_;rw[← hV,World.iterPos_iter,World.iterPos_iter];decide
   rw[hV] at n1;clear hV;clear n0 n2 n3;go_wp2_with fail;exact⟨HR,HM.out⟩
  ·obtain⟨V,hV⟩:=eXi (w.iter jU 3);have HR:Hid (∃ pos,pos≤3∧V=w.iter jU pos):=⟨3,by decide,hV.symm⟩;have HM:Hid (3-V.iterPos w.heap.size<3-(w.iter jU 2).iterPos w.heap.size):=by
    show _<_;rw[← hV,World.iterPos_iter,World.iterPos_iter];decide
   rw[hV] at n2;clear hV;clear n0 n1 n3;go_wp2_with fail;exact⟨HR,HM.out⟩
  have HB:Hid (Below w.heap.size w (w.iter jU 3)):=(Below.refl _ w).alloc (Nat.le_refl _) _;clear n0 n1 n2;generalize w.iter jU 3=V at n3 HB ⊢;go_wp2_with fail;go_ret;exact⟨rfl,HB.out⟩
def gH (x:Nat):Bool:=decide (x=32∨x=9∨x=10)
theorem aTv (x:Nat)(h0:128≤x)(h1:x≤1114111)(w:WL) :
  Calls prog 232 #[.string ⟨#[32,9,10]⟩,.int .i32 (x:Int)] w fun e w'=>e=.returned (iA (-1))∧Below w.heap.size w w':=by
 rcases Decidable.em (x=65533) with rfl | hx
 ·exact aXe w
 cases hv:Lib.validRune (x:Int) with
 | false=>exact (aXf x (by omega) (by omega) hv w).mono fun e w' ⟨h,hw⟩=>⟨h,by rw[hw];exact Below.refl _ _⟩
 | true=>
  rcases Nat.lt_or_ge x 2048 with c | c
  ·exact aXd x (by omega) (by omega) w
  rcases Nat.lt_or_ge x 65536 with c' | c'
  ·exact aPg x (by omega) (by omega) (by omega) hv w
  exact (aTw x (by omega) hv w).mono fun e w' ⟨h,hw⟩=>⟨h,by rw[hw];exact Below.refl _ _⟩
theorem j6 (x:Nat)(h0:128≤x)(h1:x≤1114111)(w:WL) :
  Calls prog 218 #[.string ⟨#[32,9,10]⟩,.int .i32 (x:Int)] w fun e w'=>e=.returned (.bool false)∧Below w.heap.size w w':=by
 have HI:Hid _:=fun (_:Unit)=>aTv x h0 h1 w;clear h0 h1;go_enter func218,ntmps218;go_wp2_with fail;refine (HI.out ()).mono ?_;rintro e w' ⟨rfl,hb⟩;have HB:Hid _:=hb;clear hb HI;go_wp2_with fail;go_ret;exact⟨rfl,HB.out⟩
theorem S9 (x:Nat)(h1:x≤1114111)(w:WL) :
  Calls prog 218 #[.string ⟨#[32,9,10]⟩,.int .i32 (x:Int)] w fun e w'=>e=.returned (.bool (gH x))∧Below w.heap.size w w':=by
 rcases Nat.lt_or_ge x 128 with c | c
 ·refine (strings_ContainsRune_ascii ⟨#[32,9,10]⟩ x w (by omega) (by omega)).mono ?_;rintro e w' ⟨rfl,rfl⟩;refine⟨?_,Below.refl _ _⟩;have:∀ x:Fin 128,decide (0≤Lib.indexByte (⟨#[32,9,10]⟩:BA).data.toList ((x.val:Nat):Int).toNat.toUInt8)=gH x.val:=by decide
  rw[this ⟨x,c⟩]
 have e:gH x=false:=by unfold gH;simp;omega
 rw[e];exact j6 x c h1 w
theorem aCe (x:Nat)(h1:x≤1114111)(w:WL) :
  Calls prog 191 #[.int .i32 (x:Int)] w fun e w'=>e=.returned (.bool (gH x))∧Below w.heap.size w w':=by
 have HI:Hid _:=fun (_:Unit)=>S9 x h1 w;generalize gH x=b at HI ⊢;clear h1;go_enter func191,ntmps191;go_wp2_with fail;refine (HI.out ()).mono ?_;rintro e w' ⟨rfl,hb⟩;have HB:Hid _:=hb;clear hb HI;go_wp2_with fail;go_ret;exact⟨rfl,HB.out⟩
theorem aDl (w:WL):PredGrows prog 191 #[] gH w:=fun W x hx _=>aCe x hx W
theorem kP {s:BA}{i:Nat} (h:i<s.size):s.get! i=s[i]:=by
 have:=get_at s i h
 rwa [Nat.add_zero] at this
theorem aCw {s:BA}{i:Nat} (h:i<s.size) (hb:128≤(s.get! i).toNat):i+(Utf8.decode s i).2≤s.size∧∀ k,k<(Utf8.decode s i).2→128≤(s.get! (i+k)).toNat:=by
 have hn:¬ (s.get! (i+0)).toNat<0x80:=by rw[Nat.add_zero];omega
 have h0:∀ k,k<1→128≤(s.get! (i+k)).toNat:=fun k hk=>by
  have:k=0:=by omega
  subst this;rw[Nat.add_zero];exact hb
 unfold Utf8.decode;simp only[if_neg hn];split
 ·rename_i c1
  simp only[Bool.and_eq_true,decide_eq_true_eq,beq_iff_eq] at c1;split
  ·refine⟨by omega,fun k hk=>?_⟩;rcases (by omega:k=0∨k=1) with rfl | rfl
   ·exact h0 0 (by omega)
   omega
  exact⟨by omega,h0⟩
 split
 ·rename_i c1
  simp only[Bool.and_eq_true,decide_eq_true_eq,beq_iff_eq] at c1;split
  ·refine⟨by omega,fun k hk=>?_⟩;rcases (by omega:k=0∨k=1∨k=2) with rfl | rfl | rfl
   ·exact h0 0 (by omega)
   ·omega
   omega
  exact⟨by omega,h0⟩
 split
 ·rename_i c1
  simp only[Bool.and_eq_true,decide_eq_true_eq,beq_iff_eq] at c1;split
  ·refine⟨by omega,fun k hk=>?_⟩;rcases (by omega:k=0∨k=1∨k=2∨k=3) with rfl | rfl | rfl | rfl
   ·exact h0 0 (by omega)
   ·omega
   ·omega
   omega
  exact⟨by omega,h0⟩
 exact⟨by omega,h0⟩
theorem Q9 (u:LB):∀ (f l:LB),(∀ c ∈ u,fG c=false)→cJ f (u++l)=cJ (f++u) l:=by
 induction u with
 | nil=>intro f l _;simp
 | cons a u ih=>
  intro f l hu;have ha:=hu a (by simp);rw[List.cons_append,cJ,if_neg (by rw[ha];simp),ih _ _ (fun c hc=>hu c (by simp[hc]))];simp
def seg (s:BA) (a b:Nat):LB:=((bl s).drop a).take (b-a)
theorem uI (s:BA)(a b:Nat):s.extract a b=⟨(seg s a b).toArray⟩:=by
 apply ByteArray.ext;rw[ByteArray.data_extract];apply Array.toList_inj.1;rw[Array.toList_extract];show _=seg s a b;unfold seg bl;rw[List.extract_eq_take_drop]
theorem aMz (s:BA){a b c:Nat}(h1:a≤b)(h2:b≤c):seg s a b++seg s b c=seg s a c:=by
 unfold seg;rw[show c-a=(b-a)+(c-b) by omega,List.take_add,List.drop_drop,show a+(b-a)=b by omega]
theorem Z7 (s:BA){b c:Nat}(h:b≤c):(bl s).drop b=seg s b c++(bl s).drop c:=by
 unfold seg;rw[show (bl s).drop c=((bl s).drop b).drop (c-b) by rw[List.drop_drop,show b+(c-b)=c by omega],List.take_append_drop]
theorem aEh (s:BA){a b:Nat}(h1:a<b)(h2:b≤s.size):seg s a b≠[]:=by
 intro h;have:=congrArg List.length h;unfold seg at this;rw[List.length_take,List.length_drop,aO] at this;simp at this;omega
theorem J7 (s:BA){a b:Nat}{c:UInt8} (hb:b≤s.size) (h:c ∈ seg s a b):∃ k,k<b-a∧c=s.get! (a+k):=by
 obtain⟨k,hk,e⟩:=List.mem_iff_getElem.1 h;have hl:k<b-a∧a+k<s.size:=by
  unfold seg at hk;rw[List.length_take,List.length_drop,aO] at hk;omega
 refine⟨k,hl.1,?_⟩;rw[kP hl.2,← e];simp[seg,bl];rfl
theorem aSf (s:BA){a:Nat}(h:a<s.size):seg s a (a+1)=[s.get! a]:=by
 have hne:=aEh s (Nat.lt_succ_self a) h;have hl:(seg s a (a+1)).length≤1:=by
  unfold seg;rw[List.length_take];omega
 rcases hq:seg s a (a+1) with _ | ⟨c,_ | ⟨d,q⟩⟩
 ·exact absurd hq hne
 ·obtain⟨k,hk,e⟩:=J7 s (a:=a) (b:=a+1) (c:=c) h (by rw[hq];simp);have:k=0:=by omega
  rw[e,this,Nat.add_zero]
 rw[hq] at hl;simp at hl
theorem yZ (c:UInt8):gH c.toNat=fG c:=by
 unfold gH fG;have e:=fun (d:UInt8)=>UInt8.toNat_inj (a:=c) (b:=d);rw[Bool.eq_iff_iff];simp only[decide_eq_true_eq,Bool.or_eq_true,beq_iff_eq];rw[← e 32,← e 9,← e 10];constructor
 ·rintro (h | h | h)
  ·exact .inl (.inl h)
  ·exact .inl (.inr h)
  exact .inr h
 rintro ((h | h) | h)
 ·exact .inl h
 ·exact .inr (.inl h)
 exact .inr (.inr h)
abbrev opn (s:BA) (st:Option Nat) (pos:Nat):LB:=match st with | none=>[] | some a=>seg s a pos
theorem D3 (s:BA)(st:Option Nat)(acc:List (Nat × Nat))(hst:∀ a,st=some a→a<s.size) :
  (Lib.closeSpans s (acc,st)).map (fun x=>s.extract x.1 x.2)=acc.map (fun x=>s.extract x.1 x.2)++cJ (opn s st s.size) []:=by
 cases st with
 | none=>simp[Lib.closeSpans,cJ,opn]
 | some a=>
  have:=aEh s (hst a rfl) (Nat.le_refl _);simp[Lib.closeSpans,cJ,opn,this,uI]
theorem aMq (s:BA):∀ (f pos:Nat) (st:Option Nat) (acc:List (Nat × Nat)),s.size-pos≤f→pos≤s.size→(∀ a,st=some a→a<pos) →
  (Lib.closeSpans s (Lib.spansFromP gH s f pos st acc)).map (fun x=>s.extract x.1 x.2)=acc.map (fun x=>s.extract x.1 x.2)++cJ (opn s st pos) ((bl s).drop pos):=by
 intro f;induction f with
 | zero=>
  intro pos st acc h1 h2 h3;have:pos=s.size:=by omega
  subst this;rw[List.drop_eq_nil_of_le (by rw[aO];exact Nat.le_refl _)];exact D3 s st acc h3
 | succ f ih=>
  intro pos st acc h1 h2 h3;rcases Nat.lt_or_ge pos s.size with c | c
  ·unfold Lib.spansFromP;rw[if_pos c];rcases hb:gH (Utf8.decode s pos).1 with _ | _
   ·
    obtain⟨hn1,hn2,hn3⟩:1≤(Utf8.decode s pos).2∧pos+(Utf8.decode s pos).2≤s.size∧∀ c ∈ seg s pos (pos+(Utf8.decode s pos).2),fG c=false:=by
     rcases Nat.lt_or_ge (s.get! pos).toNat 128 with d | d
     ·have e:=decode_ascii s pos c (by rw[← kP c];exact d);rw[e] at hb ⊢;refine⟨Nat.le_refl _,c,fun x hx=>?_⟩;obtain⟨k,hk,ex⟩:=J7 s (b:=pos+1) c hx;have:k=0:=by omega
      rw[this,Nat.add_zero,kP c] at ex;rw[ex,← yZ];exact hb
     obtain⟨e1,e2⟩:=aCw c d;refine⟨(decode_high s pos c (by rw[← kP c];exact d)).2,e1,fun x hx=>?_⟩;obtain⟨k,hk,ex⟩:=J7 s e1 hx;have:=e2 k (by omega);rw[← yZ,ex];unfold gH;simp;omega
    generalize (Utf8.decode s pos).2=n at hn1 hn2 hn3 ⊢;rw[Z7 s (show pos≤pos+n by omega),Q9 _ _ _ hn3];cases st with
    | none=>
     simp only[Bool.false_eq_true,if_false];rw[ih (pos+n) (some pos) acc (by omega) hn2 (by intro a ha;cases ha;omega)];rfl
    | some a=>
     simp only[Bool.false_eq_true,if_false];rw[ih (pos+n) (some a) acc (by omega) hn2 (by intro b hb;cases hb;have:=h3 a rfl;omega)];show _++cJ (seg s a (pos+n)) _=_++cJ (seg s a pos++seg s pos (pos+n)) _;rw[aMz s (Nat.le_of_lt (h3 a rfl)) (by omega)]
   ·
    have d:(s.get! pos).toNat<128:=by
     apply Nat.lt_of_not_le;intro d;have:=(decode_high s pos c (by rw[← kP c];exact d)).1;unfold gH at hb;simp at hb;omega
    have e:=decode_ascii s pos c (by rw[← kP c];exact d);rw[e] at hb ⊢;simp only at hb ⊢;rw[← kP c,yZ] at hb;rw[Z7 s (show pos≤pos+1 by omega),aSf s c];cases st with
    | none=>
     simp only[if_true];rw[ih (pos+1) none acc (by omega) c (by intro a ha;cases ha)];simp only[opn,List.cons_append,List.nil_append,cJ,hb,if_true]
    | some a=>
     simp only[if_true];rw[ih (pos+1) none (acc++[(a,pos)]) (by omega) c (by intro a ha;cases ha)];have hne:=aEh s (h3 a rfl) h2;simp only[opn,List.cons_append,List.nil_append,cJ,hb,if_true,if_neg hne];rw[List.map_append,List.append_assoc];congr 1;simp[uI]
  have:pos=s.size:=by omega
  subst this;rw[Lib.spansFromP_end _ _ _ _ _ _ (by omega),List.drop_eq_nil_of_le (by rw[aO];exact Nat.le_refl _)];exact D3 s st acc h3
theorem aFp (s:BA):Lib.goFieldsP gH s=cutF s:=by
 unfold Lib.goFieldsP Lib.spansOfP;rw[aMq s s.size 0 none [] (by omega) (Nat.zero_le _) (by intro a ha;cases ha)];simp[opn,cutF]
theorem aFq (s:BA)(hs:s.size≤4294967296)(W:WL) :
  Calls prog 168 #[.string s] W fun e W'=>∃ v',e=.returned v'∧Fr [] W W'∧W'.ownsRow W.heap.size 9 1 v' (cutF s).length ((cutF s).map .string):=by
 have HF:Hid _:=fun (_:Unit)=>strings_FieldsFunc_grows 191 #[] (by intro args w;rfl) gH s W hs (aDl W);rw[aFp] at HF;generalize (cutF s).length=n at HF ⊢;generalize (cutF s).map Value.string=xs at HF ⊢;clear hs;go_enter func168,ntmps168;go_wp2_with fail;refine (HF.out ()).mono ?_;rintro e W1 ⟨A,rfl,-,ow,hB⟩;have HO:Hid _:=AI ow hB;clear ow hB HF;go_wp2_with fail;go_ret;exact⟨_,rfl,Fr.of_below HO.out.2,HO.out.1⟩
theorem aIa (s:BA)(vo:OA)(n c:Nat)(w:WL):(Instr.build 76 #[(0,.string s),(1,.slice vo n c)]).run prog w=.ok (.agg #[.string s,.slice vo n c]) w:=by
 kernel_rfl
theorem nR {w:WL}{b:Nat}{x y:Value}{t:TypeId} (h:w.heap[b]?=some (.cells #[x,y] t)):(w.cell? (Ad b 0)=some x∧w.cell? (Ad b 1)=some y)∧w.frozen? (Ad b 0)=false∧w.frozen? (Ad b 1)=false:=by
 refine⟨⟨?_,?_⟩,?_,?_⟩ <;> first | (unfold World.cell?;rw[h];rfl) | (unfold World.frozen?;rw[h];simp)
theorem set2 {w:WL}{b:Nat}{x y x' y':Value} (h:w.cell? (Ad b 0)=some x∧w.cell? (Ad b 1)=some y):∃ w',(w.setCell ⟨b,0,none⟩ x').setCell ⟨b,1,none⟩ y'=w'∧w'.cell? (Ad b 0)=some x'∧w'.cell? (Ad b 1)=some y'∧Fr [b] w w':=by
 obtain⟨h0,h1⟩:=h;refine⟨_,rfl,?_,?_,((Fr.refl [b] w).setCell (.inl (by simp)) _).setCell (.inl (by simp)) _⟩
 ·rw[aA (by decide)];exact cW h0
 exact cW (by rw[aA (by decide)];exact h1)
theorem yD (s:BA)(hs:s.size≤4294967296)(W:WL) :
  Calls prog 139 #[.string s] W fun e W'=>∃ v',e=.returned (.agg #[.string s,v'])∧Fr [] W W'∧W'.ownsRow W.heap.size 9 1 v' (cutF s).length ((cutF s).map .string):=by
 have HF:Hid _:=fun (W1:WL)=>aFq s hs W1;generalize (cutF s).length=n at HF ⊢;generalize (cutF s).map Value.string=xs at HF ⊢;obtain⟨W1,hW1⟩:=eXi (W.alloc (.cells #[.string ⟨#[]⟩,.slice none 0 0] 76));have F1:=frA hW1
 have k1:=kA hW1;have l1:=(Age.1 k1).1;have HF1:Hid _:=AI F1 (AI k1 l1);clear hs F1 k1 l1;go_enter func139,ntmps139;go_wp2_with fail;refine (HF.out W1).mono ?_;rintro e W2 ⟨v',rfl,F2,ow⟩;obtain⟨vo,vc,rfl⟩:=bF ow;obtain⟨F1,k1,l1⟩:=HF1.out;obtain⟨hy,z0,z1⟩:=nR ((F2.block _ l1 (by simp)).trans k1);obtain⟨W7,hW7,r0,r1,F7⟩:=set2 (x':=.string s) (y':=.slice vo n vc) hy;obtain⟨y0,y1⟩:=hy;have hbd:=aIa s vo n vc;have ow7:W7.ownsRow W.heap.size 9 1 (.slice vo n vc) n xs:=by
  have ow':W2.ownsRow W.heap.size 9 1 (.slice vo n vc) n xs:=by
   refine⟨ow.1,ow.2.imp id ?_⟩;rintro ⟨g,cap,cur,e1,e2,e3⟩;exact⟨g,cap,cur,e1,Nat.le_trans F1.size e2,e3⟩
  exact bP ow' fun g hg=>F7.block g (ow.lt g hg).2 (by
   simp;rintro rfl;have:=(ow.lt _ hg).1;omega)
 have HO:Hid _:=AI ((F1.trans F2).trans' F7 (by simp)) ow7;clear ow ow7 F7 F2 F1 k1 l1 HF1 HF;go_wp2_with fail;refine bodyPost_ret (v:=.agg #[.string s,.slice vo n vc]) (by simp[results,results139,go_sem,r0,r1]) rfl ?_;exact⟨_,rfl,HO.out.1,HO.out.2⟩
section
variable {E:Env}{X:Nat}{g:Pl}{s:Ms}{W W':WL}{tag:NN}
def xZ (s:Ms) (t:BA) (fl:LY):Ms:={ s with w:={ s.w with rcd:=t,flds:=fl } }
def aSs (s:Ms):Ms:={ s with w:={ s.w with nr:=s.w.nr+1 } }
theorem MM.setRec (h:MM E X g s W tag){W2:WL}(F:Fr [] W W2){v':Value}{fl:LY} (ow:W2.ownsRow W.heap.size 9 1 v' fl.length (fl.map .string)) (t:BA) :
  (W2.frozen? (Ad X 6)=false∧W2.frozen? (Ad X 7)=false)∧(∃ u,W2.cell? (Ad X 6)=some u)∧(∃ u,W2.cell? (Ad X 7)=some u) ∧
  ∃ t',MM E X g (xZ s t fl) ((W2.setCell ⟨X,6,none⟩ (.string t)).setCell ⟨X,7,none⟩ v') t'∧Kp tag t' W ((W2.setCell ⟨X,6,none⟩ (.string t)).setCell ⟨X,7,none⟩ v'):=by
 obtain⟨h6,lv,R,mp,x,hx,h⟩:=h;have S2:=h.S.frm F 9;have K2:Kp tag (aR tag W.heap.size 9) W W2:=Kp.new F 9;have o:=(S2.rows 10 h.lX).1;rw[h.rX] at o;have hro:RoL W2 (aR tag W.heap.size 9) v' (fl.map .string):=RoL.of_own ow fun q hq _=>dK hq;obtain⟨S3,K3⟩:=S2.put h.lX h.rX (j:=6) (by omega) (.string t);obtain⟨S4,K4⟩:=S3.put h.lX (aG _ _ _) (j:=7) (by omega) v';have K:=K2.trans (K3.trans K4);refine⟨⟨bB o _,bB o _⟩,⟨.string s.w.rcd,aF o rfl⟩,⟨x.flv,aF o rfl⟩,_,⟨Nat.le_trans h6 K.size,lv,_,mp,onL x x.rv x.dv v',hx,h.rex h6 (s':=xZ s t fl) K S4 rfl rfl rfl rfl ?_ ?_ (h.rcs.kp K) (h.drw.kp K) (hro.kp (K3.trans K4))⟩,K⟩
 ·rw[aG];rfl
 intro i hi;rw[aE _ _ hi,aE _ _ hi]
theorem MM.noRec (h:MM E X g s W tag)(hd:s.w.recs[s.w.nr]?=none):∃ o c,W.cell? (Ad X 3)=some (.slice o 0 c):=by
 obtain⟨h6,lv,R,mp,x,hx,h⟩:=h;obtain⟨o,c,e1,-⟩:=h.rcs;have:s.w.recs.drop s.w.nr=[]:=List.drop_eq_nil_of_le (List.getElem?_eq_none_iff.1 hd);rw[this] at e1;exact⟨o,c,h.xc (by rw[show (Value.slice o 0 c)=x.rv from e1.symm];rfl)⟩
theorem MM.setNr (h:MM E X g s W tag){t:BA}(hd:s.w.recs[s.w.nr]?=some t):∃ gt off m c,W.cell? (Ad X 3)=some (.slice (some (Ad gt off)) (m+1) c)∧m+1≤c∧c≤9223372036854775807∧W.cell? (Ad gt off)=some (.string t)∧W.frozen? (Ad X 3)=false ∧
  ∀ o',(c≠1→o'=some (Ad gt (off+1)))→(W.setCell ⟨X,3,none⟩ (.slice o' m (c-1))).cell? (Ad X 5)=some (iA (s.w.nr:Nat))∧(W.setCell ⟨X,3,none⟩ (.slice o' m (c-1))).frozen? (Ad X 5)=false ∧
   MM E X g (aSs s) ((W.setCell ⟨X,3,none⟩ (.slice o' m (c-1))).setCell ⟨X,5,none⟩ (.int .i64 ((s.w.nr+1:Nat):Int))) tag∧Kp tag tag W ((W.setCell ⟨X,3,none⟩ (.slice o' m (c-1))).setCell ⟨X,5,none⟩ (.int .i64 ((s.w.nr+1:Nat):Int))):=by
 obtain⟨h6,lv,R,mp,x,hx,h⟩:=h;obtain⟨o,c,e1,e2,e2',e3⟩:=h.rcs;have hl:=(Lgs.1 hd).1;have hc:s.w.recs.drop s.w.nr=t :: s.w.recs.drop (s.w.nr+1):=by
  rw[List.drop_eq_getElem_cons hl,(Lgs.1 hd).2]
 rw[hc] at e1 e2 e3;simp only[List.map_cons,List.length_cons] at e1 e2 e3;obtain⟨gt,off,e4,e5,e6,e7⟩:=e3 (by omega);have ow:=(h.S.rows 10 h.lX).1;rw[h.rX] at ow;refine⟨gt,off,((s.w.recs.drop (s.w.nr+1)).map Value.string).length,c,h.xc (by rw[← e4,← e1];rfl),e2,e2',by have:=e7 0 _ rfl;exact this,bB ow _,fun o' ho=>?_⟩;obtain⟨S1,k1⟩:=h.S.put h.lX h.rX (j:=3) (by omega) (.slice o' ((s.w.recs.drop (s.w.nr+1)).map Value.string).length (c-1));have ow1:=(S1.rows 10 h.lX).1;rw[aG] at ow1;simp only at ow1;obtain⟨S2,k2⟩:=S1.put h.lX (aG _ _ _) (j:=5) (by omega) (iA ((s.w.nr+1:Nat):Int));have k:=k1.trans k2;refine⟨aF ow1 rfl,bB ow1 _,⟨Nat.le_trans h6 k.size,lv,_,mp,onL x (.slice o' ((s.w.recs.drop (s.w.nr+1)).map Value.string).length (c-1)) x.dv x.flv,hx,h.rex h6 (s':=aSs s) k S2 rfl rfl rfl rfl ?_ ?_ ?_ (h.drw.kp k) (h.fld.kp k)⟩,k⟩
 ·rw[aG];rfl
 ·intro i hi;rw[aE _ _ hi,aE _ _ hi]
 refine⟨o',c-1,rfl,?_,by omega,fun h0=>?_⟩
 ·show ((s.w.recs.drop (s.w.nr+1)).map Value.string).length≤_;omega
 have h0':0<((s.w.recs.drop (s.w.nr+1)).map Value.string).length:=h0;refine⟨gt,off+1,ho (by omega),Nll e5 k.size,(k.ret gt e5).trans e6,fun i v hv=>?_⟩;have:=e7 (i+1) v hv;rw[show off+(i+1)=off+1+i by omega] at this;exact (k.cell (p:=Ad gt (off+1+i)) e5 (by show tag gt<10;omega)).trans this
theorem MM.read0 (h:MM E X g s W tag)(hd:s.w.recs[s.w.nr]?=none):Calls prog 75 #[ptr X] W (MP E X g s tag W (.bool false)):=by
 obtain⟨o,c,x3⟩:=h.noRec hd;have HM1:Hid _:=h;clear h;go_enter func75,ntmps75;go_wp2_with fail;go_ret;exact⟨rfl,tag,HM1.out,Kp.refl _ _⟩
theorem MM.read1 (h:MM E X g s W tag){t:BA}(hd:s.w.recs[s.w.nr]?=some t)(ht:t.size≤4294967296)(hn:s.w.recs.length≤1000000):Calls prog 75 #[ptr X] W (MP E X g (aSs (xZ s t (cutF t))) tag W (.bool true)):=by
 have hnr:=(Lgs.1 hd).1;obtain⟨gt,off,m,c,x3,hc,hc',y0,z3,-⟩:=h.setNr hd;have e0:(((m+1:Nat):Int)==0)=false:=by simp;omega
 have hw64:IntKind.i64.wrap ((m+1:Nat):Int)=((m+1:Nat):Int):=by rw[IntKind.wrap_i64];omega
 have HR:Hid _:=fun (_:Unit)=>yD t ht W;have HS:Hid _:=fun (W2:WL) (F:Fr [] W W2) (v':Value) (ow:W2.ownsRow W.heap.size 9 1 v' (cutF t).length ((cutF t).map .string))=>h.setRec F ow t;have HN:Hid _:=fun (W3:WL) (t3:NN) (h3:MM E X g (xZ s t (cutF t)) W3 t3)=>h3.setNr (t:=t) hd;have hwn:IntKind.i64.wrap ((s.w.nr:Int)+1)=((s.w.nr+1:Nat):Int):=by rw[IntKind.wrap_i64];omega
 generalize aSs (xZ s t (cutF t))=s2 at HN ⊢;clear h hd ht hn hnr z3;go_enter func75,ntmps75;go_wp2_with fail;refine (HR.out ()).mono ?_;rintro e W2 ⟨v',rfl,F2,ow⟩;obtain⟨⟨z6,z7⟩,⟨u6,x6⟩,⟨u7,x7⟩,t3,h3,k3⟩:=HS.out W2 F2 v' ow;obtain⟨vo,vc,rfl⟩:=bF ow;have x7':(W2.setCell ⟨X,6,none⟩ (.string t)).cell? (Ad X 7)=some u7:=by rw[aA (by decide)];exact x7
 obtain⟨gt',off',m',c',x3',hc1,hc2,y0',z3',HF⟩:=HN.out _ t3 h3;have HK:Hid _:=k3;have e0':(((m'+1:Nat):Int)==0)=false:=by simp;omega
 have hw64':IntKind.i64.wrap ((m'+1:Nat):Int)=((m'+1:Nat):Int):=by rw[IntKind.wrap_i64];omega
 clear ow F2 HR HS HN h3 k3;obtain⟨V3,hV3⟩:=eXi ((W2.setCell ⟨X,6,none⟩ (.string t)).setCell ⟨X,7,none⟩ (.slice vo (cutF t).length vc));rw[hV3] at x3' y0' z3' HF HK;replace HF:∀ (o':OA),(c'≠1→o'=some (Ad gt' (off'+1)))→(V3.setCell ⟨X,3,none⟩ (.slice o' m' (c' - 1))).cell? (Ad X 5)=some (iA (s.w.nr:Nat))∧(V3.setCell ⟨X,3,none⟩ (.slice o' m' (c' - 1))).frozen? (Ad X 5)=false ∧
   MM E X g s2 ((V3.setCell ⟨X,3,none⟩ (.slice o' m' (c' - 1))).setCell ⟨X,5,none⟩ (.int .i64 ((s.w.nr+1:Nat):Int))) t3∧Kp t3 t3 V3 ((V3.setCell ⟨X,3,none⟩ (.slice o' m' (c' - 1))).setCell ⟨X,5,none⟩ (.int .i64 ((s.w.nr+1:Nat):Int))):=HF
 generalize s.w.nr=nr at HF hwn;have ec:((nr+1:Nat):Int)=(nr:Int)+1:=by omega
 rw[ec] at HF hwn;clear ec;generalize (cutF t).length=n at hV3;rcases Decidable.em (c'=1) with hc1' | hc1'
 ·subst hc1';have hm0:m'=0:=by omega
  subst hm0;obtain⟨q1,q2,q3,q4⟩:=HF (some (Ad gt' off')) (fun h=>absurd rfl h);obtain⟨V4,hV4⟩:=eXi (V3.setCell ⟨X,3,none⟩ (.slice (some ⟨gt',off',none⟩) 0 (1-1)));rw[hV4] at q1 q2 q3 q4;obtain⟨V5,hV5⟩:=eXi (V4.setCell ⟨X,5,none⟩ (.int .i64 ((nr:Int)+1)));rw[hV5] at q3 q4;have HM5:Hid _:=AI q3 (HK.out.trans q4);clear q3 q4 HF;go_wp2_with fail;go_ret;exact⟨rfl,t3,HM5.out.1,HM5.out.2⟩
 obtain⟨q1,q2,q3,q4⟩:=HF _ (fun _=>rfl);obtain⟨V4,hV4⟩:=eXi (V3.setCell ⟨X,3,none⟩ (.slice (some ⟨gt',off'+1,none⟩) m' (c' - 1)));rw[hV4] at q1 q2 q3 q4;obtain⟨V5,hV5⟩:=eXi (V4.setCell ⟨X,5,none⟩ (.int .i64 ((nr:Int)+1)));rw[hV5] at q3 q4;have HM5:Hid _:=AI q3 (HK.out.trans q4);clear q3 q4 HF;go_wp2_with fail;go_ret;exact⟨rfl,t3,HM5.out.1,HM5.out.2⟩
end
section
variable {E:Env}{X:Nat}{g:Pl}{s:Ms}{W W':WL}{tag:NN}
def jA (s:Ms):Ms:={ s with w:=(nextR s.w).1 }
theorem MM.readR (h:MM E X g s W tag)(ht:∀ t,s.w.recs[s.w.nr]?=some t→t.size≤4294967296)(hn:s.w.recs.length≤1000000):Calls prog 75 #[ptr X] W (MP E X g (jA s) tag W (.bool (nextR s.w).2)):=by
 unfold jA Mach.nextR;cases hd:s.w.recs[s.w.nr]? with
 | none=>exact h.read0 hd
 | some t=>exact h.read1 hd (ht t hd) hn
theorem MM.igetline (h:MM E X g s W tag)(hl:s.fr.stk.length<1024)(ht:∀ t,s.w.recs[s.w.nr]?=some t→t.size≤4294967296)(hn:s.w.recs.length≤1000000)(pl a b q:Int) :
  Calls prog 72 #[ptr X,fp g s,inV 42 pl a b q] W (MP E X g (aC (jA s) (s.fr.stk++[cv (whole (eZ (nextR s.w).2))])) tag W (stI 0)):=by
 obtain⟨W1,hW1,F1,⟨b0,b1,b2,b3,b4⟩,l1⟩:=gG W 42 pl a b q;obtain⟨t1,h1,k1,-⟩:=MM.box h F1;have HM1:Hid _:=AI h1 k1;have HD:Hid _:=fun (_:Unit)=>h1.readR ht hn;have HQ:Hid _:=fun (W1:WL) (t1:NN) (h1:MM E X g (jA s) W1 t1)=>MM.pushTruth h1 (show s.fr.stk.length<1024 from hl) (nextR s.w).2;replace HQ:Hid (∀ (W1:WL) (t1:NN),MM E X g (jA s) W1 t1→Calls prog 118 #[fp g s,.bool (nextR s.w).2] W1 (MP E X g (aC (jA s) (s.fr.stk++[cv (whole (eZ (nextR s.w).2))])) t1 W1 cR)):=HQ;generalize aC (jA s) (s.fr.stk++[cv (whole (eZ (nextR s.w).2))])=s2 at HQ ⊢;generalize jA s=s1 at HD HQ;generalize (nextR s.w).2=bb at HD HQ;clear h h1 k1 F1 l1 ht hn;go_enter func72,ntmps72;go_wp2_with fail;refine (HD.out ()).mono ?_;rintro e W2 ⟨rfl,t2,h2,k2⟩;have HM2:Hid _:=AI h2 (HM1.out.2.trans k2);have HK2:Hid _:=k2;clear h2 k2 HD;go_wp2_with fail;refine (HQ.out W2 t2 HM2.out.1).mono ?_;rintro e W3 ⟨rfl,t3,h3,k3⟩;have HM3:Hid _:=AI h3 (HM2.out.2.trans k3);have HK3:Hid _:=k3;clear h3 k3 HQ;go_wp2_with fail;go_ret;exact⟨rfl,t3,HM3.out.1,HM3.out.2⟩
end
end Go.Proofs.YtlokkgajpjafmaaGreatDoor
