import Derived.Test.YtlokkgajpjafmaaGreatDoorM14
set_option linter.unusedSimpArgs false
set_option linter.unusedVariables false
set_option maxRecDepth 100000
set_option maxHeartbeats 40000000
open _root_.Go.Proofs.Tryz
namespace Go.Proofs.YtlokkgajpjafmaaGreatDoor
open Go.RowKit
open Wire Flow Mach
theorem uN {W:WL}{b:Nat}{l:List (BA × Val)} (hm:dV W b (cY l)) (hd:(aM l).Nodup) (hs:∀ e ∈ l,e.1.size≤1048576) {key:BA} (hk:key.size≤1048576) :
  (Instr.lookup 88 (.map (some b)) (.string key) false).run prog W=.ok (vV (iH l key)) W:=by
 obtain⟨es,clock,hb,he⟩:=hm;have K:=WideMaps.string_law (P:=prog) (k:=9) underlying9;have hkey:=WideMaps.keyOf_string_mk (P:=prog) (k:=9) underlying9 (s:=key) (Nat.le_trans hk (by decide));have hmem:∀ e ∈ es.toList,∃ x ∈ l,e.key=.string x.1∧e.val=vV x.2:=fun e hx=>by
  have:(e.key,e.val) ∈ cY l:=by rw[← he];exact List.mem_map.2 ⟨e,hx,rfl⟩
  obtain⟨x,hx,h⟩:=List.mem_map.1 this;injection h with h1 h2;exact⟨x,hx,h1.symm,h2.symm⟩
 rcases K.find W hkey es.toList (fun e hx=>by
  obtain⟨x,hx,h1,-⟩:=hmem e hx;rw[h1];exact⟨_,WideMaps.keyOf_string_mk (P:=prog) (k:=9) underlying9 (Nat.le_trans (hs x hx) (by decide))⟩) with ⟨h1,h2⟩ | ⟨j,e0,h1,h2,h3⟩
 ·obtain⟨g1,g2⟩:=aCm (l:=l) (k:=key) fun x hx hxk=>by
   have:((.string x.1:Value),vV x.2) ∈ cY l:=List.mem_map.2 ⟨x,hx,rfl⟩;rw[← he] at this;obtain⟨e,hx',h⟩:=List.mem_map.1 this;injection h with q1 q2;exact h2 e hx' (by rw[q1,hxk])
  rw[g1];have hz:(zeroValue 135).run prog W=.ok (vV nothing) W:=by kernel_rfl
  simp[Instr.lookup,run_underlying underlying88,MapKept.run_getObj_map hb,K.check W _ hkey,h1,hz,Result.andThen]
 have:(cY l)[j]?=some (e0.key,e0.val):=by rw[← he,List.getElem?_map,h2];rfl
 rw[cY,List.getElem?_map] at this;obtain⟨x,hx,h⟩:=Option.map_eq_some_iff.1 this;obtain⟨q1,q2⟩:=Prod.mk.inj h;have hxk:x.1=key:=Value.string.inj (q1.trans h3);obtain⟨g1,g2⟩:=aHu hd (j:=j) (k:=key) (v:=x.2) (by rw[hx,← hxk]);have q2':vV x.2=e0.val:=q2;rw[g1,q2'];simp[Instr.lookup,run_underlying underlying88,MapKept.run_getObj_map hb,K.check W _ hkey,h1,Result.andThen]
theorem aKg (A o b:Nat){l:List (BA × Val)}(key:BA)(W:WL)(hA:A<W.heap.size)(h0:W.cell? (Ad A o)=some (.map (some b)))(hm:dV W b (cY l))(hd:dO l)(hk:key.size≤1048576)(hh:bI l key=true) :
  Calls prog 116 #[.pointer (some (Ad A o)),.string key] W fun e W'=>e=.returned (vV (iH l key))∧Fr [] W W':=by
 have HU:Hid _:=fun (W1:WL) (F:Fr [] W W1)=>uN (hm.of_block (F.block b hm.lt (by simp))) hd.1 hd.2 hk;have HH:Hid _:=fun (W1:WL) (F:Fr [] W W1)=>gV A o b key W1 ((F.cell (p:=Ad A o) hA (by simp)).trans h0) (hm.of_block (F.block b hm.lt (by simp))) hd.1 hd.2 hk;have HC:Hid _:=fun (W1:WL) (F:Fr [] W W1)=>(F.cell (p:=Ad A o) hA (by simp)).trans h0;unfold vV at HU ⊢;rw[hh] at HH;generalize ((iH l key).kind:Int)=kk at HU ⊢;generalize vN (iH l key)=mm at HU ⊢;generalize vS (iH l key)=tt at HU ⊢;obtain⟨W1,hW1⟩:=eXi (W.alloc (.cells #[.int .u8 0,iA 0,.string ⟨#[]⟩] 135));have F1:=frA hW1
 have k1:=kA hW1;have l1:=(Age.1 k1).1;have HF1:Hid _:=AI F1 (AI k1 l1);clear hm hd hh F1 k1 l1 h0;go_enter func116,ntmps116;go_wp2_with fail;refine (HH.out W1 HF1.out.1).mono ?_;rintro e W2 ⟨rfl,F2⟩;obtain⟨F1,k1,l1⟩:=HF1.out;obtain⟨hy,z0,z1,z2⟩:=iJ ((F2.block _ l1 (by simp)).trans k1);obtain⟨W7,hW7,r0,r1,r2,F7⟩:=set3 (x':=.int .u8 kk) (y':=iA mm) (z':=.string tt) hy;obtain⟨y0,y1,y2⟩:=hy;have hlk:=HU.out W2 (F1.trans F2);have c0:=HC.out W2 (F1.trans F2);have FF:Hid _:=(F1.trans F2).trans' F7 (by simp);clear F7 F2 F1 k1 l1 HF1 HU HH HC;go_wp2_with fail;refine bodyPost_ret (v:=vlV kk mm tt) (by simp[results,results116,go_sem,r0,r1,r2]) rfl ?_;exact⟨rfl,FF.out⟩
section
variable {E:Env}{X:Nat}{g:Pl}{s:Ms}{W W':WL}{tag:NN}
theorem MM.takes (h:MM E X g s W tag){ga c:Nat}(hg:g.av=.slice (some (Ad ga 0)) s.w.arrs.length c){i:Nat}(hi:i<s.w.arrs.length){key:BA}(hk:key.size≤1048576)(ho:dO (s.w.arrs.getD i []))(hn:(s.w.arrs.getD i []).length≤100000) :
  Calls prog 115 #[.pointer (some (Ad ga (i*2))),.string key] W fun e W'=>e=.returned (.bool (bI (s.w.arrs.getD i []) key || decide ((s.w.arrs.getD i []).length<30)))∧Fr [] W W':=by
 obtain⟨b,ov,c0,c1,hm,ow⟩:=h.arrAt hg hi;obtain⟨so,sc,rfl⟩:=bF ow;exact aIr ga (i*2) b _ sc so key W (aB c0) c0 c1 hm ho hk hn
theorem MM.agetIn (hE:aU E)(h:MM E X g s W tag){l:List aJ}{v:Val} (hs:s.fr.stk=l++[cv v]) (hl:s.fr.stk.length≤1024) (hv:SmV v) (hx:(aD E v).size≤1048576) {a:Nat} (ha:a<s.w.arrs.length) (hk:dO (s.w.arrs.getD a [])) (hn:s.w.arrs.length≤1000) (hn2:(s.w.arrs.getD a []).length≤100000) (hh:bI (s.w.arrs.getD a []) (aD E v)=true) (pl b q:Int) :
  Calls prog 65 #[ptr X,fp g s,inV 11 pl (a:Nat) b q] W (MP E X g (aC s (l++[cv (iH (s.w.arrs.getD a []) (aD E v))])) tag W (stI 0)):=by
 have hm:=hmX
 have hl1:l.length<1024:=by rw[hs] at hl;simp at hl;omega
 obtain⟨W1,hW1,F1,⟨b0,b1,b2,b3,b4⟩,l1⟩:=gG W 11 pl (a:Nat) b q;obtain⟨t1,h1,k1,hb1⟩:=MM.box h F1;obtain⟨ga,c,hg⟩:=h.avS ha;have HM1:Hid _:=AI h1 k1;have x9:=h1.avc;rw[hg] at x9;have HP:Hid _:=fun (W1:WL) (t1:NN) (h1:MM E X g s W1 t1)=>MM.popText hE h1 hs hl hv;have HK:Hid _:=fun (W1:WL) (t1:NN) (h1:MM E X g (aC s l) W1 t1)=>MM.takes h1 hg (i:=a) ha hx hk hn2;have HA:Hid _:=fun (W1:WL) (t1:NN) (h1:MM E X g (aC s l) W1 t1)=>MM.arrAt h1 hg (i:=a) ha;have HH:Hid _:=fun (W1:WL) (bm:Nat) (c0:W1.cell? (Ad ga (a*2))=some (.map (some bm))) (hm:dV W1 bm (cY (s.w.arrs.getD a [])))=>aKg ga (a*2) bm (aD E v) W1 (aB c0) c0 hm hk hx hh;have HT:Hid _:=fun (W1:WL) (t1:NN) (h1:MM E X g (aC s l) W1 t1)=>MM.push h1 (show l.length<1024 from hl1) (iH (s.w.arrs.getD a []) (aD E v));replace HK:Hid (∀ (W1:WL) (t1:NN),MM E X g (aC s l) W1 t1→Calls prog 115 #[.pointer (some (Ad ga (a*2))),.string (aD E v)] W1 fun e W'=>e=.returned (.bool true)∧Fr [] W1 W'):=by
  intro W1 t1 h1;have:=HK.out W1 t1 h1;have e:(bI ((aC s l).w.arrs.getD a []) (aD E v) || decide (((aC s l).w.arrs.getD a []).length<30))=true:=by
   rw[show bI ((aC s l).w.arrs.getD a []) (aD E v)=true from hh];rfl
  rw[e] at this;exact this
 unfold vV at HH HT;generalize iH (s.w.arrs.getD a []) (aD E v)=gv at HH HT ⊢;generalize (gv.kind:Int)=kk at HH HT;generalize vN gv=mm at HH HT;generalize vS gv=tt at HH HT;generalize aD E v=tx at HP HH HK;have hi':(a:Int)<s.w.arrs.length:=by omega
 clear h h1 k1 F1 l1 hb1 hx hk hh;go_enter func65,ntmps65;go_wp2_with fail;refine aY hm (by kernel_rfl) ?_
 repeat still_step
 refine wpStill_nil ?_;have F2:Fr [] W1 W1.drew:=(Fr.refl [] W1).drew;obtain⟨t2,h2,k2⟩:=MM.fr HM1.out.1 F2;have HM2:Hid _:=AI h2 (HM1.out.2.trans k2);have HK2:Hid _:=k2;clear h2 k2 F2;go_wp2_with fail;refine (HP.out W1.drew t2 HM2.out.1).mono ?_;rintro e W3 ⟨rfl,t3,h3,k3⟩;have HM3:Hid _:=AI h3 (HM2.out.2.trans k3);have HK3:Hid _:=k3;clear h3 k3 HP;have HK3:Hid _:=fun (_:Unit)=>HK.out W3 t3 HM3.out.1;go_wp2_with fail;refine (HK3.out ()).mono ?_;rintro e W4 ⟨rfl,F4⟩;obtain⟨t4,h4,k4⟩:=MM.fr HM3.out.1 F4;have HM4:Hid _:=AI h4 (HM3.out.2.trans k4);have HK4:Hid _:=k4;clear h4 k4 F4;obtain⟨bm,ov,c0,-,hmm,-⟩:=HA.out W4 t4 HM4.out.1;have HH4:Hid _:=fun (_:Unit)=>HH.out W4 bm c0 hmm;clear c0 hmm HA HH HK HK3;go_wp2_with fail;refine (HH4.out ()).mono ?_;rintro e W5 ⟨rfl,F5⟩;obtain⟨t5,h5,k5⟩:=MM.fr HM4.out.1 F5;have HM5:Hid _:=AI h5 (HM4.out.2.trans k5);have HK5:Hid _:=k5;clear h5 k5 F5;go_wp2_with fail;refine (HT.out W5 t5 HM5.out.1).mono ?_;rintro e W6 ⟨rfl,t6,h6,k6⟩;have HM6:Hid _:=AI h6 (HM5.out.2.trans k6);have HK6:Hid _:=k6;clear h6 k6 HT;go_wp2_with fail;go_ret;exact⟨rfl,t6,HM6.out.1,HM6.out.2⟩
end
theorem aPl:(prog.info? 9).map (fun i=>(i.zero,i.size,i.bytes))=some (some (.string ⟨#[]⟩),1,16):=by kernel_rfl
section
variable {W:WL}{tag:NN}{lv:Nat→Bool}{R:Nat→Rw}{mp:Nat→Option (Nat × List (Value × Value))}
def aIg (W:WL) (tag:NN) (lv:Nat→Bool) (R:Nat→Rw) (mp:Nat→Option (Nat × List (Value × Value))) (i ga n cap b h:Nat) (xs ys:LV) (l:List (BA × Val)) (key:BA) (v:Val) (e:Ending) (W':WL):Prop:=
 e=.returned cR∧∃ tag' sv',Sto W' tag' lv (up (up R (21+2*i) ⟨sv',9,1,h+1,ys++[.string key]⟩) 13 ⟨.slice (some ⟨ga,0,none⟩) n cap,90,2,n,xs.set (i*2+1) sv'⟩) (up mp (20+2*i) (some (b,cY (cT l key v))))∧Kp tag tag' W W'
theorem aSc (hS:Sto W tag lv R mp){i ga n cap b h:Nat}{xs ys:LV}{sv:Value}{l:List (BA × Val)} (l13:lv 13=true) (r13:R 13=⟨.slice (some (Ad ga 0)) n cap,90,2,n,xs⟩) (hin:i<n) (hn:n≤1000) (lm:lv (21+2*i)=true) (rm:R (21+2*i)=⟨sv,9,1,h,ys⟩) (hx0:xs[i*2]?=some (.map (some b))) (hx1:xs[i*2+1]?=some sv) (hmp:mp (20+2*i)=some (b,cY l)) (hh:h<100000) (hd:dO l) {key:BA} (hk:key.size≤1048576) (hno:bI l key=false) (v:Val) :
  Calls prog 117 #[.pointer (some (Ad ga (i*2))),.string key,vV v] W (aIg W tag lv R mp i ga n cap b h xs ys l key v):=by
 have hmx:=hmX
 obtain⟨i0,hi,hz0,hz1,hz2⟩:=info_parts aPl;have o13:W.ownsRow 0 90 2 (.slice (some (Ad ga 0)) n cap) n xs:=by have:=(hS.rows 13 l13).1;rw[r13] at this;exact this
 have om:W.ownsRow 0 9 1 sv h ys:=by have:=(hS.rows _ lm).1;rw[rm] at this;exact this
 obtain⟨so,sc,rfl⟩:=bF om;have hgl:ga<W.heap.size:=(o13.lt ga rfl).2;obtain⟨hm,tb⟩:=hS.maps _ _ _ hmp;have tga:tag ga=13:=by have:=(hS.rows 13 l13).2;rw[r13] at this;exact this ga rfl
 have hne:ga≠b:=by
  intro e;rw[e,tb] at tga;omega
 have hlf:lv (20+2*i)=false:=by
  rcases hq:lv (20+2*i) with _ | _
  ·rfl
  have:=hS.far _ hq;rw[hmp] at this;cases this
 have HH:Hid _:=fun (W1:WL) (F:Fr [] W W1)=>gV ga (i*2) b key W1 ((F.cell (p:=Ad ga (i*2)) hgl (by simp)).trans (aF o13 hx0)) (hm.of_block (F.block b hm.lt (by simp))) hd.1 hd.2 hk;rw[hno] at HH;have HG:Hid _:=fun (W2:WL) (F:Fr [] W W2)=>by
  have F3:Fr [] W (W2.alloc (.cells #[.string key] 9)):=F.alloc _;have S3:=hS.frm F3 6;have om3:(W2.alloc (.cells #[.string key] 9)).ownsRow 0 9 1 (.slice so h sc) h ys:=by have:=(S3.rows _ lm).1;rw[rm] at this;exact this
  obtain⟨v',W4,hr4,hown',hgrow,-,hwh⟩:=run_append_own_at (P:=prog) (w:=W2.alloc (.cells #[.string key] 9)) 0 22 22 9 i0 _ 1 16 underlying22 hi hz0 hz1 hz2 rfl (by decide) _ _ _ om3 (Ad W2.heap.size 0) 1 1 [.string key] rfl (mR W2 #[.string key] 9) (by intro u hu;simp at hu;subst hu;rfl) (by unfold maxLen;omega) (by omega) (Nat.zero_le _);obtain⟨vo,vc,rfl⟩:=bF hown';obtain⟨S4,K4⟩:=S3.grow (i:=21+2*i) lm hown' (by rw[rm];exact hgrow) (by rw[rm];exact hwh);have r13':up R (21+2*i) ⟨.slice vo (h+1) vc,9,1,h+1,ys++[.string key]⟩ 13=⟨.slice (some (Ad ga 0)) n cap,90,2,n,xs⟩:=by rw[aE _ _ (by omega)];exact r13
  obtain⟨S5,K5⟩:=S4.put l13 r13' (j:=i*2+1) (by omega) (.slice vo (h+1) vc);have o4:W4.ownsRow 0 90 2 (.slice (some (Ad ga 0)) n cap) n xs:=by have:=(S4.rows 13 l13).1;rw[r13'] at this;exact this
  exact (⟨vo,vc,W4,_,hr4,(F.cell (p:=Ad ga (i*2+1)) hgl (by simp)).trans (aF o13 hx1),aF o4 hx1,bB o4 (i*2+1),(aA (by omega)).trans (aF o4 hx0),S5,((Kp.of_fr F3 (fun k hk=>cD hk)).trans K4).trans K5,fun k hk hk2=>((K4.trans K5).blk k (by simp;omega) (by rw[dK hk];decide)).trans (Below.heap_alloc _ _ _ hk2)⟩ :
   ∃ vo vc W4 t4,(Builtin.append_ #[22,22] 22 #[.slice so h sc,.slice (some (Ad W2.heap.size 0)) 1 1]).run prog (W2.alloc (.cells #[.string key] 9))=.ok (.slice vo (h+1:Nat) vc) W4∧W2.cell? (Ad ga (i*2+1))=some (.slice so h sc)∧W4.cell? (Ad ga (i*2+1))=some (.slice so h sc)∧W4.frozen? (Ad ga (i*2+1))=false∧(W4.setCell ⟨ga,i*2+1,none⟩ (.slice vo (h+1:Nat) vc)).cell? (Ad ga (i*2))=some (.map (some b)) ∧
    Sto (W4.setCell ⟨ga,i*2+1,none⟩ (.slice vo (h+1:Nat) vc)) t4 lv (up (up R (21+2*i) ⟨.slice vo (h+1:Nat) vc,9,1,h+1,ys++[.string key]⟩) 13 ⟨.slice (some (Ad ga 0)) n cap,90,2,n,xs.set (i*2+1) (.slice vo (h+1:Nat) vc)⟩) mp∧Kp tag t4 W (W4.setCell ⟨ga,i*2+1,none⟩ (.slice vo (h+1:Nat) vc))∧∀ k,W.heap.size≤k→k<W2.heap.size→(W4.setCell ⟨ga,i*2+1,none⟩ (.slice vo (h+1:Nat) vc)).heap[k]?=W2.heap[k]?)
 have hbn:W.heap.size≠b:=by have:=hm.lt;omega
 have HU:Hid _:=fun (W6:WL) (hm6:dV W6 b (cY l))=>xE hm6 hd.1 hd.2 hk v;unfold aIg;generalize cY (cT l key v)=le at HU ⊢;unfold vV at HU ⊢;generalize (v.kind:Int)=kk at HU ⊢;generalize vN v=mm at HU ⊢;generalize vS v=tt at HU ⊢;obtain⟨W1,hW1,F1,c0,c1,c2,l1⟩:=bD W kk mm tt;have HF1:Hid _:=AI F1 l1;have HX:Hid _:=AI c0 (AI c1 c2);have HL:Hid _:=AI hlf hmp;clear hm hd hno F1 c0 c1 c2 hx0 hx1 o13 om hS r13 rm lm l13 hi hz0 hz1 hz2 l1 hlf hmp tb tga hgl;go_enter func117,ntmps117;go_wp2_with fail;refine (HH.out W1 HF1.out.1).mono ?_;rintro e W2 ⟨rfl,F2⟩;obtain⟨vo,vc,W4,t4,hr4,q0,q1,q2,q3,S5,K5,hb5⟩:=HG.out W2 (HF1.out.1.trans F2);have hX2:∀ j u,W1.cell? (Ad W.heap.size j)=some u→(W4.setCell ⟨ga,i*2+1,none⟩ (.slice vo (h+1:Nat) vc)).cell? (Ad W.heap.size j)=some u:=fun j u hu=>(World.cell?_of_block (w:=W2) (a:=Ad W.heap.size j) (hb5 _ (Nat.le_refl _) (Nll HF1.out.2 F2.size))).trans ((F2.cell (p:=Ad W.heap.size j) HF1.out.2 (by simp)).trans hu);have HP:Hid _:=AI q3 (AI (hX2 0 _ HX.out.1) (AI (hX2 1 _ HX.out.2.1) (hX2 2 _ HX.out.2.2)));have HS5:Hid _:=AI S5 K5;have Hr4:Hid _:=hr4;clear S5 K5 hb5 hX2 q3 hr4 HG HH F2;go_wp2_with (at_builtin;refine kC rfl (.tmp 14) (.tmp 16) 22 rfl _ _ _ rfl rfl Hr4.out ?_);refine aI (fun V=>V.cell? (Ad ga (i*2))=some (.map (some b))∧V.cell? (Ad W.heap.size 0)=some (.int .u8 kk)∧V.cell? (Ad W.heap.size 1)=some (iA mm)∧V.cell? (Ad W.heap.size 2)=some (.string tt)) hmx ?_;generalize hW5:W4.setCell ⟨ga,i*2+1,none⟩ (.slice vo (h+1:Nat) vc)=W5 at HP HS5 ⊢;obtain⟨WD,hWD⟩:=eXi (W5.drew);rw[hWD];have F3:Fr [] W5 WD:=by rw[← hWD];exact (Fr.refl [] W5).drew
 have hcw:∀ a,WD.cell? a=W5.cell? a:=fun a=>by rw[← hWD];rfl
 have hS:WD.cell? (Ad ga (i*2))=some (.map (some b))∧WD.cell? (Ad W.heap.size 0)=some (.int .u8 kk)∧WD.cell? (Ad W.heap.size 1)=some (iA mm)∧WD.cell? (Ad W.heap.size 2)=some (.string tt):=⟨(hcw _).trans HP.out.1,(hcw _).trans HP.out.2.1,(hcw _).trans HP.out.2.2.1,(hcw _).trans HP.out.2.2.2⟩;have S6:=HS5.out.1.kp (tag':=t4) F3 (fun _ _=>rfl);have K6:=HS5.out.2.trans (Kp.of_fr (tag':=t4) F3 fun _ _=>rfl);obtain⟨hm6,tb6⟩:=S6.maps _ _ _ HL.out.2;obtain⟨es',clock',hup,hel⟩:=HU.out WD hm6;have HE:Hid _:=AI (AI S6 K6) (AI hel (AI hm6.lt tb6));clear S6 K6 hm6 tb6 hel HU HP HS5 F3 hcw hWD hW5 HX HF1;refine aK (fun _ _ _ _ _ h=>h) hS [0,1,2,3,4,5] (by kernel_rfl) ?_
 iterate 6
  refine Yls.cons (v:=?_) rfl (.inl ⟨rfl,fun w1 hS1=>?_⟩) ?_;rotate_left
  ·obtain⟨p0,p1,p2,p3⟩:=hS1;go_simp
   first | rfl | (refine (if_neg (by omega)).trans ?_;rfl)
  simp only[Act.put,Zp,Zq]
 refine Yls.nil ?_;refine rd1 (r:=6) (by kernel_rfl) rfl fun K hK=>?_;have hS2:(eQ WD b (.map es' clock')).cell? (Ad ga (i*2))=some (.map (some b))∧(eQ WD b (.map es' clock')).cell? (Ad W.heap.size 0)=some (.int .u8 kk)∧(eQ WD b (.map es' clock')).cell? (Ad W.heap.size 1)=some (iA mm)∧(eQ WD b (.map es' clock')).cell? (Ad W.heap.size 2)=some (.string tt):=
  have e1:=fun j=>World.cell?_of_block (w:=WD) (a:=Ad ga j) (kF WD (.map es' clock') hne);have e2:=fun j=>World.cell?_of_block (w:=WD) (a:=Ad W.heap.size j) (kF WD (.map es' clock') hbn)
  ⟨(e1 _).trans hS.1,(e2 _).trans hS.2.1,(e2 _).trans hS.2.2.1,(e2 _).trans hS.2.2.2⟩
 have HS2:Hid _:=hS2;clear hS2 hS;obtain⟨W6,hW6⟩:=eXi (eQ WD b (.map es' clock'));rw[hW6] at hup HS2;go_simp;refine hK _ _ HS2.out ?_;clear hK K;intro _
 try simp only[Act.put,Zp,Zq]
 refine wpAnyH_done (by kernel_rfl) ?_ _;go_wp2_with fail;refine bodyPost_end (results_none rfl _ _ _) rfl ?_;obtain⟨⟨S6,K6⟩,hel,hbl,tb6⟩:=HE.out;have c1:Chg t4 [20+2*i] WD (eQ WD b (.map es' clock')):=by rw[← tb6];exact sC WD _ _
 have S7:=S6.map (b:=b) (l:=le) HL.out.1 (by omega) c1 (fun _ _=>rfl) ⟨es',clock',pK WD _ hbl,hel⟩ tb6;have K7:=K6.trans (Kp.chg c1 (fun _ _=>rfl) (by simp;omega));rw[hW6] at S7 K7;exact⟨rfl,_,_,S7,K7⟩
end
section
variable {E:Env}{X:Nat}{g:Pl}{s:Ms}{W W':WL}{tag tag':NN}
theorem MM.setNew (h:MM E X g s W tag){ga c:Nat}(hg:g.av=.slice (some (Ad ga 0)) s.w.arrs.length c){i:Nat}(hi:i<s.w.arrs.length){key:BA}(hk:key.size≤1048576)(ho:dO (s.w.arrs.getD i []))(hh:bI (s.w.arrs.getD i []) key=false)(hf:(s.w.arrs.getD i []).length<100000)(v:Val) :
  Calls prog 117 #[.pointer (some (Ad ga (i*2))),.string key,vV v] W (MP E X g (bG s i (cT (s.w.arrs.getD i []) key v)) tag W cR):=by
 obtain⟨h6,lv,R,mp,x,hx,h⟩:=h;have r13:=h.rA;rw[hx.2,hg] at r13;have e:=fun t (ht:t<2)=>dC (n:=s.w.arrs.length) (z:=2) (f:=fun i=>[Value.map (some (x.A i).1),(x.A i).2]) (fun _ _=>rfl) hi ht;obtain⟨a1,a2,a3⟩:=h.arr i hi;refine (aSc h.S h.lA r13 hi h.nA a2 a3 ((e 0 (by decide)).trans rfl) ((e 1 (by decide)).trans rfl) a1 hf ho hk hh v).mono fun ee W' ⟨he,t',sv',S,K⟩=>⟨he,t',⟨Nat.le_trans h6 K.size,lv,_,_,onA x i ((x.A i).1,sv'),hx,h.rearr h6 hi (l:=cT (s.w.arrs.getD i []) key v) K S ?_ ?_ ?_ ?_ ?_⟩,K⟩
 ·rw[aG,hx.2,hg]
 ·rw[aE _ _ (by omega),aG,sB hh];simp[aM]
 ·intro q h1 h2;rw[aE _ _ h1,aE _ _ h2]
 ·exact aG _ _ _
 intro q h1;exact aE _ _ h1
theorem MM.set (h:MM E X g s W tag){ga c:Nat}(hg:g.av=.slice (some (Ad ga 0)) s.w.arrs.length c){i:Nat}(hi:i<s.w.arrs.length){key:BA}(hk:key.size≤1048576)(ho:dO (s.w.arrs.getD i []))(hf:bI (s.w.arrs.getD i []) key=true∨(s.w.arrs.getD i []).length<100000)(v:Val) :
  Calls prog 117 #[.pointer (some (Ad ga (i*2))),.string key,vV v] W (MP E X g (bG s i (cT (s.w.arrs.getD i []) key v)) tag W cR):=by
 rcases hh:bI (s.w.arrs.getD i []) key with _ | _
 ·exact h.setNew hg hi hk ho hh (by rcases hf with c | c;(rw[hh] at c;cases c);exact c) v
 exact h.setIn hg hi hk ho hh v
theorem MM.hasA (h:MM E X g s W tag){ga c:Nat}(hg:g.av=.slice (some (Ad ga 0)) s.w.arrs.length c){i:Nat}(hi:i<s.w.arrs.length){key:BA}(hk:key.size≤1048576)(ho:dO (s.w.arrs.getD i [])) :
  Calls prog 119 #[.pointer (some (Ad ga (i*2))),.string key] W fun e W'=>e=.returned (.bool (bI (s.w.arrs.getD i []) key))∧Fr [] W W':=by
 obtain⟨b,ov,c0,c1,hm,ow⟩:=h.arrAt hg hi;exact gV ga (i*2) b key W c0 hm ho.1 ho.2 hk
theorem dO.set {l:List (BA × Val)}(h:dO l){k:BA}(hk:k.size≤1048576)(v:Val):dO (cT l k v):=by
 refine⟨?_,fun e he=>?_⟩
 ·rcases hh:bI l k with _ | _
  ·rw[sB hh];unfold aM;rw[List.map_append];refine List.nodup_append.2 ⟨h.1,by simp,?_⟩;intro a ha b hb e;subst e;have:a=k:=by simpa using hb
   subst this;rw[kM.2 ha] at hh;cases hh
  rw[tS v hh];exact h.1
 rcases Y8 he with he | rfl
 ·exact h.2 e he
 exact hk
theorem aKs (l:List (BA × Val))(k:BA)(v:Val):iH (cT l k v) k=v:=by
 induction l with
 | nil=>simp[cT,iH]
 | cons a l ih=>
  unfold cT;by_cases e:a.1=k
  ·rw[if_pos e];simp[iH]
  rw[if_neg e];simp[iH,e,ih]
theorem MM.lookNew (h:MM E X g s W tag){ga c:Nat}(hg:g.av=.slice (some (Ad ga 0)) s.w.arrs.length c){i:Nat}(hi:i<s.w.arrs.length){key:BA}(hk:key.size≤1048576)(ho:dO (s.w.arrs.getD i []))(hh:bI (s.w.arrs.getD i []) key=false)(hf:(s.w.arrs.getD i []).length<100000) :
  Calls prog 116 #[.pointer (some (Ad ga (i*2))),.string key] W (MP E X g (bG s i (cT (s.w.arrs.getD i []) key nothing)) tag W (vV nothing)):=by
 have HH:Hid _:=fun (W1:WL) (t1:NN) (h1:MM E X g s W1 t1)=>h1.hasA hg hi hk ho;rw[hh] at HH;have HN:Hid _:=fun (W1:WL) (t1:NN) (h1:MM E X g s W1 t1)=>h1.setNew hg hi hk ho hh hf nothing;have HA:Hid _:=fun (W1:WL) (t1:NN) (h1:MM E X g (bG s i (cT (s.w.arrs.getD i []) key nothing)) W1 t1)=>by
  have hl:(bG s i (cT (s.w.arrs.getD i []) key nothing)).w.arrs.length=s.w.arrs.length:=nT s i _;obtain⟨b,ov,c0,c1,hm,ow⟩:=h1.arrAt (c:=c) (by rw[hl];exact hg) (i:=i) (by rw[hl];exact hi);rw[zA s hi] at hm;have:=uN hm (ho.set hk nothing).1 (ho.set hk nothing).2 hk;rw[aKs] at this;exact (⟨b,c0,this⟩:∃ b,W1.cell? (Ad ga (i*2))=some (.map (some b))∧(Instr.lookup 88 (.map (some b)) (.string key) false).run prog W1=.ok (vV nothing) W1)
 obtain⟨W1,hW1⟩:=eXi (W.alloc (.cells #[.int .u8 0,iA 0,.string ⟨#[]⟩] 135));have F1:=frA hW1
 have k1:=kA hW1;have l1:=(Age.1 k1).1;obtain⟨t1,h1,kk1,hb1⟩:=MM.box h F1;have HM1:Hid _:=AI h1 kk1;have HB:Hid _:=AI k1 (AI l1 (AI (hb1 W.heap.size (Nat.le_refl _)) h.six));generalize bG s i (cT (s.w.arrs.getD i []) key nothing)=s2 at HN HA ⊢;clear h h1 kk1 F1 l1 hb1 k1 ho hh hf;go_enter func116,ntmps116;go_wp2_with fail;refine (HH.out W1 t1 HM1.out.1).mono ?_;rintro e W2 ⟨rfl,F2⟩;obtain⟨t2,h2,k2,-⟩:=MM.box HM1.out.1 F2;have HM2:Hid _:=AI h2 k2;clear h2 k2 F2 HH;go_wp2_with fail;refine (HN.out W2 t2 HM2.out.1).mono ?_;rintro e W3 ⟨rfl,t3,h3,k3⟩;have kk:=HM2.out.2.trans k3;obtain⟨k1,l1,b1,h6⟩:=HB.out;have k1':W3.heap[W.heap.size]?=some (.cells #[.int .u8 0,iA 0,.string ⟨#[]⟩] 135):=(kk.blk _ l1 (by omega)).trans k1;have b3:t3 W.heap.size=6:=(kk.ret _ l1).trans b1;obtain⟨bm,c0,hlk⟩:=HA.out W3 t3 h3;obtain⟨hy,z0,z1,z2⟩:=iJ k1';obtain⟨W7,hW7,r0,r1,r2,F7⟩:=set3 (x':=.int .u8 0) (y':=iA 0) (z':=.string ⟨#[]⟩) hy;obtain⟨y0,y1,y2⟩:=hy;have hM7:MM E X g s2 W7 t3:=by
  rw[← hW7];exact ((h3.poke b3 h6 0 _).poke b3 h6 1 _).poke b3 h6 2 _
 have hK7:Kp tag t3 W W7:=by
  rw[← hW7];exact (((HM1.out.2.trans kk).poke (Nat.le_refl _) 0 _).poke (Nat.le_refl _) 1 _).poke (Nat.le_refl _) 2 _
 have HM7:Hid _:=AI hM7 hK7;have e0:vV nothing=.agg #[.int .u8 0,iA 0,.string ⟨#[]⟩]:=rfl;rw[e0] at hlk ⊢;clear hM7 hK7 F7 kk k1 l1 h3 k3 HN HA HM1 HM2 k1' HB b1 b3 h6 e0;go_wp2_with fail;refine bodyPost_ret (v:=vlV 0 0 ⟨#[]⟩) (by simp[results,results116,go_sem,r0,r1,r2]) rfl ?_;exact⟨rfl,t3,HM7.out.1,HM7.out.2⟩
end
section
variable {E:Env}{X:Nat}{g:Pl}{s:Ms}{W W':WL}{tag:NN}
theorem MM.agetNew (hE:aU E)(h:MM E X g s W tag){l:List aJ}{v:Val} (hs:s.fr.stk=l++[cv v]) (hl:s.fr.stk.length≤1024) (hv:SmV v) (hx:(aD E v).size≤1048576) {a:Nat} (ha:a<s.w.arrs.length) (hk:dO (s.w.arrs.getD a [])) (hn:s.w.arrs.length≤1000) (hh:bI (s.w.arrs.getD a []) (aD E v)=false) (hf:(s.w.arrs.getD a []).length<30) (pl b q:Int) :
  Calls prog 65 #[ptr X,fp g s,inV 11 pl (a:Nat) b q] W (MP E X g (aC (bG s a (cT (s.w.arrs.getD a []) (aD E v) nothing)) (l++[cv nothing])) tag W (stI 0)):=by
 have hl1:l.length<1024:=by rw[hs] at hl;simp at hl;omega
 have hm:=hmX
 obtain⟨W1,hW1,F1,⟨b0,b1,b2,b3,b4⟩,l1⟩:=gG W 11 pl (a:Nat) b q;obtain⟨t1,h1,k1,hb1⟩:=MM.box h F1;obtain⟨ga,c,hg⟩:=h.avS ha;have HM1:Hid _:=AI h1 k1;have x9:=h1.avc;rw[hg] at x9;have HP:Hid _:=fun (W1:WL) (t1:NN) (h1:MM E X g s W1 t1)=>MM.popText hE h1 hs hl hv;have HK:Hid _:=fun (W1:WL) (t1:NN) (h1:MM E X g (aC s l) W1 t1)=>MM.takes h1 hg (i:=a) ha hx hk (Nat.le_trans (Nat.le_of_lt hf) (by decide));have HH:Hid _:=fun (W1:WL) (t1:NN) (h1:MM E X g (aC s l) W1 t1)=>MM.lookNew h1 hg (i:=a) ha hx hk hh (Nat.lt_trans hf (by decide));have HT:Hid _:=fun (W1:WL) (t1:NN) (h1:MM E X g (bG (aC s l) a (cT (s.w.arrs.getD a []) (aD E v) nothing)) W1 t1)=>MM.push h1 (show l.length<1024 from hl1) nothing;replace HK:Hid (∀ (W1:WL) (t1:NN),MM E X g (aC s l) W1 t1→Calls prog 115 #[.pointer (some (Ad ga (a*2))),.string (aD E v)] W1 fun e W'=>e=.returned (.bool true)∧Fr [] W1 W'):=by
  intro W1 t1 h1;have:=HK.out W1 t1 h1;have e:(bI ((aC s l).w.arrs.getD a []) (aD E v) || decide (((aC s l).w.arrs.getD a []).length<30))=true:=by
   rw[show bI ((aC s l).w.arrs.getD a []) (aD E v)=false from hh,show decide (((aC s l).w.arrs.getD a []).length<30)=true from decide_eq_true hf];rfl
  rw[e] at this;exact this
 have e0:vV nothing=.agg #[.int .u8 0,iA 0,.string ⟨#[]⟩]:=rfl;rw[e0] at HH HT;replace HH:Hid (∀ (W1:WL) (t1:NN),MM E X g (aC s l) W1 t1→Calls prog 116 #[.pointer (some (Ad ga (a*2))),.string (aD E v)] W1 (MP E X g (bG (aC s l) a (cT (s.w.arrs.getD a []) (aD E v) nothing)) t1 W1 (.agg #[.int .u8 0,iA 0,.string ⟨#[]⟩]))):=HH;show Calls _ _ _ _ (MP E X g (aC (bG (aC s l) a (cT (s.w.arrs.getD a []) (aD E v) nothing)) (l++[cv nothing])) tag W (stI 0));have hfp:fp g (bG (aC s l) a (cT (s.w.arrs.getD a []) (aD E v) nothing))=fp g s:=rfl;have hst:(bG (aC s l) a (cT (s.w.arrs.getD a []) (aD E v) nothing)).fr.stk=l:=rfl;rw[hfp,hst] at HT;generalize bG (aC s l) a (cT (s.w.arrs.getD a []) (aD E v) nothing)=s2 at HH HT ⊢;generalize aD E v=tx at HP HH HK;clear h h1 k1 F1 l1 hb1 hx hk hh hf hfp hst e0;have hi':(a:Int)<s.w.arrs.length:=by omega
 go_enter func65,ntmps65;go_wp2_with fail;refine aY hm (by kernel_rfl) ?_
 repeat still_step
 refine wpStill_nil ?_;have F2:Fr [] W1 W1.drew:=(Fr.refl [] W1).drew;obtain⟨t2,h2,k2⟩:=MM.fr HM1.out.1 F2;have HM2:Hid _:=AI h2 (HM1.out.2.trans k2);have HK2:Hid _:=k2;clear h2 k2 F2;go_wp2_with fail;refine (HP.out W1.drew t2 HM2.out.1).mono ?_;rintro e W3 ⟨rfl,t3,h3,k3⟩;have HM3:Hid _:=AI h3 (HM2.out.2.trans k3);have HK3:Hid _:=k3;clear h3 k3 HP;have HK3:Hid _:=fun (_:Unit)=>HK.out W3 t3 HM3.out.1;go_wp2_with fail;refine (HK3.out ()).mono ?_;rintro e W4 ⟨rfl,F4⟩;obtain⟨t4,h4,k4⟩:=MM.fr HM3.out.1 F4;have HM4:Hid _:=AI h4 (HM3.out.2.trans k4);have HK4:Hid _:=k4;clear h4 k4 F4;clear HK HK3;go_wp2_with fail;refine (HH.out W4 t4 HM4.out.1).mono ?_;rintro e W5 ⟨rfl,t5,h5,k5⟩;have HM5:Hid _:=AI h5 (HM4.out.2.trans k5);have HK5:Hid _:=k5;clear h5 k5 HH;go_wp2_with fail;refine (HT.out W5 t5 HM5.out.1).mono ?_;rintro e W6 ⟨rfl,t6,h6,k6⟩;have HM6:Hid _:=AI h6 (HM5.out.2.trans k6);have HK6:Hid _:=k6;clear h6 k6 HT;go_wp2_with fail;go_ret;exact⟨rfl,t6,HM6.out.1,HM6.out.2⟩
theorem MM.agetFull (hE:aU E)(h:MM E X g s W tag){l:List aJ}{v:Val} (hs:s.fr.stk=l++[cv v]) (hl:s.fr.stk.length≤1024) (hv:SmV v) (hx:(aD E v).size≤1048576) {a:Nat} (ha:a<s.w.arrs.length) (hk:dO (s.w.arrs.getD a [])) (hn:s.w.arrs.length≤1000) (hh:bI (s.w.arrs.getD a []) (aD E v)=false) (hf:30≤(s.w.arrs.getD a []).length) (hn2:(s.w.arrs.getD a []).length≤100000) (pl b q:Int) :
  Calls prog 65 #[ptr X,fp g s,inV 11 pl (a:Nat) b q] W (MP E X g (aC s l) tag W (stI 7)):=by
 have hm:=hmX
 obtain⟨W1,hW1,F1,⟨b0,b1,b2,b3,b4⟩,l1⟩:=gG W 11 pl (a:Nat) b q;obtain⟨t1,h1,k1,hb1⟩:=MM.box h F1;obtain⟨ga,c,hg⟩:=h.avS ha;have HM1:Hid _:=AI h1 k1;have x9:=h1.avc;rw[hg] at x9;have HP:Hid _:=fun (W1:WL) (t1:NN) (h1:MM E X g s W1 t1)=>MM.popText hE h1 hs hl hv;have HK:Hid _:=fun (W1:WL) (t1:NN) (h1:MM E X g (aC s l) W1 t1)=>MM.takes h1 hg (i:=a) ha hx hk hn2;replace HK:Hid (∀ (W1:WL) (t1:NN),MM E X g (aC s l) W1 t1→Calls prog 115 #[.pointer (some (Ad ga (a*2))),.string (aD E v)] W1 fun e W'=>e=.returned (.bool false)∧Fr [] W1 W'):=by
  intro W1 t1 h1;have:=HK.out W1 t1 h1;have e:(bI ((aC s l).w.arrs.getD a []) (aD E v) || decide (((aC s l).w.arrs.getD a []).length<30))=false:=by
   rw[show bI ((aC s l).w.arrs.getD a []) (aD E v)=false from hh,show decide (((aC s l).w.arrs.getD a []).length<30)=false from decide_eq_false (by show ¬ (s.w.arrs.getD a []).length<30;omega)];rfl
  rw[e] at this;exact this
 generalize aD E v=tx at HP HK;clear h h1 k1 F1 l1 hb1 hx hk hh hf hn2;have hi':(a:Int)<s.w.arrs.length:=by omega
 go_enter func65,ntmps65;go_wp2_with fail;refine aY hm (by kernel_rfl) ?_
 repeat still_step
 refine wpStill_nil ?_;have F2:Fr [] W1 W1.drew:=(Fr.refl [] W1).drew;obtain⟨t2,h2,k2⟩:=MM.fr HM1.out.1 F2;have HM2:Hid _:=AI h2 (HM1.out.2.trans k2);have HK2:Hid _:=k2;clear h2 k2 F2;go_wp2_with fail;refine (HP.out W1.drew t2 HM2.out.1).mono ?_;rintro e W3 ⟨rfl,t3,h3,k3⟩;have HM3:Hid _:=AI h3 (HM2.out.2.trans k3);have HK3:Hid _:=k3;clear h3 k3 HP;have HK3:Hid _:=fun (_:Unit)=>HK.out W3 t3 HM3.out.1;go_wp2_with fail;refine (HK3.out ()).mono ?_;rintro e W4 ⟨rfl,F4⟩;obtain⟨t4,h4,k4⟩:=MM.fr HM3.out.1 F4;have HM4:Hid _:=AI h4 (HM3.out.2.trans k4);have HK4:Hid _:=k4;clear h4 k4 F4;clear HK HK3;go_wp2_with fail;go_ret;exact⟨rfl,t4,HM4.out.1,HM4.out.2⟩
theorem MM.aset (hE:aU E)(h:MM E X g s W tag){l:List aJ}{u v:Val} (hs:s.fr.stk=l++[cv u,cv v]) (hl:s.fr.stk.length≤1024) (hu:SmV u) (hx:(aD E u).size≤1048576) {a:Nat} (ha:a<s.w.arrs.length) (hk:dO (s.w.arrs.getD a [])) (hn:s.w.arrs.length≤1000) (hf:bI (s.w.arrs.getD a []) (aD E u)=true∨(s.w.arrs.getD a []).length<30) (hn2:(s.w.arrs.getD a []).length≤100000) (pl b q:Int) :
  Calls prog 65 #[ptr X,fp g s,inV 12 pl (a:Nat) b q] W (MP E X g (bG (aC s l) a (cT (s.w.arrs.getD a []) (aD E u) v)) tag W (stI 0)):=by
 have hs1:s.fr.stk=(l++[cv u])++[cv v]:=by rw[hs];simp
 have hlu:(l++[cv u]).length≤1024:=by rw[hs] at hl;simp at hl ⊢;omega
 have hm:=hmX
 obtain⟨W1,hW1,F1,⟨b0,b1,b2,b3,b4⟩,l1⟩:=gG W 12 pl (a:Nat) b q;obtain⟨t1,h1,k1,hb1⟩:=MM.box h F1;obtain⟨ga,c,hg⟩:=h.avS ha;have HM1:Hid _:=AI h1 k1;have x9:=h1.avc;rw[hg] at x9;have HQ:Hid _:=fun (W1:WL) (t1:NN) (h1:MM E X g s W1 t1)=>MM.popV h1 hs1 hl;have HP:Hid _:=fun (W1:WL) (t1:NN) (h1:MM E X g (aC s (l++[cv u])) W1 t1)=>MM.popText hE h1 (l:=l) (v:=u) rfl hlu hu;have HK:Hid _:=fun (W1:WL) (t1:NN) (h1:MM E X g (aC s l) W1 t1)=>MM.takes h1 hg (i:=a) ha hx hk hn2;replace HK:Hid (∀ (W1:WL) (t1:NN),MM E X g (aC s l) W1 t1→Calls prog 115 #[.pointer (some (Ad ga (a*2))),.string (aD E u)] W1 fun e W'=>e=.returned (.bool true)∧Fr [] W1 W'):=by
  intro W1 t1 h1;have:=HK.out W1 t1 h1;have e:(bI ((aC s l).w.arrs.getD a []) (aD E u) || decide (((aC s l).w.arrs.getD a []).length<30))=true:=by
   rcases hf with c | c
   ·rw[show bI ((aC s l).w.arrs.getD a []) (aD E u)=true from c];rfl
   rw[show decide (((aC s l).w.arrs.getD a []).length<30)=true from decide_eq_true c,Bool.or_true]
  rw[e] at this;exact this
 have HS:Hid _:=fun (W1:WL) (t1:NN) (h1:MM E X g (aC s l) W1 t1)=>MM.set h1 hg (i:=a) ha hx hk (hf.imp id (fun c=>Nat.lt_trans c (by decide))) v;replace HS:Hid (∀ (W1:WL) (t1:NN),MM E X g (aC s l) W1 t1→Calls prog 117 #[.pointer (some (Ad ga (a*2))),.string (aD E u),vV v] W1 (MP E X g (bG (aC s l) a (cT (s.w.arrs.getD a []) (aD E u) v)) t1 W1 cR)):=HS;generalize bG (aC s l) a (cT (s.w.arrs.getD a []) (aD E u) v)=s2 at HS ⊢;generalize aD E u=tx at HP HK HS;unfold vV at HS HQ;generalize (v.kind:Int)=kk at HQ HS;generalize vN v=mm at HQ HS;generalize vS v=tt at HQ HS;clear h h1 k1 F1 l1 hb1 hx hk hf hn2 hs1;have hi':(a:Int)<s.w.arrs.length:=by omega
 go_enter func65,ntmps65;go_wp2_with fail;refine aY hm (by kernel_rfl) ?_
 repeat still_step
 refine wpStill_nil ?_;have F2:Fr [] W1 W1.drew:=(Fr.refl [] W1).drew;obtain⟨t2,h2,k2⟩:=MM.fr HM1.out.1 F2;have HM2:Hid _:=AI h2 (HM1.out.2.trans k2);have HK2:Hid _:=k2;clear h2 k2 F2;go_wp2_with fail;refine (HQ.out W1.drew t2 HM2.out.1).mono ?_;rintro e W3 ⟨rfl,t3,h3,k3⟩;have HM3:Hid _:=AI h3 (HM2.out.2.trans k3);have HK3:Hid _:=k3;clear h3 k3 HQ;obtain⟨W4,hW4,F4,c0,c1,c2,l4⟩:=bD W3 kk mm tt;obtain⟨t4,h4,k4,hb4⟩:=MM.box HM3.out.1 F4;have HX4:Hid _:=lY.mk l4 (hb4 _ (Nat.le_refl _)) c0 c1 c2;have HM4:Hid _:=AI h4 (HM3.out.2.trans k4);have HK4:Hid _:=k4;clear h4 k4 F4 hb4 l4;go_wp2_with fail;refine (HP.out W4 t4 HM4.out.1).mono ?_;rintro e W5 ⟨rfl,t5,h5,k5⟩;have HM5:Hid _:=AI h5 (HM4.out.2.trans k5);have HK5:Hid _:=k5;clear h5 k5 HP;have HK5':Hid _:=fun (_:Unit)=>HK.out W5 t5 HM5.out.1;have HX5:Hid _:=HX4.out.kp HK5.out;clear HX4 HK;go_wp2_with fail;refine (HK5'.out ()).mono ?_;rintro e W6 ⟨rfl,F6⟩;obtain⟨t6,h6,k6⟩:=MM.fr HM5.out.1 F6;have HM6:Hid _:=AI h6 (HM5.out.2.trans k6);have HK6:Hid _:=k6;clear h6 k6 F6;have HX6:=HX5.out.kp HK6.out;obtain⟨-,-,c0,c1,c2⟩:=HX6;clear HX5 HK5';go_wp2_with fail;refine (HS.out W6 t6 HM6.out.1).mono ?_;rintro e W7 ⟨rfl,t7,h7,k7⟩;have HM7:Hid _:=AI h7 (HM6.out.2.trans k7);have HK7:Hid _:=k7;clear h7 k7 HS;go_wp2_with fail;go_ret;exact⟨rfl,t7,HM7.out.1,HM7.out.2⟩
theorem MM.asetFull (hE:aU E)(h:MM E X g s W tag){l:List aJ}{u v:Val} (hs:s.fr.stk=l++[cv u,cv v]) (hl:s.fr.stk.length≤1024) (hu:SmV u) (hx:(aD E u).size≤1048576) {a:Nat} (ha:a<s.w.arrs.length) (hk:dO (s.w.arrs.getD a [])) (hn:s.w.arrs.length≤1000) (hh:bI (s.w.arrs.getD a []) (aD E u)=false) (hf:30≤(s.w.arrs.getD a []).length) (hn2:(s.w.arrs.getD a []).length≤100000) (pl b q:Int) :
  Calls prog 65 #[ptr X,fp g s,inV 12 pl (a:Nat) b q] W (MP E X g (aC s l) tag W (stI 7)):=by
 have hs1:s.fr.stk=(l++[cv u])++[cv v]:=by rw[hs];simp
 have hlu:(l++[cv u]).length≤1024:=by rw[hs] at hl;simp at hl ⊢;omega
 have hm:=hmX
 obtain⟨W1,hW1,F1,⟨b0,b1,b2,b3,b4⟩,l1⟩:=gG W 12 pl (a:Nat) b q;obtain⟨t1,h1,k1,hb1⟩:=MM.box h F1;obtain⟨ga,c,hg⟩:=h.avS ha;have HM1:Hid _:=AI h1 k1;have x9:=h1.avc;rw[hg] at x9;have HQ:Hid _:=fun (W1:WL) (t1:NN) (h1:MM E X g s W1 t1)=>MM.popV h1 hs1 hl;have HP:Hid _:=fun (W1:WL) (t1:NN) (h1:MM E X g (aC s (l++[cv u])) W1 t1)=>MM.popText hE h1 (l:=l) (v:=u) rfl hlu hu;have HK:Hid _:=fun (W1:WL) (t1:NN) (h1:MM E X g (aC s l) W1 t1)=>MM.takes h1 hg (i:=a) ha hx hk hn2;replace HK:Hid (∀ (W1:WL) (t1:NN),MM E X g (aC s l) W1 t1→Calls prog 115 #[.pointer (some (Ad ga (a*2))),.string (aD E u)] W1 fun e W'=>e=.returned (.bool false)∧Fr [] W1 W'):=by
  intro W1 t1 h1;have:=HK.out W1 t1 h1;have e:(bI ((aC s l).w.arrs.getD a []) (aD E u) || decide (((aC s l).w.arrs.getD a []).length<30))=false:=by
   rw[show bI ((aC s l).w.arrs.getD a []) (aD E u)=false from hh,show decide (((aC s l).w.arrs.getD a []).length<30)=false from decide_eq_false (by show ¬ (s.w.arrs.getD a []).length<30;omega)];rfl
  rw[e] at this;exact this
 generalize aD E u=tx at HP HK;unfold vV at  HQ;generalize (v.kind:Int)=kk at HQ;generalize vN v=mm at HQ;generalize vS v=tt at HQ;clear h h1 k1 F1 l1 hb1 hx hk hf hn2 hs1 hh;have hi':(a:Int)<s.w.arrs.length:=by omega
 go_enter func65,ntmps65;go_wp2_with fail;refine aY hm (by kernel_rfl) ?_
 repeat still_step
 refine wpStill_nil ?_;have F2:Fr [] W1 W1.drew:=(Fr.refl [] W1).drew;obtain⟨t2,h2,k2⟩:=MM.fr HM1.out.1 F2;have HM2:Hid _:=AI h2 (HM1.out.2.trans k2);have HK2:Hid _:=k2;clear h2 k2 F2;go_wp2_with fail;refine (HQ.out W1.drew t2 HM2.out.1).mono ?_;rintro e W3 ⟨rfl,t3,h3,k3⟩;have HM3:Hid _:=AI h3 (HM2.out.2.trans k3);have HK3:Hid _:=k3;clear h3 k3 HQ;obtain⟨W4,hW4,F4,c0,c1,c2,l4⟩:=bD W3 kk mm tt;obtain⟨t4,h4,k4,hb4⟩:=MM.box HM3.out.1 F4;have HX4:Hid _:=lY.mk l4 (hb4 _ (Nat.le_refl _)) c0 c1 c2;have HM4:Hid _:=AI h4 (HM3.out.2.trans k4);have HK4:Hid _:=k4;clear h4 k4 F4 hb4 l4;go_wp2_with fail;refine (HP.out W4 t4 HM4.out.1).mono ?_;rintro e W5 ⟨rfl,t5,h5,k5⟩;have HM5:Hid _:=AI h5 (HM4.out.2.trans k5);have HK5:Hid _:=k5;clear h5 k5 HP;have HK5':Hid _:=fun (_:Unit)=>HK.out W5 t5 HM5.out.1;have HX5:Hid _:=HX4.out.kp HK5.out;clear HX4 HK;go_wp2_with fail;refine (HK5'.out ()).mono ?_;rintro e W6 ⟨rfl,F6⟩;obtain⟨t6,h6,k6⟩:=MM.fr HM5.out.1 F6;have HM6:Hid _:=AI h6 (HM5.out.2.trans k6);have HK6:Hid _:=k6;clear h6 k6 F6;go_wp2_with fail;go_ret;exact⟨rfl,t6,HM6.out.1,HM6.out.2⟩
end
theorem fU {α β:Type}(f:α→β):∀ (l:List α) (j:Nat),(l.map f).eraseIdx j=(l.eraseIdx j).map f
 | [],_=>rfl
 | _ :: _,0=>rfl
 | a :: l,j+1=>by
  show f a :: (l.map f).eraseIdx j=f a :: (l.eraseIdx j).map f
  rw[fU f l j]
theorem tW {l:List (BA × Val)}{k:BA} (h:∀ e ∈ l,e.1≠k):gP l k=l:=by
 unfold gP;exact List.filter_eq_self.2 fun e he=>by simp[h e he]
theorem yU {l:List (BA × Val)}(hd:(aM l).Nodup){j:Nat}{k:BA}{u:Val} (h:l[j]?=some (k,u)):gP l k=l.eraseIdx j:=by
 induction l generalizing j with
 | nil=>simp at h
 | cons a l ih=>
  have hd':a.1 ∉ aM l∧(aM l).Nodup:=List.nodup_cons.1 hd;cases j with
  | zero=>
   have e:a=(k,u):=by simpa using h
   subst e;show List.filter _ _=l;rw[List.filter_cons_of_neg (by simp)];exact tW fun e he hk=>hd'.1 (List.mem_map.2 ⟨e,he,hk⟩)
  | succ j=>
   have h':l[j]?=some (k,u):=by simpa using h
   have hne:a.1≠k:=by
    rintro rfl;exact hd'.1 (List.mem_map.2 ⟨_,List.mem_of_getElem? h',rfl⟩)
   show List.filter _ _=a :: l.eraseIdx j;rw[List.filter_cons_of_pos (by simp[hne])];congr 1;exact ih hd'.2 h'
theorem aHs {l:List (BA × Val)}{k:BA} (h:bI l k=true):∃ (j:Nat) (u:Val),l[j]?=some (k,u):=by
 rw[kM] at h;obtain⟨e,he,rfl⟩:=List.mem_map.1 h;obtain⟨j,hj⟩:=List.mem_iff_getElem?.1 he;exact⟨j,e.2,hj⟩
theorem aFy {W:WL}{b:Nat}{l:List (BA × Val)} (hm:dV W b (cY l)) (hd:(aM l).Nodup) (hs:∀ e ∈ l,e.1.size≤1048576) {key:BA} (hk:key.size≤1048576) (ty:TypeId) :
  ∃ es' clock',(Builtin.delete_ #[88,9] ty #[.map (some b),.string key]).run prog W=.ok (.tuple #[]) (eQ W b (.map es' clock'))∧es'.toList.map (fun e=>(e.key,e.val))=cY (gP l key):=by
 obtain⟨es,clock,hb,he⟩:=hm;have K:=WideMaps.string_law (P:=prog) (k:=9) underlying9;have hkey:=WideMaps.keyOf_string_mk (P:=prog) (k:=9) underlying9 (s:=key) (Nat.le_trans hk (by decide));have hmem:∀ e ∈ es.toList,∃ x ∈ l,e.key=.string x.1∧e.val=vV x.2:=fun e hx=>by
  have:(e.key,e.val) ∈ cY l:=by rw[← he];exact List.mem_map.2 ⟨e,hx,rfl⟩
  obtain⟨x,hx,h⟩:=List.mem_map.1 this;injection h with h1 h2;exact⟨x,hx,h1.symm,h2.symm⟩
 rcases K.find W hkey es.toList (fun e hx=>by
  obtain⟨x,hx,h1,-⟩:=hmem e hx;rw[h1];exact⟨_,WideMaps.keyOf_string_mk (P:=prog) (k:=9) underlying9 (Nat.le_trans (hs x hx) (by decide))⟩) with ⟨h1,h2⟩ | ⟨j,e0,h1,h2,h3⟩
 ·refine⟨es,clock,?_,?_⟩
  ·simp[Builtin.delete_,run_underlying underlying88,MapKept.run_getObj_map hb,K.check W _ hkey,h1,MapKept.run_setObj_map _ hb,Result.andThen,eQ]
  rw[tW (fun x hx hxk=>by
   have:((.string x.1:Value),vV x.2) ∈ cY l:=List.mem_map.2 ⟨x,hx,rfl⟩;rw[← he] at this;obtain⟨e,hx',h⟩:=List.mem_map.1 this;injection h with q1 q2;exact h2 e hx' (by rw[q1,hxk])),he]
 have:(cY l)[j]?=some (e0.key,e0.val):=by rw[← he,List.getElem?_map,h2];rfl
 rw[cY,List.getElem?_map] at this;obtain⟨x,hx,h⟩:=Option.map_eq_some_iff.1 this;obtain⟨q1,q2⟩:=Prod.mk.inj h;have hxk:x.1=key:=Value.string.inj (q1.trans h3);have hjs:j<es.size:=by simpa using (Lgs.1 h2).1
 refine⟨es.eraseIdxIfInBounds j,clock,?_,?_⟩
 ·simp[Builtin.delete_,run_underlying underlying88,MapKept.run_getObj_map hb,K.check W _ hkey,h1,MapKept.run_setObj_map _ hb,Result.andThen,eQ]
 have hsub:(es.eraseIdxIfInBounds j).toList=es.toList.eraseIdx j:=by
  unfold Array.eraseIdxIfInBounds;rw[dif_pos hjs];simp
 rw[yU hd (j:=j) (u:=x.2) (by rw[hx,← hxk]),hsub];unfold cY;rw[← fU,← fU,he];rfl
theorem aAu {B:Nat}{e:TypeId}{z g n cap:Nat}:∀ (us:LV) (o:Nat) (w:WL) (xs:LV),w.ownsRow B e z (.slice (some (Ad g 0)) n cap) n xs→o+us.length=n*z →
  (w.setCells g o us).ownsRow B e z (.slice (some (Ad g 0)) n cap) n (xs.take o++us)
 | [],o,w,xs,h,ho=>by
  have:=h.1
  simp only[List.length_nil,Nat.add_zero] at ho
  rw[List.append_nil,List.take_of_length_le (by omega)]
  exact h
 | u :: us,o,w,xs,h,ho=>by
  have hx:=h.1
  simp only[List.length_cons] at ho
  have h1:=nH h (j:=o) (by omega) u
  have h2:=aAu us (o+1) _ _ h1 (by omega)
  have e1:(xs.set o u).take (o+1)++us=xs.take o++u :: us:=by
   rw[List.take_set,List.take_succ_eq_append_getElem (by omega:o<xs.length),List.set_append_right _ _ (by simp;omega)]
   simp[Nat.min_eq_left (show o≤xs.length by omega)]
  rw[e1] at h2
  exact h2
theorem Chg.setCells {tag:NN}{S:LN}{b:Nat} (hb:tag b ∈ S):∀ (us:LV) (o:Nat) (W:WL),Chg tag S W (W.setCells b o us)
 | [],o,W=>Chg.refl tag S W
 | u :: us,o,W=>by
  have h1:Chg tag S W (W.setCell ⟨b,o,none⟩ u):=Chg.setCell W hb u
  have h2:=Chg.setCells hb us (o+1) (W.setCell ⟨b,o,none⟩ u)
  exact⟨h2.os.trans h1.os,h2.tape.trans h1.tape,h2.output.trans h1.output,Nat.le_trans h1.size h2.size,fun k hk hn=>(h2.block k (Nll hk h1.size) hn).trans (h1.block k hk hn)⟩
theorem aJy {l:LY}(hd:l.Nodup){j k:Nat}{x:BA} (hj:l[j]?=some x) (hk:l[k]?=some x):j=k:=by
 obtain⟨h1,e1⟩:=Lgs.1 hj;obtain⟨h2,e2⟩:=Lgs.1 hk;have hp:=List.pairwise_iff_getElem.1 hd;rcases Nat.lt_trichotomy j k with c | c | c
 ·exact absurd (e1.trans e2.symm) (hp j k h1 h2 c)
 ·exact c
 exact absurd (e2.trans e1.symm) (hp k j h2 h1 c)
theorem aEt {l:List (BA × Val)}(hd:(aM l).Nodup){j:Nat}{k:BA}{u:Val} (h:l[j]?=some (k,u)) :
  ((((Lib.strsOf (fun i=>(aM l).getD i ByteArray.empty) l.length).take j++(Lib.strsOf (fun i=>(aM l).getD i ByteArray.empty) l.length).drop (j+1)++List.replicate (j+1-j) []).map encStr).take (l.length-1))=(aM (gP l k)).map Value.string:=by
 have hj:=(Lgs.1 h).1;have hl:(aM l).length=l.length:=List.length_map _;have e0:(Lib.strsOf (fun i=>(aM l).getD i ByteArray.empty) l.length).map encStr=(aM l).map Value.string:=by
  apply List.ext_getElem
  ·simp[Lib.strsOf,aM]
  intro i h1 h2;have hi:i<(aM l).length:=by simpa using h2
  simp[Lib.strsOf,encStr,List.getD_eq_getElem?_getD,Lge hi]
 rw[yU hd h,List.map_append,List.map_append,List.map_take,List.map_drop,e0];have e1:aM (l.eraseIdx j)=(aM l).eraseIdx j:=by unfold aM;rw[fU]
 rw[e1,← fU,List.eraseIdx_eq_take_drop_succ,List.take_append_of_le_length (by simp[hl];omega)];exact List.take_of_length_le (by simp[hl];omega)
section
variable {W:WL}{tag:NN}{lv:Nat→Bool}{R:Nat→Rw}{mp:Nat→Option (Nat × List (Value × Value))}
def aYi (W:WL) (tag:NN) (lv:Nat→Bool) (R:Nat→Rw) (mp:Nat→Option (Nat × List (Value × Value))) (i ga n cap b:Nat) (xs:LV) (l:List (BA × Val)) (key:BA) (e:Ending) (W':WL):Prop:=
 e=.returned cR∧∃ tag' sv',Sto W' tag' lv (up (up R (21+2*i) ⟨sv',9,1,l.length-1,(aM (gP l key)).map .string⟩) 13 ⟨.slice (some ⟨ga,0,none⟩) n cap,90,2,n,xs.set (i*2+1) sv'⟩) (up mp (20+2*i) (some (b,cY (gP l key))))∧Kp tag tag' W W'
theorem aSj (hS:Sto W tag lv R mp){i ga n cap b:Nat}{xs:LV}{sv:Value}{l:List (BA × Val)} (l13:lv 13=true) (r13:R 13=⟨.slice (some (Ad ga 0)) n cap,90,2,n,xs⟩) (hin:i<n) (hn:n≤1000) (lm:lv (21+2*i)=true) (rm:R (21+2*i)=⟨sv,9,1,l.length,(aM l).map .string⟩) (hx0:xs[i*2]?=some (.map (some b))) (hx1:xs[i*2+1]?=some sv) (hmp:mp (20+2*i)=some (b,cY l)) (hh:l.length≤100000) (hd:dO l) {key:BA} (hk:key.size≤1048576) (hno:bI l key=true) {W1:WL} (F:Fr [] W W1) :
  ∃ go sc j W2,j<l.length∧(Builtin.delete_ #[88,9] 0 #[.map (some b),.string key]).run prog W1=.ok (.tuple #[]) W2∧W1.cell? (Ad ga (i*2))=some (.map (some b))∧W2.cell? (Ad ga (i*2+1))=some (.slice (some (Ad go 0)) l.length sc) ∧
   Calls prog 156 #[.slice (some (Ad go 0)) l.length sc,.string key] W2 (fun e W'=>e=.returned (iA (j:Nat))∧W'=W2) ∧
   Calls prog 157 #[.slice (some (Ad go 0)) l.length sc,iA (j:Nat),iA ((j:Int)+1)] W2 (fun e W3=>e=.returned (.slice (some (Ad go 0)) (l.length-1:Nat) sc)∧W3.cell? (Ad ga (i*2+1))=some (.slice (some (Ad go 0)) l.length sc)∧W3.frozen? (Ad ga (i*2+1))=false∧aYi W tag lv R mp i ga n cap b xs l key (.returned cR) (W3.setCell ⟨ga,i*2+1,none⟩ (.slice (some ⟨go,0,none⟩) (l.length-1:Nat) sc))):=by
 obtain⟨j,u,hj⟩:=aHs hno;have hjl:=(Lgs.1 hj).1;obtain⟨hm,tb⟩:=hS.maps _ _ _ hmp;have S1:=hS.frm F 6;have K1:Kp tag (aR tag W.heap.size 6) W W1:=Kp.new F 6;obtain⟨hm1,tb1⟩:=S1.maps _ _ _ hmp;obtain⟨es',clock',hdl,hel⟩:=aFy hm1 hd.1 hd.2 hk 0;have o13:W1.ownsRow 0 90 2 (.slice (some (Ad ga 0)) n cap) n xs:=by have:=(S1.rows 13 l13).1;rw[r13] at this;exact this
 have hlf:lv (20+2*i)=false:=by
  rcases hq:lv (20+2*i) with _ | _
  ·rfl
  have:=hS.far _ hq;rw[hmp] at this;cases this
 have c1:Chg (aR tag W.heap.size 6) [20+2*i] W1 (eQ W1 b (.map es' clock')):=by rw[← tb1];exact sC W1 _ _
 have S2:=S1.map (b:=b) (l:=cY (gP l key)) hlf (by omega) c1 (fun _ _=>rfl) ⟨es',clock',pK W1 _ hm1.lt,hel⟩ tb1;have K2:=K1.trans (Kp.chg c1 (fun _ _=>rfl) (by simp;omega));generalize hW2:eQ W1 b (.map es' clock')=W2 at *;have om:W2.ownsRow 0 9 1 sv l.length ((aM l).map .string):=by have:=(S2.rows _ lm).1;rw[rm] at this;exact this
 have tm:Tg (aR tag W.heap.size 6) sv (21+2*i):=by have:=(S2.rows _ lm).2;rw[rm] at this;exact this
 obtain⟨go,sc,rfl,hsc,hgo⟩:=fR om (by omega);have o13':W2.ownsRow 0 90 2 (.slice (some (Ad ga 0)) n cap) n xs:=by have:=(S2.rows 13 l13).1;rw[r13] at this;exact this
 have hcell:∀ q,q<l.length→W2.cell? (Ad go q)=some (.string ((aM l).getD q ByteArray.empty)):=fun q hq=>by
  have hq':q<(aM l).length:=by unfold aM;rw[List.length_map];exact hq
  refine aF om ?_;rw[List.getElem?_map,Lge hq',List.getD_eq_getElem?_getD,Lge hq'];rfl
 have hkl:(aM l).length=l.length:=List.length_map _;have hjk:(aM l)[j]?=some key:=by unfold aM;rw[List.getElem?_map,hj];rfl
 have hix:Lib.idxOfS ((aM l).take l.length) key=(j:Nat):=by
  rw[List.take_of_length_le (by omega)];have:=Lib.idxFromS_hit key (aM l) j 0 (by omega) (by rw[List.getD_eq_getElem?_getD,hjk];rfl) (fun q hq hqk=>by
   have hq':q<(aM l).length:=by omega
   rw[List.getD_eq_getElem?_getD,Lge hq'] at hqk;have hqk':(aM l)[q]?=some key:=by rw[Lge hq'];exact congrArg some hqk
   have:=aJy hd.1 hjk hqk';omega)
  unfold Lib.idxOfS;rw[this];simp
 have I:=slices_Index_string go 0 l.length sc (aM l) key W2 (by omega) (by omega) (fun q hq=>by rw[Nat.zero_add];exact hcell q (by omega));rw[hix] at I;have hcap:sc≤9223372036854775807:=by
  rcases om.2 with ⟨h',_⟩ | ⟨g',cap',cur,h',hb,hg,hnc,hcm,hcs,ht⟩
  ·cases h'
  simp only[Value.slice.injEq,Option.some.injEq,Addr.mk.injEq,and_true,true_and] at h';obtain⟨rfl,rfl⟩:=h';have:=hcm;unfold maxLen at this;omega
 have D:=slices_Delete_string_cells go 0 l.length sc j (j+1) (fun q=>(aM l).getD q ByteArray.empty) W2 hsc hcap (by omega) (by omega) (fun q hq=>by rw[Nat.zero_add];exact hcell q hq) (fun q hq=>bB om _);refine⟨go,sc,j,W2,hjl,hdl,aF o13 hx0,aF o13' hx1,I,?_⟩;refine D.mono ?_;rintro e W3 ⟨rfl,q,rfl⟩;have F3:Fr [] W2 (W2.drewN q):=(Fr.refl [] W2).drewN q;have S3:=S2.kp (tag':=aR tag W.heap.size 6) F3 (fun _ _=>rfl);have om3:(W2.drewN q).ownsRow 0 9 1 (.slice (some (Ad go 0)) l.length sc) l.length ((aM l).map .string):=by have:=(S3.rows _ lm).1;rw[rm] at this;exact this
 have tgo:aR tag W.heap.size 6 go=21+2*i:=tm go rfl;have hod:=aEt hd.1 hj;have hul:(((Lib.strsOf (fun i=>(aM l).getD i ByteArray.empty) l.length).take j++(Lib.strsOf (fun i=>(aM l).getD i ByteArray.empty) l.length).drop (j+1)++List.replicate (j+1-j) []).map encStr).length=l.length:=by
  have:=Lib.strsOf_length (fun i=>(aM l).getD i ByteArray.empty) l.length;generalize Lib.strsOf (fun i=>(aM l).getD i ByteArray.empty) l.length=q at this;simp;omega
 generalize ((Lib.strsOf (fun i=>(aM l).getD i ByteArray.empty) l.length).take j++(Lib.strsOf (fun i=>(aM l).getD i ByteArray.empty) l.length).drop (j+1)++List.replicate (j+1-j) []).map encStr=us at *;have o4:=aAu us 0 _ _ om3 (by omega);rw[List.take_zero,List.nil_append] at o4;have c4:Chg (aR tag W.heap.size 6) [21+2*i] (W2.drewN q) ((W2.drewN q).setCells go 0 us):=Chg.setCells (by rw[tgo];simp) us 0 _;have hfar:up mp (20+2*i) (some (b,cY (gP l key))) (21+2*i)=none:=by rw[aE _ _ (by omega)];exact hS.far _ lm
 have S4:=S3.turn (i:=21+2*i) (tag':=aR tag W.heap.size 6) hfar (by omega) c4 (fun _ _=>rfl) (r:=⟨.slice (some (Ad go 0)) l.length sc,9,1,l.length,us⟩) o4 tm;rw[lJ lm] at S4;have S5:=S4.cut (i:=21+2*i) (n':=l.length-1) lm (aG _ _ _) (by omega);rw[xF,Nat.mul_one,hod] at S5;have r13':up R (21+2*i) ⟨.slice (some (Ad go 0)) (l.length-1:Nat) sc,9,1,l.length-1,(aM (gP l key)).map .string⟩ 13=⟨.slice (some (Ad ga 0)) n cap,90,2,n,xs⟩:=by rw[aE _ _ (by omega)];exact r13
 obtain⟨S6,K6⟩:=S5.put l13 r13' (j:=i*2+1) (by omega) (.slice (some (Ad go 0)) (l.length-1:Nat) sc);have o5:((W2.drewN q).setCells go 0 us).ownsRow 0 90 2 (.slice (some (Ad ga 0)) n cap) n xs:=by have:=(S5.rows 13 l13).1;rw[r13'] at this;exact this
 refine⟨by rw[show l.length-(j+1-j)=l.length-1 by omega],aF o5 hx1,bB o5 _,rfl,_,_,S6,?_⟩;exact ((K2.trans (Kp.of_fr F3 fun _ _=>rfl)).trans (Kp.chg c4 (fun _ _=>rfl) (by simp;omega))).trans K6
theorem aSl (hS:Sto W tag lv R mp){i ga n cap b:Nat}{xs:LV}{sv:Value}{l:List (BA × Val)} (l13:lv 13=true) (r13:R 13=⟨.slice (some (Ad ga 0)) n cap,90,2,n,xs⟩) (hin:i<n) (hn:n≤1000) (lm:lv (21+2*i)=true) (rm:R (21+2*i)=⟨sv,9,1,l.length,(aM l).map .string⟩) (hx0:xs[i*2]?=some (.map (some b))) (hx1:xs[i*2+1]?=some sv) (hmp:mp (20+2*i)=some (b,cY l)) (hh:l.length≤100000) (hd:dO l) {key:BA} (hk:key.size≤1048576) (hno:bI l key=true) :
  Calls prog 120 #[.pointer (some (Ad ga (i*2))),.string key] W (aYi W tag lv R mp i ga n cap b xs l key):=by
 have o13:W.ownsRow 0 90 2 (.slice (some (Ad ga 0)) n cap) n xs:=by have:=(hS.rows 13 l13).1;rw[r13] at this;exact this
 have hgl:ga<W.heap.size:=(o13.lt ga rfl).2;obtain⟨hm,tb⟩:=hS.maps _ _ _ hmp;have HH:Hid _:=fun (_:Unit)=>gV ga (i*2) b key W (aF o13 hx0) hm hd.1 hd.2 hk;rw[hno] at HH;have HG:Hid _:=fun (W1:WL) (F:Fr [] W W1)=>aSj hS l13 r13 hin hn lm rm hx0 hx1 hmp hh hd hk hno F;generalize hP:aYi W tag lv R mp i ga n cap b xs l key=PP at HG ⊢;generalize hL:l.length=L at HG hh;clear hS l13 r13 lm rm hx0 hx1 hmp hd hno o13 hm tb hgl hP hL;go_enter func120,ntmps120;go_wp2_with fail;refine (HH.out ()).mono ?_;rintro e W1 ⟨rfl,F1⟩;obtain⟨go,sc,j,W2,hj,hdl,c0,c1,HI,HD⟩:=HG.out W1 F1;have hI:Hid _:=fun (_:Unit)=>HI;have hD:Hid _:=fun (_:Unit)=>HD;have hw:IntKind.i64.wrap ((j:Int)+1)=(j:Int)+1:=by rw[IntKind.wrap_i64];omega
 clear HI HD HG HH F1;go_wp2_with fail;refine (hI.out ()).mono ?_;rintro e W3 ⟨rfl,rfl⟩;clear hI;go_wp2_with fail;refine (hD.out ()).mono ?_;rintro e W4 ⟨rfl,c4,z4,hP⟩;have HP:Hid _:=hP;clear hP hD;go_wp2_with fail;refine bodyPost_end (results_none rfl _ _ _) rfl ?_;exact HP.out
end
section
variable {E:Env}{X:Nat}{g:Pl}{s:Ms}{W W':WL}{tag:NN}
theorem aEu (s:Ms)(i:Nat):bG s i (s.w.arrs.getD i [])=s:=by
 have e:s.w.arrs.set i (s.w.arrs.getD i [])=s.w.arrs:=by
  rcases Nat.lt_or_ge i s.w.arrs.length with c | c
  ·rw[List.getD_eq_getElem?_getD,Lge c];exact List.set_getElem_self c
  exact List.set_eq_of_length_le c
 unfold bG;rw[e]
theorem aLj {l:List (BA × Val)}{k:BA} (hd:dO l) (h:bI l k=true):(gP l k).length=l.length-1:=by
 obtain⟨j,u,hj⟩:=aHs h;rw[yU hd.1 hj,List.length_eraseIdx,if_pos (Lgs.1 hj).1]
theorem aFx {l:List (BA × Val)}{k:BA} (h:bI l k=false):gP l k=l:=tW fun e he hk=>by
 have:bI l k=true:=kM.2 (List.mem_map.2 ⟨e,he,hk⟩)
 rw[this] at h
 cases h
theorem aSk (A o b:Nat){l:List (BA × Val)}(key:BA)(W:WL)(h0:W.cell? (Ad A o)=some (.map (some b)))(hm:dV W b (cY l))(hd:dO l)(hk:key.size≤1048576)(hh:bI l key=false) :
  Calls prog 120 #[.pointer (some (Ad A o)),.string key] W fun e W'=>e=.returned cR∧Fr [] W W':=by
 have HH:Hid _:=fun (_:Unit)=>gV A o b key W h0 hm hd.1 hd.2 hk;rw[hh] at HH;clear hm hd h0 hh;go_enter func120,ntmps120;go_wp2_with fail;refine (HH.out ()).mono ?_;rintro e W1 ⟨rfl,F1⟩;have HF:Hid _:=F1;clear F1 HH;go_wp2_with fail;refine bodyPost_ret (results_none rfl _ _ _) rfl ?_;exact⟨rfl,HF.out⟩
theorem MM.remove (h:MM E X g s W tag){ga c:Nat}(hg:g.av=.slice (some (Ad ga 0)) s.w.arrs.length c){i:Nat}(hi:i<s.w.arrs.length){key:BA}(hk:key.size≤1048576)(ho:dO (s.w.arrs.getD i []))(hf:(s.w.arrs.getD i []).length≤100000) :
  Calls prog 120 #[.pointer (some (Ad ga (i*2))),.string key] W (MP E X g (bG s i (gP (s.w.arrs.getD i []) key)) tag W cR):=by
 rcases hh:bI (s.w.arrs.getD i []) key with _ | _
 ·rw[aFx hh,aEu];obtain⟨b,ov,c0,c1,hm,ow⟩:=h.arrAt hg hi;refine (aSk ga (i*2) b key W c0 hm ho hk hh).mono fun e W' ⟨he,F⟩=>?_;obtain⟨t',h',k'⟩:=h.fr F;exact⟨he,t',h',k'⟩
 obtain⟨h6,lv,R,mp,x,hx,h⟩:=h;have r13:=h.rA;rw[hx.2,hg] at r13;have e:=fun t (ht:t<2)=>dC (n:=s.w.arrs.length) (z:=2) (f:=fun i=>[Value.map (some (x.A i).1),(x.A i).2]) (fun _ _=>rfl) hi ht;obtain⟨a1,a2,a3⟩:=h.arr i hi;refine (aSl h.S h.lA r13 hi h.nA a2 a3 ((e 0 (by decide)).trans rfl) ((e 1 (by decide)).trans rfl) a1 hf ho hk hh).mono fun ee W' ⟨he,t',sv',S,K⟩=>⟨he,t',⟨Nat.le_trans h6 K.size,lv,_,_,onA x i ((x.A i).1,sv'),hx,h.rearr h6 hi (l:=gP (s.w.arrs.getD i []) key) K S ?_ ?_ ?_ ?_ ?_⟩,K⟩
 ·rw[aG,hx.2,hg]
 ·rw[aE _ _ (by omega),aG,aLj ho hh]
 ·intro q h1 h2;rw[aE _ _ h1,aE _ _ h2]
 ·exact aG _ _ _
 intro q h1;exact aE _ _ h1
theorem MM.adel (hE:aU E)(h:MM E X g s W tag){l:List aJ}{v:Val} (hs:s.fr.stk=l++[cv v]) (hl:s.fr.stk.length≤1024) (hv:SmV v) (hx:(aD E v).size≤1048576) {a:Nat} (ha:a<s.w.arrs.length) (hk:dO (s.w.arrs.getD a [])) (hn:s.w.arrs.length≤1000) (hn2:(s.w.arrs.getD a []).length≤100000) (pl b q:Int) :
  Calls prog 65 #[ptr X,fp g s,inV 14 pl (a:Nat) b q] W (MP E X g (bG (aC s l) a (gP (s.w.arrs.getD a []) (aD E v))) tag W (stI 0)):=by
 have hm:=hmX
 obtain⟨W1,hW1,F1,⟨b0,b1,b2,b3,b4⟩,l1⟩:=gG W 14 pl (a:Nat) b q;obtain⟨t1,h1,k1,hb1⟩:=MM.box h F1;obtain⟨ga,c,hg⟩:=h.avS ha;have HM1:Hid _:=AI h1 k1;have x9:=h1.avc;rw[hg] at x9;have HP:Hid _:=fun (W1:WL) (t1:NN) (h1:MM E X g s W1 t1)=>MM.popText hE h1 hs hl hv;have HH:Hid _:=fun (W1:WL) (t1:NN) (h1:MM E X g (aC s l) W1 t1)=>MM.remove h1 hg (i:=a) ha hx hk hn2;replace HH:Hid (∀ (W1:WL) (t1:NN),MM E X g (aC s l) W1 t1→Calls prog 120 #[.pointer (some (Ad ga (a*2))),.string (aD E v)] W1 (MP E X g (bG (aC s l) a (gP (s.w.arrs.getD a []) (aD E v))) t1 W1 cR)):=HH;generalize bG (aC s l) a (gP (s.w.arrs.getD a []) (aD E v))=s2 at HH ⊢;generalize aD E v=tx at HP HH;clear h h1 k1 F1 l1 hb1 hx hk hn2;have hi':(a:Int)<s.w.arrs.length:=by omega
 go_enter func65,ntmps65;go_wp2_with fail;refine aY hm (by kernel_rfl) ?_
 repeat still_step
 refine wpStill_nil ?_;have F2:Fr [] W1 W1.drew:=(Fr.refl [] W1).drew;obtain⟨t2,h2,k2⟩:=MM.fr HM1.out.1 F2;have HM2:Hid _:=AI h2 (HM1.out.2.trans k2);have HK2:Hid _:=k2;clear h2 k2 F2;go_wp2_with fail;refine (HP.out W1.drew t2 HM2.out.1).mono ?_;rintro e W3 ⟨rfl,t3,h3,k3⟩;have HM3:Hid _:=AI h3 (HM2.out.2.trans k3);have HK3:Hid _:=k3;clear h3 k3 HP;go_wp2_with fail;refine (HH.out W3 t3 HM3.out.1).mono ?_;rintro e W4 ⟨rfl,t4,h4,k4⟩;have HM4:Hid _:=AI h4 (HM3.out.2.trans k4);have HK4:Hid _:=k4;clear h4 k4 HH;go_wp2_with fail;go_ret;exact⟨rfl,t4,HM4.out.1,HM4.out.2⟩
end
theorem RoL.of_own {W:WL}{tag:NN}{B n:Nat}{e:TypeId}{v:Value}{xs:LV} (h:W.ownsRow B e 1 v n xs) (ht:∀ g,B≤g→g<W.heap.size→tag g=9):RoL W tag v xs:=by
 have hl:=h.1;rw[Nat.mul_one] at hl;rcases h.2 with ⟨rfl,rfl⟩ | ⟨g,cap,cur,rfl,hb,hg,hnc,hcm,hcs,hx⟩
 ·exact⟨none,0,by rw[hl],by omega,by omega,fun h0=>by omega⟩
 have hgl:=(Age.1 hg).1;refine⟨some (Ad g 0),cap,by rw[hl],by omega,by unfold maxLen at hcm;omega,fun h0=>⟨g,0,rfl,hgl,ht g hb hgl,fun i x hi=>?_⟩⟩;rw[Nat.zero_add];exact aF h hi
theorem aBy (A o:Nat){sv:Value}{L:LY} (W:WL) (h1:W.cell? (Ad A (o+1))=some sv) (ow:W.ownsRow 0 9 1 sv L.length (L.map .string)) (hn:L.length≤100000) :
  Calls prog 61 #[.pointer (some (Ad A o))] W fun e W'=>∃ v',e=.returned v'∧Fr [] W W'∧W'.ownsRow W.heap.size 9 1 v' L.length (L.map .string):=by
 have HC:Hid (Unit→Calls prog 103 #[sv] W fun e W'=>∃ v',e=.returned v'∧Fr [] W W'∧W'.ownsRow W.heap.size 9 1 v' L.length (L.map .string)):=fun _=>by
  rcases ow.2 with ⟨rfl,h0⟩ | ⟨g,cap,cur,rfl,hb,hg,hnc,hcm,hcs,hx⟩
  ·refine (slices_Clone_string_nil 0 0 W).mono ?_;rintro e W' ⟨rfl,rfl⟩;have:L=[]:=by simpa using h0
   subst this;exact⟨_,rfl,Fr.refl [] _,rfl,.inl ⟨rfl,rfl⟩⟩
  have hcell:∀ q,q<L.length→W.cell? (Ad g (0+q))=some (.string (L.getD q ByteArray.empty)):=fun q hq=>by
   rw[Nat.zero_add];refine aF ow ?_;rw[List.getElem?_map,Lge hq,List.getD_eq_getElem?_getD,Lge hq];rfl
  refine (slices_Clone_string g 0 L.length cap L W (Nat.le_refl _) (by omega) hcell).mono ?_;rintro e W' ⟨v',rfl,hown,-,hB⟩;rw[List.take_of_length_le (Nat.le_refl _)] at hown;exact⟨v',rfl,Fr.of_below hB,hown⟩
 obtain⟨so,sc,rfl⟩:=bF ow;clear ow;generalize L.length=n at HC h1 hn ⊢;generalize L.map Value.string=xs at HC ⊢;go_enter func61,ntmps61;go_wp2_with fail;refine (HC.out ()).mono ?_;rintro e W2 ⟨v',rfl,F,ow⟩;obtain⟨vo,vc,rfl⟩:=bF ow;have HF:Hid _:=AI F ow;clear F ow HC;go_wp2_with fail;go_ret;exact⟨_,rfl,HF.out.1,HF.out.2⟩
section
variable {E:Env}{X:Nat}{g:Pl}{s:Ms}{W W':WL}{tag tag':NN}
theorem MR.norm {lv:Nat→Bool}{R:Nat→Rw}{mp:Nat→Option (Nat × List (Value × Value))}{x:Mx} (h:MR E X g.g s W tag lv R mp x):MR E X g.g s W tag lv R (fun q=>if q<5000 then mp q else none) x:=by
 refine { h with S:=⟨h.S.rows,fun i b l hm=>?_,fun i hi=>?_,fun i hi=>?_⟩,arr:=fun i hi=>?_ }
 ·split at hm
  ·exact h.S.maps i b l hm
  cases hm
 ·show (if i<5000 then mp i else none)=none;split
  ·exact h.S.far i hi
  rfl
 ·refine h.S.num i (hi.imp id fun c=>?_);intro hc;apply c;show (if i<5000 then mp i else none)=none;split
  ·exact hc
  rfl
 have:=h.nA;obtain⟨a,b,c⟩:=h.arr i hi;refine⟨?_,b,c⟩;show (if 20+2*i<5000 then mp (20+2*i) else none)=_;rw[if_pos (by omega)];exact a
theorem aTt (h:MM E X g s W tag)(hl:s.fr.stk.length<1024){ga c:Nat}(hg:g.av=.slice (some (Ad ga 0)) s.w.arrs.length c){i:Nat}(hi:i<s.w.arrs.length){W1:WL}(F1:Fr [] W W1){v':Value}{L:LY} (ow:W1.ownsRow W.heap.size 9 1 v' L.length (L.map .string)) :
  Calls prog 122 #[fp g s,ptr W1.heap.size] (W1.alloc (.cells #[.pointer (some (Ad ga (i*2))),v'] 199)) (MP E X g (aC s (s.fr.stk++[⟨true,nothing,i,L⟩])) tag W cR):=by
 obtain⟨h6,lv,R,mp,x,hx,h⟩:=h;replace h:=h.norm;generalize hmp:(fun q=>if q<5000 then mp q else none)=mp' at h;have hnone:mp' (10000+1024*s.low.length+s.fr.stk.length)=none:=by
  rw[← hmp];show (if _<5000 then _ else _)=_;rw[if_neg (by omega)]
 obtain⟨⟨cap,r11,hv⟩,lm,rm,hxx⟩:=h.top;have hn:=h.nF;have S1:=h.S.frm F1 9;have K1:Kp tag (aR tag W.heap.size 9) W W1:=Kp.new F1 9;have hnew:=wan W1 (.cells #[.pointer (some (Ad ga (i*2))),v'] 199);have F2:Fr [] W1 (W1.alloc (.cells #[.pointer (some (Ad ga (i*2))),v'] 199)):=(Fr.refl [] W1).alloc _;generalize W1.alloc (.cells #[.pointer (some (Ad ga (i*2))),v'] 199)=W2 at hnew F2 ⊢;obtain⟨S2,K2⟩:=S1.new (i:=10000+1024*s.low.length+s.fr.stk.length) (r:=⟨.slice (some (Ad W1.heap.size 0)) 1 1,199,2,1,[.pointer (some (Ad ga (i*2))),v']⟩) hnone (by omega) F2 (pL hnew rfl) (fun q hq=>by
  have:W1.heap.size=q:=by simpa [Value.ownBlock] using hq
  omega)
 have hro:RoL W1 (aR tag W.heap.size 9) v' (L.map .string):=RoL.of_own ow fun q hq _=>dK hq;refine (L9 S2 (m:=5000+s.low.length) (k:=s.low.length) (g:=g.g) (n:=s.low.length+1) (cap:=cap) (h:=s.fr.stk.length) (ys:=mZ (x.F s.low.length).pw s.fr.stk) (sv:=(x.F s.low.length).sv) (by rw[aE _ _ (by omega)];exact h.lF) (by rw[aE _ _ (by omega)];exact r11) (Nat.lt_succ_self _) (by omega) (by rw[aE _ _ (by omega)];exact lm) (by rw[aE _ _ (by omega)];exact rm) hxx (by omega) W1.heap.size).mono fun e W' ⟨he,tag',sv',hS,k⟩=>?_;have K:=(K1.trans K2).trans k;refine⟨he,tag',⟨Nat.le_trans h6 K.size,_,_,mp',onF x s.low.length _,hx,h.restack h6 (l:=s.fr.stk++[⟨true,nothing,i,L⟩]) (pw:=up (x.F s.low.length).pw s.fr.stk.length W1.heap.size) (sv:=sv') K hS ?_ ?_ ?_ ?_ ?_⟩,K⟩
 ·intro q hq;by_cases e:q=10000+1024*s.low.length+s.fr.stk.length
  ·rw[e,aG]
  rw[aE _ _ e];exact hq
 ·rw[aG,hv]
 ·rw[aE _ _ (by omega),aG,jW,aG,aSb (pw:=(x.F s.low.length).pw) (fun j hj=>aE _ _ (by omega)),Lla];rfl
 ·intro q h1 h2 h3;rw[aE _ _ h1,aE _ _ h2,aE _ _ (by omega)]
 intro j c hj hc;rcases Nat.lt_or_ge j s.fr.stk.length with c1 | c1
 ·rw[List.getElem?_append_left c1] at hj;obtain⟨w1,w2,w3,ga',ca,lf,w4,w5,w6⟩:=h.wlk s.low.length j c (Nat.le_refl _) (by rw[cQ];exact hj) hc;refine⟨w1,w2,?_,ga',ca,lf,w4,?_,w6.kp K⟩
  ·rw[aE _ _ (by omega)];exact w3
  rw[aE _ _ (by omega),aE _ _ (by omega),aE _ _ (by omega),aE _ _ (by omega)];exact w5
 rw[List.getElem?_append_right c1] at hj;have e0:j=s.fr.stk.length:=by
  rcases e:j-s.fr.stk.length with _ | q
  ·omega
  rw[e] at hj;simp at hj
 subst e0;have:c=⟨true,nothing,i,L⟩:=by simpa using hj.symm
 subst this;refine⟨hl,hi,aG _ _ _,ga,_,v',hx.2.trans hg,?_,hro.kp (K2.trans k)⟩;rw[aE _ _ (by omega),aE _ _ (by omega),aG,aG]
end
end Go.Proofs.YtlokkgajpjafmaaGreatDoor
