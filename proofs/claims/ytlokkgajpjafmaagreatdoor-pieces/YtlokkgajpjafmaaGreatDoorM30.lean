import Derived.Test.YtlokkgajpjafmaaGreatDoorM29
set_option linter.unusedSimpArgs false
set_option linter.unusedVariables false
set_option maxRecDepth 100000
set_option maxHeartbeats 40000000
open _root_.Go.Proofs.Tryz
namespace Go.Proofs.YtlokkgajpjafmaaGreatDoor
open Go.RowKit
open Wire Flow
theorem aVb (o1 o2 o3 o4:OA)(l1 k1 l2 k2 l3 k3 l4 k4:Nat)(w:WL):(Instr.build 79 #[(0,.slice o1 l1 k1),(4,.slice o2 l2 k2),(7,.slice o3 l3 k3),(8,.slice o4 l4 k4)]).run prog w=.ok (.agg (nwC ⟨.slice o1 l1 k1,.slice none 0 0,.slice none 0 0,.slice none 0 0,.slice o2 l2 k2,.slice o3 l3 k3,.slice o4 l4 k4⟩).toArray) w:=by
 kernel_rfl
theorem aVa (p:Int)(o:OA)(n c:Nat)(w:WL):(Instr.build 87 #[(0,iA p),(1,.slice o n c)]).run prog w=.ok (.agg #[iA p,.slice o n c]) w:=by
 kernel_rfl
theorem aQy (s:BA)(w:WL):(Instr.buildSlice 22 1 #[(0,.string s)]).run prog w=.ok (.slice (some (Ad w.heap.size 0)) 1 1) (w.alloc (.cells #[.string s] 9)):=by
 kernel_rfl
theorem aQw (b:Nat)(w:WL):(Instr.buildSlice 73 1 #[(0,ptr b)]).run prog w=.ok (.slice (some (Ad w.heap.size 0)) 1 1) (w.alloc (.cells #[ptr b] 80)):=by
 kernel_rfl
theorem aQv (p:Int)(o:OA)(n c:Nat)(w:WL):(Instr.buildSlice 74 1 #[(0,.agg #[iA p,.slice o n c])]).run prog w=.ok (.slice (some (Ad w.heap.size 0)) 1 1) (w.alloc (.cells #[iA p,.slice o n c] 87)):=by
 kernel_rfl
section
variable {m:Mo}{t0:NN}{W:WL}{recs:LY}{draws:List Int}
def M5 (b:Nat) (v0 v1 v2 v3 v4:Value) (V:WL):Prop:=V.cell? ⟨b,0,none⟩=some v0∧V.cell? ⟨b,1,none⟩=some v1∧V.cell? ⟨b,2,none⟩=some v2∧V.cell? ⟨b,3,none⟩=some v3∧V.cell? ⟨b,4,none⟩=some v4
theorem aSw {gn an:Nat}(hb:uG W)(ht0:∀ k,k<W.heap.size→t0 k<10){a0 a1 a4:OA}{n0 c0 n1 c1 n4 c4:Nat} (hM:gY W (.agg #[.slice a0 n0 c0,.slice a1 n1 c1,iA gn,iA an,.slice a4 n4 c4]) m) (htv:RoL W t0 (.slice a0 n0 c0) (m.texts.map .string)) (hMo:zH m) (hK:Mach.ModOk m) (hpt:∀ t ∈ m.pats,t.size≤50∧nE t=true) {ro do_:OA}{rc dc nr nd:Nat} (hr:iZ W (.slice ro nr rc) (recs.map .string)) (hd:iZ W (.slice do_ nd dc) (draws.map (.int .i64))) (hs:Scr recs draws) :
  Calls prog 19 #[.agg #[.slice a0 n0 c0,.slice a1 n1 c1,iA gn,iA an,.slice a4 n4 c4],.slice ro nr rc,.slice do_ nd dc] W fun e w=>∃ X g tag,e=.returned (ptr X)∧MM (eE m) X g (ms0 m recs draws) w tag∧g.en=0∧Kp t0 tag W w:=by
 have hm:=hmX
 obtain⟨W1,hW1⟩:=eXi (W.alloc (.cells #[.slice a0 n0 c0,.slice a1 n1 c1,iA gn,iA an,.slice a4 n4 c4] 25));have F1:=frA hW1
 have k1:W1.heap[W.heap.size]?=some (.cells #[.slice a0 n0 c0,.slice a1 n1 c1,iA gn,iA an,.slice a4 n4 c4] 25):=by rw[← hW1];exact wan W _
 have l1:=(Age.1 k1).1;have HT:Hid (∀ k,k<W1.heap.size→aR t0 W.heap.size 9 k<10):=fun k hk=>by
  rcases Nat.lt_or_ge k W.heap.size with c | c
  ·rw[cD c];exact ht0 k c
  rw[dK c];decide
 have K1:Kp t0 (aR t0 W.heap.size 9) W W1:=Kp.of_fr F1 fun k hk=>cD hk;have HO:Hid (∀ V,Fr [] W1 V→M5 W.heap.size (.slice a0 n0 c0) (.slice a1 n1 c1) (iA gn) (iA an) (.slice a4 n4 c4) V):=fun V F=>(dY ((F.block _ l1 (by simp)).trans k1)).1;obtain⟨hrl,hdl,hrs,hds⟩:=hs;have HD:Hid (∀ V,Fr [] W1 V→Calls prog 34 #[.slice do_ nd dc] V fun e w=>∃ v',e=.returned v'∧w.ownsRow V.heap.size 3 1 v' draws.length (draws.map (.int .i64))∧Fr [] V w):=fun V F=>aGc V hdl (hd.fr (F1.trans F));have HR:Hid (∀ V k s,Fr [] W1 V→recs[k]?=some s→s.size≤100∧∃ g off,ro=some (Ad g off)∧V.cell? (Ad g (off+k))=some (.string s)):=fun V k s F hk=>by
  refine⟨by
   by_cases c:s.size≤100
   ·exact c
   exact absurd ⟨s,List.mem_of_getElem? hk,show 100<s.size by omega⟩ hrs,?_⟩
  have hkl:=(Lgs.1 hk).1;obtain⟨o,c,e1,e2,e3,e4⟩:=hr.fr (F1.trans F);obtain⟨g,off,e5,e6,e7⟩:=e4 (by rw[List.length_map];omega);cases e1;exact⟨g,off,e5,e7 k _ (by rw[List.getElem?_map,hk];rfl)⟩
 have hnr:nr=recs.length:=by
  obtain⟨o,c,e1,-⟩:=hr;cases e1;simp
 subst hnr;obtain⟨tv,pv,fv,hmv,m1,m2,m3⟩:=hM.is;simp only[Value.agg.injEq,Array.mk.injEq,List.cons.injEq,Value.int.injEq,true_and,and_true] at hmv;obtain⟨rfl,rfl,hgn,han,rfl⟩:=hmv;have egn:(eE m).mo.globs.toNat=gn:=by show m.globs.toNat=gn;omega
 have ean:(eE m).mo.arrs.toNat=an:=by show m.arrs.toNat=an;omega
 have hg1:gn≤1000:=by have:=hMo.g;omega
 have ha1:an≤1000:=by have:=hMo.a;omega
 have hp1:=hMo.p;have hf1:=hMo.f.n;have HP:Hid (∀ V k t,Fr [] W1 V→m.pats[k]?=some t→(t.size≤50∧nE t=true)∧∃ g off,a1=some (Ad g off)∧V.cell? (Ad g (off+k))=some (.string t)):=fun V k t F hk=>by
  have hkl:=(Lgs.1 hk).1;obtain⟨a,cap,g,off,e1,e2,e3,e4⟩:=m2.fr (F1.trans F);cases e1;exact⟨hpt t (List.mem_of_getElem? hk),g,off,(e3 (by omega)).1,e4 k t hk⟩
 have hn1:n1=m.pats.length:=by
  obtain⟨a,cap,g,off,e1,-⟩:=m2;cases e1;rfl
 subst hn1;have HF:Hid (∀ V k x,Fr [] W1 V→m.fns[k]?=some x→∃ g off,a4=some (Ad g off)∧V.cell? (Ad g (off+k*3))=some (iA (Mach.parOf m k:Nat))∧V.cell? (Ad g (off+k*3+1))=some (iA x.locs)∧V.cell? (Ad g (off+k*3+2))=some (.string x.code)):=fun V k x F hk=>by
  have hkl:=(Lgs.1 hk).1;obtain⟨a,cap,g,off,e1,e2,e3,e4⟩:=m3.fr (F1.trans F);cases e1;have hp:x.params=(Mach.parOf m k:Nat):=by
   have:=(hMo.f.p x (List.mem_of_getElem? hk)).1;have e:Mach.parOf m k=x.params.toNat:=by
    unfold Mach.parOf Mach.fnOf;rw[List.getD_eq_getElem?_getD,hk];rfl
   rw[e];omega
  obtain⟨q0,q1,q2⟩:=e4 k x hk;rw[hp] at q0;exact⟨g,off,(e3 (by omega)).1,q0,q1,q2⟩
 have hn4:n4=m.fns.length:=by
  obtain⟨a,cap,g,off,e1,-⟩:=m3;cases e1;rfl
 subst hn4;have HG:Hid (∀ V k,Fr [] W1 V→k<m.fns.length→Calls prog 37 #[.agg #[.slice a0 n0 c0,.slice a1 m.pats.length c1,iA gn,iA an,.slice a4 m.fns.length c4],iA (k:Nat)] V fun e w'=>∃ g cap l,e=.returned (.tuple #[.slice (some (Ad g 0)) (l:List Stp).length cap,iA 0,iA 0])∧Fr [] V w'∧V.heap.size≤g∧∀ tag:NN,tag g=9→jI m w' tag k (.slice (some (Ad g 0)) l.length cap) l):=fun V k F hk=>aAf _ m V k (hM.fr (F1.trans F)) hMo hk (hK.fns k hk);have HE:Hid (∀ V X av,NwP (eE m) W1 (aR t0 W.heap.size 9) X recs draws (.slice a0 n0 c0) av recs.length m.pats.length m.fns.length an V→Calls prog 39 #[ptr X,iA (0:Nat)] V fun e w'=>e=.returned cR∧∃ g tag',MM (eE m) X g (ms0 m recs draws) w' tag'∧g.en=0∧Kp t0 tag' W w'):=fun V X av h=>by
  obtain⟨x,pb,A,code,tag,e1,e2,h⟩:=h;rw[← ean] at h;refine (h.begin_ (hb.fr F1) HT.out (by rw[e1];exact htv.kp K1) hK.three hf1 hp1 (by rw[ean];exact ha1)).mono ?_;rintro e w' ⟨he,g,tag',h1,h2,h3⟩;exact⟨he,g,tag',h1,h2,K1.trans h3⟩
 have HTab:Hid (∀ V,Fr [] W1 V→Tab V):=fun V F=>(hb.fr (F1.trans F)).tab;have h25:=HO.out W1 (Fr.refl [] W1);have HL1:Hid _:=AI F1 l1;clear hb ht0 hM htv hMo hK hpt hr hd hrs hds m1 m2 m3 k1 K1 F1 l1 hgn han hdl;go_enter func19,ntmps19;go_upto_region 1 with fail
 go_cut[7] from 21 to 32 (fun q wx=>∃ X av,q=ptr X∧Hid (NwP (eE m) W1 (aR t0 W.heap.size 9) X recs draws (.slice a0 n0 c0) av 0 0 0 0 wx))
 case first=>
  refine aI (M5 W.heap.size (.slice a0 n0 c0) (.slice a1 m.pats.length c1) (iA gn) (iA an) (.slice a4 m.fns.length c4)) hm ?_;have hS:=HO.out W1.drew (Fr.refl [] W1).drew;refine aK (fun _ _ _ _ _ h=>h) hS [0,1,2,4,5,7,8] (by kernel_rfl) ?_
  iterate 7
   refine Yls.cons (v:=?_) rfl (.inl ⟨rfl,fun w1 hS1=>?_⟩) ?_;rotate_left
   ·obtain⟨p0,p1,p2,p3,p4⟩:=hS1;go_simp
    first | rfl | (refine (if_neg (by omega)).trans ?_;rfl)
   simp only[Act.put,Zp,Zq]
  refine Yls.nil ?_;obtain⟨WD,hWD⟩:=eXi (W1.drew);have FD:Fr [] W1 WD:=by rw[← hWD];exact (Fr.refl [] W1).drew
  rw[hWD];have hDs:=FD.size;have hbd:=@aVb;clear hW1 hWD hS h25 HR HP HF HG HE HTab
  iterate 3
   all_goals
    first
     | (refine wpAnyH_ready (rs:=[3,6,9]) (by decide +kernel) (by simp) ?_
        refine AllReadyH.cons rfl (fun K hK=>?_) (AllReadyH.cons rfl (fun K hK=>?_) (AllReadyH.cons rfl (fun K hK=>?_) AllReadyH.nil)))
     | (first | refine wpAnyH_ready (rs:=[6,9]) (by decide +kernel) (by simp) ?_ | refine wpAnyH_ready (rs:=[3,9]) (by decide +kernel) (by simp) ?_ | refine wpAnyH_ready (rs:=[3,6]) (by decide +kernel) (by simp) ?_
        refine AllReadyH.cons rfl (fun K hK=>?_) (AllReadyH.cons rfl (fun K hK=>?_) AllReadyH.nil))
     | (first | refine wpAnyH_ready (rs:=[9]) (by decide +kernel) (by simp) ?_ | refine wpAnyH_ready (rs:=[6]) (by decide +kernel) (by simp) ?_ | refine wpAnyH_ready (rs:=[3]) (by decide +kernel) (by simp) ?_
        refine AllReadyH.cons rfl (fun K hK=>?_) AllReadyH.nil)
   all_goals
    first
     | (refine nK 71 (.tmp 26) (.tmp 26) rfl _ _ _ rfl rfl (aSz gn (by omega) _) ?_
        generalize hV:World.alloc _ _=V;obtain⟨kk,G,s1⟩:=dH hV
        (try replace ka:=(G.block _ (by omega) (by simp)).trans ka)
        (try replace od:=bP od fun g hg=>G.block g (od.lt g hg).2 (by simp))
        have kg:=kk)
     | (refine nK 72 (.tmp 29) (.tmp 29) rfl _ _ _ rfl rfl (aWv an (by omega) _) ?_
        generalize hV:World.alloc _ _=V;obtain⟨kk,G,s1⟩:=dH hV
        (try replace kg:=(G.block _ (by omega) (by simp)).trans kg)
        (try replace od:=bP od fun g hg=>G.block g (od.lt g hg).2 (by simp))
        have ka:=kk)
     | (go_simp
        refine Calls.mono (HD.out _ FD) ?_;rintro e V ⟨v',rfl,ow,G⟩;obtain⟨vo,vc,rfl⟩:=bF ow;have nd:=ow.lt;have od:=vP ow FD.size;have s1:=G.size;have kk:=True.intro;have hV:=True.intro
        (try replace kg:=(G.block _ (by omega) (by simp)).trans kg)
        (try replace ka:=(G.block _ (by omega) (by simp)).trans ka)
        clear ow)
    replace FD:=FD.trans G;refine hK _ _ (HO.out _ FD) ?_;clear hK K hV kk G;intro _
    try simp only[Act.put,Zp,Zq]
  all_goals
   refine rd1 (r:=10) (by kernel_rfl) rfl fun K hK=>?_;go_simp;refine hK _ _ (HO.out _ FD) ?_;clear hK K;intro _
   try simp only[Act.put,Zp,Zq]
   refine rd1 (r:=11) (by kernel_rfl) rfl fun K hK=>?_;go_simp;generalize hV:World.alloc _ _=V;obtain⟨kX,G,s2⟩:=dH hV;replace ka:=(G.block _ (by omega) (by simp)).trans ka;replace kg:=(G.block _ (by omega) (by simp)).trans kg;replace od:=bP od fun g hg=>G.block g (od.lt g hg).2 (by simp);replace FD:=FD.trans G;refine hK _ _ (HO.out _ FD) ?_;clear hK K hV G;intro _
   try simp only[Act.put,Zp,Zq]
   refine rd1 (r:=12) (by kernel_rfl) rfl fun K hK=>?_;go_simp;refine hK _ _ (HO.out _ FD) ?_;clear hK K;intro _
   try simp only[Act.put,Zp,Zq]
   refine wpAnyH_done (by kernel_rfl) ?_ _;have HFin:Hid _:=aOf (E:=eE m) (t0:=aR t0 W.heap.size 9) (recs:=recs) egn ean FD hg1 ha1 kX kg ka od (by omega) (by omega) (by omega) (by omega) (by omega) (by omega) (fun g hg=>by have:=nd g hg;omega);clear kX kg ka od nd s1 s2 hDs hbd FD;go_wp2_with fail;go_meet;exact⟨_,_,rfl,_,_,_,_,_,rfl,rfl,HFin.out⟩
 case rest=>
  obtain⟨X,av,rfl,HN⟩:=hcut;clear h25 hW1;go_wp2_with fail
  go_loopw [35] (fun q wr=>∃ k:Nat,k≤recs.length∧q=iA k∧Hid (NwP (eE m) W1 (aR t0 W.heap.size 9) X recs draws (.slice a0 n0 c0) av k 0 0 0 wr)) (fun q _=>recs.length-(intOf q).toNat)
  case atStart=>exact⟨0,by omega,rfl,HN⟩
  case round=>
   clear HN;obtain⟨k,hk,rfl,J⟩:=hrel;by_cases hlt:k<recs.length
   ·have g1:(k:Int)<(recs.length:Int):=by omega
    have g2:IntKind.i64.wrap ((k:Int)+1)=((k+1:Nat):Int):=by rw[IntKind.wrap_i64];omega
    obtain⟨s,hs⟩:∃ s,recs[k]?=some s:=⟨_,Lge hlt⟩;obtain⟨hs1,g,off,rfl,e1⟩:=HR.out wr k s (J.out.old HT.out) hs;obtain⟨so,sc,e3,hXl,HA⟩:=J.out.rec_ hs (by omega);obtain⟨WD,hWD⟩:=eXi (wr.drew);have FD:Fr [] wr WD:=by rw[← hWD];exact (Fr.refl [] wr).drew
    have HQ:Hid (∀ V,Fr [] WD V→V.cell? (Ad X 3)=some (.slice so k sc)):=fun V F=>((FD.trans F).cell (p:=Ad X 3) hXl (by simp)).trans e3;have HA1:Hid (∀ V,Fr [] WD V→aRr X 3 22 9 k [.string s] so sc V (NwP (eE m) W1 (aR t0 W.heap.size 9) X recs draws (.slice a0 n0 c0) av (k+1) 0 0 0)):=fun V F=>HA V (FD.trans F);have HC:Hid (∀ V,Calls prog 35 #[.string s] V fun e w'=>e=.returned (.string s)∧Fr [] V w'):=fun V=>tZ s V (by omega);have hbs:=aQy s;clear HA FD J HR HP HF HG HE HD HO HTab hs hs1 e3 hXl;generalize recs.length=nr at *;go_wp2_with fail;refine lE (fun V=>Fr [] WD V) 8 hm ?_;rw[hWD];have hS:Fr [] WD WD:=Fr.refl _ _;refine dE (fuel:=8) [0,1,2,3] (by kernel_rfl) (fun _ _ _ _ _ h=>h) (.inr hS) ?_
    iterate 4
     refine Yls.cons (v:=?_) rfl (.inl ⟨rfl,fun w1 hS1=>?_⟩) ?_;rotate_left
     ·skip;go_simp
      first | rfl | (refine (if_neg (by omega)).trans ?_;rfl)
     simp only[Act.put,Zp,Zq]
    refine Yls.nil ?_;refine jJ (fuel:=6) [4,5] (by kernel_rfl) (fun _ _ _ _ _ h=>h) hS ?_
    iterate 2
     refine Yls.cons (v:=?_) rfl (.inl ⟨rfl,fun w1 hS1=>?_⟩) ?_;rotate_left
     ·have s0:=HQ.out _ hS1;go_simp
      first | rfl | (refine (if_neg (by omega)).trans ?_;rfl)
     simp only[Act.put,Zp,Zq]
    refine Yls.nil ?_;refine bN (rs:=[6]) (by kernel_rfl) (by simp) ?_;refine aT.cons rfl (fun K hK=>?_) aT.nil;go_simp;refine Calls.mono (HC.out WD) ?_;rintro e V ⟨rfl,FV⟩;refine hK _ _ (.inr FV) ?_;clear hK K
    try simp only[Act.put,Zp,Zq]
    refine bN (rs:=[7]) (by kernel_rfl) (by simp) ?_;refine aT.cons rfl (fun K hK=>?_) aT.nil;obtain⟨vo,vc,W4,hr4,q1,q2,hN⟩:=HA1.out V FV;have Hr4:Hid _:=hr4;have HN:Hid _:=hN;have HFA:Hid (Fr [] WD (V.alloc (.cells #[.string s] 9))):=FV.alloc _;clear hr4 hN HA1 HC FV;go_simp;refine hK _ _ (.inr HFA.out) ?_;clear hK K
    try simp only[Act.put,Zp,Zq]
    refine bN (rs:=[8]) (by kernel_rfl) (by simp) ?_;refine aT.cons rfl (fun K hK=>?_) aT.nil;refine gU (.tmp 43) (.tmp 46) 22 rfl _ _ _ rfl rfl Hr4.out ?_;refine hK _ _ (.inl rfl) ?_;clear hK K
    try simp only[Act.put,Zp,Zq]
    refine dE (fuel:=1) [9,10] (by kernel_rfl) (fun _ _ _ _ _ h=>h) (.inl rfl) ?_
    iterate 2
     refine Yls.cons (v:=?_) rfl (.inl ⟨rfl,fun w1 hS1=>?_⟩) ?_;rotate_left
     ·skip;go_simp
      first | rfl | (refine (if_neg (by omega)).trans ?_;rfl)
     simp only[Act.put,Zp,Zq]
    refine Yls.nil ?_;refine bN (rs:=[11]) (by kernel_rfl) (by simp) ?_;refine aT.cons rfl (fun K hK=>?_) aT.nil;go_simp;refine hK _ _ (.inl rfl) ?_;clear hK K
    try simp only[Act.put,Zp,Zq]
    refine lH (by kernel_rfl) ?_ _;refine NoPanic.normal ?_;go_wp2;exact⟨⟨k+1,by omega,by go_num,HN⟩,by simp[intOf];omega⟩
   have e0:k=recs.length:=by omega
   have g1:¬ (k:Int)<(recs.length:Int):=by omega
   subst e0;obtain⟨p0,p1,p2,p3,p4⟩:=HO.out wr (J.out.old HT.out);have HN:Hid _:=J;clear J HR HD;go_wp2_with fail
   go_loopw [54] (fun q wr=>∃ k:Nat,k≤m.pats.length∧q=iA k∧Hid (NwP (eE m) W1 (aR t0 W.heap.size 9) X recs draws (.slice a0 n0 c0) av recs.length k 0 0 wr)) (fun q _=>m.pats.length-(intOf q).toNat)
   case atStart=>exact⟨0,by omega,rfl,HN.out⟩
   case round=>
    clear HN p0 p1 p2 p3 p4;obtain⟨k,hk,rfl,J⟩:=hrel;by_cases hlt:k<m.pats.length
    ·have g1:(k:Int)<(m.pats.length:Int):=by omega
     have g2:IntKind.i64.wrap ((k:Int)+1)=((k+1:Nat):Int):=by rw[IntKind.wrap_i64];omega
     obtain⟨t,ht⟩:∃ t,m.pats[k]?=some t:=⟨_,Lge hlt⟩;obtain⟨⟨ht1,ht2⟩,g,off,rfl,e1⟩:=HP.out wr k t (J.out.old HT.out) ht;obtain⟨so,sc,e3,hXl,HA⟩:=J.out.pat_ ht (by omega);have HC:Hid _:=aAg m t wr ht1 ht2 (HTab.out wr (J.out.old HT.out));have HA1:Hid _:=AI HA (AI e3 hXl);have hbs:=aQw;clear HA J HP HF HG HE HO HTab ht ht1 ht2 e3 hXl;generalize m.pats.length=np at *;go_wp2_with fail;refine Calls.mono HC.out ?_;rintro e V ⟨b,rfl,FV,b1,b2,hP⟩;obtain⟨HA,e3,hXl⟩:=HA1.out;have e4:V.cell? (Ad X 1)=some (.slice so k sc):=(FV.cell (p:=Ad X 1) hXl (by simp)).trans e3;obtain⟨vo,vc,W4,hr4,q1,q2,hN⟩:=HA V b FV b1 b2 hP;have Hr4:Hid _:=hr4;have HN:Hid _:=hN;clear hr4 hN HA1 HC FV HA e3 hXl b1 b2 hP;go_wp2_with (at_builtin;refine kC rfl (.tmp 68) (.tmp 70) 73 rfl _ _ _ rfl rfl Hr4.out ?_);exact⟨⟨k+1,by omega,by go_num,HN⟩,by simp[intOf];omega⟩
    have e0:k=m.pats.length:=by omega
    have g1:¬ (k:Int)<(m.pats.length:Int):=by omega
    subst e0;obtain⟨p0,p1,p2,p3,p4⟩:=HO.out wr (J.out.old HT.out);have HN:Hid _:=J;clear J HP HTab;go_wp2_with fail
    go_loopw [78] (fun q wr=>∃ k:Nat,k≤m.fns.length∧q=iA k∧Hid (NwP (eE m) W1 (aR t0 W.heap.size 9) X recs draws (.slice a0 n0 c0) av recs.length m.pats.length k 0 wr)) (fun q _=>m.fns.length-(intOf q).toNat)
    case atStart=>exact⟨0,by omega,rfl,HN.out⟩
    case round=>
     clear HN p0 p1 p2 p3 p4;obtain⟨k,hk,rfl,J⟩:=hrel;by_cases hlt:k<m.fns.length
     ·have g1:(k:Int)<(m.fns.length:Int):=by omega
      have g2:IntKind.i64.wrap ((k:Int)+1)=((k+1:Nat):Int):=by rw[IntKind.wrap_i64];omega
      obtain⟨x,hx⟩:∃ x,m.fns[k]?=some x:=⟨_,Lge hlt⟩;obtain⟨g,off,rfl,e0,e1,e2⟩:=HF.out wr k x (J.out.old HT.out) hx;obtain⟨so,sc,e3,hXl,HA⟩:=J.out.cod_ (by omega);obtain⟨V1,hV1⟩:=eXi (wr.alloc (.cells #[iA (Mach.parOf m k:Nat),iA x.locs,.string x.code] 46));obtain⟨kf,F1,s1⟩:=dH hV1;have HM:Hid _:=AI kf s1;obtain⟨p0,p1,p2,p3,p4⟩:=HO.out V1 ((J.out.old HT.out).trans F1);have HC:Hid _:=HG.out V1 k ((J.out.old HT.out).trans F1) hlt;have HA1:Hid _:=AI HA (AI e3 (AI hXl F1));clear HA J HF HG HE HO hx e3 hXl F1 kf s1;generalize hnf:m.fns.length=nf at *;go_wp2_with fail;refine Calls.mono HC.out ?_;rintro e V ⟨cg,cc,l,rfl,FV,hcg,hCM⟩;obtain⟨HA,e3,hXl,F1⟩:=HA1.out;obtain⟨kf,s1⟩:=HM.out;have FV1:=F1.trans FV;have e4:V.cell? (Ad X 2)=some (.slice so k sc):=(FV1.cell (p:=Ad X 2) hXl (by simp)).trans e3;have e5:V.cell? (Ad wr.heap.size 0)=some (iA (Mach.parOf m k:Nat)):=(FV.cell (p:=Ad wr.heap.size 0) s1 (by simp)).trans (cof kf rfl);have l5:wr.heap.size<V.heap.size:=Nll s1 FV.size;have l6:X<V.heap.size:=Nll hXl FV1.size;obtain⟨WD,hWD⟩:=eXi (V.drew);have FD:Fr [] V WD:=by rw[← hWD];exact (Fr.refl [] V).drew
      have HQ:Hid (∀ U,Fr [] WD U→U.cell? (Ad X 2)=some (.slice so k sc)∧U.cell? (Ad wr.heap.size 0)=some (iA (Mach.parOf m k:Nat))):=fun U F=>⟨((FD.trans F).cell (p:=Ad X 2) l6 (by simp)).trans e4,((FD.trans F).cell (p:=Ad wr.heap.size 0) l5 (by simp)).trans e5⟩;have hCM2:∀ tag:NN,tag cg=9→jI (eE m).mo WD tag k (.slice (some (Ad cg 0)) l.length cc) l:=fun tag ht=>(hCM tag ht).kp (tag':=tag) (Kp.of_fr FD fun _ _=>rfl);obtain⟨vo,vc,W4,hr4,q1,q2,hN⟩:=HA WD l cg cc (FV1.trans FD) (Nat.le_trans F1.size hcg) hCM2;have Hr4:Hid _:=hr4;have HN:Hid _:=hN;have HFA:Hid (Fr [] WD (WD.alloc (.cells #[iA (Mach.parOf m k:Nat),.slice (some (Ad cg 0)) l.length cc] 87))):=(Fr.refl [] WD).alloc _;have hbd:=aVa (Mach.parOf m k:Nat) (some (Ad cg 0)) l.length cc;have hbs:=aQv (Mach.parOf m k:Nat) (some (Ad cg 0)) l.length cc;clear hCM hCM2 HA e3 hXl F1 kf s1 FV FV1 FD e4 e5 l5 l6 hr4 hN HA1 HM HC p0 p1 p2 p3 p4 hcg e0 e1 e2 hV1 HT hlt;go_wp2_with fail;refine lE (fun V=>Fr [] WD V) 10 hm ?_;rw[hWD];have hS:Fr [] WD WD:=Fr.refl _ _;refine dE (fuel:=8) [0,1,2,3,5,7] (by kernel_rfl) (fun _ _ _ _ _ h=>h) (.inr hS) ?_
      iterate 6
       refine Yls.cons (v:=?_) rfl (.inl ⟨rfl,fun w1 hS1=>?_⟩) ?_;rotate_left
       ·skip;go_simp
        first | rfl | (refine (if_neg (by omega)).trans ?_;rfl)
       simp only[Act.put,Zp,Zq]
      refine Yls.nil ?_;refine jJ (fuel:=5) [4,6,8] (by kernel_rfl) (fun _ _ _ _ _ h=>h) hS ?_
      iterate 3
       refine Yls.cons (v:=?_) rfl (.inl ⟨rfl,fun w1 hS1=>?_⟩) ?_;rotate_left
       ·obtain⟨s0,s1⟩:=HQ.out _ hS1;go_simp
        first | rfl | (refine (if_neg (by omega)).trans ?_;rfl)
       simp only[Act.put,Zp,Zq]
      refine Yls.nil ?_;refine bN (rs:=[9]) (by kernel_rfl) (by simp) ?_;refine aT.cons rfl (fun K hK=>?_) aT.nil;go_simp;refine hK _ _ (.inr HFA.out) ?_;clear hK K
      try simp only[Act.put,Zp,Zq]
      refine bN (rs:=[10]) (by kernel_rfl) (by simp) ?_;refine aT.cons rfl (fun K hK=>?_) aT.nil;refine gU (.tmp 94) (.tmp 99) 74 rfl _ _ _ rfl rfl Hr4.out ?_;refine hK _ _ (.inl rfl) ?_;clear hK K
      try simp only[Act.put,Zp,Zq]
      refine dE (fuel:=1) [11,12] (by kernel_rfl) (fun _ _ _ _ _ h=>h) (.inl rfl) ?_
      iterate 2
       refine Yls.cons (v:=?_) rfl (.inl ⟨rfl,fun w1 hS1=>?_⟩) ?_;rotate_left
       ·skip;go_simp
        first | rfl | (refine (if_neg (by omega)).trans ?_;rfl)
       simp only[Act.put,Zp,Zq]
      refine Yls.nil ?_;refine bN (rs:=[13]) (by kernel_rfl) (by simp) ?_;refine aT.cons rfl (fun K hK=>?_) aT.nil;go_simp;refine hK _ _ (.inl rfl) ?_;clear hK K
      try simp only[Act.put,Zp,Zq]
      refine lH (by kernel_rfl) ?_ _;refine NoPanic.normal ?_;go_wp2;exact⟨⟨k+1,by omega,by go_num,HN⟩,by simp[intOf];omega⟩
     have e0:k=m.fns.length:=by omega
     have g1:¬ (k:Int)<(m.fns.length:Int):=by omega
     subst e0;obtain⟨ao,ac,hav,e9,hXl,-⟩:=J.out.av9;rw[ean] at hav;subst hav;have HN:Hid _:=J;clear J HF HG HO hXl;go_wp2_with fail
     go_loopw [109] (fun q wr=>∃ k:Nat,k≤an∧q=iA k∧Hid (NwP (eE m) W1 (aR t0 W.heap.size 9) X recs draws (.slice a0 n0 c0) (.slice ao an ac) recs.length m.pats.length m.fns.length k wr)) (fun q _=>an-(intOf q).toNat)
     case atStart=>exact⟨0,by omega,rfl,HN.out⟩
     case round=>
      clear HN e9;obtain⟨k,hk,rfl,J⟩:=hrel;by_cases hlt:k<an
      ·have g1:(k:Int)<(an:Int):=by omega
       have g2:IntKind.i64.wrap ((k:Int)+1)=((k+1:Nat):Int):=by rw[IntKind.wrap_i64];omega
       obtain⟨ao',ac',hav,e9,hXl,hx⟩:=J.out.av9;rw[ean] at hav hx;cases hav;obtain⟨ga,rfl,hXg,hgl,hcl⟩:=hx (by omega);obtain⟨⟨u0,hu0⟩,z0⟩:=hcl (k*2) (by omega);obtain⟨⟨u1,hu1⟩,z1⟩:=hcl (k*2+1) (by omega);obtain⟨WD,hWD⟩:=eXi (wr.drew);have FD:Fr [] wr WD:=by rw[← hWD];exact (Fr.refl [] wr).drew
       have HQ:Hid (∀ V,Fr [] WD V→V.cell? (Ad ga (k*2))=some u0∧V.cell? (Ad ga (k*2+1))=some u1∧V.frozen? (Ad ga (k*2))=false∧V.frozen? (Ad ga (k*2+1))=false):=fun V F=>⟨((FD.trans F).cell (p:=Ad ga (k*2)) hgl (by simp)).trans hu0,((FD.trans F).cell (p:=Ad ga (k*2+1)) hgl (by simp)).trans hu1,((FD.trans F).frozen (p:=Ad ga (k*2)) hgl (by simp)).trans z0,((FD.trans F).frozen (p:=Ad ga (k*2+1)) hgl (by simp)).trans z1⟩;have HX:Hid (∀ V,Fr [] WD V→V.cell? (Ad X 9)=some (.slice (some (Ad ga 0)) an ac)):=fun V F=>((FD.trans F).cell (p:=Ad X 9) hXl (by simp)).trans e9;have HC:Hid (∀ V b,Fr [] WD V→WD.heap.size≤b→dV V b []→NwP (eE m) W1 (aR t0 W.heap.size 9) X recs draws (.slice a0 n0 c0) (.slice (some (Ad ga 0)) an ac) recs.length m.pats.length m.fns.length (k+1) ((V.setCell ⟨ga,k*2,none⟩ (.map (some b))).setCell ⟨ga,k*2+1,none⟩ (.slice none 0 0))):=fun V b F hb hM=>J.out.arr_ (FD.trans F) (Nat.le_trans FD.size hb) hM (by rw[ean]) (by rw[ean];exact hlt);have HXg:Hid _:=hXg;clear FD J HE HT hgl hcl hu0 hu1 z0 z1 hXl e9 hXg hx;go_wp2_with fail;refine aI (fun V=>V.cell? (Ad X 9)=some (.slice (some (Ad ga 0)) an ac)) hm ?_;rw[hWD];have hS:WD.cell? (Ad X 9)=some (.slice (some (Ad ga 0)) an ac):=HX.out WD (Fr.refl _ _);refine aK (fun _ _ _ _ _ h=>h) hS [0,1,2,3,4] (by kernel_rfl) ?_
       iterate 5
        refine Yls.cons (v:=?_) rfl (.inl ⟨rfl,fun w1 hS1=>?_⟩) ?_;rotate_left
        ·skip;go_simp
         first | rfl | (refine (if_neg (by omega)).trans ?_;rfl)
        simp only[Act.put,Zp,Zq]
       refine Yls.nil ?_;refine rd1 (r:=5) (by kernel_rfl) rfl fun K hK=>?_;go_simp;refine Calls.mono (O2 WD) ?_;rintro e V ⟨b,rfl,hb,hM,FV⟩;obtain⟨y0,y1,y2,y3⟩:=HQ.out V FV;have hN:=HC.out V b FV hb hM;have HN:Hid _:=hN;refine hK _ _ (HX.out V FV) ?_;have hS5:((V.setCell ⟨ga,k*2,none⟩ (.map (some b))).setCell ⟨ga,k*2+1,none⟩ (.slice none 0 0)).cell? (Ad X 9)=some (.slice (some (Ad ga 0)) an ac):=by
        rw[aX (Ne.symm HXg.out),aX (Ne.symm HXg.out)];exact HX.out V FV
       have hS2:=HX.out V FV;clear hK K HC HQ hb hM FV hN;intro _
       try simp only[Act.put,Zp,Zq]
       refine aK (fun _ _ _ _ _ h=>h) hS2 [6] (by kernel_rfl) ?_
       iterate 1
        refine Yls.cons (v:=?_) rfl (.inl ⟨rfl,fun w1 hS1=>?_⟩) ?_;rotate_left
        ·skip;go_simp
         first | rfl | (refine (if_neg (by omega)).trans ?_;rfl)
        simp only[Act.put,Zp,Zq]
       refine Yls.nil ?_;refine rd1 (r:=7) (by kernel_rfl) rfl fun K hK=>?_;go_simp;refine hK _ _ hS5 ?_;clear hK K;intro _
       try simp only[Act.put,Zp,Zq]
       refine wpAnyH_done (by kernel_rfl) ?_ _;go_wp2_with fail;exact⟨⟨k+1,by omega,by go_num,HN⟩,by simp[intOf];omega⟩
      have e0:k=an:=by omega
      have g1:¬ (k:Int)<(an:Int):=by omega
      subst e0;have HC:Hid _:=HE.out wr X _ J.out;clear J HE HT;go_wp2_with fail;refine Calls.mono HC.out ?_;rintro e V ⟨rfl,g,tag,h1,h2,h3⟩;have HZ:Hid _:=AI h1 (AI h2 h3);clear h1 h2 h3 HC;go_wp2_with fail;go_ret;exact⟨X,g,tag,rfl,HZ.out.1,HZ.out.2.1,HZ.out.2.2⟩
end
theorem aVc (b:Nat)(w:WL):(Instr.build 53 #[(0,ptr b)]).run prog w=.ok (.agg #[ptr b]) w:=by
 kernel_rfl
section
variable {m:Mo}{W:WL}{recs:LY}{draws:List Int}
theorem aJb {X Y:Nat}{g:Pl}{w:WL}{tag:NN} (hK:Mach.ModOk m) (hs:Scr recs draws) (h:MM (eE m) X g (ms0 m recs draws) w tag) (he:g.en=0) (hY:GM Y X w) (tY:tag Y<10):Rst (eE m) X Y (Mach.begin_ m recs draws) w tag:=by
 obtain⟨h1,h2,h3,h4⟩:=hs;refine⟨g,[],Mach.enter m 0 [],h,hY,tY,Mach.good_begin (E:=eE m) hK h1 (fun s hs=>?_) h2 (fun n hn=>?_),⟨by show 0≤9;omega,fun _=>rfl⟩,fun _=>⟨fun g hg c hc=>?_,rfl,by rw[he];rfl⟩⟩
 ·by_cases c:s.size≤100
  ·exact c
  exact absurd ⟨s,hs,show 100<s.size by omega⟩ h3
 ·by_cases c:-1000000000≤n∧n≤1000000000
  ·exact c
  exact absurd ⟨n,hn,show n < -1000000000∨1000000000<n by omega⟩ h4
 have hg:g ∈ [Mach.enter m 0 []]:=hg;rw[List.mem_singleton] at hg;subst hg;exact sG m 0 [] c hc
def bCd (m:Mo) (recs:LY) (draws:List Int) (W:WL) (Y:Nat) (w:WL):Prop:=∃ X tag,Rst (eE m) X Y (Mach.begin_ m recs draws) w tag∧(∀ k,k<W.heap.size→tag k=6)∧Mach.ModOk m∧W.heap.size≤Y
def bAa (m:Mo) (recs:LY) (draws:List Int) (W:WL) (e:Ending) (w:WL):Prop:=
 Fr [] W w∧∃ f p x:Nat,uE m f p x∧((x≠0∧e=.returned (.tuple #[.pointer none,.int .i64 x]))∨(x=0∧¬ Scr recs draws∧e=.returned (.tuple #[.pointer none,.int .i64 13]))∨(x=0∧Scr recs draws∧∃ Y,e=.returned (.tuple #[ptr Y,.int .i64 0])∧bCd m recs draws W Y w))
theorem f8 {l:List Wire.Fn}{i:Nat} (h:aS l i=true):∀ x ∈ l,x.params≤x.locs:=by
 induction l generalizing i with
 | nil=>intro x hx;cases hx
 | cons f r ih=>
  simp only[aS,Bool.and_eq_true] at h;intro x hx;rcases List.mem_cons.1 hx with rfl | hx
  ·have:=h.1;simp only[fO,Bool.and_eq_true,decide_eq_true_eq] at this;omega
  exact ih h.2 x hx
theorem j8.unique {k p e p' e':Nat}(h:j8 m k p e)(h':j8 m k p' e'):e=e':=by
 obtain⟨x,hx,h⟩:=h;obtain⟨x',hx',h'⟩:=h';rw[hx] at hx';cases hx';exact (zB h h').2
theorem uE.unique {f p e f' p' e':Nat}(h:uE m f p e)(h':uE m f' p' e'):e=e':=by
 have hlt:∀ {k q x},j8 m k q x→k<m.fns.length:=fun {k q x} h=>by
  obtain⟨x,hx,-⟩:=h;exact (Lgs.1 hx).1
 rcases h with ⟨-,-,h0,h⟩ | ⟨h0,h,hl⟩ <;> rcases h' with ⟨-,-,h0',h'⟩ | ⟨h0',h',hl'⟩
 ·omega
 ·obtain⟨q,hq⟩:=h f' (hlt h');exact absurd (hq.unique h').symm h0'
 ·obtain⟨q,hq⟩:=h' f (hlt h);exact absurd (hq.unique h).symm h0
 rcases Nat.lt_trichotomy f f' with c | c | c
 ·obtain⟨q,hq⟩:=hl' f c;exact absurd (hq.unique h).symm h0
 ·subst c;exact h.unique h'
 obtain⟨q,hq⟩:=hl f' c;exact absurd (hq.unique h').symm h0'
theorem mY (hw:dI ipF m=true):(∀ s ∈ m.texts,s.size≤100)∧(∀ t ∈ m.pats,t.size≤50∧nE t=true)∧∀ k,k<m.fns.length→Mach.parOf m k≤Mach.locsOf m k∧Mach.locsOf m k≤16:=by
 simp only[dI,Bool.and_eq_true,decide_eq_true_eq] at hw;obtain⟨⟨⟨⟨⟨⟨⟨⟨⟨⟨h1,h2⟩,h3⟩,h4⟩,h5⟩,h6⟩,h7⟩,h8⟩,h9⟩,h10⟩,h11⟩:=hw;refine⟨fun s hs=>?_,fun t ht=>?_,fun k hk=>?_⟩
 ·simpa using List.all_eq_true.1 h9 s hs
 ·have:=List.all_eq_true.1 h10 t ht;simp only[ipF,Bool.and_eq_true,decide_eq_true_eq] at this;exact⟨this.1,this.2.2⟩
 obtain⟨x,hx⟩:∃ x,m.fns[k]?=some x:=⟨_,Lge hk⟩;have e1:Mach.fnOf m k=x:=by
  unfold Mach.fnOf;rw[List.getD_eq_getElem?_getD,hx];rfl
 unfold Mach.parOf Mach.locsOf;rw[e1];obtain⟨a,b,c,d,e⟩:=qF h11 x (List.mem_of_getElem? hx);have:=f8 h11 x (List.mem_of_getElem? hx);omega
theorem aAx (b:BA)(hb:uG W)(hm:b.size≤40000)(hu:bl b=Wire.written m)(hw:dI ipF m=true){ro do_:OA}{rc dc nr nd:Nat} (hr:iZ W (.slice ro nr rc) (recs.map .string)) (hd:iZ W (.slice do_ nd dc) (draws.map (.int .i64))) :
  Calls prog 8 #[.string b,.slice ro nr rc,.slice do_ nd dc] W (bAa m recs draws W):=by
 obtain⟨hMo,h3⟩:=fB hw;obtain⟨w1,w2,w3⟩:=mY hw;have HU:Hid _:=uV b W hm hb.tab hu hw;have HS:Hid (∀ V,Fr [] W V→Calls prog 18 #[.slice ro nr rc,.slice do_ nd dc] V (IsB (Scr recs draws) V)):=fun V F=>P9 (hr.fr F) (hd.fr F);have HN:Hid (∀ V (a0 a1 a4:OA) (n0 c0 n1 c1 n4 c4 gn an f p:Nat),Fr [] W V→iL W.heap.size V (.agg #[.slice a0 n0 c0,.slice a1 n1 c1,iA gn,iA an,.slice a4 n4 c4]) m→uE m f p 0→Scr recs draws→Calls prog 19 #[.agg #[.slice a0 n0 c0,.slice a1 n1 c1,iA gn,iA an,.slice a4 n4 c4],.slice ro nr rc,.slice do_ nd dc] V fun e w=>∃ X g tag,e=.returned (ptr X)∧MM (eE m) X g (ms0 m recs draws) w tag∧g.en=0∧Kp (fun k=>if k<W.heap.size then 6 else 9) tag V w):=by
  intro V a0 a1 a4 n0 c0 n1 c1 n4 c4 gn an f p F hF hA hs;have hK:=aBe h3 (fun k hk=>(w3 k hk).1) hA;refine aSw (hb.fr F) (fun k _=>by show (if _ then _ else _)<10;split <;> decide) hF.mod ?_ hMo hK w2 (hr.fr F) (hd.fr F) hs
  obtain⟨tv,pv,fv,hv,hT,-⟩:=hF;simp only[Value.agg.injEq,Array.mk.injEq,List.cons.injEq] at hv;obtain⟨rfl,-⟩:=hv;have ow:=hT.own;rcases ow.2 with ⟨h1,h0⟩ | ⟨g,cap,cur,h1,hg1,hg2,hc,hcm,r⟩
  ·cases h1;exact⟨none,0,by rw[List.length_map,← h0],by rw[List.length_map];omega,by omega,fun h=>absurd h (by rw[List.length_map];omega)⟩
  cases h1;refine⟨_,_,by rw[List.length_map],by rw[List.length_map];exact hc,by unfold maxLen at hcm;omega,fun h0=>⟨g,0,rfl,(Age.1 hg2).1,?_,fun i x hi=>?_⟩⟩
  ·show (if _ then _ else _)=9;rw[if_neg (by omega)]
  rw[Nat.zero_add];exact aF (vP ow (Nat.zero_le _)) hi
 have HK:Hid (∀ f p,uE m f p 0→Mach.ModOk m):=fun f p hA=>aBe h3 (fun k hk=>(w3 k hk).1) hA;have hbd:=aVc;clear hb hm hu hw hr hd hMo h3 w1 w2 w3;go_enter func8,ntmps8;go_wp2_with fail;refine Calls.mono HU.out ?_;rintro e V ⟨a0,a1,a4,n0,c0,n1,c1,n4,c4,gn,an,f,p,x,rfl,FV,hF,hA⟩;obtain⟨W3,hW3⟩:=eXi (V.alloc (.cells #[.slice a0 n0 c0,.slice a1 n1 c1,iA gn,iA an,.slice a4 n4 c4] 25));have F3:=frA hW3
 have k3:W3.heap[V.heap.size]?=some (.cells #[.slice a0 n0 c0,.slice a1 n1 c1,iA gn,iA an,.slice a4 n4 c4] 25):=by rw[← hW3];exact wan V _
 obtain⟨⟨q0,q1,q2,q3,q4⟩,-⟩:=dY k3;have H3:Hid _:=AI (FV.trans F3) (AI (hF.fr F3 (by simp)) hA);clear FV hF hA F3 k3 HU;by_cases hx:x=0
 ·subst hx;go_wp2_with fail;refine Calls.mono (HS.out W3 H3.out.1) ?_;rintro e V' ⟨bb,rfl,hbb,hV'⟩;replace hV':=hV'.symm;subst hV';cases bb with
  | false=>
   go_wp2_with fail;go_ret2;exact⟨H3.out.1,f,p,0,H3.out.2.2,.inr (.inl ⟨rfl,(fun h=>(by have:=hbb.2 h;cases this)),rfl⟩)⟩
  | true=>
   have hs:=hbb.1 rfl;have H4:Hid _:=hs;clear hbb hs;go_wp2_with fail;refine Calls.mono (HN.out W3 a0 a1 a4 n0 c0 n1 c1 n4 c4 gn an f p H3.out.1 H3.out.2.1 H3.out.2.2 H4.out) ?_;rintro e V2 ⟨X,g,tag,rfl,hM,hg,K⟩;have HM:Hid _:=AI hM (AI hg K);clear hM hg K q0 q1 q2 q3 q4 HN HS;go_wp2_with fail;go_ret2;obtain⟨hM,hg,K⟩:=HM.out;have F5:Fr [] V2 (V2.alloc (.cells #[ptr X] 53)):=(Fr.refl [] V2).alloc _;obtain⟨t,M5,K5,h6⟩:=MM.box hM F5;have F4:Fr [] W3 V2:=⟨K.os,K.tape,K.output,K.size,fun k hk _=>K.blk k hk (by show (if _ then _ else _)<10;split <;> decide)⟩
   have hK:=HK.out f p H3.out.2.2;refine⟨(H3.out.1.trans F4).trans F5,f,p,0,H3.out.2.2,.inr (.inr ⟨rfl,H4.out,V2.heap.size,rfl,X,t,aJb hK H4.out M5 hg ?_ (by rw[h6 _ (Nat.le_refl _)];decide),fun k hk=>?_,hK,Nat.le_trans H3.out.1.size K.size⟩)⟩
   ·show World.cell? _ _=_;unfold World.cell?;rw[wan];rfl
   have l3:k<W3.heap.size:=Nll hk H3.out.1.size;rw[K5.ret k (Nll l3 K.size),K.ret k l3];exact if_pos hk
 have g1:((x:Int)==0)=false:=by simp;omega
 have g2:((x:Int)!=0)=true:=by simp;omega
 go_wp2_with fail;go_ret2;exact⟨H3.out.1,f,p,x,H3.out.2.2,.inl ⟨hx,rfl⟩⟩
end
def mo5:Mo:=⟨[],[],0,0,[⟨0,0,⟨#[0,10,27,44,1,52]⟩⟩,⟨0,0,⟨#[52]⟩⟩,⟨0,0,⟨#[52]⟩⟩]⟩
def fn5:Array Value:=#[.int .i64 0,.int .i64 0,.string ⟨#[0,10,27,44,1,52]⟩,.int .i64 0,.int .i64 0,.string ⟨#[52]⟩,.int .i64 0,.int .i64 0,.string ⟨#[52]⟩]
theorem aWt (W:WL)(g:Nat)(h:W.heap[g]?=some (.cells fn5 46)):gY W (.agg #[.slice none 0 0,.slice none 0 0,iA 0,iA 0,.slice (some (Ad g 0)) 3 3]) mo5:=by
 have e:∀ j,W.cell? (Ad g j)=fn5[j]?:=fun j=>by unfold World.cell?;rw[h];simp
 refine⟨_,_,_,rfl,⟨none,0,0,0,rfl,Nat.le_refl _,fun h=>absurd h (by decide),fun i x hx=>by cases hx⟩,⟨none,0,0,0,rfl,Nat.le_refl _,fun h=>absurd h (by decide),fun i x hx=>by cases hx⟩,⟨some (Ad g 0),3,g,0,rfl,by decide,fun _=>⟨rfl,(Age.1 h).1⟩,fun i x hx=>?_⟩⟩
 match i,hx with
 | 0,hx=>cases hx;exact⟨by rw[e];rfl,by rw[e];rfl,by rw[e];rfl⟩
 | 1,hx=>cases hx;exact⟨by rw[e];rfl,by rw[e];rfl,by rw[e];rfl⟩
 | 2,hx=>cases hx;exact⟨by rw[e];rfl,by rw[e];rfl,by rw[e];rfl⟩
 | i+3,hx=>simp[mo5] at hx
theorem aHe (par:NN):Sol par [⟨0,1,52,0,0⟩] [some []]:=by
 refine⟨rfl,rfl,fun i hi=>?_⟩;obtain rfl:i=0:=by simpa using hi
 intro st s h1 h2;cases h1;cases h2;exact⟨[],[],rfl,fun h=>absurd h (by decide),fun h=>absurd h (by decide)⟩
theorem aMr (par:NN):Sol par [⟨0,2,0,10,0⟩,⟨2,3,27,0,0⟩,⟨3,5,44,1,0⟩,⟨5,6,52,0,0⟩] [some [],some [110],some [116],some []]:=by
 refine⟨rfl,rfl,fun i hi=>?_⟩
 intro st s h1 h2
 match i,hi,h1,h2 with
 | 0,_,h1,h2=>cases h1;cases h2;exact⟨[110],[],rfl,fun h=>absurd h (by decide),fun _=>⟨_,rfl,eD _⟩⟩
 | 1,_,h1,h2=>cases h1;cases h2;exact⟨[116],[],rfl,fun h=>absurd h (by decide),fun _=>⟨_,rfl,eD _⟩⟩
 | 2,_,h1,h2=>cases h1;cases h2;exact⟨[],[],rfl,fun h=>absurd h (by decide),fun _=>⟨_,rfl,eD _⟩⟩
 | 3,_,h1,h2=>cases h1;cases h2;exact⟨[],[],rfl,fun h=>absurd h (by decide),fun h=>absurd h (by decide)⟩
theorem aRg (par:NN):tJ par mo5 0 0 [0,10,27,44,1,52] 0 0:=
 .inr ⟨[⟨0,2,0,10,0⟩,⟨2,3,27,0,0⟩,⟨3,5,44,1,0⟩,⟨5,6,52,0,0⟩],⟨by decide,rfl,by decide,rfl,by decide,rfl,by decide,rfl,rfl⟩,.inr ⟨rfl,rfl,.inl ⟨⟨_,aMr par⟩,rfl⟩⟩⟩
theorem aId (par:NN)(f:Nat)(hf:f=1∨f=2):tJ par mo5 f 0 [52] 0 0:=by
 rcases hf with rfl | rfl
 ·exact .inr ⟨[⟨0,1,52,0,0⟩],⟨by decide,rfl,rfl⟩,.inr ⟨rfl,rfl,.inl ⟨⟨_,aHe par⟩,rfl⟩⟩⟩
 exact .inr ⟨[⟨0,1,52,0,0⟩],⟨by decide,rfl,rfl⟩,.inr ⟨rfl,rfl,.inl ⟨⟨_,aHe par⟩,rfl⟩⟩⟩
theorem aKd:uE mo5 0 0 0:=by
 refine .inl ⟨rfl,rfl,rfl,fun k hk=>⟨0,?_⟩⟩
 match k,hk with
 | 0,_=>exact⟨_,rfl,aRg _⟩
 | 1,_=>exact⟨_,rfl,aId _ 1 (.inl rfl)⟩
 | 2,_=>exact⟨_,rfl,aId _ 2 (.inr rfl)⟩
theorem Q7:dI ipF mo5=true∧(Wire.written mo5).length≤40000:=⟨by decide,by decide⟩
theorem qT {m:Mo}(h:dI ipF m=true∧(Wire.written m).length≤40000):kH m=0:=by unfold kH;rw[if_pos h]
theorem N3 {m:Mo}(h:kH m=0):dI ipF m=true∧bl (gT m)=Wire.written m∧(gT m).size≤40000:=by
 unfold kH at h;split at h
 ·rename_i hc
  have e:gT m=mkB (Wire.written m):=by unfold gT;rw[if_pos hc]
  rw[e,aGn,oW];exact⟨hc.1,rfl,hc.2⟩
 cases h
def E5:Mach.Env:=eE mo5
def s50:Mach.St:=Mach.begin_ mo5 [] []
def s51:Mach.St:=Mach.does E5 s50 [] (Mach.enter mo5 0 []) ⟨0,2,0,10,0⟩ [] []
def s52:Mach.St:=Mach.does E5 s51 [] (s51.frs.getD 0 fr0) ⟨2,3,27,0,0⟩ [] (s51.frs.getD 0 fr0).stk
def s53:Mach.St:=Mach.does E5 s52 [] (s52.frs.getD 0 fr0) ⟨3,5,44,1,0⟩ [] (s52.frs.getD 0 fr0).stk
def s54:Mach.St:=Mach.does E5 s53 [] (s53.frs.getD 0 fr0) ⟨5,6,52,0,0⟩ [] []
def s55:Mach.St:=Mach.does E5 s54 [] (s54.frs.getD 0 fr0) ⟨0,1,52,0,0⟩ [] []
theorem r50:Mach.Ready E5 s50 [] (Mach.enter mo5 0 []) ⟨0,2,0,10,0⟩ [] []:=⟨by kernel_rfl,by decide +kernel,by kernel_rfl,by kernel_rfl,fV.1 (by kernel_rfl),by decide +kernel⟩
theorem r51:Mach.Ready E5 s51 [] (s51.frs.getD 0 fr0) ⟨2,3,27,0,0⟩ [] (s51.frs.getD 0 fr0).stk:=⟨by kernel_rfl,by decide +kernel,by kernel_rfl,by kernel_rfl,fV.1 (by kernel_rfl),by decide +kernel⟩
theorem r52:Mach.Ready E5 s52 [] (s52.frs.getD 0 fr0) ⟨3,5,44,1,0⟩ [] (s52.frs.getD 0 fr0).stk:=⟨by kernel_rfl,by decide +kernel,by kernel_rfl,by kernel_rfl,fV.1 (by kernel_rfl),by decide +kernel⟩
theorem r53:Mach.Ready E5 s53 [] (s53.frs.getD 0 fr0) ⟨5,6,52,0,0⟩ [] []:=⟨by kernel_rfl,by decide +kernel,by kernel_rfl,by kernel_rfl,fV.1 (by kernel_rfl),by decide +kernel⟩
theorem r54:Mach.Ready E5 s54 [] (s54.frs.getD 0 fr0) ⟨0,1,52,0,0⟩ [] []:=⟨by kernel_rfl,by decide +kernel,by kernel_rfl,by kernel_rfl,fV.1 (by kernel_rfl),by decide +kernel⟩
theorem aSo:Mach.Plays E5 3 s50 s53:=.inr ⟨by kernel_rfl,_,_,_,_,_,r50,.inr ⟨by kernel_rfl,_,_,_,_,_,r51,.inr ⟨by kernel_rfl,_,_,_,_,_,r52,rfl⟩⟩⟩
theorem aSn:Mach.Plays E5 100 s53 s55:=.inr ⟨by kernel_rfl,_,_,_,_,_,r53,.inr ⟨by kernel_rfl,_,_,_,_,_,r54,.inl ⟨by decide +kernel,rfl⟩⟩⟩
theorem I1:s53.st=0∧s53.used=3∧s53.w.out=⟨#[53,10]⟩:=⟨by kernel_rfl,by kernel_rfl,by kernel_rfl⟩
theorem aEf:s55.st=1∧s55.used=5∧s55.w.out=⟨#[53,10]⟩:=⟨by kernel_rfl,by kernel_rfl,by kernel_rfl⟩
theorem aIb (s:BA)(w:WL):(Instr.build 46 #[(2,.string s)]).run prog w=.ok (.agg #[iA 0,iA 0,.string s]) w:=by
 kernel_rfl
theorem aQx (a b c:BA)(w:WL):(Instr.buildSlice 23 3 #[(0,.agg #[iA 0,iA 0,.string a]),(1,.agg #[iA 0,iA 0,.string b]),(2,.agg #[iA 0,iA 0,.string c])]).run prog w=.ok (.slice (some (Ad w.heap.size 0)) 3 3) (w.alloc (.cells #[iA 0,iA 0,.string a,iA 0,iA 0,.string b,iA 0,iA 0,.string c] 46)):=by
 kernel_rfl
theorem aVd (o:OA)(n c:Nat)(w:WL):(Instr.build 25 #[(4,.slice o n c)]).run prog w=.ok (.agg #[.slice none 0 0,.slice none 0 0,iA 0,iA 0,.slice o n c]) w:=by
 kernel_rfl
theorem aFv (w:WL):Calls prog 16 #[] w fun e w'=>e=.returned (.agg #[iA 0,iA 0,.string ⟨#[52]⟩])∧Fr [] w w':=by
 have hbd:=aIb;go_enter func16,ntmps16;go_wp2_with fail;refine bodyPost_ret (results_cell_row rfl _ _ w.heap.size 46 #[iA 0,iA 0,.string ⟨#[52]⟩] (0,0) _ rfl ?_ underlying46 rfl (by kernel_rfl)) rfl ?_
 ·exact wan w _
 exact⟨rfl,(Fr.refl [] w).alloc _⟩
theorem aCq (w:WL):Calls prog 6 #[] w fun e w'=>∃ g,e=.returned (.agg #[.slice none 0 0,.slice none 0 0,iA 0,iA 0,.slice (some (Ad g 0)) 3 3])∧Fr [] w w'∧w'.heap[g]?=some (.cells fn5 46):=by
 have hbd:=aIb;have hbs:=aQx;have hb5:=aVd;have HE:Hid (∀ V:WL,Calls prog 16 #[] V fun e w'=>e=.returned (.agg #[iA 0,iA 0,.string ⟨#[52]⟩])∧Fr [] V w'):=fun V=>aFv V;obtain⟨W1,hW1⟩:=eXi (w.alloc (.cells #[.slice none 0 0,.slice none 0 0,iA 0,iA 0,.slice none 0 0] 25));obtain⟨k1,F1,l1⟩:=dH hW1;have H1:Hid _:=AI k1 (AI F1 l1);clear k1 F1 l1;go_enter func6,ntmps6;go_wp2_with fail;refine Calls.mono (HE.out W1) ?_;rintro e V ⟨rfl,F2⟩;have H2:Hid _:=F2;clear F2;go_wp2_with fail;refine Calls.mono (HE.out V) ?_;rintro e V2 ⟨rfl,F3⟩;obtain⟨V3,hV3⟩:=eXi (V2.alloc (.cells #[iA 0,iA 0,.string ⟨#[0,10,27,44,1,52]⟩,iA 0,iA 0,.string ⟨#[52]⟩,iA 0,iA 0,.string ⟨#[52]⟩] 46));obtain⟨k4,F4,l4⟩:=dH hV3;obtain⟨k1,F1,l1⟩:=H1.out;have FA:Fr [] W1 V3:=(H2.out.trans F3).trans F4;have lA:=F3.size;have lB:=H2.out.size;have kB:=(FA.block _ l1 (by simp)).trans k1;obtain⟨⟨q0,q1,q2,q3,q4⟩,fz⟩:=dY kB;have f0:=fz 0;have f1:=fz 1;have f2:=fz 2;have f3:=fz 3;have f4:=fz 4;have HS:Hid _:=kG kB;have HF:Hid _:=AI (F1.trans FA) (AI k4 (AI (show w.heap.size<V2.heap.size by omega) l4));clear k1 F1 l1 k4 F4 l4 FA kB fz F3 H1 H2 lA lB HE;go_wp2_with fail;refine bodyPost_ret (results_cell_row rfl _ _ w.heap.size 25 #[.slice none 0 0,.slice none 0 0,iA 0,iA 0,.slice (some (Ad V2.heap.size 0)) 3 3] (0,0) _ rfl (HS.out _ _ _ _ _) underlying25 rfl (by kernel_rfl)) rfl ?_;obtain⟨F,k4,l1,l4⟩:=HF.out;have hl:=Nat.le_refl w.heap.size;refine⟨V2.heap.size,rfl,((((F.setCell (.inr hl) _).setCell (.inr hl) _).setCell (.inr hl) _).setCell (.inr hl) _).setCell (.inr hl) _,?_⟩;have FS:Fr [w.heap.size] V3 (oQ V3 w.heap.size (.slice none 0 0) (.slice none 0 0) (iA 0) (iA 0) (.slice (some (Ad V2.heap.size 0)) 3 3)):=((((((Fr.refl [w.heap.size] V3).setCell (.inl (by simp)) _).setCell (.inl (by simp)) _).setCell (.inl (by simp)) _).setCell (.inl (by simp)) _).setCell (.inl (by simp)) _);exact (FS.block V2.heap.size l4 (by simp;omega)).trans k4
theorem aWs:E0 mo5:=by
 refine⟨(by decide),fun s hs=>(by cases hs),(by decide),fun s hs=>(by cases hs),(by decide),fun s hs=>?_⟩;simp only[mo5,List.mem_cons,List.not_mem_nil,or_false] at hs;rcases hs with rfl | rfl | rfl <;> decide
theorem r8 (W:WL)(g:Nat)(h:W.heap[g]?=some (.cells fn5 46))(hT:Tab W):Calls prog 5 #[.agg #[.slice none 0 0,.slice none 0 0,iA 0,iA 0,.slice (some (Ad g 0)) 3 3]] W fun e w'=>e=.returned (.tuple #[.string (gT mo5),iA 0])∧Fr [] W w':=by
 refine (aAs _ mo5 W (aWt W g h) aWs hT).mono ?_;rintro e w ⟨he,F⟩;rw[qT Q7] at he;exact⟨he,F⟩
theorem aRf {α:Type}(W:WL)(f:α→Value):iZ W (.slice none 0 0) (([]:List α).map f):=⟨none,0,rfl,Nat.le_refl _,by decide,fun h=>absurd h (by simp)⟩
theorem aSh:Scr .nil .nil:=⟨by decide,by decide,(by rintro ⟨s,hs,-⟩;cases hs),(by rintro ⟨s,hs,-⟩;cases hs)⟩
theorem aJt {W:WL}(hb:uG W):Calls prog 8 #[.string (gT mo5),.slice none 0 0,.slice none 0 0] W fun e w=>Fr [] W w∧∃ Y X tag,e=.returned (.tuple #[ptr Y,iA 0])∧Rst E5 X Y s50 w tag∧GoE E5∧∀ k,k<W.heap.size→tag k=6:=by
 obtain⟨hw,hu,hm⟩:=N3 (qT Q7);refine (aAx (recs:=[]) (draws:=[]) _ hb hm hu hw (aRf W _) (aRf W _)).mono ?_;rintro e w ⟨F,f,p,x,hA,h⟩;have e0:x=0:=hA.unique aKd;subst e0;rcases h with ⟨h,-⟩ | ⟨-,h,-⟩ | ⟨-,-,Y,he,X,tag,R,ht,hK,-⟩
 ·exact absurd rfl h
 ·exact absurd aSh h
 obtain⟨hMo,h3⟩:=fB hw;obtain⟨w1,w2,w3⟩:=mY hw;exact⟨F,Y,X,tag,he,R,aPo w1 (by decide) (by decide) (by decide) (by decide) (fun f hf=>(w3 f hf).2) hK,ht⟩
theorem Fr.kp {W V w:WL}{tag t:NN} (F:Fr [] W V) (K:Kp tag t V w) (h:∀ k,k<W.heap.size→tag k<10):Fr [] W w:=
 ⟨K.os.trans F.os,K.tape.trans F.tape,K.output.trans F.output,Nat.le_trans F.size K.size,fun k hk _=>(K.blk k (Nll hk F.size) (h k hk)).trans (F.block k hk (by simp))⟩
theorem aHt {X Y:Nat}{S D:Mach.St}{W:WL}{tag:NN} (h:Rst E5 X Y S W tag) (hE:GoE E5) {N:Nat} (hN:N≤100000) (hP:Mach.Plays E5 N S D) (hu:S.used+N≤4611686018427387904):Calls prog 14 #[ptr Y,iA (N:Nat)] W fun e w=>e=.returned (stI 0)∧∃ t,Rst E5 X Y D w t∧Kp tag t W w:=by
 refine (h.go hE hN hu).mono ?_;rintro e w ⟨he,D',t,hP',R,K⟩;have:=hP.unique hP';subst this;exact⟨he,t,R,K⟩
theorem aEp {W:WL}(hb:uG W):Calls prog 4 #[] W fun e w'=>e=.returned (.bool true)∧Fr [] W w':=by
 have HB:Hid (∀ V,Fr [] W V→uG V):=fun V F=>hb.fr F;have HO:Hid (∀ V,uG V→Calls prog 8 #[.string (gT mo5),.slice none 0 0,.slice none 0 0] V fun e w=>Fr [] V w∧∃ Y X tag,e=.returned (.tuple #[ptr Y,iA 0])∧Rst E5 X Y s50 w tag∧GoE E5∧∀ k,k<V.heap.size→tag k=6):=fun V h=>aJt h;have HP:Hid (∀ V g,V.heap[g]?=some (.cells fn5 46)→Tab V→Calls prog 5 #[.agg #[.slice none 0 0,.slice none 0 0,iA 0,iA 0,.slice (some (Ad g 0)) 3 3]] V fun e w'=>e=.returned (.tuple #[.string (gT mo5),iA 0])∧Fr [] V w'):=r8;clear hb;generalize gT mo5=ps at *;go_enter func4,ntmps4;go_wp2_with fail;refine Calls.mono (aCq W) ?_;rintro e V ⟨g,rfl,F1,k1⟩;obtain⟨V1,hV1⟩:=eXi (V.alloc (.cells #[.slice none 0 0,.slice none 0 0,iA 0,iA 0,.slice (some (Ad g 0)) 3 3] 25));obtain⟨kB,F2,l2⟩:=dH hV1;obtain⟨⟨q0,q1,q2,q3,q4⟩,-⟩:=dY kB;have F3:=F1.trans F2;have hp:=HP.out V1 g ((F2.block g (Age.1 k1).1 (by simp)).trans k1) (HB.out V1 F3).tab;have HP2:Hid _:=AI hp F3;clear F1 F2 F3 k1 kB l2 hp HP;go_wp2_with fail;refine Calls.mono HP2.out.1 ?_;rintro e V2 ⟨rfl,F4⟩;have H4:Hid _:=HP2.out.2.trans F4;clear F4 HP2 q0 q1 q2 q3 q4;go_wp2_with fail;refine Calls.mono (HO.out V2 (HB.out V2 H4.out)) ?_;rintro e V3 ⟨F5,Y,X,tag,rfl,R,hE,ht⟩;have H5:Hid _:=AI F5 (AI R (AI hE ht));clear F5 R hE ht HO;go_wp2_with fail;refine Calls.mono (aHt H5.out.2.1 H5.out.2.2.1 (N:=3) (by decide) aSo (by decide)) ?_;rintro e V4 ⟨rfl,t,R,K⟩;have ht:∀ k,k<W.heap.size→tag k=6:=fun k hk=>H5.out.2.2.2 k (Nll hk H4.out.size);have F6:=((H4.out.trans H5.out.1)).kp K (fun k hk=>by rw[ht k hk];decide);have ht2:∀ k,k<W.heap.size→t k=6:=fun k hk=>(K.ret k (Nll hk (Nat.le_trans H4.out.size H5.out.1.size))).trans (ht k hk);have HT:Hid _:=R.tell;have H6:Hid _:=AI F6 (AI R (AI H5.out.2.2.1 ht2));clear F6 R K ht ht2 H5 H4 HB;have h0:=I1.1;have h1:=I1.2.1;have h2:=I1.2.2;rw[h0,h1,h2] at HT;unfold stV at HT;generalize s53.code=cd at *;clear h0 h1 h2;go_wp2_with fail;refine Calls.mono HT.out ?_;rintro e V5 ⟨rfl,F7⟩;obtain⟨V6,hV6⟩:=eXi (V5.alloc (.cells #[iA 0,iA cd,.string ⟨#[53,10]⟩,iA 3] 40));obtain⟨kQ,F8,l8⟩:=dH hV6;obtain⟨t7,R7,K7,h7⟩:=H6.out.2.1.box (F7.trans F8);have lW:=H6.out.1.size;have HG:Hid (Calls prog 14 #[ptr Y,iA 100] V6 fun e w=>e=.returned (stI 0)∧∃ t,Rst E5 X Y s55 w t∧Kp t7 t V6 w):=aHt R7 H6.out.2.2.1 (N:=100) (by decide) aSn (by rw[I1.2.1];decide);have h67:t7 V5.heap.size=6:=h7 _ F7.size;have H8:Hid _:=AI (H6.out.1.trans (F7.trans F8)) (AI (fun k (hk:k<W.heap.size)=>(K7.ret k (by omega)).trans (H6.out.2.2.2 k hk)) (AI kQ (AI l8 (AI h67 (Nat.le_trans lW F7.size)))));obtain⟨⟨c0,c1,c2,c3⟩,-⟩:=dT kQ;clear F7 F8 R7 K7 h7 lW kQ l8 HT h67 H6;go_wp2_with fail;refine Calls.mono HG.out ?_;rintro e V7 ⟨rfl,t,R,K⟩;have F9:=H8.out.1.kp K (fun k hk=>by rw[H8.out.2.1 k hk];decide);have kQ:=(K.blk _ H8.out.2.2.2.1 (by rw[H8.out.2.2.2.2.1];decide)).trans H8.out.2.2.1;have l9:=Nll H8.out.2.2.2.1 K.size;have HT:Hid _:=R.tell;have lQ:=H8.out.2.2.2.2.2;have H9:Hid _:=AI F9 (AI kQ (AI l9 lQ));clear F9 kQ l9 R K HG H8 lQ;have h0:=aEf.1;have h1:=aEf.2.1;have h2:=aEf.2.2;rw[h0,h1,h2] at HT;unfold stV at HT;generalize s55.code=cd2 at *;clear h0 h1 h2 c0 c1 c2 c3;go_wp2_with fail;refine Calls.mono HT.out ?_;rintro e V8 ⟨rfl,F10⟩;have kQ:=(F10.block _ H9.out.2.2.1 (by simp)).trans H9.out.2.1;obtain⟨⟨c0,c1,c2,c3⟩,fz⟩:=dT kQ;have f0:=fz 0;have f1:=fz 1;have f2:=fz 2;have f3:=fz 3;have H10:Hid _:=AI (H9.out.1.trans F10) H9.out.2.2.2;clear kQ fz F10 H9 HT;go_wp2_with fail;go_ret;refine⟨rfl,?_⟩;have hl:=H10.out.2;exact (((H10.out.1.setCell (.inr hl) _).setCell (.inr hl) _).setCell (.inr hl) _).setCell (.inr hl) _
section
variable {E:Mach.Env}{X Y X2 Y2:Nat}{S D:Mach.St}{W W' V0:WL}{tag tag' u:NN}{Qs:LN}
theorem Rst.beside (h:Rst E X2 Y2 S W u)(hs:Sep tag u W)(K:Kp tag tag' W W')(hY:tag Y2<10):∃ u',Rst E X2 Y2 S W' u'∧Sep tag' u' W'∧(∀ k,k<W.heap.size→u' k=u k)∧∀ k,W.heap.size≤k→u' k=6:=by
 obtain⟨g,low,fr,M,hG,hT,r⟩:=h;obtain⟨u',M',s',h1,h2⟩:=M.beside hs K;have hl:Y2<W.heap.size:=aB hG;exact⟨u',⟨g,low,fr,M',(K.cell (p:=Ad Y2 0) hl hY).trans hG,by rw[h1 _ hl];exact hT,r⟩,s',h1,h2⟩
theorem Rst.poke (h:Rst E X Y S W tag){q:Nat}(F:Fr [q] W W')(hq:tag q=6)(h6:6≤q)(hY:q≠Y):∃ t,Rst E X Y S W' t∧(∀ k,k<W.heap.size→t k=tag k)∧∀ k,W.heap.size≤k→t k=6:=by
 obtain⟨g,low,fr,M,hG,hT,r⟩:=h;have hb:∀ k,k<W.heap.size→k≠q→W'.heap[k]?=W.heap[k]?:=fun k hk hn=>F.block k hk (by simpa using hn);obtain⟨t,M',h1,h2⟩:=M.other F.os F.tape F.output F.size fun k hk c=>hb k hk (by rintro rfl;omega);have hl:Y<W.heap.size:=aB hG;exact⟨t,⟨g,low,fr,M',(World.cell?_of_block (w:=W) (a:=Ad Y 0) (hb Y hl (Ne.symm hY))).trans hG,by rw[h1 _ hl];exact hT,r⟩,h1,h2⟩
theorem Rst.lt (h:Rst E X Y S W tag):Y<W.heap.size:=by
 obtain⟨g,low,fr,M,hG,-⟩:=h;exact aB hG
def Two (E:Mach.Env) (X Y X2 Y2:Nat) (V0:WL) (Qs:LN) (D S:Mach.St) (w:WL):Prop:=
 ∃ t u,Rst E X Y D w t∧Rst E X2 Y2 S w u∧Sep t u w∧Fr [] V0 w∧6≤V0.heap.size∧(∀ k,k<V0.heap.size→t k=6∧u k=6)∧t Y2<10∧u Y<10∧∀ q ∈ Qs,t q=6∧u q=6∧q<w.heap.size∧V0.heap.size≤q∧q≠Y∧q≠Y2
theorem Two.start {V1 V2:WL}(h6:6≤V0.heap.size)(h1:Rst E X Y D V1 tag)(F1:Fr [] V0 V1)(t1:∀ k,k<V0.heap.size→tag k=6)(h2:Rst E X2 Y2 S V2 u)(F2:Fr [] V1 V2)(t2:∀ k,k<V1.heap.size→u k=6)(hY2:V1.heap.size≤Y2):Two E X Y X2 Y2 V0 [] D S V2:=by
 obtain⟨t,R,K,hn⟩:=h1.box F2;have hl:=h1.lt;have s0:=F1.size;refine⟨t,u,R,h2,fun k hk=>?_,F1.trans F2,h6,fun k hk=>⟨?_,t2 k (by omega)⟩,by rw[hn _ hY2];decide,by rw[t2 _ hl];decide,fun q hq=>by cases hq⟩
 ·rcases Nat.lt_or_ge k V1.heap.size with c | c
  ·rw[t2 k c];refine⟨fun c2=>⟨?_,by decide⟩,fun c2=>absurd c2 (by decide)⟩;rcases Nat.lt_or_ge k V0.heap.size with c3 | c3
   ·rw[K.ret k c,t1 k c3] at c2;omega
   omega
  rw[hn k c];exact⟨fun c2=>absurd c2 (by decide),fun c2=>⟨by omega,by decide⟩⟩
 rw[K.ret k (by omega)];exact t1 k hk
theorem Two.new (h:Two E X Y X2 Y2 V0 Qs D S W)(F:Fr [] W W'){q:Nat}(h1:W.heap.size≤q)(h2:q<W'.heap.size):Two E X Y X2 Y2 V0 (q :: Qs) D S W':=by
 obtain⟨t,u,R,R2,hs,F0,h6,ho,hy,hy2,hq⟩:=h;obtain⟨t',A,K,n1⟩:=R.box F;obtain⟨u',A2,K2,n2⟩:=R2.box F;have l1:=R.lt;have l2:=R2.lt;have l0:=F0.size;refine⟨t',u',A,A2,fun k hk=>?_,F0.trans F,h6,fun k hk=>?_,by rw[K.ret _ l2];exact hy,by rw[K2.ret _ l1];exact hy2,fun x hx=>?_⟩
 ·rcases Nat.lt_or_ge k W.heap.size with c | c
  ·rw[K.ret k c,K2.ret k c];exact hs k c
  rw[n1 k c,n2 k c];exact⟨fun c2=>absurd c2 (by decide),fun c2=>absurd c2 (by decide)⟩
 ·rw[K.ret k (by omega),K2.ret k (by omega)];exact ho k hk
 rcases List.mem_cons.1 hx with rfl | hx
 ·exact⟨n1 _ h1,n2 _ h1,h2,by omega,by omega,by omega⟩
 obtain⟨a,b,c,d⟩:=hq x hx;exact⟨(K.ret x c).trans a,(K2.ret x c).trans b,Nll c F.size,d⟩
theorem Two.fr (h:Two E X Y X2 Y2 V0 Qs D S W)(F:Fr [] W W'):Two E X Y X2 Y2 V0 Qs D S W':=by
 obtain⟨t,u,R,R2,hs,F0,h6,ho,hy,hy2,hq⟩:=h;obtain⟨t',A,K,n1⟩:=R.box F;obtain⟨u',A2,K2,n2⟩:=R2.box F;have l1:=R.lt;have l2:=R2.lt;have l0:=F0.size;refine⟨t',u',A,A2,fun k hk=>?_,F0.trans F,h6,fun k hk=>?_,by rw[K.ret _ l2];exact hy,by rw[K2.ret _ l1];exact hy2,fun x hx=>?_⟩
 ·rcases Nat.lt_or_ge k W.heap.size with c | c
  ·rw[K.ret k c,K2.ret k c];exact hs k c
  rw[n1 k c,n2 k c];exact⟨fun c2=>absurd c2 (by decide),fun c2=>absurd c2 (by decide)⟩
 ·rw[K.ret k (by omega),K2.ret k (by omega)];exact ho k hk
 obtain⟨a,b,c,d⟩:=hq x hx;exact⟨(K.ret x c).trans a,(K2.ret x c).trans b,Nll c F.size,d⟩
theorem Two.poke (h:Two E X Y X2 Y2 V0 Qs D S W){q:Nat}(hm:q ∈ Qs)(F:Fr [q] W W'):Two E X Y X2 Y2 V0 Qs D S W':=by
 obtain⟨t,u,R,R2,hs,F0,h6,ho,hy,hy2,hq⟩:=h;obtain⟨a,b,c,d,e1,e2⟩:=hq q hm;obtain⟨t',A,K,n1⟩:=R.poke F a (by omega) e1;obtain⟨u',A2,K2,n2⟩:=R2.poke F b (by omega) e2;have l1:=R.lt;have l2:=R2.lt;have l0:=F0.size;refine⟨t',u',A,A2,fun k hk=>?_,F0.trans' F (fun y hy=>.inr (by simp at hy;omega)),h6,fun k hk=>?_,by rw[K _ l2];exact hy,by rw[K2 _ l1];exact hy2,fun x hx=>?_⟩
 ·rcases Nat.lt_or_ge k W.heap.size with c | c
  ·rw[K k c,K2 k c];exact hs k c
  rw[n1 k c,n2 k c];exact⟨fun c2=>absurd c2 (by decide),fun c2=>absurd c2 (by decide)⟩
 ·rw[K k (by omega),K2 k (by omega)];exact ho k hk
 obtain⟨a,b,c,d⟩:=hq x hx;exact⟨(K x c).trans a,(K2 x c).trans b,Nll c F.size,d⟩
theorem Two.left {D':Mach.St}{t t' u:NN} (R:Rst E X Y D' W' t') (K:Kp t t' W W') (R2:Rst E X2 Y2 S W u) (hY:Y<W.heap.size) (hs:Sep t u W) (F0:Fr [] V0 W) (h6:6≤V0.heap.size) (ho:∀ k,k<V0.heap.size→t k=6∧u k=6) (hy:t Y2<10) (hy2:u Y<10) (hq:∀ q ∈ Qs,t q=6∧u q=6∧q<W.heap.size∧V0.heap.size≤q∧q≠Y∧q≠Y2) :
  Two E X Y X2 Y2 V0 Qs D' S W'∧∀ q ∈ Qs,W'.heap[q]?=W.heap[q]?:=by
 obtain⟨u',A2,s',K2,n2⟩:=R2.beside hs K hy;have l2:=R2.lt;have l0:=F0.size;refine⟨⟨t',u',R,A2,s',⟨K.os.trans F0.os,K.tape.trans F0.tape,K.output.trans F0.output,Nat.le_trans l0 K.size,fun k hk _=>(K.blk k (by omega) (by rw[(ho k hk).1];decide)).trans (F0.block k hk (by simp))⟩,h6,fun k hk=>?_,by rw[K.ret _ l2];exact hy,by rw[K2 _ hY];exact hy2,fun x hx=>?_⟩,fun x hx=>?_⟩
 ·rw[K.ret k (by omega),K2 k (by omega)];exact ho k hk
 ·obtain⟨a,b,c,d⟩:=hq x hx;exact⟨(K.ret x c).trans a,(K2 x c).trans b,Nll c K.size,d⟩
 obtain⟨a,b,c,d⟩:=hq x hx;exact K.blk x c (by rw[a];decide)
theorem Two.swap (h:Two E X Y X2 Y2 V0 Qs D S W):Two E X2 Y2 X Y V0 Qs S D W:=by
 obtain⟨t,u,R,R2,hs,F0,h6,ho,hy,hy2,hq⟩:=h;exact⟨u,t,R2,R,hs.swap,F0,h6,fun k hk=>(ho k hk).symm,hy2,hy,fun q h=>by
  obtain⟨a,b,c,d,e,f⟩:=hq q h;exact⟨b,a,c,d,f,e⟩⟩
theorem Two.piece (hE:GoE E)(h:Two E X Y X2 Y2 V0 Qs D S W)(n:Int)(hu:D.used+100000≤4611686018427387904):Calls prog 10 #[ptr Y,iA n] W fun e w=>e=.returned (.bool true)∧∃ D',Mach.Plays E (if 0<n∧n≤100000 then n.toNat else 0) D D'∧Two E X Y X2 Y2 V0 Qs D' S w:=by
 obtain⟨t,u,R,R2,hs,F0,h6,ho,hy,hy2,hq⟩:=h;have l1:=R.lt;refine (aJk hE R n hu).mono ?_;rintro e w ⟨he,D',t',hP,R',K⟩;exact⟨he,D',hP,(Two.left R' K R2 l1 hs F0 h6 ho hy hy2 hq).1⟩
theorem Two.once (hE:GoE E)(h:Two E X Y X2 Y2 V0 Qs D S W)(T:Nat)(hu:D.used+T≤4611686018427387904):Calls prog 12 #[ptr Y,iA (T:Nat)] W fun e w=>e=.returned (.bool true)∧∃ D',Mach.Plays E T D D'∧Two E X Y X2 Y2 V0 Qs D' S w∧∀ q ∈ Qs,w.heap[q]?=W.heap[q]?:=by
 obtain⟨t,u,R,R2,hs,F0,h6,ho,hy,hy2,hq⟩:=h;have l1:=R.lt;refine (aGt hE R T hu).mono ?_;rintro e w ⟨he,D',t',hP,R',K⟩;obtain⟨a,b⟩:=Two.left R' K R2 l1 hs F0 h6 ho hy hy2 hq;exact⟨he,D',hP,a,b⟩
theorem Two.tell (h:Two E X Y X2 Y2 V0 Qs D S W):Calls prog 11 #[ptr Y] W fun e w=>e=.returned (stV D.st D.code D.w.out D.used)∧Fr [] W w:=by
 obtain⟨t,u,R,-⟩:=h;exact R.tell
theorem Two.keys (h:Two E X Y X2 Y2 V0 Qs D D W)(hl:E.mo.arrs.toNat≤1000):Calls prog 13 #[ptr Y,ptr Y2,iA (E.mo.arrs.toNat:Nat)] W fun e w=>e=.returned (.bool true)∧Fr [] W w:=by
 obtain⟨t,u,R,R2,-⟩:=h;exact L5 R R2 hl
theorem Two.old (h:Two E X Y X2 Y2 V0 Qs D S W):Fr [] V0 W:=by
 obtain⟨t,u,R,R2,hs,F0,-⟩:=h;exact F0
end
end Go.Proofs.YtlokkgajpjafmaaGreatDoor
