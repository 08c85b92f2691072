import Derived.Test.YtmolfmgchbjnbaaGreatDoorM25
import Derived.Test.YtmolfmgchbjnbaaGreatDoorM05
set_option linter.unusedSimpArgs false
set_option linter.unusedVariables false
set_option linter.unusedSectionVars false
set_option maxRecDepth 100000
set_option maxHeartbeats 40000000
open _root_.Go.Proofs.Tryz
namespace Go.Proofs.YtmolfmgchbjnbaaGreatDoor
open Go.RowKit
open Wire Flow
theorem oper_makeB {o:Oper}{a:Act}{w w':WL}{K:Act→WL→Prop}{Q:Exit→Act→WL→Prop} (t:TypeId) (x y:Operand) (ho:o.op=.makeSlice t x y) (u v r:Value) (hx:a.eval x=u) (hy:a.eval y=v) (hrun:(Instr.makeSlice t u v).run prog w=.ok r w')
  (h:K (a.put o.dst r) w'):o.wp prog a w K Q:=by
 unfold Oper.wp execOp;simp only[ho,Sem.run_bind,Sem.run_pure,Result.andThen_ok,hx,hy,hrun];exact h
theorem alloc_has {W W1:WL}{o:Obj} (h:W.alloc o=W1):W1.heap[W.heap.size]?=some o∧Fr [] W W1∧W.heap.size<W1.heap.size:=by
 subst h;exact⟨wan W o,(Fr.refl [] W).alloc _,by simp⟩
theorem build79 (o1 o2 o3 o4:OA)(l1 k1 l2 k2 l3 k3 l4 k4:Nat)(w:WL):(Instr.build 135 #[(0,.slice o1 l1 k1),(4,.slice o2 l2 k2),(7,.slice o3 l3 k3),(8,.slice o4 l4 k4)]).run prog w=.ok (.agg (nwC ⟨.slice o1 l1 k1,.slice none 0 0,.slice none 0 0,.slice none 0 0,.slice o2 l2 k2,.slice o3 l3 k3,.slice o4 l4 k4⟩).toArray) w:=by
 kernel_rfl
theorem build87 (p:Int)(o:OA)(n c:Nat)(w:WL):(Instr.build 143 #[(0,iA p),(1,.slice o n c)]).run prog w=.ok (.agg #[iA p,.slice o n c]) w:=by
 kernel_rfl
theorem buildS22 (s:BA)(w:WL):(Instr.buildSlice 22 1 #[(0,.string s)]).run prog w=.ok (.slice (some (Ad w.heap.size 0)) 1 1) (w.alloc (.cells #[.string s] 9)):=by
 kernel_rfl
theorem buildS74 (p:Int)(o:OA)(n c:Nat)(w:WL):(Instr.buildSlice 130 1 #[(0,.agg #[iA p,.slice o n c])]).run prog w=.ok (.slice (some (Ad w.heap.size 0)) 1 1) (w.alloc (.cells #[iA p,.slice o n c] 143)):=by
 kernel_rfl
section
variable {m:Mo}{t0:NN}{W:WL}{recs:LY}{draws:List Int}
def M5 (b:Nat) (v0 v1 v2 v3 v4:Value) (V:WL):Prop:=V.cell? ⟨b,0,none⟩=some v0∧V.cell? ⟨b,1,none⟩=some v1∧V.cell? ⟨b,2,none⟩=some v2∧V.cell? ⟨b,3,none⟩=some v3∧V.cell? ⟨b,4,none⟩=some v4
theorem new_any {gn an:Nat}(hb:Base W)(ht0:∀ k,k<W.heap.size→t0 k<10){a0 a1 a4:OA}{n0 c0 c1 c4:Nat} (eg:m.globs=(gn:Nat)) (ea:m.arrs=(an:Nat)) (hg1:gn≤1000) (ha1:an≤1000) (hp0:m.pats.length=0) (hf1:m.fns.length≤1000) (hf3:3≤m.fns.length)
  (hFn:∀ V k x,Fr [] W V→m.fns[k]?=some x→∃ g off,a4=some (Ad g off)∧V.cell? (Ad g (off+k*3))=some (iA (Mach.parOf m k:Nat))∧V.cell? (Ad g (off+k*3+1))=some (iA x.locs)∧V.cell? (Ad g (off+k*3+2))=some (.string x.code))
  (hCo:∀ V k,Fr [] W V→k<m.fns.length→Calls prog 60 #[.agg #[.slice a0 n0 c0,.slice a1 m.pats.length c1,iA gn,iA an,.slice a4 m.fns.length c4],iA (k:Nat)] V fun e w'=>∃ g cap l,e=.returned (.tuple #[.slice (some (Ad g 0)) (l:List Stp).length cap,iA 0,iA 0])∧Fr [] V w'∧V.heap.size≤g∧∀ tag:NN,tag g=9→CodeM m w' tag k (.slice (some (Ad g 0)) l.length cap) l)
  (htv:RoL W t0 (.slice a0 n0 c0) (m.texts.map .string)) {ro do_:OA}{rc dc nr nd:Nat} (hr:ArgL W (.slice ro nr rc) (recs.map .string)) (hd:ArgL W (.slice do_ nd dc) (draws.map (.int .i64))) (hs:Scr recs draws) :
  Calls prog 33 #[.agg #[.slice a0 n0 c0,.slice a1 m.pats.length c1,iA gn,iA an,.slice a4 m.fns.length c4],.slice ro nr rc,.slice do_ nd dc] W fun e w=>∃ X g tag,e=.returned (ptr X)∧MM (envP m) X g (ms0 m recs draws) w tag∧g.en=0∧Kp t0 tag W w:=by
 have hm:=hmX
 obtain⟨W1,hW1⟩:=eXi (W.alloc (.cells #[.slice a0 n0 c0,.slice a1 m.pats.length c1,iA gn,iA an,.slice a4 m.fns.length c4] 70));have F1:=frA hW1
 have k1:W1.heap[W.heap.size]?=some (.cells #[.slice a0 n0 c0,.slice a1 m.pats.length c1,iA gn,iA an,.slice a4 m.fns.length c4] 70):=by rw[← hW1];exact wan W _
 have l1:=(Age.1 k1).1;have HT:Hid (∀ k,k<W1.heap.size→newTag t0 W.heap.size 9 k<10):=fun k hk=>by
  rcases Nat.lt_or_ge k W.heap.size with c | c
  ·rw[newTag_old c];exact ht0 k c
  rw[newTag_new c];decide
 have K1:Kp t0 (newTag t0 W.heap.size 9) W W1:=Kp.of_fr F1 fun k hk=>newTag_old hk;have HO:Hid (∀ V,Fr [] W1 V→M5 W.heap.size (.slice a0 n0 c0) (.slice a1 m.pats.length c1) (iA gn) (iA an) (.slice a4 m.fns.length c4) V):=fun V F=>(cells5F ((F.block _ l1 (by simp)).trans k1)).1;obtain⟨hrl,hdl,hrs,hds⟩:=hs;have HD:Hid (∀ V,Fr [] W1 V→Calls prog 57 #[.slice do_ nd dc] V fun e w=>∃ v',e=.returned v'∧w.ownsRow V.heap.size 3 1 v' draws.length (draws.map (.int .i64))∧Fr [] V w):=fun V F=>cloneI_any V hdl (hd.fr (F1.trans F));have HR:Hid (∀ V k s,Fr [] W1 V→recs[k]?=some s→s.size≤100∧∃ g off,ro=some (Ad g off)∧V.cell? (Ad g (off+k))=some (.string s)):=fun V k s F hk=>by
  refine⟨by
   by_cases c:s.size≤100
   ·exact c
   exact absurd ⟨s,List.mem_of_getElem? hk,show 100<s.size by omega⟩ hrs,?_⟩
  have hkl:=(Lgs.1 hk).1;obtain⟨o,c,e1,e2,e3,e4⟩:=hr.fr (F1.trans F);obtain⟨g,off,e5,e6,e7⟩:=e4 (by rw[List.length_map];omega);cases e1;exact⟨g,off,e5,e7 k _ (by rw[List.getElem?_map,hk];rfl)⟩
 have hnr:nr=recs.length:=by
  obtain⟨o,c,e1,-⟩:=hr;cases e1;simp
 subst hnr;have egn:(envP m).mo.globs.toNat=gn:=by show m.globs.toNat=gn;omega
 have ean:(envP m).mo.arrs.toNat=an:=by show m.arrs.toNat=an;omega
 have HP0:Hid (m.pats.length=0):=hp0;have HF:Hid (∀ V k x,Fr [] W1 V→m.fns[k]?=some x→∃ g off,a4=some (Ad g off)∧V.cell? (Ad g (off+k*3))=some (iA (Mach.parOf m k:Nat))∧V.cell? (Ad g (off+k*3+1))=some (iA x.locs)∧V.cell? (Ad g (off+k*3+2))=some (.string x.code)):=fun V k x F hk=>hFn V k x (F1.trans F) hk;have HG:Hid (∀ V k,Fr [] W1 V→k<m.fns.length→Calls prog 60 #[.agg #[.slice a0 n0 c0,.slice a1 m.pats.length c1,iA gn,iA an,.slice a4 m.fns.length c4],iA (k:Nat)] V fun e w'=>∃ g cap l,e=.returned (.tuple #[.slice (some (Ad g 0)) (l:List Stp).length cap,iA 0,iA 0])∧Fr [] V w'∧V.heap.size≤g∧∀ tag:NN,tag g=9→CodeM m w' tag k (.slice (some (Ad g 0)) l.length cap) l):=fun V k F hk=>hCo V k (F1.trans F) hk;have HE:Hid (∀ V X av,NwP (envP m) W1 (newTag t0 W.heap.size 9) X recs draws (.slice a0 n0 c0) av recs.length m.pats.length m.fns.length an V→Calls prog 62 #[ptr X,iA (0:Nat)] V fun e w'=>e=.returned unit∧∃ g tag',MM (envP m) X g (ms0 m recs draws) w' tag'∧g.en=0∧Kp t0 tag' W w'):=fun V X av h=>by
  obtain⟨x,pb,A,code,tag,e1,e2,h⟩:=h;rw[← ean] at h;refine (h.begin_ (hb.fr F1) HT.out (by rw[e1];exact htv.kp K1) hf3 hf1 (by show m.pats.length≤1000;omega) (by rw[ean];exact ha1)).mono ?_;rintro e w' ⟨he,g,tag',h1,h2,h3⟩;exact⟨he,g,tag',h1,h2,K1.trans h3⟩
 have h25:=HO.out W1 (Fr.refl [] W1);have HL1:Hid _:=AI F1 l1;clear hb ht0 hFn hCo htv hr hd hrs hds k1 K1 F1 l1 eg ea hdl hp0;go_enter func33,ntmps33;go_upto_region 1 with fail
 go_cut[7] from 21 to 32 (fun q wx=>∃ X av,q=ptr X∧Hid (NwP (envP m) W1 (newTag t0 W.heap.size 9) X recs draws (.slice a0 n0 c0) av 0 0 0 0 wx))
 case first=>
  refine wp_region_heldD (M5 W.heap.size (.slice a0 n0 c0) (.slice a1 m.pats.length c1) (iA gn) (iA an) (.slice a4 m.fns.length c4)) hm ?_;have hS:=HO.out W1.drew (Fr.refl [] W1).drew;refine wpAnyH_takes (fun _ _ _ _ _ h=>h) hS [0,1,2,4,5,7,8] (by kernel_rfl) ?_
  iterate 7
   refine Yls.cons (v:=?_) rfl (.inl ⟨rfl,fun w1 hS1=>?_⟩) ?_;rotate_left
   ·obtain⟨p0,p1,p2,p3,p4⟩:=hS1;go_simp
    first | rfl | (refine (if_neg (by omega)).trans ?_;rfl)
   simp only[Act.put,Zp,Zq]
  refine Yls.nil ?_;obtain⟨WD,hWD⟩:=eXi (W1.drew);have FD:Fr [] W1 WD:=by rw[← hWD];exact (Fr.refl [] W1).drew
  rw[hWD];have hDs:=FD.size;have hbd:=@build79;clear hW1 hWD hS h25 HR HF HG HE
  iterate 3
   all_goals
    first
     | (refine wpAnyH_ready (rs:=[3,6,9]) (by decide +kernel) (by simp) ?_
        refine AllReadyH.cons rfl (fun K hK=>?_) (AllReadyH.cons rfl (fun K hK=>?_) (AllReadyH.cons rfl (fun K hK=>?_) AllReadyH.nil)))
     | (first | refine wpAnyH_ready (rs:=[6,9]) (by decide +kernel) (by simp) ?_ | refine wpAnyH_ready (rs:=[3,9]) (by decide +kernel) (by simp) ?_ | refine wpAnyH_ready (rs:=[3,6]) (by decide +kernel) (by simp) ?_
        refine AllReadyH.cons rfl (fun K hK=>?_) (AllReadyH.cons rfl (fun K hK=>?_) AllReadyH.nil))
     | (first | refine wpAnyH_ready (rs:=[9]) (by decide +kernel) (by simp) ?_ | refine wpAnyH_ready (rs:=[6]) (by decide +kernel) (by simp) ?_ | refine wpAnyH_ready (rs:=[3]) (by decide +kernel) (by simp) ?_
        refine AllReadyH.cons rfl (fun K hK=>?_) AllReadyH.nil)
   all_goals
    first
     | (refine oper_makeB 127 (.tmp 26) (.tmp 26) rfl _ _ _ rfl rfl (mkGlobs gn (by omega) _) ?_
        generalize hV:World.alloc _ _=V;obtain⟨kk,G,s1⟩:=alloc_has hV
        (try replace ka:=(G.block _ (by omega) (by simp)).trans ka)
        (try replace od:=own_of_block od fun g hg=>G.block g (od.lt g hg).2 (by simp))
        have kg:=kk)
     | (refine oper_makeB 128 (.tmp 29) (.tmp 29) rfl _ _ _ rfl rfl (mkArrs an (by omega) _) ?_
        generalize hV:World.alloc _ _=V;obtain⟨kk,G,s1⟩:=alloc_has hV
        (try replace kg:=(G.block _ (by omega) (by simp)).trans kg)
        (try replace od:=own_of_block od fun g hg=>G.block g (od.lt g hg).2 (by simp))
        have ka:=kk)
     | (go_simp
        refine Calls.mono (HD.out _ FD) ?_;rintro e V ⟨v',rfl,ow,G⟩;obtain⟨vo,vc,rfl⟩:=own_form ow;have nd:=ow.lt;have od:=own_low ow FD.size;have s1:=G.size;have kk:=True.intro;have hV:=True.intro
        (try replace kg:=(G.block _ (by omega) (by simp)).trans kg)
        (try replace ka:=(G.block _ (by omega) (by simp)).trans ka)
        clear ow)
    replace FD:=FD.trans G;refine hK _ _ (HO.out _ FD) ?_;clear hK K hV kk G;intro _
    try simp only[Act.put,Zp,Zq]
  all_goals
   refine rd1 (r:=10) (by kernel_rfl) rfl fun K hK=>?_;go_simp;refine hK _ _ (HO.out _ FD) ?_;clear hK K;intro _
   try simp only[Act.put,Zp,Zq]
   refine rd1 (r:=11) (by kernel_rfl) rfl fun K hK=>?_;go_simp;generalize hV:World.alloc _ _=V;obtain⟨kX,G,s2⟩:=alloc_has hV;replace ka:=(G.block _ (by omega) (by simp)).trans ka;replace kg:=(G.block _ (by omega) (by simp)).trans kg;replace od:=own_of_block od fun g hg=>G.block g (od.lt g hg).2 (by simp);replace FD:=FD.trans G;refine hK _ _ (HO.out _ FD) ?_;clear hK K hV G;intro _
   try simp only[Act.put,Zp,Zq]
   refine rd1 (r:=12) (by kernel_rfl) rfl fun K hK=>?_;go_simp;refine hK _ _ (HO.out _ FD) ?_;clear hK K;intro _
   try simp only[Act.put,Zp,Zq]
   refine wpAnyH_done (by kernel_rfl) ?_ _;have HFin:Hid _:=nw_start (E:=envP m) (t0:=newTag t0 W.heap.size 9) (recs:=recs) egn ean FD hg1 ha1 kX kg ka od (by omega) (by omega) (by omega) (by omega) (by omega) (by omega) (fun g hg=>by have:=nd g hg;omega);clear kX kg ka od nd s1 s2 hDs hbd FD;go_wp2_with fail;go_meet;exact⟨_,_,rfl,_,_,_,_,_,rfl,rfl,HFin.out⟩
 case rest=>
  obtain⟨X,av,rfl,HN⟩:=hcut;clear h25 hW1;go_wp2_with fail
  go_loopw [35] (fun q wr=>∃ k:Nat,k≤recs.length∧q=iA k∧Hid (NwP (envP m) W1 (newTag t0 W.heap.size 9) X recs draws (.slice a0 n0 c0) av k 0 0 0 wr)) (fun q _=>recs.length-(intOf q).toNat)
  case atStart=>exact⟨0,by omega,rfl,HN⟩
  case round=>
   clear HN;obtain⟨k,hk,rfl,J⟩:=hrel;by_cases hlt:k<recs.length
   ·have g1:(k:Int)<(recs.length:Int):=by omega
    have g2:IntKind.i64.wrap ((k:Int)+1)=((k+1:Nat):Int):=by rw[IntKind.wrap_i64];omega
    obtain⟨s,hs⟩:∃ s,recs[k]?=some s:=⟨_,Lge hlt⟩;obtain⟨hs1,g,off,rfl,e1⟩:=HR.out wr k s (J.out.old HT.out) hs;obtain⟨so,sc,e3,hXl,HA⟩:=J.out.rec_ hs (by omega);obtain⟨WD,hWD⟩:=eXi (wr.drew);have FD:Fr [] wr WD:=by rw[← hWD];exact (Fr.refl [] wr).drew
    have HQ:Hid (∀ V,Fr [] WD V→V.cell? (Ad X 3)=some (.slice so k sc)):=fun V F=>((FD.trans F).cell (p:=Ad X 3) hXl (by simp)).trans e3;have HA1:Hid (∀ V,Fr [] WD V→AppQ X 3 22 9 k [.string s] so sc V (NwP (envP m) W1 (newTag t0 W.heap.size 9) X recs draws (.slice a0 n0 c0) av (k+1) 0 0 0)):=fun V F=>HA V (FD.trans F);have HC:Hid (∀ V,Calls prog 58 #[.string s] V fun e w'=>e=.returned (.string s)∧Fr [] V w'):=fun V=>clone_any s V (by omega);have hbs:=buildS22 s;clear HA FD J HR HF HG HE HD HO hs hs1 e3 hXl;generalize recs.length=nr at *;go_wp2_with fail;refine wp_region_L (fun V=>Fr [] WD V) 8 hm ?_;rw[hWD];have hS:Fr [] WD WD:=Fr.refl _ _;refine wpAnyL_takesU (fuel:=8) [0,1,2,3] (by kernel_rfl) (fun _ _ _ _ _ h=>h) (.inr hS) ?_
    iterate 4
     refine Yls.cons (v:=?_) rfl (.inl ⟨rfl,fun w1 hS1=>?_⟩) ?_;rotate_left
     ·skip;go_simp
      first | rfl | (refine (if_neg (by omega)).trans ?_;rfl)
     simp only[Act.put,Zp,Zq]
    refine Yls.nil ?_;refine wpAnyL_takes (fuel:=6) [4,5] (by kernel_rfl) (fun _ _ _ _ _ h=>h) hS ?_
    iterate 2
     refine Yls.cons (v:=?_) rfl (.inl ⟨rfl,fun w1 hS1=>?_⟩) ?_;rotate_left
     ·have s0:=HQ.out _ hS1;go_simp
      first | rfl | (refine (if_neg (by omega)).trans ?_;rfl)
     simp only[Act.put,Zp,Zq]
    refine Yls.nil ?_;refine wpAnyL_ready (rs:=[6]) (by kernel_rfl) (by simp) ?_;refine AllReadyL.cons rfl (fun K hK=>?_) AllReadyL.nil;go_simp;refine Calls.mono (HC.out WD) ?_;rintro e V ⟨rfl,FV⟩;refine hK _ _ (.inr FV) ?_;clear hK K
    try simp only[Act.put,Zp,Zq]
    refine wpAnyL_ready (rs:=[7]) (by kernel_rfl) (by simp) ?_;refine AllReadyL.cons rfl (fun K hK=>?_) AllReadyL.nil;obtain⟨vo,vc,W4,hr4,q1,q2,hN⟩:=HA1.out V FV;have Hr4:Hid _:=hr4;have HN:Hid _:=hN;have HFA:Hid (Fr [] WD (V.alloc (.cells #[.string s] 9))):=FV.alloc _;clear hr4 hN HA1 HC FV;go_simp;refine hK _ _ (.inr HFA.out) ?_;clear hK K
    try simp only[Act.put,Zp,Zq]
    refine wpAnyL_ready (rs:=[8]) (by kernel_rfl) (by simp) ?_;refine AllReadyL.cons rfl (fun K hK=>?_) AllReadyL.nil;refine oper_appendB (.tmp 43) (.tmp 46) 22 rfl _ _ _ rfl rfl Hr4.out ?_;refine hK _ _ (.inl rfl) ?_;clear hK K
    try simp only[Act.put,Zp,Zq]
    refine wpAnyL_takesU (fuel:=1) [9,10] (by kernel_rfl) (fun _ _ _ _ _ h=>h) (.inl rfl) ?_
    iterate 2
     refine Yls.cons (v:=?_) rfl (.inl ⟨rfl,fun w1 hS1=>?_⟩) ?_;rotate_left
     ·skip;go_simp
      first | rfl | (refine (if_neg (by omega)).trans ?_;rfl)
     simp only[Act.put,Zp,Zq]
    refine Yls.nil ?_;refine wpAnyL_ready (rs:=[11]) (by kernel_rfl) (by simp) ?_;refine AllReadyL.cons rfl (fun K hK=>?_) AllReadyL.nil;go_simp;refine hK _ _ (.inl rfl) ?_;clear hK K
    try simp only[Act.put,Zp,Zq]
    refine wpAnyL_done (by kernel_rfl) ?_ _;refine NoPanic.normal ?_;go_wp2;exact⟨⟨k+1,by omega,by go_num,HN⟩,by simp[intOf];omega⟩
   have e0:k=recs.length:=by omega
   have g1:¬ (k:Int)<(recs.length:Int):=by omega
   subst e0;obtain⟨p0,p1,p2,p3,p4⟩:=HO.out wr (J.out.old HT.out);have HN:Hid _:=J;clear J HR HD;go_wp2_with fail
   go_loopw [54] (fun q wr=>∃ k:Nat,k≤m.pats.length∧q=iA k∧Hid (NwP (envP m) W1 (newTag t0 W.heap.size 9) X recs draws (.slice a0 n0 c0) av recs.length k 0 0 wr)) (fun q _=>m.pats.length-(intOf q).toNat)
   case atStart=>exact⟨0,by omega,rfl,HN.out⟩
   case round=>
    clear HN p0 p1 p2 p3 p4;obtain⟨k,hk,rfl,J⟩:=hrel;by_cases hlt:k<m.pats.length
    ·have h0:=HP0.out;exfalso;omega
    have e0:k=m.pats.length:=by omega
    have g1:¬ (k:Int)<(m.pats.length:Int):=by omega
    subst e0;obtain⟨p0,p1,p2,p3,p4⟩:=HO.out wr (J.out.old HT.out);have HN:Hid _:=J;clear J;go_wp2_with fail
    go_loopw [78] (fun q wr=>∃ k:Nat,k≤m.fns.length∧q=iA k∧Hid (NwP (envP m) W1 (newTag t0 W.heap.size 9) X recs draws (.slice a0 n0 c0) av recs.length m.pats.length k 0 wr)) (fun q _=>m.fns.length-(intOf q).toNat)
    case atStart=>exact⟨0,by omega,rfl,HN.out⟩
    case round=>
     clear HN p0 p1 p2 p3 p4;obtain⟨k,hk,rfl,J⟩:=hrel;by_cases hlt:k<m.fns.length
     ·have g1:(k:Int)<(m.fns.length:Int):=by omega
      have g2:IntKind.i64.wrap ((k:Int)+1)=((k+1:Nat):Int):=by rw[IntKind.wrap_i64];omega
      obtain⟨x,hx⟩:∃ x,m.fns[k]?=some x:=⟨_,Lge hlt⟩;obtain⟨g,off,rfl,e0,e1,e2⟩:=HF.out wr k x (J.out.old HT.out) hx;obtain⟨so,sc,e3,hXl,HA⟩:=J.out.cod_ (by omega);obtain⟨V1,hV1⟩:=eXi (wr.alloc (.cells #[iA (Mach.parOf m k:Nat),iA x.locs,.string x.code] 112));obtain⟨kf,F1,s1⟩:=alloc_has hV1;have HM:Hid _:=AI kf s1;obtain⟨p0,p1,p2,p3,p4⟩:=HO.out V1 ((J.out.old HT.out).trans F1);have HC:Hid _:=HG.out V1 k ((J.out.old HT.out).trans F1) hlt;have HA1:Hid _:=AI HA (AI e3 (AI hXl F1));clear HA J HF HG HE HO hx e3 hXl F1 kf s1;generalize hnf:m.fns.length=nf at *;go_wp2_with fail;refine Calls.mono HC.out ?_;rintro e V ⟨cg,cc,l,rfl,FV,hcg,hCM⟩;obtain⟨HA,e3,hXl,F1⟩:=HA1.out;obtain⟨kf,s1⟩:=HM.out;have FV1:=F1.trans FV;have e4:V.cell? (Ad X 2)=some (.slice so k sc):=(FV1.cell (p:=Ad X 2) hXl (by simp)).trans e3;have e5:V.cell? (Ad wr.heap.size 0)=some (iA (Mach.parOf m k:Nat)):=(FV.cell (p:=Ad wr.heap.size 0) s1 (by simp)).trans (cof kf rfl);have l5:wr.heap.size<V.heap.size:=Nll s1 FV.size;have l6:X<V.heap.size:=Nll hXl FV1.size;obtain⟨WD,hWD⟩:=eXi (V.drew);have FD:Fr [] V WD:=by rw[← hWD];exact (Fr.refl [] V).drew
      have HQ:Hid (∀ U,Fr [] WD U→U.cell? (Ad X 2)=some (.slice so k sc)∧U.cell? (Ad wr.heap.size 0)=some (iA (Mach.parOf m k:Nat))):=fun U F=>⟨((FD.trans F).cell (p:=Ad X 2) l6 (by simp)).trans e4,((FD.trans F).cell (p:=Ad wr.heap.size 0) l5 (by simp)).trans e5⟩;have hCM2:∀ tag:NN,tag cg=9→CodeM (envP m).mo WD tag k (.slice (some (Ad cg 0)) l.length cc) l:=fun tag ht=>(hCM tag ht).kp (tag':=tag) (Kp.of_fr FD fun _ _=>rfl);obtain⟨vo,vc,W4,hr4,q1,q2,hN⟩:=HA WD l cg cc (FV1.trans FD) (Nat.le_trans F1.size hcg) hCM2;have Hr4:Hid _:=hr4;have HN:Hid _:=hN;have HFA:Hid (Fr [] WD (WD.alloc (.cells #[iA (Mach.parOf m k:Nat),.slice (some (Ad cg 0)) l.length cc] 143))):=(Fr.refl [] WD).alloc _;have hbd:=build87 (Mach.parOf m k:Nat) (some (Ad cg 0)) l.length cc;have hbs:=buildS74 (Mach.parOf m k:Nat) (some (Ad cg 0)) l.length cc;clear hCM hCM2 HA e3 hXl F1 kf s1 FV FV1 FD e4 e5 l5 l6 hr4 hN HA1 HM HC p0 p1 p2 p3 p4 hcg e0 e1 e2 hV1 HT hlt;go_wp2_with fail;refine wp_region_L (fun V=>Fr [] WD V) 10 hm ?_;rw[hWD];have hS:Fr [] WD WD:=Fr.refl _ _;refine wpAnyL_takesU (fuel:=8) [0,1,2,3,5,7] (by kernel_rfl) (fun _ _ _ _ _ h=>h) (.inr hS) ?_
      iterate 6
       refine Yls.cons (v:=?_) rfl (.inl ⟨rfl,fun w1 hS1=>?_⟩) ?_;rotate_left
       ·skip;go_simp
        first | rfl | (refine (if_neg (by omega)).trans ?_;rfl)
       simp only[Act.put,Zp,Zq]
      refine Yls.nil ?_;refine wpAnyL_takes (fuel:=5) [4,6,8] (by kernel_rfl) (fun _ _ _ _ _ h=>h) hS ?_
      iterate 3
       refine Yls.cons (v:=?_) rfl (.inl ⟨rfl,fun w1 hS1=>?_⟩) ?_;rotate_left
       ·obtain⟨s0,s1⟩:=HQ.out _ hS1;go_simp
        first | rfl | (refine (if_neg (by omega)).trans ?_;rfl)
       simp only[Act.put,Zp,Zq]
      refine Yls.nil ?_;refine wpAnyL_ready (rs:=[9]) (by kernel_rfl) (by simp) ?_;refine AllReadyL.cons rfl (fun K hK=>?_) AllReadyL.nil;go_simp;refine hK _ _ (.inr HFA.out) ?_;clear hK K
      try simp only[Act.put,Zp,Zq]
      refine wpAnyL_ready (rs:=[10]) (by kernel_rfl) (by simp) ?_;refine AllReadyL.cons rfl (fun K hK=>?_) AllReadyL.nil;refine oper_appendB (.tmp 94) (.tmp 99) 130 rfl _ _ _ rfl rfl Hr4.out ?_;refine hK _ _ (.inl rfl) ?_;clear hK K
      try simp only[Act.put,Zp,Zq]
      refine wpAnyL_takesU (fuel:=1) [11,12] (by kernel_rfl) (fun _ _ _ _ _ h=>h) (.inl rfl) ?_
      iterate 2
       refine Yls.cons (v:=?_) rfl (.inl ⟨rfl,fun w1 hS1=>?_⟩) ?_;rotate_left
       ·skip;go_simp
        first | rfl | (refine (if_neg (by omega)).trans ?_;rfl)
       simp only[Act.put,Zp,Zq]
      refine Yls.nil ?_;refine wpAnyL_ready (rs:=[13]) (by kernel_rfl) (by simp) ?_;refine AllReadyL.cons rfl (fun K hK=>?_) AllReadyL.nil;go_simp;refine hK _ _ (.inl rfl) ?_;clear hK K
      try simp only[Act.put,Zp,Zq]
      refine wpAnyL_done (by kernel_rfl) ?_ _;refine NoPanic.normal ?_;go_wp2;exact⟨⟨k+1,by omega,by go_num,HN⟩,by simp[intOf];omega⟩
     have e0:k=m.fns.length:=by omega
     have g1:¬ (k:Int)<(m.fns.length:Int):=by omega
     subst e0;obtain⟨ao,ac,hav,e9,hXl,-⟩:=J.out.av9;rw[ean] at hav;subst hav;have HN:Hid _:=J;clear J HF HG HO hXl;go_wp2_with fail
     go_loopw [109] (fun q wr=>∃ k:Nat,k≤an∧q=iA k∧Hid (NwP (envP m) W1 (newTag t0 W.heap.size 9) X recs draws (.slice a0 n0 c0) (.slice ao an ac) recs.length m.pats.length m.fns.length k wr)) (fun q _=>an-(intOf q).toNat)
     case atStart=>exact⟨0,by omega,rfl,HN.out⟩
     case round=>
      clear HN e9;obtain⟨k,hk,rfl,J⟩:=hrel;by_cases hlt:k<an
      ·have g1:(k:Int)<(an:Int):=by omega
       have g2:IntKind.i64.wrap ((k:Int)+1)=((k+1:Nat):Int):=by rw[IntKind.wrap_i64];omega
       obtain⟨ao',ac',hav,e9,hXl,hx⟩:=J.out.av9;rw[ean] at hav hx;cases hav;obtain⟨ga,rfl,hXg,hgl,hcl⟩:=hx (by omega);obtain⟨⟨u0,hu0⟩,z0⟩:=hcl (k*2) (by omega);obtain⟨⟨u1,hu1⟩,z1⟩:=hcl (k*2+1) (by omega);obtain⟨WD,hWD⟩:=eXi (wr.drew);have FD:Fr [] wr WD:=by rw[← hWD];exact (Fr.refl [] wr).drew
       have HQ:Hid (∀ V,Fr [] WD V→V.cell? (Ad ga (k*2))=some u0∧V.cell? (Ad ga (k*2+1))=some u1∧V.frozen? (Ad ga (k*2))=false∧V.frozen? (Ad ga (k*2+1))=false):=fun V F=>⟨((FD.trans F).cell (p:=Ad ga (k*2)) hgl (by simp)).trans hu0,((FD.trans F).cell (p:=Ad ga (k*2+1)) hgl (by simp)).trans hu1,((FD.trans F).frozen (p:=Ad ga (k*2)) hgl (by simp)).trans z0,((FD.trans F).frozen (p:=Ad ga (k*2+1)) hgl (by simp)).trans z1⟩;have HX:Hid (∀ V,Fr [] WD V→V.cell? (Ad X 9)=some (.slice (some (Ad ga 0)) an ac)):=fun V F=>((FD.trans F).cell (p:=Ad X 9) hXl (by simp)).trans e9;have HC:Hid (∀ V b,Fr [] WD V→WD.heap.size≤b→MapAt V b []→NwP (envP m) W1 (newTag t0 W.heap.size 9) X recs draws (.slice a0 n0 c0) (.slice (some (Ad ga 0)) an ac) recs.length m.pats.length m.fns.length (k+1) ((V.setCell ⟨ga,k*2,none⟩ (.map (some b))).setCell ⟨ga,k*2+1,none⟩ (.slice none 0 0))):=fun V b F hb hM=>J.out.arr_ (FD.trans F) (Nat.le_trans FD.size hb) hM (by rw[ean]) (by rw[ean];exact hlt);have HXg:Hid _:=hXg;clear FD J HE HT hgl hcl hu0 hu1 z0 z1 hXl e9 hXg hx;go_wp2_with fail;refine wp_region_heldD (fun V=>V.cell? (Ad X 9)=some (.slice (some (Ad ga 0)) an ac)) hm ?_;rw[hWD];have hS:WD.cell? (Ad X 9)=some (.slice (some (Ad ga 0)) an ac):=HX.out WD (Fr.refl _ _);refine wpAnyH_takes (fun _ _ _ _ _ h=>h) hS [0,1,2,3,4] (by kernel_rfl) ?_
       iterate 5
        refine Yls.cons (v:=?_) rfl (.inl ⟨rfl,fun w1 hS1=>?_⟩) ?_;rotate_left
        ·skip;go_simp
         first | rfl | (refine (if_neg (by omega)).trans ?_;rfl)
        simp only[Act.put,Zp,Zq]
       refine Yls.nil ?_;refine rd1 (r:=5) (by kernel_rfl) rfl fun K hK=>?_;go_simp;refine Calls.mono (newArray_any WD) ?_;rintro e V ⟨b,rfl,hb,hM,FV⟩;obtain⟨y0,y1,y2,y3⟩:=HQ.out V FV;have hN:=HC.out V b FV hb hM;have HN:Hid _:=hN;refine hK _ _ (HX.out V FV) ?_;have hS5:((V.setCell ⟨ga,k*2,none⟩ (.map (some b))).setCell ⟨ga,k*2+1,none⟩ (.slice none 0 0)).cell? (Ad X 9)=some (.slice (some (Ad ga 0)) an ac):=by
        rw[setCell_far (Ne.symm HXg.out),setCell_far (Ne.symm HXg.out)];exact HX.out V FV
       have hS2:=HX.out V FV;clear hK K HC HQ hb hM FV hN;intro _
       try simp only[Act.put,Zp,Zq]
       refine wpAnyH_takes (fun _ _ _ _ _ h=>h) hS2 [6] (by kernel_rfl) ?_
       iterate 1
        refine Yls.cons (v:=?_) rfl (.inl ⟨rfl,fun w1 hS1=>?_⟩) ?_;rotate_left
        ·skip;go_simp
         first | rfl | (refine (if_neg (by omega)).trans ?_;rfl)
        simp only[Act.put,Zp,Zq]
       refine Yls.nil ?_;refine rd1 (r:=7) (by kernel_rfl) rfl fun K hK=>?_;go_simp;refine hK _ _ hS5 ?_;clear hK K;intro _
       try simp only[Act.put,Zp,Zq]
       refine wpAnyH_done (by kernel_rfl) ?_ _;go_wp2_with fail;exact⟨⟨k+1,by omega,by go_num,HN⟩,by simp[intOf];omega⟩
      have e0:k=an:=by omega
      have g1:¬ (k:Int)<(an:Int):=by omega
      subst e0;have HC:Hid _:=HE.out wr X _ J.out;clear J HE HT;go_wp2_with fail;refine Calls.mono HC.out ?_;rintro e V ⟨rfl,g,tag,h1,h2,h3⟩;have HZ:Hid _:=AI h1 (AI h2 h3);clear h1 h2 h3 HC;go_wp2_with fail;go_ret;exact⟨X,g,tag,rfl,HZ.out.1,HZ.out.2.1,HZ.out.2.2⟩
end
namespace Mach
open Wire Flow
section
variable {E:Env}{n:Nat}{S:St}{w w':Wd}{f at_:Nat}{locs locs':List Val}{rest top top':List Cell}{c:Int}{u:Nat}{i:Stp}{go:Option Nat}
theorem Steps.op (h:Steps E n S ⟨w,[⟨f,at_,locs,rest++top⟩],0,c,u⟩)(hE:SmE E)(hM:ModOk E.mo)(hd:decodeL E.mo f (locsOf E.mo f) (codeOf E.mo f) at_=.inr i)(hl:top.length=(want (parOf E.mo) i.op i.a).length)(hop:(i.op==50 || i.op==51 || i.op==52)=false)(he:eff E w locs i.op i.a i.b top=⟨w',locs',top',0,0,go⟩) :
  Steps E (n+1) S ⟨w',[⟨f,go.getD i.nx,locs',rest++top'⟩],0,c,u+1⟩:=by
 have h2:=h.next hE hM rfl (low:=[]) (fr:=⟨f,at_,locs,rest++top⟩) rfl hd rfl hl;simp only[Bool.or_eq_false_iff,beq_eq_false_iff_ne] at hop;unfold Mach.does at h2;rw[if_neg hop.1.1,if_neg hop.1.2,if_neg hop.2] at h2;simp only[he] at h2;exact h2
theorem Steps.over_last (h:Steps E n S ⟨w,[⟨f,at_,[],[]⟩],0,c,u⟩)(hE:SmE E)(hM:ModOk E.mo){nx:Nat}(hd:decodeL E.mo f (locsOf E.mo f) (codeOf E.mo f) at_=.inr ⟨at_,nx,52,0,0⟩)(hf:f≠2)(hl:w.recs.drop w.nr=[]) :
  Steps E (n+1) S ⟨w,[enter E.mo 2 []],0,c,u+1⟩:=by
 have en:=next_none hl;have h2:=h.next hE hM rfl (low:=[]) (fr:=⟨f,at_,[],[]⟩) rfl hd (rest:=[]) (top:=[]) rfl rfl;unfold Mach.does at h2;rw[if_neg (show ¬ (52:Nat)=50 by decide),if_neg (show ¬ (52:Nat)=51 by decide),if_pos (show (52:Nat)=52 from rfl)] at h2;unfold over at h2;simp only[en,if_neg hf] at h2;exact h2
theorem Steps.over_end (h:Steps E n S ⟨w,[⟨2,at_,[],[]⟩],0,c,u⟩)(hE:SmE E)(hM:ModOk E.mo){nx:Nat}(hd:decodeL E.mo 2 (locsOf E.mo 2) (codeOf E.mo 2) at_=.inr ⟨at_,nx,52,0,0⟩) :
  Steps E (n+1) S ⟨w,[⟨2,at_,[],[]⟩],1,c,u+1⟩:=by
 have h2:=h.next hE hM rfl (low:=[]) (fr:=⟨2,at_,[],[]⟩) rfl hd (rest:=[]) (top:=[]) rfl rfl;exact h2
end
end Mach
end Go.Proofs.YtmolfmgchbjnbaaGreatDoor
