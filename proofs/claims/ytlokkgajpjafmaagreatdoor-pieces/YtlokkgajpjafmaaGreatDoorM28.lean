import Derived.Test.YtlokkgajpjafmaaGreatDoorM27
set_option linter.unusedSimpArgs false
set_option linter.unusedVariables false
set_option maxRecDepth 100000
set_option maxHeartbeats 40000000
open _root_.Go.Proofs.Tryz
namespace Go.Proofs.YtlokkgajpjafmaaGreatDoor
open Go.RowKit
open Wire Flow Mach
theorem iV {o:Oper}{a:Act}{w:WL}{K:Act→WL→Prop}{Q:Exit→Act→WL→Prop} (t:TypeId) (ho:o.op=.alloc t) (z:Value) (hz:(zeroValue t).run prog w=.ok z w)
  (h:K (a.put o.dst (.pointer (some (Ad w.heap.size 0)))) (w.alloc (.cells z.cells t))):o.wp prog a w K Q:=by
 unfold Oper.wp execOp;simp only[ho,Sem.run_bind,Sem.run_pure,Result.andThen_ok];have hr:(Instr.alloc t true (.tuple #[])).run prog w=.ok (.pointer (some (Ad w.heap.size 0))) (w.alloc (.cells z.cells t)):=by
  unfold Instr.alloc;simp[go_sem,hz,Result.andThen]
 rw[hr];exact h
theorem iU {o:Oper}{a:Act}{w w':WL}{K:Act→WL→Prop}{Q:Exit→Act→WL→Prop} (t:TypeId) (p x:Operand) (ho:o.op=.store t p x) (hd:o.dst=none) (ad:Addr) (hp:a.eval p=.pointer (some ad)) (v:Value) (hx:a.eval x=v)
  (hrun:(storeVar t ad v).run prog w=.ok () w') (h:K a w'):o.wp prog a w K Q:=by
 unfold Oper.wp execOp;simp only[ho,Sem.run_bind,Sem.run_pure,Result.andThen_ok,hp,hx,Instr.storeAt,Instr.sureAddr,hrun];unfold Oper.upon;simp only[hd];exact h
theorem aFt {ρ:Operand→Value}{o:Oper}{w:WL} (t:TypeId) (x:Operand) (ho:o.op=.load t x) (ad:Addr) (hx:ρ x=.pointer (some ad)) (v:Value) (hrun:(loadVar t ad).run prog w=.ok v w):(execOp ρ o).run prog w=.ok (Next.value v) w:=by
 unfold execOp;simp only[ho,Sem.run_bind,Sem.run_pure,Result.andThen_ok,hx,Instr.loadAt,Instr.sureAddr,hrun]
theorem mJ {w:WL}{g:Nat}{c c':Array Value}{t:TypeId} (h:w.heap[g]?=some (.cells c t)):(w.setRow g c').heap[g]?=some (.cells c' t):=by
 unfold World.setRow;simp only[Array.getElem?_modify];rw[if_pos trivial,h];rfl
theorem iD {w:WL}{g k:Nat}{c':Array Value} (h:k≠g):(w.setRow g c').heap[k]?=w.heap[k]?:=by
 unfold World.setRow;simp only[Array.getElem?_modify];rw[if_neg (fun e=>h e.symm)]
theorem mI {w0 w:WL}{g:Nat}{c':Array Value} (hf:Fr [] w0 w) (h:w0.heap.size≤g):Fr [] w0 (w.setRow g c'):=
 hf.trans' (S':=[g]) ⟨rfl,rfl,rfl,by unfold World.setRow;simp,fun k _ hn=>iD (by simpa using hn)⟩ (fun x hx=>.inr (by simp at hx;omega))
theorem iG {n i:Nat}{s:LN}{G:List (Option (LN))}{Q:List Bool}{more wrong:Bool}{G':List (Option (LN))}{Q':List Bool}{more' wrong':Bool} (h:GoR n i (some s) G Q more wrong G' Q' more' wrong') (hgl:G.length=n) :
  (wrong'=true∧G'=G∧Q'=Q∧more'=more∧(i=n∨∃ t,G[i]?=some (some t)∧t.length≠s.length))∨(wrong'=wrong∧aYj G Q more i s G' Q' more'):=by
 rcases h with ⟨h1,h2,h3,h4,h5⟩ | ⟨h1,s',h2,h3,h4⟩
 ·left;refine⟨h1,h2,h3,h4,?_⟩;rcases h5 with h5 | h5 | ⟨s',t,h5,h6,h7⟩
  ·exact .inl h5
  ·cases h5
  cases h5;exact .inr ⟨t,h6,h7⟩
 right;cases h2;refine⟨h1,by omega,fun t ht=>?_,?_⟩
 ·rcases h4 with ⟨h4,-⟩ | ⟨t',h4,h5,-⟩
  ·rw[h4] at ht;cases ht
  rw[h4] at ht;cases ht;exact h5
 rcases h4 with h4 | ⟨t',h4,h5,h6⟩
 ·exact .inl h4
 exact .inr ⟨t',h4,h6⟩
theorem C8 {n i:Nat}{o:Option (LN)}{G:List (Option (LN))}{Q:List Bool}{more:Bool}{G':List (Option (LN))}{Q':List Bool}{more' wrong':Bool} (h:GoR n i o G Q more true G' Q' more' wrong'):wrong'=true:=by
 rcases h with ⟨h,-⟩ | ⟨h,-⟩ <;> exact h
theorem aPn {n i:Nat}{G:List (Option (LN))}{Q:List Bool}{more wrong:Bool}{G':List (Option (LN))}{Q':List Bool}{more' wrong':Bool} (h:GoR n i none G Q more wrong G' Q' more' wrong'):wrong'=true:=by
 rcases h with ⟨h,-⟩ | ⟨-,s,h,-⟩
 ·exact h
 cases h
theorem O1 {par:NN}{l:List Stp}{G G1:List (Option (LN))}{i n:Nat}{st o r:LN}{s:Stp} (h:Low par l (abG G)) (h1:Low par l (abG G1)) (hgl:G1.length=n) (hi:G[i]?=some (some st)) (hs:l[i]?=some s)
  (ha:after par s.op s.a (abL st)=some (abL o,abL r)) (hf:dS s.op=false) (hb:i+1=n∨∃ t,G1[i+1]?=some (some t)∧t.length≠o.length):¬ Flow.Safe par l:=by
 refine aSv h h1 (cV hi) hs ha hf ?_;rcases hb with hb | ⟨t,ht,hne⟩
 ·exact .inl (.inr (by rw[iK,hgl];omega))
 exact .inr ⟨i+1,by push_cast;rfl,abL t,cV ht,by rw[bR,bR];exact hne⟩
theorem aEw {par:NN}{l:List Stp}{G:List (Option (LN))}{i k n:Nat}{st o r:LN}{s:Stp} (h:Low par l (abG G)) (hi:G[i]?=some (some st)) (hs:l[i]?=some s)
  (ha:after par s.op s.a (abL st)=some (abL o,abL r)) (hf:far s.op=true) (hk:eW l s.a=some k) (hkn:k<n) (hb:k=n∨∃ t,G[k]?=some (some t)∧t.length≠r.length):¬ Flow.Safe par l:=by
 refine aXu h (cV hi) hs ha hf ?_;rcases hb with hb | ⟨t,ht,hne⟩
 ·omega
 exact .inr ⟨k,by rw[hk];rfl,abL t,cV ht,by rw[bR,bR];exact hne⟩
theorem aZg:(prog.info? 96).map (fun i=>(i.zero,i.size))=some (some (.agg #[.int .u8 0,iA 0,iA 0,iA 0,iA 0]),5):=by kernel_rfl
theorem aNs (W:WL)(B fb kb qb n ga acap gf off nf cap:Nat)(m:Mo)(l:List Stp)(T:LN)(G:List (Option (LN)))(Q:List Bool)(more wrong:Bool)(P:NN)
  (h:eR W B fb kb qb n (.slice (some (Ad ga 0)) n acap) (.slice (some (Ad gf off)) nf cap) G Q more wrong P) (hn:n≤100000) (hln:l.length=n) (hI:mU W ga l T) (hga:ga<B) (hJ:rL l T n)
  (hnf:nf=m.fns.length) (hpar:∀ a,a<nf→W.cell? (Ad gf (off+a*3))=some (iA (parOf m a:Nat))∧parOf m a≤8) (hgf:gf<B) (hnf2:nf≤1000) (hok:∀ s ∈ l,zE m s)
  (i:Nat) (hi:i<n) (st:LN) (hG:G[i]?=some (some st)) (hF:FSi (parOf m) l G Q i) :
  Calls prog 144 #[.pointer (some (Ad fb 0)),iA i] W fun e W'=>e=.returned (.tuple #[])∧FrB B W W'∧∃ G' Q' more' wrong' P',eR W' B fb kb qb n (.slice (some (Ad ga 0)) n acap) (.slice (some (Ad gf off)) nf cap) G' Q' more' wrong' P'∧PsR (parOf m) l G Q more wrong G' Q' more' wrong':=by
 obtain⟨s,hs⟩:∃ s,l[i]?=some s:=⟨_,Lge (by omega)⟩;obtain⟨tt,htt⟩:∃ tt,T[i]?=some tt:=⟨_,Lge (by rw[hI.len];omega)⟩;obtain⟨i0,i1,i2,i3,i4⟩:=hI.cell i s tt hs htt;obtain⟨kp1,kp2,kp3,kp4,kp5,kp6⟩:=h.kp i st hG;have hsok:=hok s (List.mem_of_getElem? hs);have hB1:B≤W.heap.size:=Nat.le_trans h.bf (Nat.le_of_lt h.lt);have hS0:=AI (AI h.c5 h.c6) (AI (AI i0 (AI i1 (AI i2 (AI i3 i4)))) (AI kp1 kp2));obtain⟨a,ha⟩:=eXi (min s.a 2000000000);obtain⟨b,hb⟩:=eXi (min s.b 2000000000);rw[ha,hb] at hS0;have HALL:Hid _:=AI h (AI hI (AI hJ (AI hpar (AI hF (AI hG (AI hs (AI htt (AI hsok (AI ha (AI hnf hln))))))))));obtain⟨op,hop⟩:=eXi (s.op);obtain⟨pl,hpl⟩:=eXi (s.pl);rw[hop,hpl] at hS0;have HOP:Hid _:=hop;have hop54:op<54:=by rw[← hop];exact hsok.op
 clear h hI hJ hpar hF hG hs htt hsok ha hb hnf hln i0 i1 i2 i3 i4 kp1 kp2 kp3 kp4 kp5 kp6 hok hop hpl;generalize P i=pb at hS0;have hm:=hmX
 have gi:(i:Int)<(n:Int):=by omega
 have hSt:∀ w,Fr [] W w→(fun w1:WL=>(w1.cell? (Ad fb 5)=some (.slice (some (Ad ga 0)) n acap)∧w1.cell? (Ad fb 6)=some (.slice (some (Ad kb 0)) n n))∧(w1.cell? (Ad ga (i*5))=some (.int .u8 (op:Nat))∧w1.cell? (Ad ga (i*5+1))=some (iA (pl:Nat))∧w1.cell? (Ad ga (i*5+2))=some (iA (a:Nat))∧w1.cell? (Ad ga (i*5+3))=some (iA (b:Nat))∧w1.cell? (Ad ga (i*5+4))=some (iA (tt:Nat)))∧w1.cell? (Ad kb i)=some (.pointer (some (Ad pb 0)))∧dA w1 pb st false) w:=fun w hW=>by
  obtain⟨⟨p0,p1⟩,⟨p2,p3,p4,p5,p6⟩,p7,p8⟩:=hS0;have l1:fb<W.heap.size:=aB p0;have l2:ga<W.heap.size:=aB p2;have l3:kb<W.heap.size:=aB p7;exact⟨⟨(hW.cell (p:=Ad fb 5) l1 (by simp)).trans p0,(hW.cell (p:=Ad fb 6) l1 (by simp)).trans p1⟩,⟨(hW.cell (p:=Ad ga (i*5)) l2 (by simp)).trans p2,(hW.cell (p:=Ad ga (i*5+1)) l2 (by simp)).trans p3,(hW.cell (p:=Ad ga (i*5+2)) l2 (by simp)).trans p4,(hW.cell (p:=Ad ga (i*5+3)) l2 (by simp)).trans p5,(hW.cell (p:=Ad ga (i*5+4)) l2 (by simp)).trans p6⟩,(hW.cell (p:=Ad kb i) l3 (by simp)).trans p7,p8.fr hW (by simp)⟩
 have HSt:Hid _:=hSt;clear hSt hS0;go_enter func144,ntmps144;go_upto_region 0 with fail
 go_cut[4,5] from 6 to 21 (fun x y wx=>∃ ob sb:Nat,x=.pointer (some (Ad ob 0))∧y=.pointer (some (Ad sb 0))∧Fr [] W wx∧W.heap.size≤ob∧W.heap.size≤sb∧ob≠sb∧wx.heap[ob]?=some (.cells #[.int .u8 (op:Nat),iA (pl:Nat),iA (a:Nat),iA (b:Nat),iA (tt:Nat)] 96)∧dA wx sb st false)
 case first=>
  refine aI (fun w1:WL=>(w1.cell? (Ad fb 5)=some (.slice (some (Ad ga 0)) n acap)∧w1.cell? (Ad fb 6)=some (.slice (some (Ad kb 0)) n n))∧(w1.cell? (Ad ga (i*5))=some (.int .u8 (op:Nat))∧w1.cell? (Ad ga (i*5+1))=some (iA (pl:Nat))∧w1.cell? (Ad ga (i*5+2))=some (iA (a:Nat))∧w1.cell? (Ad ga (i*5+3))=some (iA (b:Nat))∧w1.cell? (Ad ga (i*5+4))=some (iA (tt:Nat)))∧w1.cell? (Ad kb i)=some (.pointer (some (Ad pb 0)))∧dA w1 pb st false) hm ?_;have hS:(fun w1:WL=>(w1.cell? (Ad fb 5)=some (.slice (some (Ad ga 0)) n acap)∧w1.cell? (Ad fb 6)=some (.slice (some (Ad kb 0)) n n))∧(w1.cell? (Ad ga (i*5))=some (.int .u8 (op:Nat))∧w1.cell? (Ad ga (i*5+1))=some (iA (pl:Nat))∧w1.cell? (Ad ga (i*5+2))=some (iA (a:Nat))∧w1.cell? (Ad ga (i*5+3))=some (iA (b:Nat))∧w1.cell? (Ad ga (i*5+4))=some (iA (tt:Nat)))∧w1.cell? (Ad kb i)=some (.pointer (some (Ad pb 0)))∧dA w1 pb st false) W.drew:=HSt.out W.drew (Fr.refl [] W).drew;refine aK (fun _ _ _ _ _ h=>h) hS [0,1,2,3,4,5] (by kernel_rfl) ?_
  iterate 6
   refine Yls.cons (v:=?_) rfl (.inl ⟨rfl,fun w1 hS1=>?_⟩) ?_;rotate_left
   ·obtain⟨⟨p0,p1⟩,⟨p2,p3,p4,p5,p6⟩,p7,p8⟩:=hS1;go_simp
    first | rfl | (refine (if_neg (by omega)).trans ?_;rfl)
   simp only[Act.put,Zp,Zq]
  refine Yls.nil ?_;refine wpAnyH_take (i:=6) (v:=.agg #[.int .u8 (op:Nat),iA (pl:Nat),iA (a:Nat),iA (b:Nat),iA (tt:Nat)]) rfl (by kernel_rfl) (by kernel_rfl) (by kernel_rfl) (fun _ _ _ h=>h) (.inl ⟨rfl,fun w1 hS1=>?_⟩) hS ?_
  ·obtain⟨⟨p0,p1⟩,⟨p2,p3,p4,p5,p6⟩,p7,p8⟩:=hS1;go_simp
   (try rfl)
  simp only[Act.put,Zp,Zq];refine aK (fun _ _ _ _ _ h=>h) hS [7,8,9,10,11,12,13,14] (by kernel_rfl) ?_
  iterate 8
   refine Yls.cons (v:=?_) rfl (.inl ⟨rfl,fun w1 hS1=>?_⟩) ?_;rotate_left
   ·obtain⟨⟨p0,p1⟩,⟨p2,p3,p4,p5,p6⟩,p7,p8⟩:=hS1;go_simp
    first | rfl | (refine (if_neg (by omega)).trans ?_;rfl)
   simp only[Act.put,Zp,Zq]
  refine Yls.nil ?_;refine wpAnyH_take (i:=15) (v:=.agg (fL st false).toArray) rfl (by kernel_rfl) (by kernel_rfl) (by kernel_rfl) (fun _ _ _ h=>h) (.inl ⟨rfl,fun w1 hS1=>?_⟩) hS ?_
  ·obtain⟨⟨p0,p1⟩,⟨p2,p3,p4,p5,p6⟩,p7,p8⟩:=hS1;exact aFt 165 (.tmp 20) rfl (Ad pb 0) rfl _ (aBh w1 pb st false p8)
  simp only[Act.put,Zp,Zq];obtain⟨WD,hWD⟩:=eXi (W.drew);have FD:Fr [] W WD:=by rw[← hWD];exact (Fr.refl [] W).drew
  rw[hWD];rw[hWD] at hS;have hDs:WD.heap.size=W.heap.size:=by rw[← hWD];rfl
  obtain⟨hz1,hi1⟩:=zero_of_info aZg;obtain⟨hz2,hi2⟩:=zero_of_info aCf;refine wpAnyH_ready (rs:=[16,17]) (by kernel_rfl) (by simp) ?_;refine AllReadyH.cons rfl (fun K hK=>?_) (AllReadyH.cons rfl (fun K hK=>?_) AllReadyH.nil)
  ·refine iV 96 rfl _ (hz1 _) ?_;simp only[Value.cells];obtain⟨W1,hW1⟩:=eXi (WD.alloc (.cells #[.int .u8 0,iA 0,iA 0,iA 0,iA 0] 96));rw[hW1];have k1:=kA hW1;have F1:Fr [] W W1:=by rw[← hW1];exact FD.alloc _
   have s1:W1.heap.size=WD.heap.size+1:=by rw[← hW1];simp
   refine hK _ _ (HSt.out _ F1) ?_;clear hK K;intro _;simp only[Act.put,Zp,Zq];refine rd1 (r:=17) (by kernel_rfl) rfl fun K hK=>?_;refine iV 165 rfl _ (hz2 _) ?_;simp only[Value.cells];obtain⟨W2,hW2⟩:=eXi (W1.alloc (.cells (fL [] false).toArray 165));rw[hW2];have k2:=kA hW2;have F12:=frA hW2
   have F2:=F1.trans F12;replace k1:=(F12.block _ (by omega) (by simp)).trans k1;refine hK _ _ (HSt.out _ F2) ?_;clear hK K;intro _;simp only[Act.put,Zp,Zq];refine rd1 (r:=18) (by kernel_rfl) rfl fun K hK=>?_;refine iU 96 (.tmp 4) (.tmp 12) rfl rfl (Ad WD.heap.size 0) rfl (.agg #[.int .u8 (op:Nat),iA (pl:Nat),iA (a:Nat),iA (b:Nat),iA (tt:Nat)]) rfl (run_storeVar_row _ _ 96 96 _ _ k1 (by rw[hi1];rfl) rfl (by simp[Value.oneCell'])) ?_;obtain⟨W3,hW3⟩:=eXi (W2.setRow WD.heap.size #[.int .u8 (op:Nat),iA (pl:Nat),iA (a:Nat),iA (b:Nat),iA (tt:Nat)]);rw[hW3];have k3:=mJ (c':=#[.int .u8 (op:Nat),iA (pl:Nat),iA (a:Nat),iA (b:Nat),iA (tt:Nat)]) k1;rw[hW3] at k3;have k4:=(iD (w:=W2) (g:=WD.heap.size) (c':=#[.int .u8 (op:Nat),iA (pl:Nat),iA (a:Nat),iA (b:Nat),iA (tt:Nat)]) (show W1.heap.size≠WD.heap.size by omega)).trans k2;rw[hW3] at k4;have F3:Fr [] W W3:=by rw[← hW3];exact mI F2 (by omega)
   refine hK _ _ (HSt.out _ F3) ?_;clear hK K;intro _;refine rd1 (r:=19) (by kernel_rfl) rfl fun K hK=>?_;refine iU 165 (.tmp 5) (.tmp 21) rfl rfl (Ad W1.heap.size 0) rfl (.agg (fL st false).toArray) rfl (run_storeVar_row _ _ 165 165 _ _ k4 (by rw[hi2];simp[kE]) (by simp[kE]) (by simp;exact xK st false)) ?_;obtain⟨W4,hW4⟩:=eXi (W3.setRow W1.heap.size (fL st false).toArray);rw[hW4];have k5:=mJ (c':=(fL st false).toArray) k4;rw[hW4] at k5;have k6:=(iD (w:=W3) (g:=W1.heap.size) (c':=(fL st false).toArray) (show WD.heap.size≠W1.heap.size by omega)).trans k3;rw[hW4] at k6;have F4:Fr [] W W4:=by rw[← hW4];exact mI F3 (by omega)
   refine hK _ _ (HSt.out _ F4) ?_;clear hK K;intro _;refine wpAnyH_done (by kernel_rfl) ?_ _;have HZ:Hid _:=AI hDs s1;clear hDs s1;go_wp2_with fail;go_meet;obtain⟨hDs,s1⟩:=HZ.out;obtain⟨-,-,-,hSk⟩:=hS;exact⟨WD.heap.size,W1.heap.size,rfl,rfl,F4,by omega,by omega,by omega,k6,iN k5 hSk.hi hSk.sm⟩
  refine iV 165 rfl _ (hz2 _) ?_;simp only[Value.cells];obtain⟨W1,hW1⟩:=eXi (WD.alloc (.cells (fL [] false).toArray 165));rw[hW1];have k1:=kA hW1;have F1:Fr [] W W1:=by rw[← hW1];exact FD.alloc _
  have s1:W1.heap.size=WD.heap.size+1:=by rw[← hW1];simp
  refine hK _ _ (HSt.out _ F1) ?_;clear hK K;intro _;simp only[Act.put,Zp,Zq];refine rd1 (r:=16) (by kernel_rfl) rfl fun K hK=>?_;refine iV 96 rfl _ (hz1 _) ?_;simp only[Value.cells];obtain⟨W2,hW2⟩:=eXi (W1.alloc (.cells #[.int .u8 0,iA 0,iA 0,iA 0,iA 0] 96));rw[hW2];have k2:=kA hW2;have F12:=frA hW2
  have F2:=F1.trans F12;replace k1:=(F12.block _ (by omega) (by simp)).trans k1;refine hK _ _ (HSt.out _ F2) ?_;clear hK K;intro _;simp only[Act.put,Zp,Zq];refine rd1 (r:=18) (by kernel_rfl) rfl fun K hK=>?_;refine iU 96 (.tmp 4) (.tmp 12) rfl rfl (Ad W1.heap.size 0) rfl (.agg #[.int .u8 (op:Nat),iA (pl:Nat),iA (a:Nat),iA (b:Nat),iA (tt:Nat)]) rfl (run_storeVar_row _ _ 96 96 _ _ k2 (by rw[hi1];rfl) rfl (by simp[Value.oneCell'])) ?_;obtain⟨W3,hW3⟩:=eXi (W2.setRow W1.heap.size #[.int .u8 (op:Nat),iA (pl:Nat),iA (a:Nat),iA (b:Nat),iA (tt:Nat)]);rw[hW3];have k3:=mJ (c':=#[.int .u8 (op:Nat),iA (pl:Nat),iA (a:Nat),iA (b:Nat),iA (tt:Nat)]) k2;rw[hW3] at k3;have k4:=(iD (w:=W2) (g:=W1.heap.size) (c':=#[.int .u8 (op:Nat),iA (pl:Nat),iA (a:Nat),iA (b:Nat),iA (tt:Nat)]) (show WD.heap.size≠W1.heap.size by omega)).trans k1;rw[hW3] at k4;have F3:Fr [] W W3:=by rw[← hW3];exact mI F2 (by omega)
  refine hK _ _ (HSt.out _ F3) ?_;clear hK K;intro _;refine rd1 (r:=19) (by kernel_rfl) rfl fun K hK=>?_;refine iU 165 (.tmp 5) (.tmp 21) rfl rfl (Ad WD.heap.size 0) rfl (.agg (fL st false).toArray) rfl (run_storeVar_row _ _ 165 165 _ _ k4 (by rw[hi2];simp[kE]) (by simp[kE]) (by simp;exact xK st false)) ?_;obtain⟨W4,hW4⟩:=eXi (W3.setRow WD.heap.size (fL st false).toArray);rw[hW4];have k5:=mJ (c':=(fL st false).toArray) k4;rw[hW4] at k5;have k6:=(iD (w:=W3) (g:=WD.heap.size) (c':=(fL st false).toArray) (show W1.heap.size≠WD.heap.size by omega)).trans k3;rw[hW4] at k6;have F4:Fr [] W W4:=by rw[← hW4];exact mI F3 (by omega)
  refine hK _ _ (HSt.out _ F4) ?_;clear hK K;intro _;refine wpAnyH_done (by kernel_rfl) ?_ _;have HZ:Hid _:=AI hDs s1;clear hDs s1;go_wp2_with fail;go_meet;obtain⟨hDs,s1⟩:=HZ.out;obtain⟨-,-,-,hSk⟩:=hS;exact⟨W1.heap.size,WD.heap.size,rfl,rfl,F4,by omega,by omega,by omega,k6,iN k5 hSk.hi hSk.sm⟩
 case rest=>
  obtain⟨ob,sb,rfl,rfl,F4,h4,h5,h6,k6,S4⟩:=hcut;obtain⟨hFlo,hI,hJ,hpar,hF,hG,hs,htt,hsok,ha,hnf,hln⟩:=HALL.out;have hopE:=HOP.out;have hbst:=hFlo.hb i st hG;have l1:=hFlo.lt;have l2:=hFlo.lk;have l3:=hFlo.lq;have hPs:∀ j u,G[j]?=some (some u)→P j≠sb:=fun j u hj=>by have:=(hFlo.kp j u hj).2.1.lt;omega
  have hFlo4:=hFlo.fr F4 (by simp) (by simp) (by simp) (fun _ _ _=>by simp);have e1:wc.cell? (Ad ob 0)=some (.int .u8 (op:Nat)):=cof k6 rfl;have e2:wc.cell? (Ad ob 1)=some (iA (pl:Nat)):=cof k6 rfl;have e3:wc.cell? (Ad ob 2)=some (iA (a:Nat)):=cof k6 rfl;have e4:wc.cell? (Ad ob 3)=some (iA (b:Nat)):=cof k6 rfl;have e5:wc.cell? (Ad ob 4)=some (iA (tt:Nat)):=cof k6 rfl;have a44:op=44→a≤1000:=fun e=>by have:=hsok.pr (by rw[hopE];exact e);omega
  have a50:op=50→a<nf:=fun e=>by have:=hsok.ca (by rw[hopE];exact e);rw[hnf];omega
  have hch:=aGg wc fb sb gf off nf cap (some st) op pl a b tt (parOf m) hop54 S4 a44 (fun e=>⟨hFlo4.c4,a50 e,by omega,(F4.cell (p:=Ad gf (off+a*3)) (by simp only;omega) (by simp)).trans (hpar a (a50 e)).1,(hpar a (a50 e)).2,by omega,by omega⟩);unfold vI at hch;have HCh:Hid _:=fun (_:Unit)=>hch;have hcl:∀ x,eJ (parOf m) op a x=eJ (parOf m) s.op s.a x:=fun x=>by
   rw[hopE];by_cases e:op=44∨op=50
   ·have:a=s.a:=by
     rcases e with e | e
     ·have:=hsok.pr (by rw[hopE];exact e);omega
     have h1:=hsok.ca (by rw[hopE];exact e);omega
    rw[this]
   unfold eJ gJ;rw[if_neg (fun h=>e (.inl h)),if_neg (fun h=>e (.inr h)),if_neg (fun h=>e (.inl h)),if_neg (fun h=>e (.inr h))]
  have haf:=aLx (par:=parOf m) (op:=s.op) (a:=s.a) (st:=st) (by rw[hopE];exact hop54) hbst;have HX:Hid _:=AI hFlo4 (AI hcl (AI haf (AI k6 S4)));clear hch hcl haf hFlo4 k6 S4 hFlo hI hJ hpar hF hG hs htt hsok ha hnf hln hopE a44 a50 hbst;go_wp2_with fail;refine (HCh.out ()).mono ?_;rintro e w5 ⟨rfl,S5,F5⟩;obtain⟨hFlo4,hcl,haf,k6,S4⟩:=HX.out;have hFlo5:=hFlo4.fr F5 (by simp;omega) (by simp;omega) (by simp;omega) (fun j u hj=>by simp;exact hPs j u hj);have e1':w5.cell? (Ad ob 0)=some (.int .u8 (op:Nat)):=(F5.cell (p:=Ad ob 0) (aB e1) (by simpa using h6)).trans e1;have e5':w5.cell? (Ad ob 4)=some (iA (tt:Nat)):=(F5.cell (p:=Ad ob 4) (aB e5) (by simpa using h6)).trans e5;have R5:FrB B W w5:=(FrB.of (S:=[]) F4 hB1 (by simp)).trans (FrB.of F5 (Nat.le_trans hB1 F4.size) (by simp;omega))
  -- HERE
  obtain⟨hFlo,hI,hJ,hpar,hF,hG,hs,htt,hsok,ha,hnf,hln⟩:=HALL.out;have hopE:=HOP.out;have hbst:=hFlo.hb i st hG;have hlow:=hF.low;cases hoc:chB (parOf m) op a (some st) with
  | none=>
   rw[hoc] at S5;obtain⟨st',hst'⟩:=S5;have c1:=hst'.c1;have d9:=hFlo5.c9;have z9:=hFlo5.zf 9;have hno:¬ Flow.Safe (parOf m) l:=by
    refine hlow.stuck (cV hG) hs ?_;rw[haf,← hcl];unfold chB at hoc;by_cases e:op=17
    ·rw[if_pos e] at hoc;subst e;unfold eJ gJ;rw[if_neg (by decide),if_neg (by decide)];change Option.map _ ((cO [4] st).bind _)=none;change cO [4] st=none at hoc;rw[hoc];rfl
    rw[if_neg e] at hoc;cases hx:eJ (parOf m) op a st with
    | none=>rfl
    | some p=>rw[Option.bind_some,hx] at hoc;cases hoc
   have HN:Hid _:=AI hno (AI hFlo5 R5);clear hno hFlo5 R5 hst' hFlo4 hcl haf k6 S4 hFlo hI hJ hpar hF hG hs htt hsok ha hnf hln hopE hbst hlow F5 F4 e1 e2 e3 e4 e5 e1' e5' HX HALL HCh HSt;go_wp2;refine bodyPost_ret (results_none rfl _ _ _) rfl ?_;exact⟨rfl,HN.out.2.2.trans (gW HN.out.2.1.bf),G,Q,more,true,P,HN.out.2.1.setWrong true,.inl ⟨rfl,HN.out.1⟩⟩
  | some u=>
   rw[hoc] at S5;have S5':dA w5 sb u false:=S5;have c1:=S5'.c1;have hul:=S5'.hi;have n1:sb≠fb:=by omega
   have n2:sb≠qb:=by omega
   have n3:sb≠kb:=by omega
   have hB5:=R5.size;have hgl:=hFlo.gl;have hql:=hFlo.ql;by_cases e17:op=17
   ·have htk:cO [4] st=some u:=by
     unfold chB at hoc;rw[if_pos e17] at hoc;exact hoc
    have hsop:s.op=17:=by rw[hopE];exact e17
    have hfar:far s.op=true:=by unfold far;rw[hsop];rfl
    have hhl:dS s.op=false:=by unfold dS;rw[hsop];rfl
    obtain⟨t',ht',hk⟩:=hJ i s hi hs hfar;rw[htt] at ht';cases ht';have hkl:=vQ hk;have hkn:tt≤n:=by omega
    have bu:bC u:=by rw[oL [4] st u htk];exact hbst.take _
    have hafB:eJ (parOf m) s.op s.a st=if u.length+2≤1024 then some (u++[4,2],u) else none:=by
     rw[hsop];unfold eJ;change ((cO [4] st).bind _)=_;rw[htk];simp only[Option.bind_some,kO,kN,Nat.reduceEqDiff,if_false,Lla];rfl
    have hgo:=mO w5 B fb kb qb n (some (Ad ga 0)) acap _ G Q more wrong P hFlo5 hn sb (some u) S5 n1 n2 n3 hPs tt hkn (fun x hx=>by cases hx;exact bu);have HGo:Hid _:=fun (_:Unit)=>hgo;have q51:((op:Int)==51)=false:=by simp;omega
    have q52:((op:Int)==52)=false:=by simp;omega
    have q53:((op:Int)==53)=false:=by simp;omega
    have q48:((op:Int)==48)=false:=by simp;omega
    have q49:((op:Int)==49)=false:=by simp;omega
    have q17:((op:Int)==17)=true:=by simp;omega
    have HS5:Hid _:=S5';have HY:Hid _:=AI hF (AI hG (AI hs (AI haf (AI bu (AI hafB (AI hul (AI hgl (AI hql (AI hFlo.hb (AI R5 (AI hk (AI hkl (AI hfar (AI hhl (AI hln (AI (show s.op<54 by rw[hsop];decide) hbst))))))))))))))));clear hgo htk hsop hfar hhl hk hkl bu hafB hgl hql hul e17;clear hFlo4 hcl haf k6 S4 hFlo hI hJ hpar hF hG hs htt hsok ha hnf hln hopE hbst hlow F5 F4 e1 e2 e3 e4 e5 HX HALL HCh HSt hoc hFlo5 R5 S5 S5';go_wp2_with fail;refine (HGo.out ()).mono ?_;rintro e w6 ⟨rfl,FB,hsb,G1,Q1,m1,wr1,P1,F1,hP1,hR⟩;have hst6:cA w6 sb (some u):=HS5.out.of_block hsb;have hB6:=FB.size;have hlv:=jY w6 sb (some u) ⟨#[4,2]⟩ hst6 (by decide) (by decide);have hkl2:kL ⟨#[4,2]⟩=[4,2]:=by decide
    rw[hkl2,Option.bind_some,pP HY.out.2.2.2.2.2.2.1] at hlv;have HLv:Hid _:=fun (_:Unit)=>hlv;have HM1:Hid _:=AI hR (AI FB F1);have HP1:Hid _:=hP1;clear e5' hR FB hst6 hsb hlv HGo hP1;go_wp2_with fail;refine (HLv.out ()).mono ?_;rintro e w7 ⟨rfl,S7,F7⟩;obtain⟨hF,hG,hs,haf,bu,hafB,hul,hgl,hql,hbG,R5,hk,hkl,hfar,hhl,hln,hs54,hbst⟩:=HY.out;have hl6:=F1.lt;have hl7:=F1.lk;have hl8:=F1.lq;have F17:=F1.fr F7 (by simp;omega) (by simp;omega) (by simp;omega) (fun j x hj=>by simp;exact HP1.out j x hj);have R7:FrB B w6 w7:=FrB.of F7 (by omega) (by simp;omega);obtain⟨i1,hi1⟩:=eXi (i+1);have hI1:(i:Int)+1=(i1:Int):=by omega
    have hi1n:i1≤n:=by omega
    have hl42:([4,2]:LN).length=2:=rfl;rw[hl42] at S7;by_cases hov:u.length+2≤1024
    ·rw[if_pos hov] at S7 hafB;obtain⟨bo,br,lo⟩:=vA hs54 hbst hafB;have haf2:after (parOf m) s.op s.a (abL st)=some (abL (u++[4,2]),abL u):=by rw[haf,hafB];rfl
     have HG2:Hid _:=fun (_:Unit)=>mO w7 B fb kb qb n (some (Ad ga 0)) acap _ G1 Q1 m1 wr1 P1 F17 hn sb (some (u++[4,2])) S7 n1 n2 n3 HP1.out i1 hi1n (fun x hx=>by cases hx;exact bo);have HZ:Hid _:=AI haf2 (AI bo (AI lo (AI hi1 R7)));clear haf2 bo br lo hi1 R7 S7 F7 F17 hF hG hs haf hafB hgl hql hbG R5 hk hkl hfar hhl hln hs54 hbst F1 HLv;go_wp2_with fail;refine (HG2.out ()).mono ?_;rintro e w8 ⟨rfl,FB2,hsb2,G2,Q2,m2,wr2,P2,F2,hP2,hR2⟩;go_wp2;go_end0;obtain⟨hF,hG,hs,haf,bu,hafB,hul,hgl,hql,hbG,R5,hk,hkl,hfar,hhl,hln,hs54,hbst⟩:=HY.out;obtain⟨hR,FB,F1⟩:=HM1.out;obtain⟨haf2,bo,lo,hi1,R7⟩:=HZ.out;refine⟨rfl,((R5.trans FB).trans R7).trans FB2,G2,Q2,m2,wr2,P2,F2,?_⟩;rcases iG hR hgl with ⟨rfl,rfl,rfl,rfl,hb⟩ | ⟨rfl,hgk⟩
     ·exact .inl ⟨C8 hR2,aEw hF.low hG hs haf2 hfar hk (show tt<n by omega) hb⟩
     have g1:=hgk.all hbG bu hul (by rw[hql,hgl]);have hl1:Low (parOf m) l (abG G1):=by rw[g1.lay];exact hF.low.farLow (cV hG) hs haf2 hfar hk
     rcases iG hR2 (g1.gl.trans hgl) with ⟨rfl,rfl,rfl,rfl,hb⟩ | ⟨rfl,hgk2⟩
     ·exact .inl ⟨rfl,O1 hF.low hl1 (g1.gl.trans hgl) hG hs haf2 hhl (by rw[hi1];exact hb)⟩
     rw[← hi1] at hgk2;exact aNi hF hG hs haf2 g1 (hgk2.all g1.bits bo lo (by rw[g1.ql,g1.gl,hql,hgl])) hfar hhl hk
    rw[if_neg hov] at S7 hafB;have hno:¬ Flow.Safe (parOf m) l:=hF.low.stuck (cV hG) hs (by rw[haf,hafB];rfl);have HG2:Hid _:=fun (_:Unit)=>mO w7 B fb kb qb n (some (Ad ga 0)) acap _ G1 Q1 m1 wr1 P1 F17 hn sb none S7 n1 n2 n3 HP1.out i1 hi1n (fun x hx=>by cases hx);have HZ:Hid _:=AI hno R7;clear hno hi1 R7 S7 F7 F17 hF hG hs haf hafB hgl hql hbG R5 hk hkl hfar hhl hln hs54 hbst F1 HLv;go_wp2_with fail;refine (HG2.out ()).mono ?_;rintro e w8 ⟨rfl,FB2,hsb2,G2,Q2,m2,wr2,P2,F2,hP2,hR2⟩;go_wp2;go_end0;exact⟨rfl,((HY.out.2.2.2.2.2.2.2.2.2.2.1.trans HM1.out.2.1).trans HZ.out.2).trans FB2,G2,Q2,m2,wr2,P2,F2,.inl ⟨aPn hR2,HZ.out.1⟩⟩
   have hax:∃ r,eJ (parOf m) s.op s.a st=some (u,r):=by
    unfold chB at hoc;rw[if_neg e17,Option.bind_some] at hoc;rw[← hcl];cases hx:eJ (parOf m) op a st with
    | none=>rw[hx] at hoc;cases hoc
    | some p=>rw[hx] at hoc;cases hoc;exact⟨p.2,rfl⟩
   obtain⟨r,hax⟩:=hax;obtain⟨bo,br,lo⟩:=vA (by rw[hopE];exact hop54) hbst hax;have haf2:after (parOf m) s.op s.a (abL st)=some (abL u,abL r):=by rw[haf,hax];rfl
   have hgo:=fun (k:Nat) (hk:k≤n)=>mO w5 B fb kb qb n (some (Ad ga 0)) acap _ G Q more wrong P hFlo5 hn sb (some u) S5 n1 n2 n3 hPs k hk (fun x hx=>by cases hx;exact bo);have HGo:Hid _:=fun (_:Unit)=>hgo;have q17:((op:Int)==17)=false:=by simp;omega
   have HF5:Hid _:=hFlo5;have HS5:Hid _:=S5';have HY:Hid _:=AI hF (AI hG (AI hs (AI haf2 (AI bo (AI br (AI lo (AI hopE (AI hgl (AI hql (AI hFlo.hb (AI R5 (AI hJ (AI htt (AI hln hax))))))))))))));clear hgo haf2 bo br lo hax hgl hql hul S5';clear hFlo4 hcl haf k6 S4 hFlo hI hJ hpar hF hG hs htt hsok ha hnf hln hopE hbst hlow F5 F4 e1 e2 e3 e4 e5 HX HALL HCh HSt hoc hFlo5 R5 S5;by_cases e51:op=51∨op=52∨op=53
   ·rcases e51 with e | e | e
    ·have q51:((op:Int)==51)=true:=by simp;omega
     have HE:Hid _:=e;clear e e17 e5' HGo;go_wp2;go_end0;obtain⟨hF,hG,hs,haf2,bo,br,lo,hopE,hgl,hql,hbG,R5,hJ,htt,hln,hax⟩:=HY.out;have hfar:far s.op=false:=by unfold far;rw[hopE,HE.out];rfl
     have hhl:dS s.op=true:=by unfold dS;rw[hopE,HE.out];rfl
     exact⟨rfl,R5,G,Q,more,wrong,P,HF5.out,M8 hF hG hs haf2 hfar hhl⟩
    ·have q51:((op:Int)==51)=false:=by simp;omega
     have q52:((op:Int)==52)=true:=by simp;omega
     have HE:Hid _:=e;clear e e17 e5' HGo;go_wp2;go_end0;obtain⟨hF,hG,hs,haf2,bo,br,lo,hopE,hgl,hql,hbG,R5,hJ,htt,hln,hax⟩:=HY.out;have hfar:far s.op=false:=by unfold far;rw[hopE,HE.out];rfl
     have hhl:dS s.op=true:=by unfold dS;rw[hopE,HE.out];rfl
     exact⟨rfl,R5,G,Q,more,wrong,P,HF5.out,M8 hF hG hs haf2 hfar hhl⟩
    have q51:((op:Int)==51)=false:=by simp;omega
    have q52:((op:Int)==52)=false:=by simp;omega
    have q53:((op:Int)==53)=true:=by simp;omega
    have HE:Hid _:=e;clear e e17 e5' HGo;go_wp2;go_end0;obtain⟨hF,hG,hs,haf2,bo,br,lo,hopE,hgl,hql,hbG,R5,hJ,htt,hln,hax⟩:=HY.out;have hfar:far s.op=false:=by unfold far;rw[hopE,HE.out];rfl
    have hhl:dS s.op=true:=by unfold dS;rw[hopE,HE.out];rfl
    exact⟨rfl,R5,G,Q,more,wrong,P,HF5.out,M8 hF hG hs haf2 hfar hhl⟩
   have q51:((op:Int)==51)=false:=by simp;omega
   have q52:((op:Int)==52)=false:=by simp;omega
   have q53:((op:Int)==53)=false:=by simp;omega
   by_cases e48:op=48
   ·have q48:((op:Int)==48)=true:=by simp;omega
    have HE:Hid _:=e48;obtain⟨hF,hG,hs,haf2,bo,br,lo,hopE,hgl,hql,hbG,R5,hJ,htt,hln,hax⟩:=HY.out;have hfar:far s.op=true:=by unfold far;rw[hopE,HE.out];rfl
    have hhl:dS s.op=true:=by unfold dS;rw[hopE,HE.out];rfl
    obtain⟨t',ht',hk⟩:=hJ i s hi hs hfar;rw[htt] at ht';cases ht';have hkl:=vQ hk;have hru:r=u:=by
     have:=hax;unfold eJ at this;rw[hopE,HE.out] at this;change ((cO [] st).bind _)=_ at this;simp only[cO,Option.bind_some] at this;split at this
     ·simp only[Option.some.injEq,Prod.mk.injEq] at this;rw[← this.1,← this.2];simp[kO,kN]
     cases this
    have hkn:tt≤n:=by omega
    have HK:Hid _:=AI hk (AI hfar (AI hhl (AI hkl hru)));clear hF hG hs haf2 bo br lo hopE hgl hql hbG R5 hJ htt hln hax hfar hhl hk hkl hru e48 e17 e51;go_wp2_with fail;refine (HGo.out () tt hkn).mono ?_;rintro e w6 ⟨rfl,FB,hsb,G1,Q1,m1,wr1,P1,F1,hP1,hR⟩;clear e5';go_wp2;go_end0;obtain⟨hF,hG,hs,haf2,bo,br,lo,hopE,hgl,hql,hbG,R5,hJ,htt,hln,hax⟩:=HY.out;obtain⟨hk,hfar,hhl,hkl,hru⟩:=HK.out;refine⟨rfl,R5.trans FB,G1,Q1,m1,wr1,P1,F1,?_⟩;rcases iG hR hgl with ⟨rfl,rfl,rfl,rfl,hb⟩ | ⟨rfl,hgk⟩
    ·exact .inl ⟨rfl,aEw hF.low hG hs haf2 hfar hk (show tt<n by omega) (by rw[hru];exact hb)⟩
    exact aNj hF hG hs haf2 (hgk.all hbG bo lo (by rw[hql,hgl])) (.inr ⟨hfar,hhl,hk,hru.symm⟩)
   have q48:((op:Int)==48)=false:=by simp;omega
   by_cases e49:op=49
   ·have q49:((op:Int)==49)=true:=by simp;omega
    have HE:Hid _:=e49;obtain⟨hF,hG,hs,haf2,bo,br,lo,hopE,hgl,hql,hbG,R5,hJ,htt,hln,hax⟩:=HY.out;have hfar:far s.op=true:=by unfold far;rw[hopE,HE.out];rfl
    have hhl:dS s.op=false:=by unfold dS;rw[hopE,HE.out];rfl
    obtain⟨t',ht',hk⟩:=hJ i s hi hs hfar;rw[htt] at ht';cases ht';have hkl:=vQ hk;have hru:r=u:=by
     have:=hax;unfold eJ at this;rw[hopE,HE.out] at this;change ((cO [1] st).bind _)=_ at this;cases hx:cO [1] st with
     | none=>rw[hx] at this;cases this
     | some rest=>
      rw[hx] at this;simp only[Option.bind_some] at this;split at this
      ·simp only[Option.some.injEq,Prod.mk.injEq] at this;rw[← this.1,← this.2];simp[kO,kN]
      cases this
    have hkn:tt≤n:=by omega
    have HK:Hid _:=AI hk (AI hfar (AI hhl (AI hkl hru)));clear hF hG hs haf2 bo br lo hopE hgl hql hbG R5 hJ htt hln hax hfar hhl hk hkl hru e49 e48 e17 e51;go_wp2_with fail;refine (HGo.out () tt hkn).mono ?_;rintro e w6 ⟨rfl,FB,hsb,G1,Q1,m1,wr1,P1,F1,hP1,hR⟩;have hst6:cA w6 sb (some u):=HS5.out.of_block hsb;have hB6:=FB.size;obtain⟨i1,hi1⟩:=eXi (i+1);have hI1:(i:Int)+1=(i1:Int):=by omega
    have hi1n:i1≤n:=by omega
    have HG2:Hid _:=fun (_:Unit)=>mO w6 B fb kb qb n (some (Ad ga 0)) acap _ G1 Q1 m1 wr1 P1 F1 hn sb (some u) hst6 n1 n2 n3 hP1 i1 hi1n (fun x hx=>by cases hx;exact HY.out.2.2.2.2.1);have HM1:Hid _:=AI hR (AI FB (AI F1 hi1));clear e5' hi1 hR FB F1 hst6 hsb hP1 HGo;go_wp2_with fail;refine (HG2.out ()).mono ?_;rintro e w7 ⟨rfl,FB2,hsb2,G2,Q2,m2,wr2,P2,F2,hP2,hR2⟩;go_wp2;go_end0;obtain⟨hF,hG,hs,haf2,bo,br,lo,hopE,hgl,hql,hbG,R5,hJ,htt,hln,hax⟩:=HY.out;obtain⟨hk,hfar,hhl,hkl,hru⟩:=HK.out;obtain⟨hR,FB,F1,hi1⟩:=HM1.out;subst hru;refine⟨rfl,(R5.trans FB).trans FB2,G2,Q2,m2,wr2,P2,F2,?_⟩;rcases iG hR hgl with ⟨rfl,rfl,rfl,rfl,hb⟩ | ⟨rfl,hgk⟩
    ·exact .inl ⟨C8 hR2,aEw hF.low hG hs haf2 hfar hk (show tt<n by omega) hb⟩
    have g1:=hgk.all hbG br lo (by rw[hql,hgl]);have hl1:Low (parOf m) l (abG G1):=by rw[g1.lay];exact hF.low.farLow (cV hG) hs haf2 hfar hk
    rcases iG hR2 (g1.gl.trans hgl) with ⟨rfl,rfl,rfl,rfl,hb⟩ | ⟨rfl,hgk2⟩
    ·exact .inl ⟨rfl,O1 hF.low hl1 (g1.gl.trans hgl) hG hs haf2 hhl (by rw[hi1];exact hb)⟩
    rw[← hi1] at hgk2;exact aNi hF hG hs haf2 g1 (hgk2.all g1.bits bo lo (by rw[g1.ql,g1.gl,hql,hgl])) hfar hhl hk
   have q49:((op:Int)==49)=false:=by simp;omega
   have hI1:(i:Int)+1=((i+1:Nat):Int):=by push_cast;rfl
   obtain⟨i1,hi1⟩:=eXi (i+1);rw[hi1] at hI1;have HI1:Hid _:=hi1;have HE:Hid _:=AI e17 (AI e51 (AI e48 e49));have hi1n:i1≤n:=by omega
   clear hi1 e17 e51 e48 e49 e5';go_wp2_with fail;refine (HGo.out () i1 hi1n).mono ?_;rintro e w6 ⟨rfl,FB,hsb,G1,Q1,m1,wr1,P1,F1,hP1,hR⟩;go_wp2;go_end0;obtain⟨hF,hG,hs,haf2,bo,br,lo,hopE,hgl,hql,hbG,R5,hJ,htt,hln,hax⟩:=HY.out;obtain⟨e17,e51,e48,e49⟩:=HE.out;have hfar:far s.op=false:=by unfold far;rw[hopE];simp;omega
   have hhl:dS s.op=false:=by unfold dS;rw[hopE];simp;omega
   have hi1:=HI1.out;refine⟨rfl,R5.trans FB,G1,Q1,m1,wr1,P1,F1,?_⟩;rcases iG hR hgl with ⟨rfl,rfl,rfl,rfl,hb⟩ | ⟨rfl,hgk⟩
   ·exact .inl ⟨rfl,O1 hF.low hF.low hgl hG hs haf2 hhl (by rw[hi1];exact hb)⟩
   exact aNj hF hG hs haf2 (hgk.all hbG bo lo (by rw[hql,hgl])) (.inl ⟨hfar,hhl,hi1.symm,rfl⟩)
theorem mU.of_block {W W':WL}{g:Nat}{L:List Stp}{T:LN} (h:mU W g L T) (hb:W'.heap[g]?=W.heap[g]?):mU W' g L T:=by
 have e:∀ j,W'.cell? (Ad g j)=W.cell? (Ad g j):=fun j=>by unfold World.cell?;rw[hb]
 refine⟨h.len,fun i s t hs ht=>?_,fun k=>?_⟩
 ·obtain⟨h0,h1,h2,h3,h4⟩:=h.cell i s t hs ht;exact⟨(e _).trans h0,(e _).trans h1,(e _).trans h2,(e _).trans h3,(e _).trans h4⟩
 have:=h.fz k;unfold World.frozen? at this ⊢;rw[hb];exact this
def RnR (par:NN) (l:List Stp) (G0 G:List (Option (LN))) (Q:List Bool) (more wrong:Bool) (i:Nat):Prop:=
 (wrong=true∧¬ Flow.Safe par l)∨(wrong=false∧FSt par l G Q∧((more=false∧G=G0∧∀ j:Nat,j<i→Q[j]?≠some true)∨(more=true∧gO G<gO G0)))
theorem RnR.skip {par:NN}{l:List Stp}{G0 G:List (Option (LN))}{Q:List Bool}{more wrong:Bool}{i:Nat} (h:RnR par l G0 G Q more wrong i) (hq:wrong=true∨Q[i]?=some false):RnR par l G0 G Q more wrong (i+1):=by
 rcases h with h | ⟨h1,h2,h3⟩
 ·exact .inl h
 refine .inr ⟨h1,h2,?_⟩;rcases h3 with ⟨a,b,c⟩ | h3
 ·refine .inl ⟨a,b,fun j hj=>?_⟩;by_cases e:j<i
  ·exact c j e
  have e2:j=i:=by omega
  subst e2;rcases hq with hq | hq
  ·rw[h1] at hq;cases hq
  rw[hq];simp
 exact .inr h3
theorem FSt.at_ {par:NN}{l:List Stp}{G:List (Option (LN))}{Q:List Bool} (h:FSt par l G Q) (i:Nat):FSi par l G (Q.set i false) i:=by
 refine⟨h.low,h.z,fun j hj hq=>?_,fun j hq=>?_⟩
 ·rw[List.getElem?_set_ne (fun e=>hj e.symm)] at hq;exact h.done j hq
 by_cases e:j=i
 ·subst e;rw[List.getElem?_set] at hq;split at hq
  ·split at hq
   ·cases hq
   cases hq
  ·rename_i hx;exact absurd rfl hx
 rw[List.getElem?_set_ne (fun e2=>e e2.symm)] at hq;exact h.known j hq
theorem RnR.pass {par:NN}{l:List Stp}{G0 G G':List (Option (LN))}{Q Q':List Bool}{more more' wrong':Bool}{i:Nat} (h:RnR par l G0 G Q more false i) (hl:i<Q.length) (hp:PsR par l G (Q.set i false) more false G' Q' more' wrong'):RnR par l G0 G' Q' more' wrong' (i+1):=by
 rcases h with ⟨h,-⟩ | ⟨-,h2,h3⟩
 ·cases h
 rcases hp with hp | ⟨p1,p2,p3⟩
 ·exact .inl hp
 refine .inr ⟨p1,p2,?_⟩;rcases p3 with ⟨rfl,rfl,rfl⟩ | ⟨p3,p4⟩
 ·rcases h3 with ⟨a,b,c⟩ | h3
  ·refine .inl ⟨a,b,fun j hj=>?_⟩;by_cases e:j=i
   ·subst e;rw[List.getElem?_set_self hl];simp
   rw[List.getElem?_set_ne (fun e2=>e e2.symm)];exact c j (by omega)
  exact .inr h3
 right;refine⟨p3,?_⟩;rcases h3 with ⟨a,rfl,c⟩ | ⟨a,b⟩
 ·exact p4
 omega
def bCb (B fb kb qb n:Nat) (av mf:Value) (par:NN) (l:List Stp) (G:List (Option (LN))) (W':WL):Prop:=
 ∃ G' Q' more' wrong' P',eR W' B fb kb qb n av mf G' Q' more' wrong' P'∧RnR par l G G' Q' more' wrong' n
theorem aJc (W:WL)(B fb kb qb n ga acap gf off nf cap:Nat)(m:Mo)(l:List Stp)(T:LN)(G:List (Option (LN)))(Q:List Bool)(P:NN)
  (h:eR W B fb kb qb n (.slice (some (Ad ga 0)) n acap) (.slice (some (Ad gf off)) nf cap) G Q false false P) (hn:n≤100000) (hln:l.length=n) (hI:mU W ga l T) (hga:ga<B) (hJ:rL l T n)
  (hnf:nf=m.fns.length) (hpar:∀ a,a<nf→W.cell? (Ad gf (off+a*3))=some (iA (parOf m a:Nat))∧parOf m a≤8) (hgf:gf<B) (hnf2:nf≤1000) (hok:∀ s ∈ l,zE m s) (hF:FSt (parOf m) l G Q) :
  Calls prog 93 #[.pointer (some (Ad fb 0))] W fun e W'=>e=.returned (.tuple #[])∧FrB B W W'∧bCb B fb kb qb n (.slice (some (Ad ga 0)) n acap) (.slice (some (Ad gf off)) nf cap) (parOf m) l G W':=by
 have hps:=fun (W1:WL) (G1:List (Option (LN))) (Q1:List Bool) (m1 w1:Bool) (P1:NN) (h1:eR W1 B fb kb qb n (.slice (some (Ad ga 0)) n acap) (.slice (some (Ad gf off)) nf cap) G1 Q1 m1 w1 P1) (hFr:FrB B W W1) (i:Nat) (hi:i<n) (st:LN) (hG:G1[i]?=some (some st)) (hFi:FSi (parOf m) l G1 Q1 i)=>
  aNs W1 B fb kb qb n ga acap gf off nf cap m l T G1 Q1 m1 w1 P1 h1 hn hln (hI.of_block (hFr.block ga hga)) hga hJ hnf (fun a ha=>⟨by unfold World.cell?;rw[hFr.block gf hgf];exact (hpar a ha).1,(hpar a ha).2⟩) hgf hnf2 hok i hi st hG hFi
 have HPs:Hid _:=fun (_:Unit)=>hps;have c5:=h.c5;have HF:Hid _:=AI h hF;clear hps h hI hJ hpar hok hF hnf hln hga hgf hnf2;go_enter func93,ntmps93;go_wp2
 go_loopw [8] (fun j wr=>∃ (i:Nat) (G1:List (Option (LN))) (Q1:List Bool) (m1 w1:Bool) (P1:NN),j=iA (i:Nat)∧i≤n∧FrB B W wr∧eR wr B fb kb qb n (.slice (some (Ad ga 0)) n acap) (.slice (some (Ad gf off)) nf cap) G1 Q1 m1 w1 P1∧Hid (RnR (parOf m) l G G1 Q1 m1 w1 i)) (fun j _=>n-(intOf j).toNat)
 case atStart=>exact⟨0,G,Q,false,false,P,rfl,by omega,FrB.refl _ _,HF.out.1,.inr ⟨rfl,HF.out.2,.inl ⟨rfl,rfl,fun j hj=>absurd hj (by omega)⟩⟩⟩
 case round=>
  clear c5;obtain⟨i,G1,Q1,m1,w1,P1,rfl,hi,R1,F1,hR⟩:=hrel;have d7:=F1.c7;have d9:=F1.c9;by_cases hlt:i<n
  ·have g1:(i:Int)<(n:Int):=by omega
   obtain⟨b,hb⟩:∃ b,Q1[i]?=some b:=⟨_,Lge (by rw[F1.ql];exact hlt)⟩;have di:=F1.qs i b hb;have zi:=F1.zq i;cases b with
   | false=>
    have HX:Hid _:=AI F1 (AI R1 hb);clear F1 R1 hb HPs;go_wp2;refine⟨⟨i+1,G1,Q1,m1,w1,P1,by go_num,by omega,HX.out.2.1,HX.out.1,hR.out.skip (.inr HX.out.2.2)⟩,?_⟩;simp[intOf];omega
   | true=>
    cases w1 with
    | true=>
     have HX:Hid _:=AI F1 R1;clear F1 R1 hb HPs;go_wp2;refine⟨⟨i+1,G1,Q1,m1,true,P1,by go_num,by omega,HX.out.2,HX.out.1,hR.out.skip (.inl rfl)⟩,?_⟩;simp[intOf];omega
    | false=>
     have hFs:FSt (parOf m) l G1 Q1:=by
      rcases hR.out with ⟨h,-⟩ | ⟨-,h,-⟩
      ·cases h
      exact h
     obtain⟨st,hst⟩:=hFs.known i hb;have F2:=F1.setWait hlt false;have R2:=R1.trans (gW (W:=wr) (j:=i) (v:=.bool false) F1.bq);have HP:Hid _:=fun (_:Unit)=>HPs.out () _ G1 (Q1.set i false) m1 false P1 F2 R2 i hlt st hst (hFs.at_ i);have HX:Hid _:=AI F1 R2;clear F1 R1 hb HPs hFs hst F2 R2;go_wp2_with fail;refine (HP.out ()).mono ?_;rintro e w2 ⟨rfl,R3,G2,Q2,m2,w2',P2,F3,hp⟩;have hql:=HX.out.1.ql;go_wp2;refine⟨⟨i+1,G2,Q2,m2,w2',P2,by go_num,by omega,HX.out.2.trans R3,F3,hR.out.pass (by omega) hp⟩,?_⟩;simp[intOf];omega
  have g1:¬ (i:Int)<(n:Int):=by omega
  have HX:Hid _:=AI F1 R1;clear F1 R1;go_wp2;go_end0;have e:i=n:=by omega
  subst e;exact⟨rfl,HX.out.2,G1,Q1,m1,w1,P1,HX.out.1,hR.out⟩
theorem aXj:(prog.info? 160).map (fun i=>(i.zero,i.size))=some (some (.agg #[.slice none 0 0,.slice none 0 0,iA 0,iA 0,.slice none 0 0,.slice none 0 0,.slice none 0 0,.slice none 0 0,.bool false,.bool false]),10):=by kernel_rfl
theorem aXh:(prog.info? 162).map (fun i=>(i.zero,i.size,i.bytes))=some (some (.pointer none),1,8):=by kernel_rfl
theorem aWu (n:Nat)(hn:n≤100000)(W:WL):(Instr.makeSlice 157 (iA (n:Int)) (iA (n:Int))).run prog W=.ok (.slice (some (Ad W.heap.size 0)) n n) (W.alloc (.cells (madeCells #[.pointer none] n) 162)):=by
 obtain⟨i0,hi,hz0,hz1,hz2⟩:=info_parts aXh;have:=run_make (P:=prog) W 157 162 i0 (.pointer none) underlying157 hi hz0 .i64 .i64 n n (by omega) (by omega) (by rw[hz2];omega) (by omega);simp only[Int.toNat_natCast,hz1,Nat.mul_one] at this;exact this
theorem nK {o:Oper}{a:Act}{w w':WL}{K:Act→WL→Prop}{Q:Exit→Act→WL→Prop} (t:TypeId) (x y:Operand) (ho:o.op=.makeSlice t x y) (u v r:Value) (hx:a.eval x=u) (hy:a.eval y=v) (hrun:(Instr.makeSlice t u v).run prog w=.ok r w')
  (h:K (a.put o.dst r) w'):o.wp prog a w K Q:=by
 unfold Oper.wp execOp;simp only[ho,Sem.run_bind,Sem.run_pure,Result.andThen_ok,hx,hy,hrun];exact h
theorem dH {W W1:WL}{o:Obj} (h:W.alloc o=W1):W1.heap[W.heap.size]?=some o∧Fr [] W W1∧W.heap.size<W1.heap.size:=by
 subst h;exact⟨wan W o,(Fr.refl [] W).alloc _,by simp⟩
theorem aSi {w WR:WL}{g:Nat}{c c':Array Value}{t:TypeId} (h:w.setRow g c'=WR) (k:w.heap[g]?=some (.cells c t)):WR.heap[g]?=some (.cells c' t)∧(∀ x,x≠g→WR.heap[x]?=w.heap[x]?)∧∀ w0:WL,Fr [] w0 w→w0.heap.size≤g→Fr [] w0 WR:=by
 subst h;exact⟨mJ k,fun x hx=>iD hx,fun w0 hf hg=>mI hf hg⟩
theorem aFm {W:WL}{B fb kb qb n:Nat}{tv pv gv arv mf av:Value} (hfb:W.heap[fb]?=some (.cells #[tv,pv,gv,arv,mf,av,.slice (some (Ad kb 0)) n n,.slice (some (Ad qb 0)) n n,.bool false,.bool false] 160))
  (hkb:W.heap[kb]?=some (.cells (madeCells #[.pointer none] n) 162)) (hqb:W.heap[qb]?=some (.cells (madeCells #[.bool false] n) 4)) (n1:fb≠kb) (n2:fb≠qb) (n3:kb≠qb) (b1:B≤fb) (b2:B≤kb) (b3:B≤qb) :
  eR W B fb kb qb n av mf (List.replicate n none) (List.replicate n false) false false (fun _=>0):=by
 have ef:∀ j,W.cell? (Ad fb j)=(#[tv,pv,gv,arv,mf,av,.slice (some (Ad kb 0)) n n,.slice (some (Ad qb 0)) n n,.bool false,.bool false]:Array Value)[j]?:=fun j=>by unfold World.cell?;rw[hfb];simp
 have hm:∀ (z:Value) (k:Nat),k<n→(madeCells #[z] n)[k]?=some z:=fun z k hk=>by rw[← Array.getElem?_toList,toList_madeCells_one,List.getElem?_replicate,if_pos hk]
 have hno:∀ (i:Nat) (s:LN),(List.replicate n (none:Option (LN)))[i]?=some (some s)→False:=fun i s h=>by
  rw[List.getElem?_replicate] at h;split at h <;> cases h
 have hl:∀ {α:Type}{z x:α}{i:Nat},(List.replicate n z)[i]?=some x→x=z∧i<n:=fun {α z x i} h=>by
  rw[List.getElem?_replicate] at h;split at h
  ·cases h;exact⟨rfl,by assumption⟩
  cases h
 refine⟨by rw[ef];rfl,by rw[ef];rfl,by rw[ef];rfl,by rw[ef];rfl,by rw[ef];rfl,by rw[ef];rfl,by simp,by simp,fun i hi=>?_,fun i s hi=>(hno i s hi).elim,fun i j s t hi=>(hno i s hi).elim,fun i b hi=>?_,fun i=>?_,fun i=>?_,fun i=>?_,n1,n2,n3,b1,b2,b3,(Age.1 hkb).1,(Age.1 hqb).1,fun i s hi=>(hno i s hi).elim⟩
 ·unfold World.cell?;rw[hkb];exact hm _ i (hl hi).2
 ·obtain⟨rfl,h2⟩:=hl hi;unfold World.cell?;rw[hqb];exact hm _ i h2
 ·unfold World.frozen?;rw[hfb];simp
 ·unfold World.frozen?;rw[hkb];simp
 unfold World.frozen?;rw[hqb];simp
def LpP (par:NN) (l:List Stp) (B fb kb qb n:Nat) (av mf:Value) (wc:WL) (gk:Nat) (W:WL):Prop:=
 FrB B wc W∧∃ G Q more wrong P,eR W B fb kb qb n av mf G Q more wrong P∧((wrong=true∧¬ Flow.Safe par l)∨(wrong=false∧FSt par l G Q∧(more=false→∀ j:Nat,j<n→Q[j]?≠some true)∧2*gO G+more.toNat≤gk))
theorem aDw (n:Nat):abG (List.replicate n none)=List.replicate n none:=by simp[abG]
theorem aKu {par:NN}{l:List Stp}{n:Nat} (hln:l.length=n) {G:List (Option (LN))}{Q:List Bool}{more:Bool} (g:E6 (List.replicate n none) (List.replicate n false) false 0 [] G Q more):FSt par l G Q:=by
 have h0:0<n:=by have:=g.hk;simpa using this
 refine⟨?_,?_,fun j hj=>?_,?_⟩
 ·rw[g.lay,aDw];have:=Low.start par l;rw[hln] at this;exact this
 ·rw[g.lay,aDw];exact Y6 h0
 ·have:=(g.no j hj).2;have hx:G[j]?=some none:=by
   rw[this,List.getElem?_replicate,if_pos];have h1:=(Lgs.1 hj).1;rw[g.ql] at h1;simpa using h1
  exact rM.of_none (by rw[lU,hx];rfl)
 refine g.known (fun j hj=>?_);rw[List.getElem?_replicate] at hj;split at hj <;> cases hj
theorem aUj {par:NN}{l:List Stp}{n:Nat} (hln:l.length=n) {G:List (Option (LN))}{Q:List Bool} (h:FSt par l G Q) (hgl:G.length=n) (hql:Q.length=n) (hq:∀ j:Nat,j<n→Q[j]?≠some true):Flow.Safe par l:=by
 refine L6 (G:=abG G) (by rw[iK];omega) h.z (fun j hj=>h.done j ?_);have hj':j<Q.length:=by omega
 rw[Lge hj'];have:=hq j (by omega);rw[Lge hj'] at this;cases hx:Q[j] with
 | false=>rfl
 | true=>rw[hx] at this;exact absurd rfl this
def bAe (par:NN) (l:List Stp) (e:Ending):Prop:=∃ b,e=.returned (.bool b)∧(b=true↔¬ Flow.Safe par l)
theorem aLn (w:WL)(ta pa:OA)(tn tc pn pc:Nat)(m:Mo)(gf off nf cap n acap:Nat)(aa:OA)(hn:n≤100000)(l:List Stp)(T:LN)(hln:l.length=n)(hA:0<n→∃ ga,aa=some (Ad ga 0)∧ga<w.heap.size∧mU w ga l T)(hJ:rL l T n)
  (hnf:nf=m.fns.length) (hpar:∀ a,a<nf→w.cell? (Ad gf (off+a*3))=some (iA (parOf m a:Nat))∧parOf m a≤8) (hgf:gf<w.heap.size) (hnf2:nf≤1000) (hok:∀ s ∈ l,zE m s) :
  Calls prog 54 #[.agg #[.slice ta tn tc,.slice pa pn pc,iA m.globs,iA m.arrs,.slice (some (Ad gf off)) nf cap],.slice aa n acap] w fun e w'=>bAe (parOf m) l e∧Fr [] w w':=by
 have HALL:Hid _:=AI hln (AI hA (AI hJ (AI hnf (AI hpar (AI hgf (AI hnf2 hok))))));clear hln hA hJ hnf hpar hgf hnf2 hok;have hm:=hmX
 obtain⟨W0,hW0⟩:=eXi (w.alloc (.cells #[.slice ta tn tc,.slice pa pn pc,iA m.globs,iA m.arrs,.slice (some (Ad gf off)) nf cap] 25));have F0:=frA hW0
 have k0:=kA hW0;have kl:=(Age.1 k0).1;have hSt:∀ W,Fr [] W0 W→(fun w1:WL=>w1.cell? (Ad w.heap.size 0)=some (.slice ta tn tc)∧w1.cell? (Ad w.heap.size 1)=some (.slice pa pn pc)∧w1.cell? (Ad w.heap.size 2)=some (iA m.globs)∧w1.cell? (Ad w.heap.size 3)=some (iA m.arrs)∧w1.cell? (Ad w.heap.size 4)=some (.slice (some (Ad gf off)) nf cap)) W:=fun W hW=>by
  have e1:∀ j v,(#[.slice ta tn tc,.slice pa pn pc,iA m.globs,iA m.arrs,.slice (some (Ad gf off)) nf cap]:Array Value)[j]?=some v→W.cell? (Ad w.heap.size j)=some v:=fun j v hv=>by
   unfold World.cell?;rw[hW.block _ kl (by simp),k0];exact hv
  exact⟨e1 0 _ rfl,e1 1 _ rfl,e1 2 _ rfl,e1 3 _ rfl,e1 4 _ rfl⟩
 have HSt:Hid _:=hSt;have HF0:Hid _:=AI F0 kl;clear hSt k0 F0 kl;go_enter func54,ntmps54;go_upto_region 1 with fail
 go_cut[5] from 6 to 14 (fun x wx=>∃ fb kb qb:Nat,x=.pointer (some (Ad fb 0))∧Fr [] w wx∧eR wx w.heap.size fb kb qb n (.slice aa n acap) (.slice (some (Ad gf off)) nf cap) (List.replicate n none) (List.replicate n false) false false (fun _=>0))
 case first=>
  refine aI (fun w1:WL=>w1.cell? (Ad w.heap.size 0)=some (.slice ta tn tc)∧w1.cell? (Ad w.heap.size 1)=some (.slice pa pn pc)∧w1.cell? (Ad w.heap.size 2)=some (iA m.globs)∧w1.cell? (Ad w.heap.size 3)=some (iA m.arrs)∧w1.cell? (Ad w.heap.size 4)=some (.slice (some (Ad gf off)) nf cap)) hm ?_;have hS:(fun w1:WL=>w1.cell? (Ad w.heap.size 0)=some (.slice ta tn tc)∧w1.cell? (Ad w.heap.size 1)=some (.slice pa pn pc)∧w1.cell? (Ad w.heap.size 2)=some (iA m.globs)∧w1.cell? (Ad w.heap.size 3)=some (iA m.arrs)∧w1.cell? (Ad w.heap.size 4)=some (.slice (some (Ad gf off)) nf cap)) W0.drew:=HSt.out W0.drew (Fr.refl [] W0).drew;refine wpAnyH_take (i:=0) (v:=.agg #[.slice ta tn tc,.slice pa pn pc,iA m.globs,iA m.arrs,.slice (some (Ad gf off)) nf cap]) rfl (by kernel_rfl) (by kernel_rfl) (by kernel_rfl) (fun _ _ _ h=>h) (.inl ⟨rfl,fun w1 hS1=>?_⟩) hS ?_
  ·obtain⟨p0,p1,p2,p3,p4⟩:=hS1;go_simp
   (try rfl)
  simp only[Act.put,Zp,Zq];refine aK (fun _ _ _ _ _ h=>h) hS [1,2,3,5,6] (by kernel_rfl) ?_
  iterate 5
   refine Yls.cons (v:=?_) rfl (.inl ⟨rfl,fun w1 hS1=>?_⟩) ?_;rotate_left
   ·obtain⟨p0,p1,p2,p3,p4⟩:=hS1;go_simp
    first | rfl | (refine (if_neg (by omega)).trans ?_;rfl)
   simp only[Act.put,Zp,Zq]
  refine Yls.nil ?_;obtain⟨WD,hWD⟩:=eXi (W0.drew);have FD:Fr [] W0 WD:=by rw[← hWD];exact (Fr.refl [] W0).drew
  rw[hWD];rw[hWD] at hS;have hDs:=FD.size;obtain⟨hz1,hi1⟩:=zero_of_info aXj;have hw0:w.heap.size<W0.heap.size:=HF0.out.2;clear hW0 hWD hS
  iterate 3
   all_goals
    try
     refine wpAnyH_take (i:=8) (v:=?_) rfl (by kernel_rfl) (by kernel_rfl) (by decide +kernel) (fun _ _ _ h=>h) (.inl ⟨rfl,fun w1 hS1=>?_⟩) (HSt.out _ FD) ?_;rotate_left
     ·obtain⟨p0,p1,p2,p3,p4⟩:=hS1;go_simp;rfl
     simp only[Act.put,Zp,Zq]
    first
     | (refine wpAnyH_ready (rs:=[4,7,9]) (by decide +kernel) (by simp) ?_
        refine AllReadyH.cons rfl (fun K hK=>?_) (AllReadyH.cons rfl (fun K hK=>?_) (AllReadyH.cons rfl (fun K hK=>?_) AllReadyH.nil)))
     | (first | refine wpAnyH_ready (rs:=[7,9]) (by decide +kernel) (by simp) ?_ | refine wpAnyH_ready (rs:=[4,9]) (by decide +kernel) (by simp) ?_ | refine wpAnyH_ready (rs:=[4,7]) (by decide +kernel) (by simp) ?_
        refine AllReadyH.cons rfl (fun K hK=>?_) (AllReadyH.cons rfl (fun K hK=>?_) AllReadyH.nil))
     | (first | refine wpAnyH_ready (rs:=[9]) (by decide +kernel) (by simp) ?_ | refine wpAnyH_ready (rs:=[7]) (by decide +kernel) (by simp) ?_ | refine wpAnyH_ready (rs:=[4]) (by decide +kernel) (by simp) ?_
        refine AllReadyH.cons rfl (fun K hK=>?_) AllReadyH.nil)
   all_goals
    first
     | (refine nK 157 (.tmp 9) (.tmp 9) rfl _ _ _ rfl rfl (aWu n hn _) ?_
        generalize hW1:World.alloc _ _=W1;obtain⟨kk,G,s1⟩:=dH hW1
        (try replace k7:=(G.block _ (by omega) (by simp)).trans k7)
        (try replace k9:=(G.block _ (by omega) (by simp)).trans k9)
        have k4:=kk)
     | (refine nK 158 (.tmp 12) (.tmp 12) rfl _ _ _ rfl rfl (aTa n hn _) ?_
        generalize hW1:World.alloc _ _=W1;obtain⟨kk,G,s1⟩:=dH hW1
        (try replace k4:=(G.block _ (by omega) (by simp)).trans k4)
        (try replace k9:=(G.block _ (by omega) (by simp)).trans k9)
        have k7:=kk)
     | (refine iV 160 rfl _ (hz1 _) ?_
        simp only[Value.cells];generalize hW1:World.alloc _ _=W1;obtain⟨kk,G,s1⟩:=dH hW1
        (try replace k4:=(G.block _ (by omega) (by simp)).trans k4)
        (try replace k7:=(G.block _ (by omega) (by simp)).trans k7)
        have k9:=kk)
    replace FD:=FD.trans G;refine hK _ _ (HSt.out _ FD) ?_;clear hK K hW1 kk G;intro _;simp only[Act.put,Zp,Zq]
  all_goals
   try
    refine wpAnyH_take (i:=8) (v:=?_) rfl (by kernel_rfl) (by kernel_rfl) (by decide +kernel) (fun _ _ _ h=>h) (.inl ⟨rfl,fun w1 hS1=>?_⟩) (HSt.out _ FD) ?_;rotate_left
    ·obtain⟨p0,p1,p2,p3,p4⟩:=hS1;go_simp;rfl
    simp only[Act.put,Zp,Zq]
   refine rd1 (r:=10) (by kernel_rfl) rfl fun K hK=>?_;refine iU 160 (.tmp 5) (.tmp 14) rfl rfl (Ad _ 0) rfl _ rfl (run_storeVar_row _ _ 160 160 _ _ k9 (by rw[hi1];rfl) rfl (by simp[Value.oneCell'])) ?_;generalize hWR:World.setRow _ _ _=WR;obtain⟨k10,ko,kf⟩:=aSi hWR k9;have FR:=kf _ FD (by omega);refine hK _ _ (HSt.out _ FR) ?_;clear hK K;intro _;refine wpAnyH_done (by kernel_rfl) ?_ _;have HFin:Hid _:=AI (aFm (B:=w.heap.size) k10 ((ko _ (by omega)).trans k4) ((ko _ (by omega)).trans k7) (by omega) (by omega) (by omega) (by omega) (by omega) (by omega)) (HF0.out.1.trans FR);clear s1 hDs hw0 k4 k7 k9 k10 ko kf hWR;go_wp2_with fail;go_meet;exact⟨_,_,_,rfl,HFin.out.2,HFin.out.1⟩
 case rest=>
  obtain⟨fb,kb,qb,rfl,FW,hFl⟩:=hcut;have hzv:=(zero_of_info aCf).1;obtain⟨Z,hZ⟩:=eXi ((fL [] false).toArray);rw[hZ] at hzv;have HX:Hid _:=AI hFl (AI FW hZ);clear hFl FW hZ hW0;obtain⟨W5,hW5⟩:=eXi (wc.alloc (.cells Z 165));have F5:=frA hW5
  have k5:=kA hW5;obtain⟨hFl,FW,hZ⟩:=HX.out;have S5:dA W5 wc.heap.size [] false:=iN (by rw[k5,← hZ]) (by simp) (fun x hx=>by cases hx);have hl1:=hFl.lt;have hl2:=hFl.lk;have hl3:=hFl.lq;have hFl5:=hFl.fr F5 (by simp) (by simp) (by simp) (fun _ _ _=>by simp);have hno:∀ (j:Nat) (s:LN),(List.replicate n (none:Option (LN)))[j]?=some (some s)→(0:Nat)≠wc.heap.size:=fun j s hj=>by
   rw[List.getElem?_replicate] at hj;split at hj <;> cases hj
  have hgo:=mO W5 w.heap.size fb kb qb n aa acap _ _ _ false false _ hFl5 hn wc.heap.size (some []) S5 (by omega) (by omega) (by omega) hno 0 (by omega) (fun x hx=>by cases hx;exact bC.nil);have HGo:Hid _:=fun (_:Unit)=>hgo;have HX2:Hid _:=AI F5 FW;clear hgo hFl5 S5 k5 F5 hFl FW hZ hl1 hl2 hl3 hno HX;go_wp2_with fail;refine (HGo.out ()).mono ?_;rintro e w6 ⟨rfl,R6,-,G1,Q1,m1,wr1,P1,F6,-,hR⟩;obtain⟨hln,hA,hJ,hnf,hpar,hgf,hnf2,hok⟩:=HALL.out;have R56:FrB w.heap.size wc w6:=(FrB.of (S:=[]) HX2.out.1 HX2.out.2.size (by simp)).trans R6;have hLp:LpP (parOf m) l w.heap.size fb kb qb n (.slice aa n acap) (.slice (some (Ad gf off)) nf cap) wc (2*gO G1+1) w6:=by
   refine⟨R56,G1,Q1,m1,wr1,P1,F6,?_⟩;rcases iG hR (by simp) with ⟨rfl,rfl,rfl,rfl,hb⟩ | ⟨rfl,hgk⟩
   ·left;refine⟨rfl,?_⟩;rcases hb with hb | ⟨t,ht,-⟩
    ·have:l=[]:=List.eq_nil_of_length_eq_zero (by omega);rw[this];exact O0 _
    rw[List.getElem?_replicate] at ht;split at ht <;> cases ht
   right;have g:=hgk.all (fun i s hi=>by rw[List.getElem?_replicate] at hi;split at hi <;> cases hi) bC.nil (by simp) (by simp)
   refine⟨rfl,aKu hln g,fun hm1=>?_,by cases m1 <;> simp⟩
   rcases g.same with ⟨-,rfl,-⟩ | ⟨h1,-⟩
   ·intro j hj hq;rw[List.getElem?_replicate] at hq;split at hq <;> cases hq
   rw[hm1] at h1;cases h1
  generalize 2*gO G1+1=gk0 at hLp;have HLp:Hid _:=hLp;have HFc:Hid _:=HX2.out.2;clear hLp hR F6 R6 R56 HGo hln hA hJ hnf hpar hgf hnf2 hok HX2 hW5;go_wp2
  go_loopg [] gk0 (fun gk wr=>LpP (parOf m) l w.heap.size fb kb qb n (.slice aa n acap) (.slice (some (Ad gf off)) nf cap) wc gk wr)
  case atStart=>exact HLp.out
  case round=>
   clear HLp;obtain⟨R,G,Q,more,wrong,P,F,hst⟩:=hrel;have d8:=F.c8;have d9:=F.c9;have z8:=F.zf 8;have hFr:=FrB.to_fr HFc.out (Nat.le_refl _) R;have HFr:Hid _:=hFr;obtain⟨hln,hA,hJ,hnf,hpar,hgf,hnf2,hok⟩:=HALL.out;cases wrong with
   | true=>
    have hno:¬ Flow.Safe (parOf m) l:=by
     rcases hst with ⟨-,h⟩ | ⟨h,-⟩
     ·exact h
     cases h
    have HN:Hid _:=hno;clear hno hst F R hFr hln hA hJ hnf hpar hgf hnf2 hok;cases more with
    | true=>
     go_wp2;go_ret;exact⟨⟨true,rfl,fun _=>HN.out,fun _=>rfl⟩,HFr.out⟩
    | false=>
     go_wp2;go_ret;exact⟨⟨true,rfl,fun _=>HN.out,fun _=>rfl⟩,HFr.out⟩
   | false=>
    obtain⟨hFs,hq,hgk⟩:FSt (parOf m) l G Q∧(more=false→∀ j:Nat,j<n→Q[j]?≠some true)∧2*gO G+more.toNat≤gk:=by
     rcases hst with ⟨h,-⟩ | ⟨-,h⟩
     ·cases h
     exact h
    cases more with
    | false=>
     have hsafe:=aUj hln hFs F.gl F.ql (hq rfl);have HN:Hid _:=hsafe;clear hsafe hst F R hFr hln hA hJ hnf hpar hgf hnf2 hok hFs hq hgk;go_wp2;go_ret;exact⟨⟨false,rfl,fun h=>(by cases h),fun h=>absurd HN.out h⟩,HFr.out⟩
    | true=>
     have h0:0<n:=by
      have:=hFs.z;have h1:=(Lgs.1 this).1;rw[iK,F.gl] at h1;exact h1
     obtain⟨ga,rfl,hga,hI⟩:=hA h0;have F2:=F.setMore false;have R2:=R.trans (gW (W:=wr) (j:=8) (v:=.bool false) F.bf);have hB:∀ k,k<w.heap.size→(wr.setCell ⟨fb,8,none⟩ (.bool false)).heap[k]?=w.heap[k]?:=fun k hk=>(R2.block k hk).trans (HFc.out.block k hk (by simp));have hrn:=aJc _ w.heap.size fb kb qb n ga acap gf off nf cap m l T G Q P F2 hn hln (hI.of_block (hB ga hga)) hga hJ hnf (fun a ha=>⟨by unfold World.cell?;rw[hB gf hgf];exact (hpar a ha).1,(hpar a ha).2⟩) hgf hnf2 hok hFs;have HRn:Hid _:=fun (_:Unit)=>hrn;have HX3:Hid _:=AI R2 hgk;clear hrn R2 hgk hB F2 hI hga hst F R hFr hln hA hJ hnf hpar hgf hnf2 hok hFs hq h0;go_wp2_with fail;refine (HRn.out ()).mono ?_;rintro e w7 ⟨rfl,R7,G2,Q2,m2,wr2,P2,F7,hR7⟩;have hnew:∃ gk',gk'<gk∧LpP (parOf m) l w.heap.size fb kb qb n (.slice (some (Ad ga 0)) n acap) (.slice (some (Ad gf off)) nf cap) wc gk' w7:=by
      have hg:=HX3.out.2;simp only[Bool.toNat_true] at hg;rcases hR7 with ⟨h1,h2⟩ | ⟨h1,h2,h3⟩
      ·exact⟨0,by omega,HX3.out.1.trans R7,G2,Q2,m2,wr2,P2,F7,.inl ⟨h1,h2⟩⟩
      rcases h3 with ⟨h3,rfl,h5⟩ | ⟨h3,h4⟩
      ·exact⟨2*gO G2,by omega,HX3.out.1.trans R7,G2,Q2,m2,wr2,P2,F7,.inr ⟨h1,h2,fun _=>h5,by rw[h3];simp⟩⟩
      exact⟨2*gO G2+1,by omega,HX3.out.1.trans R7,G2,Q2,m2,wr2,P2,F7,.inr ⟨h1,h2,fun h=>(by rw[h3] at h;cases h),(by rw[h3];simp)⟩⟩
     obtain⟨gk',hlt',hnew⟩:=hnew;have HNw:Hid _:=AI hlt' hnew;clear hlt' hnew hR7 F7 R7 HX3 HRn;go_wp2
     go_roundg gk'
     case measure=>exact HNw.out.1
     case rel=>exact HNw.out.2
def aVz (m:Mo) (w:WL) (e:Ending) (w':WL):Prop:=Fr [] w w'∧∃ f p x:Nat,e=.returned (.tuple #[.int .i64 f,.int .i64 p,.int .i64 x])∧uE m f p x∧x≤100
theorem aQl {par:NN}{l:List Stp}{e:Ending} (h:bAe par l e):∃ b,e=.returned (.bool b)∧(b=true↔¬ Flow.Safe par l):=h
theorem aGd (mv:Value)(m:Mo)(w:WL)(hM:gY w mv m)(hMo:zH m)(h3:3≤m.fns.length):Calls prog 29 #[mv] w (aVz m w):=by
 have hM0:=hM;have hrd:=fun (W:WL) (hW:Fr [] w W) (k:Nat) (x:Wire.Fn) (hx:m.fns[k]?=some x)=>p9 mv m W k x (hM.fr hW) hMo hx;obtain⟨tv,pv,fv,rfl,h1,h2,h4⟩:=hM.is;obtain⟨ta,tc,-,-,rfl,-⟩:=h1;obtain⟨pa,pc,-,-,rfl,-⟩:=h2;obtain⟨a0,cap,g,off,rfl,hc,hx0,hxx⟩:=h4;obtain⟨rfl,hgl⟩:=hx0 (by omega);have hn:=hMo.f.n;have hpar:∀ a,a<m.fns.length→w.cell? (Ad g (off+a*3))=some (iA (parOf m a:Nat))∧parOf m a≤8:=fun a ha=>by
  obtain⟨x,hx⟩:∃ x,m.fns[a]?=some x:=⟨_,Lge ha⟩;have hp:=hMo.f.p x (List.mem_of_getElem? hx);have e:parOf m a=x.params.toNat:=by unfold parOf fnOf;rw[List.getD_eq_getElem?_getD,hx];rfl
  refine⟨?_,by rw[e];omega⟩;rw[(hxx a x hx).1,e];congr 2;omega
 have hcg:=fun (W:WL) (hW:Fr [] w W) (n acap:Nat) (aa:OA) (l:List Stp) (T:LN) (hn1:n≤100000) (hln:l.length=n) (hA:0<n→∃ ga,aa=some (Ad ga 0)∧ga<W.heap.size∧mU W ga l T) (hJ:rL l T n) (hok:∀ s ∈ l,zE m s)=>
  aLn W ta pa m.texts.length tc m.pats.length pc m g off m.fns.length cap n acap aa hn1 l T hln hA hJ rfl (fun a ha=>⟨(hW.cell (p:=Ad g (off+a*3)) hgl (by simp)).trans (hpar a ha).1,(hpar a ha).2⟩) (Nll hgl hW.size) hn hok
 obtain⟨W1,hW1⟩:=eXi (w.alloc (.cells #[.slice ta m.texts.length tc,.slice pa m.pats.length pc,iA m.globs,iA m.arrs,.slice (some (Ad g off)) m.fns.length cap] 25));have FA:=frA hW1
 have k1:=kA hW1;have kl:=(Age.1 k1).1;have hcs:∀ W,Fr [] W1 W→(W.cell? (Ad w.heap.size 0)=some (.slice ta m.texts.length tc)∧W.cell? (Ad w.heap.size 1)=some (.slice pa m.pats.length pc)∧W.cell? (Ad w.heap.size 2)=some (iA m.globs)∧W.cell? (Ad w.heap.size 3)=some (iA m.arrs)∧W.cell? (Ad w.heap.size 4)=some (.slice (some (Ad g off)) m.fns.length cap)):=fun W hW=>by
  have e1:∀ j v,(#[.slice ta m.texts.length tc,.slice pa m.pats.length pc,iA m.globs,iA m.arrs,.slice (some (Ad g off)) m.fns.length cap]:Array Value)[j]?=some v→W.cell? (Ad w.heap.size j)=some v:=fun j v hv=>by
   unfold World.cell?;rw[hW.block _ kl (by simp),k1];exact hv
  exact⟨e1 0 _ rfl,e1 1 _ rfl,e1 2 _ rfl,e1 3 _ rfl,e1 4 _ rfl⟩
 obtain⟨-,-,-,-,d4⟩:=hcs W1 (Fr.refl [] W1);have HRd:Hid _:=fun (_:Unit)=>hrd;have HCg:Hid _:=fun (_:Unit)=>hcg;have HCs:Hid _:=hcs;have HFA:Hid _:=FA;have hcode:∀ x ∈ m.fns,x.code.size≤20000:=fun x hx=>(hMo.f.p x hx).2.2.2.2;have HCode:Hid _:=hcode;clear hrd hcg hcs FA k1 kl hcode hM0 hM hMo hpar hxx hx0 h3;generalize hnf:m.fns.length=nf at *;go_enter func29,ntmps29;go_wp2;clear hW1 d4
 go_loopw [12] (fun i wr=>∃ k:Nat,i=iA (k:Nat)∧k≤nf∧Fr [] W1 wr∧Hid (∀ q,q<k→∃ r,j8 m q r 0)) (fun i _=>nf-(intOf i).toNat)
 case atStart=>exact⟨0,rfl,by omega,Fr.refl [] _,fun q hq=>absurd hq (by omega)⟩
 case round=>
  obtain⟨k,rfl,hk,FW,hA⟩:=hrel;obtain⟨d0,d1,d2,d3,d4⟩:=HCs.out wr FW;by_cases hlt:k<nf
  ·have g1:(k:Int)<(nf:Int):=by omega
   obtain⟨x,hx⟩:∃ x,m.fns[k]?=some x:=⟨_,Lge (by rw[hnf];exact hlt)⟩;have hxc:=HCode.out x (List.mem_of_getElem? hx);have hcall:=HRd.out () wr (HFA.out.trans FW) k x hx;have HCall:Hid _:=fun (_:Unit)=>hcall;clear hcall;go_wp2_with fail;refine (HCall.out ()).mono ?_;rintro ee w3 ⟨F3,(⟨j,y,rfl,y0,y20,hj,hbad⟩ | ⟨aa,acap,ga,l,T,rfl,hR,hbj,hlc,hgood⟩)⟩
   ·have q1:((y:Int)==0)=false:=by simp;omega
    have q2:((y:Int)!=0)=true:=by simp;omega
    have hans:j8 m k j y:=by
     refine⟨x,hx,?_⟩;rcases hbad with hbad | ⟨l,h1,h2,rfl⟩
     ·exact .inl hbad
     exact .inr ⟨l,h1,.inl ⟨_,h2,rfl,rfl⟩⟩
    have HAn:Hid _:=hans;clear hans hbad d0 d1 d2 d3 d4 HCall;go_wp2;go_ret3;exact⟨(HFA.out.trans FW).trans F3,k,j,y,rfl,.inr ⟨y0,HAn.out,hA.out⟩,by omega⟩
   have hok:=cF.ok hR;have hle:=cF.le hR (by omega);rw[aO] at hle;obtain⟨n,hn2⟩:=eXi (l.length);have F03:=(HFA.out.trans FW).trans F3;have hcw:=HCg.out () w3 F03 n acap aa l T (by omega) hn2 (fun h0=>by obtain⟨e1,e2,-,e3,-⟩:=hgood (by omega);exact⟨ga,e1,e2,e3⟩) (fun i s hi hs hf=>by
    have hll:i<l.length:=by omega
    obtain⟨-,-,-,-,e5⟩:=hgood (by omega);exact e5 i s hll hs hf) hok
   have HCw:Hid _:=fun (_:Unit)=>hcw;obtain⟨b0,b1,b2,b3,b4⟩:=HCs.out w3 (FW.trans F3);have HX:Hid _:=AI hR (AI hbj (AI hx F03));rw[hn2];clear hcw hR hbj hlc hgood hok hle F03 d0 d1 d2 d3 d4 HCall hx;go_wp2_with fail;refine (HCw.out ()).mono ?_;rintro ee w4 ⟨hcp,F4⟩;obtain⟨b,rfl,hb⟩:=aQl hcp;clear hcp b0 b1 b2 b3 b4 HCw;cases b with
   | true=>
    have hns:¬ Flow.Safe (parOf m) l:=hb.1 rfl;clear hb;go_wp2;go_ret3;exact⟨HX.out.2.2.2.trans F4,k,0,12,rfl,.inr ⟨by omega,⟨x,HX.out.2.2.1,.inr ⟨l,HX.out.1,.inr ⟨HX.out.2.1,rfl,.inr ⟨hns,rfl⟩⟩⟩⟩,hA.out⟩,by omega⟩
   | false=>
    have hsf:Flow.Safe (parOf m) l:=Classical.byContradiction fun h=>by have:=hb.2 h;cases this
    have HSf:Hid _:=hsf;clear hb hsf;go_wp2;refine⟨⟨k+1,by go_num,by omega,(FW.trans F3).trans F4,fun q hq=>?_⟩,?_⟩
    ·by_cases e:q<k
     ·exact hA.out q e
     have e2:q=k:=by omega
     subst e2;exact⟨0,x,HX.out.2.2.1,.inr ⟨l,HX.out.1,.inr ⟨HX.out.2.1,rfl,.inl ⟨HSf.out,rfl⟩⟩⟩⟩
    simp[intOf];omega
  have g1:¬ (k:Int)<(nf:Int):=by omega
  go_wp2;go_ret3;exact⟨HFA.out.trans FW,0,0,0,rfl,.inl ⟨rfl,rfl,rfl,fun q hq=>hA.out q (by omega)⟩,by omega⟩
end Go.Proofs.YtlokkgajpjafmaaGreatDoor
