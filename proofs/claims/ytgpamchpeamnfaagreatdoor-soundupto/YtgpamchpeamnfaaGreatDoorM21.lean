/-
  Texts Jl.
-/
import Derived.Deep.RegionHeld
import Derived.Deep.CutRange
import Derived.Test.YtgpamchpeamnfaaGreatDoorMA
import Derived.Test.YtgpamchpeamnfaaGreatDoorM00
import Derived.Test.YtgpamchpeamnfaaGreatDoorM20
set_option linter.unusedSimpArgs false
set_option linter.unusedVariables false
set_option maxRecDepth 100000
set_option maxHeartbeats 40000000
open _root_.Go.Proofs.Tryz
namespace Go.Proofs.YtgpamchpeamnfaaGreatDoor
open Go.RowKit
open Wire Flow Mach
theorem mY {o:Oper}{a:Act}{w:World}{K:Act→World→Prop}{Q:Exit→Act→World→Prop} (t:TypeId) (ho:o.op=.alloc t) (z:Value) (hz:(zeroValue t).run prog w=.ok z w)
  (h:K (a.put o.dst (.pointer (some ⟨w.heap.size,0,none⟩))) (w.alloc (.cells z.cells t))):o.wp prog a w K Q:=by
 unfold Oper.wp execOp
 simp only[ho,Sem.run_bind,Sem.run_pure,Result.andThen_ok]
 have hr:(Instr.alloc t true (.tuple #[])).run prog w=.ok (.pointer (some ⟨w.heap.size,0,none⟩)) (w.alloc (.cells z.cells t)):=by
  unfold Instr.alloc
  simp[go_sem,hz,Result.andThen]
 rw[hr]
 exact h
theorem mX {o:Oper}{a:Act}{w w':World}{K:Act→World→Prop}{Q:Exit→Act→World→Prop} (t:TypeId) (p x:Operand) (ho:o.op=.store t p x) (hd:o.dst=none) (ad:Addr) (hp:a.eval p=.pointer (some ad)) (v:Value) (hx:a.eval x=v)
  (hrun:(storeVar t ad v).run prog w=.ok () w') (h:K a w'):o.wp prog a w K Q:=by
 unfold Oper.wp execOp
 simp only[ho,Sem.run_bind,Sem.run_pure,Result.andThen_ok,hp,hx,Instr.storeAt,Instr.sureAddr,hrun]
 unfold Oper.upon
 simp only[hd]
 exact h
theorem aLx {ρ:Operand→Value}{o:Oper}{w:World} (t:TypeId) (x:Operand) (ho:o.op=.load t x) (ad:Addr) (hx:ρ x=.pointer (some ad)) (v:Value) (hrun:(loadVar t ad).run prog w=.ok v w):(execOp ρ o).run prog w=.ok (Next.value v) w:=by
 unfold execOp
 simp only[ho,Sem.run_bind,Sem.run_pure,Result.andThen_ok,hx,Instr.loadAt,Instr.sureAddr,hrun]
theorem rE {w:World}{g:Nat}{c c':Array Value}{t:TypeId} (h:w.heap[g]?=some (.cells c t)):(w.setRow g c').heap[g]?=some (.cells c' t):=by
 unfold World.setRow
 simp only[Array.getElem?_modify]
 rw[if_pos trivial,h]
 rfl
theorem mC {w:World}{g k:Nat}{c':Array Value} (h:k≠g):(w.setRow g c').heap[k]?=w.heap[k]?:=by
 unfold World.setRow
 simp only[Array.getElem?_modify]
 rw[if_neg (fun e=>h e.symm)]
theorem rD {w0 w:World}{g:Nat}{c':Array Value} (hf:Fr [] w0 w) (h:w0.heap.size≤g):Fr [] w0 (w.setRow g c'):=
 hf.trans' (S':=[g]) ⟨rfl,rfl,rfl,by unfold World.setRow;simp,fun k _ hn=>mC (by simpa using hn)⟩ (fun x hx=>.inr (by simp at hx;omega))
theorem mL {n i:Nat}{s:List Nat}{G:List (Option (List Nat))}{Q:List Bool}{more wrong:Bool}{G':List (Option (List Nat))}{Q':List Bool}{more' wrong':Bool} (h:GoR n i (some s) G Q more wrong G' Q' more' wrong') (hgl:G.length=n) :
  (wrong'=true∧G'=G∧Q'=Q∧more'=more∧(i=n∨∃ t,G[i]?=some (some t)∧t.length≠s.length))∨(wrong'=wrong∧bDx G Q more i s G' Q' more'):=by
 rcases h with ⟨h1,h2,h3,h4,h5⟩ | ⟨h1,s',h2,h3,h4⟩
 ·left
  refine⟨h1,h2,h3,h4,?_⟩
  rcases h5 with h5 | h5 | ⟨s',t,h5,h6,h7⟩
  ·exact .inl h5
  ·cases h5
  ·cases h5
   exact .inr ⟨t,h6,h7⟩
 ·right
  cases h2
  refine⟨h1,by omega,fun t ht=>?_,?_⟩
  ·rcases h4 with ⟨h4,-⟩ | ⟨t',h4,h5,-⟩
   ·rw[h4] at ht;cases ht
   ·rw[h4] at ht;cases ht;exact h5
  ·rcases h4 with h4 | ⟨t',h4,h5,h6⟩
   ·exact .inl h4
   ·exact .inr ⟨t',h4,h6⟩
theorem aBx {n i:Nat}{o:Option (List Nat)}{G:List (Option (List Nat))}{Q:List Bool}{more:Bool}{G':List (Option (List Nat))}{Q':List Bool}{more' wrong':Bool} (h:GoR n i o G Q more true G' Q' more' wrong'):wrong'=true:=by
 rcases h with ⟨h,-⟩ | ⟨h,-⟩ <;> exact h
theorem aVk {n i:Nat}{G:List (Option (List Nat))}{Q:List Bool}{more wrong:Bool}{G':List (Option (List Nat))}{Q':List Bool}{more' wrong':Bool} (h:GoR n i none G Q more wrong G' Q' more' wrong'):wrong'=true:=by
 rcases h with ⟨h,-⟩ | ⟨-,s,h,-⟩
 ·exact h
 ·cases h
theorem aDq {par:Nat→Nat}{l:List Stp}{G G1:List (Option (List Nat))}{i n:Nat}{st o r:List Nat}{s:Stp} (h:Low par l (abG G)) (h1:Low par l (abG G1)) (hgl:G1.length=n) (hi:G[i]?=some (some st)) (hs:l[i]?=some s)
  (ha:after par s.op s.a (abL st)=some (abL o,abL r)) (hf:cS s.op=false) (hb:i+1=n∨∃ t,G1[i+1]?=some (some t)∧t.length≠o.length):¬ Flow.Safe par l:=by
 refine aDr h h1 (eM hi) hs ha hf ?_
 rcases hb with hb | ⟨t,ht,hne⟩
 ·exact .inl (.inr (by rw[mP,hgl];omega))
 ·exact .inr ⟨i+1,by push_cast;rfl,abL t,eM ht,by rw[cR,cR];exact hne⟩
theorem aLb {par:Nat→Nat}{l:List Stp}{G:List (Option (List Nat))}{i k n:Nat}{st o r:List Nat}{s:Stp} (h:Low par l (abG G)) (hi:G[i]?=some (some st)) (hs:l[i]?=some s)
  (ha:after par s.op s.a (abL st)=some (abL o,abL r)) (hf:far s.op=true) (hk:dY l s.a=some k) (hkn:k<n) (hb:k=n∨∃ t,G[k]?=some (some t)∧t.length≠r.length):¬ Flow.Safe par l:=by
 refine aVt h (eM hi) hs ha hf ?_
 rcases hb with hb | ⟨t,ht,hne⟩
 ·omega
 ·exact .inr ⟨k,by rw[hk];rfl,abL t,eM ht,by rw[cR,cR];exact hne⟩
theorem bFi:(prog.info? 152).map (fun i=>(i.zero,i.size))=some (some (.agg #[.int .u8 0,.int .i64 0,.int .i64 0,.int .i64 0,.int .i64 0]),5):=by kernel_rfl
theorem aUh (W:World)(B fb kb qb n ga acap gf off nf cap:Nat)(m:Mo)(l:List Stp)(T:List Nat)(G:List (Option (List Nat)))(Q:List Bool)(more wrong:Bool)(P:Nat→Nat)
  (h:iN W B fb kb qb n (.slice (some ⟨ga,0,none⟩) n acap) (.slice (some ⟨gf,off,none⟩) nf cap) G Q more wrong P) (hn:n≤100000) (hln:l.length=n) (hI:rV W ga l T) (hga:ga<B) (hJ:vV l T n)
  (hnf:nf=m.fns.length) (hpar:∀ a,a<nf→W.cell? ⟨gf,off+a*3,none⟩=some (.int .i64 (bD m a:Nat))∧bD m a≤8) (hgf:gf<B) (hnf2:nf≤1000) (hok:∀ s ∈ l,uA m s)
  (i:Nat) (hi:i<n) (st:List Nat) (hG:G[i]?=some (some st)) (hF:FSi (bD m) l G Q i) :
  Calls prog 130 #[.pointer (some ⟨fb,0,none⟩),.int .i64 i] W fun e W'=>e=.returned (.tuple #[])∧FrB B W W'∧∃ G' Q' more' wrong' P',iN W' B fb kb qb n (.slice (some ⟨ga,0,none⟩) n acap) (.slice (some ⟨gf,off,none⟩) nf cap) G' Q' more' wrong' P'∧PsR (bD m) l G Q more wrong G' Q' more' wrong':=by
 obtain⟨s,hs⟩:∃ s,l[i]?=some s:=⟨_,Lge (by omega)⟩
 obtain⟨tt,htt⟩:∃ tt,T[i]?=some tt:=⟨_,Lge (by rw[hI.len];omega)⟩
 obtain⟨i0,i1,i2,i3,i4⟩:=hI.cell i s tt hs htt
 obtain⟨kp1,kp2,kp3,kp4,kp5,kp6⟩:=h.kp i st hG
 have hsok:=hok s (List.mem_of_getElem? hs)
 have hB1:B≤W.heap.size:=Nat.le_trans h.bf (Nat.le_of_lt h.lt)
 have hS0:=AI (AI h.c5 h.c6) (AI (AI i0 (AI i1 (AI i2 (AI i3 i4)))) (AI kp1 kp2))
 obtain⟨a,ha⟩:=eX (min s.a 2000000000)
 obtain⟨b,hb⟩:=eX (min s.b 2000000000)
 rw[ha,hb] at hS0
 have HALL:Hid _:=AI h (AI hI (AI hJ (AI hpar (AI hF (AI hG (AI hs (AI htt (AI hsok (AI ha (AI hnf hln))))))))))
 obtain⟨op,hop⟩:=eX (s.op)
 obtain⟨pl,hpl⟩:=eX (s.pl)
 rw[hop,hpl] at hS0
 have HOP:Hid _:=hop
 have hop54:op<54:=by rw[← hop];exact hsok.op
 clear h hI hJ hpar hF hG hs htt hsok ha hb hnf hln i0 i1 i2 i3 i4 kp1 kp2 kp3 kp4 kp5 kp6 hok hop hpl
 generalize P i=pb at hS0
 have hm:prog.follows Departure.mixedOrders=true:=by kernel_rfl
 have gi:(i:Int)<(n:Int):=by omega
 have hSt:∀ w,Fr [] W w→(fun w1:World=>(w1.cell? ⟨fb,5,none⟩=some (.slice (some ⟨ga,0,none⟩) n acap)∧w1.cell? ⟨fb,6,none⟩=some (.slice (some ⟨kb,0,none⟩) n n))∧(w1.cell? ⟨ga,i*5,none⟩=some (.int .u8 (op:Nat))∧w1.cell? ⟨ga,i*5+1,none⟩=some (.int .i64 (pl:Nat))∧w1.cell? ⟨ga,i*5+2,none⟩=some (.int .i64 (a:Nat))∧w1.cell? ⟨ga,i*5+3,none⟩=some (.int .i64 (b:Nat))∧w1.cell? ⟨ga,i*5+4,none⟩=some (.int .i64 (tt:Nat)))∧w1.cell? ⟨kb,i,none⟩=some (.pointer (some ⟨pb,0,none⟩))∧eP w1 pb st false) w:=fun w hW=>by
  obtain⟨⟨p0,p1⟩,⟨p2,p3,p4,p5,p6⟩,p7,p8⟩:=hS0
  have l1:fb<W.heap.size:=aC p0
  have l2:ga<W.heap.size:=aC p2
  have l3:kb<W.heap.size:=aC p7
  exact⟨⟨(hW.cell (p:=⟨fb,5,none⟩) l1 (by simp)).trans p0,(hW.cell (p:=⟨fb,6,none⟩) l1 (by simp)).trans p1⟩,⟨(hW.cell (p:=⟨ga,i*5,none⟩) l2 (by simp)).trans p2,(hW.cell (p:=⟨ga,i*5+1,none⟩) l2 (by simp)).trans p3,(hW.cell (p:=⟨ga,i*5+2,none⟩) l2 (by simp)).trans p4,(hW.cell (p:=⟨ga,i*5+3,none⟩) l2 (by simp)).trans p5,(hW.cell (p:=⟨ga,i*5+4,none⟩) l2 (by simp)).trans p6⟩,(hW.cell (p:=⟨kb,i,none⟩) l3 (by simp)).trans p7,p8.fr hW (by simp)⟩
 have HSt:Hid _:=hSt
 clear hSt hS0
 go_enter func130,ntmps130
 go_upto_region 0 with fail
 go_cut[4,5] from 6 to 21 (fun x y wx=>∃ ob sb:Nat,x=.pointer (some ⟨ob,0,none⟩)∧y=.pointer (some ⟨sb,0,none⟩)∧Fr [] W wx∧W.heap.size≤ob∧W.heap.size≤sb∧ob≠sb∧wx.heap[ob]?=some (.cells #[.int .u8 (op:Nat),.int .i64 (pl:Nat),.int .i64 (a:Nat),.int .i64 (b:Nat),.int .i64 (tt:Nat)] 152)∧eP wx sb st false)
 case first=>
  refine aE (fun w1:World=>(w1.cell? ⟨fb,5,none⟩=some (.slice (some ⟨ga,0,none⟩) n acap)∧w1.cell? ⟨fb,6,none⟩=some (.slice (some ⟨kb,0,none⟩) n n))∧(w1.cell? ⟨ga,i*5,none⟩=some (.int .u8 (op:Nat))∧w1.cell? ⟨ga,i*5+1,none⟩=some (.int .i64 (pl:Nat))∧w1.cell? ⟨ga,i*5+2,none⟩=some (.int .i64 (a:Nat))∧w1.cell? ⟨ga,i*5+3,none⟩=some (.int .i64 (b:Nat))∧w1.cell? ⟨ga,i*5+4,none⟩=some (.int .i64 (tt:Nat)))∧w1.cell? ⟨kb,i,none⟩=some (.pointer (some ⟨pb,0,none⟩))∧eP w1 pb st false) hm ?_
  have hS:(fun w1:World=>(w1.cell? ⟨fb,5,none⟩=some (.slice (some ⟨ga,0,none⟩) n acap)∧w1.cell? ⟨fb,6,none⟩=some (.slice (some ⟨kb,0,none⟩) n n))∧(w1.cell? ⟨ga,i*5,none⟩=some (.int .u8 (op:Nat))∧w1.cell? ⟨ga,i*5+1,none⟩=some (.int .i64 (pl:Nat))∧w1.cell? ⟨ga,i*5+2,none⟩=some (.int .i64 (a:Nat))∧w1.cell? ⟨ga,i*5+3,none⟩=some (.int .i64 (b:Nat))∧w1.cell? ⟨ga,i*5+4,none⟩=some (.int .i64 (tt:Nat)))∧w1.cell? ⟨kb,i,none⟩=some (.pointer (some ⟨pb,0,none⟩))∧eP w1 pb st false) W.drew:=HSt.out W.drew (Fr.refl [] W).drew
  refine aH (fun _ _ _ _ _ h=>h) hS [0,1,2,3,4,5] (by kernel_rfl) ?_
  iterate 6
   refine Yls.cons (v:=?_) rfl (.inl ⟨rfl,fun w1 hS1=>?_⟩) ?_
   rotate_left
   ·obtain⟨⟨p0,p1⟩,⟨p2,p3,p4,p5,p6⟩,p7,p8⟩:=hS1
    go_simp
    first | rfl | (refine (if_neg (by omega)).trans ?_;rfl)
   simp only[Act.put,Z1,Z2,Z3,Z4,Z5,Z6]
  refine Yls.nil ?_
  refine wpAnyH_take (i:=6) (v:=.agg #[.int .u8 (op:Nat),.int .i64 (pl:Nat),.int .i64 (a:Nat),.int .i64 (b:Nat),.int .i64 (tt:Nat)]) rfl (by kernel_rfl) (by kernel_rfl) (by kernel_rfl) (fun _ _ _ h=>h) (.inl ⟨rfl,fun w1 hS1=>?_⟩) hS ?_
  ·obtain⟨⟨p0,p1⟩,⟨p2,p3,p4,p5,p6⟩,p7,p8⟩:=hS1
   go_simp
   (try rfl)
  simp only[Act.put,Z1,Z2,Z3,Z4,Z5,Z6]
  refine aH (fun _ _ _ _ _ h=>h) hS [7,8,9,10,11,12,13,14] (by kernel_rfl) ?_
  iterate 8
   refine Yls.cons (v:=?_) rfl (.inl ⟨rfl,fun w1 hS1=>?_⟩) ?_
   rotate_left
   ·obtain⟨⟨p0,p1⟩,⟨p2,p3,p4,p5,p6⟩,p7,p8⟩:=hS1
    go_simp
    first | rfl | (refine (if_neg (by omega)).trans ?_;rfl)
   simp only[Act.put,Z1,Z2,Z3,Z4,Z5,Z6]
  refine Yls.nil ?_
  refine wpAnyH_take (i:=15) (v:=.agg (iK st false).toArray) rfl (by kernel_rfl) (by kernel_rfl) (by kernel_rfl) (fun _ _ _ h=>h) (.inl ⟨rfl,fun w1 hS1=>?_⟩) hS ?_
  ·obtain⟨⟨p0,p1⟩,⟨p2,p3,p4,p5,p6⟩,p7,p8⟩:=hS1
   exact aLx 165 (.tmp 20) rfl ⟨pb,0,none⟩ rfl _ (aHu w1 pb st false p8)
  simp only[Act.put,Z1,Z2,Z3,Z4,Z5,Z6]
  obtain⟨WD,hWD⟩:=eX (W.drew)
  have FD:Fr [] W WD:=by rw[← hWD];exact (Fr.refl [] W).drew
  rw[hWD]
  rw[hWD] at hS
  have hDs:WD.heap.size=W.heap.size:=by rw[← hWD];rfl
  obtain⟨hz1,hi1⟩:=zero_of_info bFi
  obtain⟨hz2,hi2⟩:=zero_of_info aIl
  refine wpAnyH_ready (rs:=[16,17]) (by kernel_rfl) (by simp) ?_
  refine AllReadyH.cons rfl (fun K hK=>?_) (AllReadyH.cons rfl (fun K hK=>?_) AllReadyH.nil)
  ·refine mY 152 rfl _ (hz1 _) ?_
   simp only[Value.cells]
   obtain⟨W1,hW1⟩:=eX (WD.alloc (.cells #[.int .u8 0,.int .i64 0,.int .i64 0,.int .i64 0,.int .i64 0] 152))
   rw[hW1]
   have k1:=wan WD (.cells #[.int .u8 0,.int .i64 0,.int .i64 0,.int .i64 0,.int .i64 0] 152)
   rw[hW1] at k1
   have F1:Fr [] W W1:=by rw[← hW1];exact FD.alloc _
   have s1:W1.heap.size=WD.heap.size+1:=by rw[← hW1];simp
   refine hK _ _ (HSt.out _ F1) ?_
   clear hK K
   intro _
   simp only[Act.put,Z1,Z2,Z3,Z4,Z5,Z6]
   refine rd1 (r:=17) (by kernel_rfl) rfl fun K hK=>?_
   refine mY 165 rfl _ (hz2 _) ?_
   simp only[Value.cells]
   obtain⟨W2,hW2⟩:=eX (W1.alloc (.cells (iK [] false).toArray 165))
   rw[hW2]
   have k2:=wan W1 (.cells (iK [] false).toArray 165)
   rw[hW2] at k2
   have F12:Fr [] W1 W2:=by rw[← hW2];exact (Fr.refl [] W1).alloc _
   have F2:=F1.trans F12
   replace k1:=(F12.block _ (by omega) (by simp)).trans k1
   refine hK _ _ (HSt.out _ F2) ?_
   clear hK K
   intro _
   simp only[Act.put,Z1,Z2,Z3,Z4,Z5,Z6]
   refine rd1 (r:=18) (by kernel_rfl) rfl fun K hK=>?_
   refine mX 152 (.tmp 4) (.tmp 12) rfl rfl ⟨WD.heap.size,0,none⟩ rfl (.agg #[.int .u8 (op:Nat),.int .i64 (pl:Nat),.int .i64 (a:Nat),.int .i64 (b:Nat),.int .i64 (tt:Nat)]) rfl (run_storeVar_row _ _ 152 152 _ _ k1 (by rw[hi1];rfl) rfl (by simp[Value.oneCell'])) ?_
   obtain⟨W3,hW3⟩:=eX (W2.setRow WD.heap.size #[.int .u8 (op:Nat),.int .i64 (pl:Nat),.int .i64 (a:Nat),.int .i64 (b:Nat),.int .i64 (tt:Nat)])
   rw[hW3]
   have k3:=rE (c':=#[.int .u8 (op:Nat),.int .i64 (pl:Nat),.int .i64 (a:Nat),.int .i64 (b:Nat),.int .i64 (tt:Nat)]) k1
   rw[hW3] at k3
   have k4:=(mC (w:=W2) (g:=WD.heap.size) (c':=#[.int .u8 (op:Nat),.int .i64 (pl:Nat),.int .i64 (a:Nat),.int .i64 (b:Nat),.int .i64 (tt:Nat)]) (show W1.heap.size≠WD.heap.size by omega)).trans k2
   rw[hW3] at k4
   have F3:Fr [] W W3:=by rw[← hW3];exact rD F2 (by omega)
   refine hK _ _ (HSt.out _ F3) ?_
   clear hK K
   intro _
   refine rd1 (r:=19) (by kernel_rfl) rfl fun K hK=>?_
   refine mX 165 (.tmp 5) (.tmp 21) rfl rfl ⟨W1.heap.size,0,none⟩ rfl (.agg (iK st false).toArray) rfl (run_storeVar_row _ _ 165 165 _ _ k4 (by rw[hi2];simp[mT]) (by simp[mT]) (by simp;exact H8 st false)) ?_
   obtain⟨W4,hW4⟩:=eX (W3.setRow W1.heap.size (iK st false).toArray)
   rw[hW4]
   have k5:=rE (c':=(iK st false).toArray) k4
   rw[hW4] at k5
   have k6:=(mC (w:=W3) (g:=W1.heap.size) (c':=(iK st false).toArray) (show WD.heap.size≠W1.heap.size by omega)).trans k3
   rw[hW4] at k6
   have F4:Fr [] W W4:=by rw[← hW4];exact rD F3 (by omega)
   refine hK _ _ (HSt.out _ F4) ?_
   clear hK K
   intro _
   refine wpAnyH_done (by kernel_rfl) ?_ _
   have HZ:Hid _:=AI hDs s1
   clear hDs s1
   go_wp2_with fail
   go_meet
   obtain⟨hDs,s1⟩:=HZ.out
   obtain⟨-,-,-,hSk⟩:=hS
   exact⟨WD.heap.size,W1.heap.size,rfl,rfl,F4,by omega,by omega,by omega,k6,mS k5 hSk.hi hSk.sm⟩
  ·refine mY 165 rfl _ (hz2 _) ?_
   simp only[Value.cells]
   obtain⟨W1,hW1⟩:=eX (WD.alloc (.cells (iK [] false).toArray 165))
   rw[hW1]
   have k1:=wan WD (.cells (iK [] false).toArray 165)
   rw[hW1] at k1
   have F1:Fr [] W W1:=by rw[← hW1];exact FD.alloc _
   have s1:W1.heap.size=WD.heap.size+1:=by rw[← hW1];simp
   refine hK _ _ (HSt.out _ F1) ?_
   clear hK K
   intro _
   simp only[Act.put,Z1,Z2,Z3,Z4,Z5,Z6]
   refine rd1 (r:=16) (by kernel_rfl) rfl fun K hK=>?_
   refine mY 152 rfl _ (hz1 _) ?_
   simp only[Value.cells]
   obtain⟨W2,hW2⟩:=eX (W1.alloc (.cells #[.int .u8 0,.int .i64 0,.int .i64 0,.int .i64 0,.int .i64 0] 152))
   rw[hW2]
   have k2:=wan W1 (.cells #[.int .u8 0,.int .i64 0,.int .i64 0,.int .i64 0,.int .i64 0] 152)
   rw[hW2] at k2
   have F12:Fr [] W1 W2:=by rw[← hW2];exact (Fr.refl [] W1).alloc _
   have F2:=F1.trans F12
   replace k1:=(F12.block _ (by omega) (by simp)).trans k1
   refine hK _ _ (HSt.out _ F2) ?_
   clear hK K
   intro _
   simp only[Act.put,Z1,Z2,Z3,Z4,Z5,Z6]
   refine rd1 (r:=18) (by kernel_rfl) rfl fun K hK=>?_
   refine mX 152 (.tmp 4) (.tmp 12) rfl rfl ⟨W1.heap.size,0,none⟩ rfl (.agg #[.int .u8 (op:Nat),.int .i64 (pl:Nat),.int .i64 (a:Nat),.int .i64 (b:Nat),.int .i64 (tt:Nat)]) rfl (run_storeVar_row _ _ 152 152 _ _ k2 (by rw[hi1];rfl) rfl (by simp[Value.oneCell'])) ?_
   obtain⟨W3,hW3⟩:=eX (W2.setRow W1.heap.size #[.int .u8 (op:Nat),.int .i64 (pl:Nat),.int .i64 (a:Nat),.int .i64 (b:Nat),.int .i64 (tt:Nat)])
   rw[hW3]
   have k3:=rE (c':=#[.int .u8 (op:Nat),.int .i64 (pl:Nat),.int .i64 (a:Nat),.int .i64 (b:Nat),.int .i64 (tt:Nat)]) k2
   rw[hW3] at k3
   have k4:=(mC (w:=W2) (g:=W1.heap.size) (c':=#[.int .u8 (op:Nat),.int .i64 (pl:Nat),.int .i64 (a:Nat),.int .i64 (b:Nat),.int .i64 (tt:Nat)]) (show WD.heap.size≠W1.heap.size by omega)).trans k1
   rw[hW3] at k4
   have F3:Fr [] W W3:=by rw[← hW3];exact rD F2 (by omega)
   refine hK _ _ (HSt.out _ F3) ?_
   clear hK K
   intro _
   refine rd1 (r:=19) (by kernel_rfl) rfl fun K hK=>?_
   refine mX 165 (.tmp 5) (.tmp 21) rfl rfl ⟨WD.heap.size,0,none⟩ rfl (.agg (iK st false).toArray) rfl (run_storeVar_row _ _ 165 165 _ _ k4 (by rw[hi2];simp[mT]) (by simp[mT]) (by simp;exact H8 st false)) ?_
   obtain⟨W4,hW4⟩:=eX (W3.setRow WD.heap.size (iK st false).toArray)
   rw[hW4]
   have k5:=rE (c':=(iK st false).toArray) k4
   rw[hW4] at k5
   have k6:=(mC (w:=W3) (g:=WD.heap.size) (c':=(iK st false).toArray) (show W1.heap.size≠WD.heap.size by omega)).trans k3
   rw[hW4] at k6
   have F4:Fr [] W W4:=by rw[← hW4];exact rD F3 (by omega)
   refine hK _ _ (HSt.out _ F4) ?_
   clear hK K
   intro _
   refine wpAnyH_done (by kernel_rfl) ?_ _
   have HZ:Hid _:=AI hDs s1
   clear hDs s1
   go_wp2_with fail
   go_meet
   obtain⟨hDs,s1⟩:=HZ.out
   obtain⟨-,-,-,hSk⟩:=hS
   exact⟨W1.heap.size,WD.heap.size,rfl,rfl,F4,by omega,by omega,by omega,k6,mS k5 hSk.hi hSk.sm⟩
 case rest=>
  obtain⟨ob,sb,rfl,rfl,F4,h4,h5,h6,k6,S4⟩:=hcut
  obtain⟨hFlo,hI,hJ,hpar,hF,hG,hs,htt,hsok,ha,hnf,hln⟩:=HALL.out
  have hopE:=HOP.out
  have hbst:=hFlo.hb i st hG
  have l1:=hFlo.lt
  have l2:=hFlo.lk
  have l3:=hFlo.lq
  have hPs:∀ j u,G[j]?=some (some u)→P j≠sb:=fun j u hj=>by have:=(hFlo.kp j u hj).2.1.lt;omega
  have hFlo4:=hFlo.fr F4 (by simp) (by simp) (by simp) (fun _ _ _=>by simp)
  have e1:wc.cell? ⟨ob,0,none⟩=some (.int .u8 (op:Nat)):=cof k6 rfl
  have e2:wc.cell? ⟨ob,1,none⟩=some (.int .i64 (pl:Nat)):=cof k6 rfl
  have e3:wc.cell? ⟨ob,2,none⟩=some (.int .i64 (a:Nat)):=cof k6 rfl
  have e4:wc.cell? ⟨ob,3,none⟩=some (.int .i64 (b:Nat)):=cof k6 rfl
  have e5:wc.cell? ⟨ob,4,none⟩=some (.int .i64 (tt:Nat)):=cof k6 rfl
  have a44:op=44→a≤1000:=fun e=>by have:=hsok.pr (by rw[hopE];exact e);omega
  have a50:op=50→a<nf:=fun e=>by have:=hsok.ca (by rw[hopE];exact e);rw[hnf];omega
  have hch:=aMi wc fb sb gf off nf cap (some st) op pl a b tt (bD m) hop54 S4 a44 (fun e=>⟨hFlo4.c4,a50 e,by omega,(F4.cell (p:=⟨gf,off+a*3,none⟩) (by simp only;omega) (by simp)).trans (hpar a (a50 e)).1,(hpar a (a50 e)).2,by omega,by omega⟩)
  unfold A0 at hch
  have HCh:Hid _:=fun (_:Unit)=>hch
  have hcl:∀ x,iA (bD m) op a x=iA (bD m) s.op s.a x:=fun x=>by
   rw[hopE]
   by_cases e:op=44∨op=50
   ·have:a=s.a:=by
     rcases e with e | e
     ·have:=hsok.pr (by rw[hopE];exact e);omega
     ·have h1:=hsok.ca (by rw[hopE];exact e)
      omega
    rw[this]
   ·unfold iA kT
    rw[if_neg (fun h=>e (.inl h)),if_neg (fun h=>e (.inr h)),if_neg (fun h=>e (.inl h)),if_neg (fun h=>e (.inr h))]
  have haf:=aSo (par:=bD m) (op:=s.op) (a:=s.a) (st:=st) (by rw[hopE];exact hop54) hbst
  have HX:Hid _:=AI hFlo4 (AI hcl (AI haf (AI k6 S4)))
  clear hch hcl haf hFlo4 k6 S4 hFlo hI hJ hpar hF hG hs htt hsok ha hnf hln hopE a44 a50 hbst
  go_wp2_with fail
  refine (HCh.out ()).mono ?_
  rintro e w5 ⟨rfl,S5,F5⟩
  obtain⟨hFlo4,hcl,haf,k6,S4⟩:=HX.out
  have hFlo5:=hFlo4.fr F5 (by simp;omega) (by simp;omega) (by simp;omega) (fun j u hj=>by simp;exact hPs j u hj)
  have e1':w5.cell? ⟨ob,0,none⟩=some (.int .u8 (op:Nat)):=(F5.cell (p:=⟨ob,0,none⟩) (aC e1) (by simpa using h6)).trans e1
  have e5':w5.cell? ⟨ob,4,none⟩=some (.int .i64 (tt:Nat)):=(F5.cell (p:=⟨ob,4,none⟩) (aC e5) (by simpa using h6)).trans e5
  have R5:FrB B W w5:=(FrB.of (S:=[]) F4 hB1 (by simp)).trans (FrB.of F5 (Nat.le_trans hB1 F4.size) (by simp;omega))
  -- HERE
  obtain⟨hFlo,hI,hJ,hpar,hF,hG,hs,htt,hsok,ha,hnf,hln⟩:=HALL.out
  have hopE:=HOP.out
  have hbst:=hFlo.hb i st hG
  have hlow:=hF.low
  cases hoc:chB (bD m) op a (some st) with
  | none=>
   rw[hoc] at S5
   obtain⟨st',hst'⟩:=S5
   have c1:=hst'.c1
   have d9:=hFlo5.c9
   have z9:=hFlo5.zf 9
   have hno:¬ Flow.Safe (bD m) l:=by
    refine hlow.stuck (eM hG) hs ?_
    rw[haf,← hcl]
    unfold chB at hoc
    by_cases e:op=17
    ·rw[if_pos e] at hoc
     subst e
     unfold iA kT
     rw[if_neg (by decide),if_neg (by decide)]
     change Option.map _ ((eD [4] st).bind _)=none
     change eD [4] st=none at hoc
     rw[hoc]
     rfl
    ·rw[if_neg e] at hoc
     cases hx:iA (bD m) op a st with
     | none=>rfl
     | some p=>rw[Option.bind_some,hx] at hoc;cases hoc
   have HN:Hid _:=AI hno (AI hFlo5 R5)
   clear hno hFlo5 R5 hst' hFlo4 hcl haf k6 S4 hFlo hI hJ hpar hF hG hs htt hsok ha hnf hln hopE hbst hlow F5 F4 e1 e2 e3 e4 e5 e1' e5' HX HALL HCh HSt
   go_wp2
   refine bodyPost_ret (results_none rfl _ _ _) rfl ?_
   exact⟨rfl,HN.out.2.2.trans (fX HN.out.2.1.bf),G,Q,more,true,P,HN.out.2.1.setWrong true,.inl ⟨rfl,HN.out.1⟩⟩
  | some u=>
   rw[hoc] at S5
   have S5':eP w5 sb u false:=S5
   have c1:=S5'.c1
   have hul:=S5'.hi
   have n1:sb≠fb:=by omega
   have n2:sb≠qb:=by omega
   have n3:sb≠kb:=by omega
   have hB5:=R5.size
   have hgl:=hFlo.gl
   have hql:=hFlo.ql
   by_cases e17:op=17
   ·have htk:eD [4] st=some u:=by
     unfold chB at hoc
     rw[if_pos e17] at hoc
     exact hoc
    have hsop:s.op=17:=by rw[hopE];exact e17
    have hfar:far s.op=true:=by unfold far;rw[hsop];rfl
    have hhl:cS s.op=false:=by unfold cS;rw[hsop];rfl
    obtain⟨t',ht',hk⟩:=hJ i s hi hs hfar
    rw[htt] at ht'
    cases ht'
    have hkl:=uN hk
    have hkn:tt≤n:=by omega
    have bu:bU u:=by rw[tB [4] st u htk];exact hbst.take _
    have hafB:iA (bD m) s.op s.a st=if u.length+2≤1024 then some (u++[4,2],u) else none:=by
     rw[hsop]
     unfold iA
     change ((eD [4] st).bind _)=_
     rw[htk]
     simp only[Option.bind_some,pM,pK,Nat.reduceEqDiff,if_false,Lla]
     rfl
    have hgo:=rP w5 B fb kb qb n (some ⟨ga,0,none⟩) acap _ G Q more wrong P hFlo5 hn sb (some u) S5 n1 n2 n3 hPs tt hkn (fun x hx=>by cases hx;exact bu)
    have HGo:Hid _:=fun (_:Unit)=>hgo
    have q51:((op:Int)==51)=false:=by simp;omega
    have q52:((op:Int)==52)=false:=by simp;omega
    have q53:((op:Int)==53)=false:=by simp;omega
    have q48:((op:Int)==48)=false:=by simp;omega
    have q49:((op:Int)==49)=false:=by simp;omega
    have q17:((op:Int)==17)=true:=by simp;omega
    have HS5:Hid _:=S5'
    have HY:Hid _:=AI hF (AI hG (AI hs (AI haf (AI bu (AI hafB (AI hul (AI hgl (AI hql (AI hFlo.hb (AI R5 (AI hk (AI hkl (AI hfar (AI hhl (AI hln (AI (show s.op<54 by rw[hsop];decide) hbst))))))))))))))))
    clear hgo htk hsop hfar hhl hk hkl bu hafB hgl hql hul e17
    clear hFlo4 hcl haf k6 S4 hFlo hI hJ hpar hF hG hs htt hsok ha hnf hln hopE hbst hlow F5 F4 e1 e2 e3 e4 e5 HX HALL HCh HSt hoc hFlo5 R5 S5 S5'
    go_wp2_with fail
    refine (HGo.out ()).mono ?_
    rintro e w6 ⟨rfl,FB,hsb,G1,Q1,m1,wr1,P1,F1,hP1,hR⟩
    have hst6:cY w6 sb (some u):=HS5.out.of_block hsb
    have hB6:=FB.size
    have hlv:=oN w6 sb (some u) ⟨#[4,2]⟩ hst6 (by decide) (by decide)
    have hkl2:kL ⟨#[4,2]⟩=[4,2]:=by decide
    rw[hkl2,Option.bind_some,uP HY.out.2.2.2.2.2.2.1] at hlv
    have HLv:Hid _:=fun (_:Unit)=>hlv
    have HM1:Hid _:=AI hR (AI FB F1)
    have HP1:Hid _:=hP1
    clear e5' hR FB hst6 hsb hlv HGo hP1
    go_wp2_with fail
    refine (HLv.out ()).mono ?_
    rintro e w7 ⟨rfl,S7,F7⟩
    obtain⟨hF,hG,hs,haf,bu,hafB,hul,hgl,hql,hbG,R5,hk,hkl,hfar,hhl,hln,hs54,hbst⟩:=HY.out
    have hl6:=F1.lt
    have hl7:=F1.lk
    have hl8:=F1.lq
    have F17:=F1.fr F7 (by simp;omega) (by simp;omega) (by simp;omega) (fun j x hj=>by simp;exact HP1.out j x hj)
    have R7:FrB B w6 w7:=FrB.of F7 (by omega) (by simp;omega)
    obtain⟨i1,hi1⟩:=eX (i+1)
    have hI1:(i:Int)+1=(i1:Int):=by omega
    have hi1n:i1≤n:=by omega
    have hl42:([4,2]:List Nat).length=2:=rfl
    rw[hl42] at S7
    by_cases hov:u.length+2≤1024
    ·rw[if_pos hov] at S7 hafB
     obtain⟨bo,br,lo⟩:=r6 hs54 hbst hafB
     have haf2:after (bD m) s.op s.a (abL st)=some (abL (u++[4,2]),abL u):=by rw[haf,hafB];rfl
     have HG2:Hid _:=fun (_:Unit)=>rP w7 B fb kb qb n (some ⟨ga,0,none⟩) acap _ G1 Q1 m1 wr1 P1 F17 hn sb (some (u++[4,2])) S7 n1 n2 n3 HP1.out i1 hi1n (fun x hx=>by cases hx;exact bo)
     have HZ:Hid _:=AI haf2 (AI bo (AI lo (AI hi1 R7)))
     clear haf2 bo br lo hi1 R7 S7 F7 F17 hF hG hs haf hafB hgl hql hbG R5 hk hkl hfar hhl hln hs54 hbst F1 HLv
     go_wp2_with fail
     refine (HG2.out ()).mono ?_
     rintro e w8 ⟨rfl,FB2,hsb2,G2,Q2,m2,wr2,P2,F2,hP2,hR2⟩
     go_wp2
     go_end0
     obtain⟨hF,hG,hs,haf,bu,hafB,hul,hgl,hql,hbG,R5,hk,hkl,hfar,hhl,hln,hs54,hbst⟩:=HY.out
     obtain⟨hR,FB,F1⟩:=HM1.out
     obtain⟨haf2,bo,lo,hi1,R7⟩:=HZ.out
     refine⟨rfl,((R5.trans FB).trans R7).trans FB2,G2,Q2,m2,wr2,P2,F2,?_⟩
     rcases mL hR hgl with ⟨rfl,rfl,rfl,rfl,hb⟩ | ⟨rfl,hgk⟩
     ·exact .inl ⟨aBx hR2,aLb hF.low hG hs haf2 hfar hk (show tt<n by omega) hb⟩
     ·have g1:=hgk.all hbG bu hul (by rw[hql,hgl])
      have hl1:Low (bD m) l (abG G1):=by rw[g1.lay];exact hF.low.farLow (eM hG) hs haf2 hfar hk
      rcases mL hR2 (g1.gl.trans hgl) with ⟨rfl,rfl,rfl,rfl,hb⟩ | ⟨rfl,hgk2⟩
      ·exact .inl ⟨rfl,aDq hF.low hl1 (g1.gl.trans hgl) hG hs haf2 hhl (by rw[hi1];exact hb)⟩
      ·rw[← hi1] at hgk2
       exact aTy hF hG hs haf2 g1 (hgk2.all g1.bits bo lo (by rw[g1.ql,g1.gl,hql,hgl])) hfar hhl hk
    ·rw[if_neg hov] at S7 hafB
     have hno:¬ Flow.Safe (bD m) l:=hF.low.stuck (eM hG) hs (by rw[haf,hafB];rfl)
     have HG2:Hid _:=fun (_:Unit)=>rP w7 B fb kb qb n (some ⟨ga,0,none⟩) acap _ G1 Q1 m1 wr1 P1 F17 hn sb none S7 n1 n2 n3 HP1.out i1 hi1n (fun x hx=>by cases hx)
     have HZ:Hid _:=AI hno R7
     clear hno hi1 R7 S7 F7 F17 hF hG hs haf hafB hgl hql hbG R5 hk hkl hfar hhl hln hs54 hbst F1 HLv
     go_wp2_with fail
     refine (HG2.out ()).mono ?_
     rintro e w8 ⟨rfl,FB2,hsb2,G2,Q2,m2,wr2,P2,F2,hP2,hR2⟩
     go_wp2
     go_end0
     exact⟨rfl,((HY.out.2.2.2.2.2.2.2.2.2.2.1.trans HM1.out.2.1).trans HZ.out.2).trans FB2,G2,Q2,m2,wr2,P2,F2,.inl ⟨aVk hR2,HZ.out.1⟩⟩
   ·have hax:∃ r,iA (bD m) s.op s.a st=some (u,r):=by
     unfold chB at hoc
     rw[if_neg e17,Option.bind_some] at hoc
     rw[← hcl]
     cases hx:iA (bD m) op a st with
     | none=>rw[hx] at hoc;cases hoc
     | some p=>rw[hx] at hoc;cases hoc;exact⟨p.2,rfl⟩
    obtain⟨r,hax⟩:=hax
    obtain⟨bo,br,lo⟩:=r6 (by rw[hopE];exact hop54) hbst hax
    have haf2:after (bD m) s.op s.a (abL st)=some (abL u,abL r):=by rw[haf,hax];rfl
    have hgo:=fun (k:Nat) (hk:k≤n)=>rP w5 B fb kb qb n (some ⟨ga,0,none⟩) acap _ G Q more wrong P hFlo5 hn sb (some u) S5 n1 n2 n3 hPs k hk (fun x hx=>by cases hx;exact bo)
    have HGo:Hid _:=fun (_:Unit)=>hgo
    have q17:((op:Int)==17)=false:=by simp;omega
    have HF5:Hid _:=hFlo5
    have HS5:Hid _:=S5'
    have HY:Hid _:=AI hF (AI hG (AI hs (AI haf2 (AI bo (AI br (AI lo (AI hopE (AI hgl (AI hql (AI hFlo.hb (AI R5 (AI hJ (AI htt (AI hln hax))))))))))))))
    clear hgo haf2 bo br lo hax hgl hql hul S5'
    clear hFlo4 hcl haf k6 S4 hFlo hI hJ hpar hF hG hs htt hsok ha hnf hln hopE hbst hlow F5 F4 e1 e2 e3 e4 e5 HX HALL HCh HSt hoc hFlo5 R5 S5
    by_cases e51:op=51∨op=52∨op=53
    ·rcases e51 with e | e | e
     ·have q51:((op:Int)==51)=true:=by simp;omega
      have HE:Hid _:=e
      clear e e17 e5' HGo
      go_wp2
      go_end0
      obtain⟨hF,hG,hs,haf2,bo,br,lo,hopE,hgl,hql,hbG,R5,hJ,htt,hln,hax⟩:=HY.out
      have hfar:far s.op=false:=by unfold far;rw[hopE,HE.out];rfl
      have hhl:cS s.op=true:=by unfold cS;rw[hopE,HE.out];rfl
      exact⟨rfl,R5,G,Q,more,wrong,P,HF5.out,aDi hF hG hs haf2 hfar hhl⟩
     ·have q51:((op:Int)==51)=false:=by simp;omega
      have q52:((op:Int)==52)=true:=by simp;omega
      have HE:Hid _:=e
      clear e e17 e5' HGo
      go_wp2
      go_end0
      obtain⟨hF,hG,hs,haf2,bo,br,lo,hopE,hgl,hql,hbG,R5,hJ,htt,hln,hax⟩:=HY.out
      have hfar:far s.op=false:=by unfold far;rw[hopE,HE.out];rfl
      have hhl:cS s.op=true:=by unfold cS;rw[hopE,HE.out];rfl
      exact⟨rfl,R5,G,Q,more,wrong,P,HF5.out,aDi hF hG hs haf2 hfar hhl⟩
     ·have q51:((op:Int)==51)=false:=by simp;omega
      have q52:((op:Int)==52)=false:=by simp;omega
      have q53:((op:Int)==53)=true:=by simp;omega
      have HE:Hid _:=e
      clear e e17 e5' HGo
      go_wp2
      go_end0
      obtain⟨hF,hG,hs,haf2,bo,br,lo,hopE,hgl,hql,hbG,R5,hJ,htt,hln,hax⟩:=HY.out
      have hfar:far s.op=false:=by unfold far;rw[hopE,HE.out];rfl
      have hhl:cS s.op=true:=by unfold cS;rw[hopE,HE.out];rfl
      exact⟨rfl,R5,G,Q,more,wrong,P,HF5.out,aDi hF hG hs haf2 hfar hhl⟩
    ·have q51:((op:Int)==51)=false:=by simp;omega
     have q52:((op:Int)==52)=false:=by simp;omega
     have q53:((op:Int)==53)=false:=by simp;omega
     by_cases e48:op=48
     ·have q48:((op:Int)==48)=true:=by simp;omega
      have HE:Hid _:=e48
      obtain⟨hF,hG,hs,haf2,bo,br,lo,hopE,hgl,hql,hbG,R5,hJ,htt,hln,hax⟩:=HY.out
      have hfar:far s.op=true:=by unfold far;rw[hopE,HE.out];rfl
      have hhl:cS s.op=true:=by unfold cS;rw[hopE,HE.out];rfl
      obtain⟨t',ht',hk⟩:=hJ i s hi hs hfar
      rw[htt] at ht'
      cases ht'
      have hkl:=uN hk
      have hru:r=u:=by
       have:=hax
       unfold iA at this
       rw[hopE,HE.out] at this
       change ((eD [] st).bind _)=_ at this
       simp only[eD,Option.bind_some] at this
       split at this
       ·simp only[Option.some.injEq,Prod.mk.injEq] at this
        rw[← this.1,← this.2]
        simp[pM,pK]
       ·cases this
      have hkn:tt≤n:=by omega
      have HK:Hid _:=AI hk (AI hfar (AI hhl (AI hkl hru)))
      clear hF hG hs haf2 bo br lo hopE hgl hql hbG R5 hJ htt hln hax hfar hhl hk hkl hru e48 e17 e51
      go_wp2_with fail
      refine (HGo.out () tt hkn).mono ?_
      rintro e w6 ⟨rfl,FB,hsb,G1,Q1,m1,wr1,P1,F1,hP1,hR⟩
      clear e5'
      go_wp2
      go_end0
      obtain⟨hF,hG,hs,haf2,bo,br,lo,hopE,hgl,hql,hbG,R5,hJ,htt,hln,hax⟩:=HY.out
      obtain⟨hk,hfar,hhl,hkl,hru⟩:=HK.out
      refine⟨rfl,R5.trans FB,G1,Q1,m1,wr1,P1,F1,?_⟩
      rcases mL hR hgl with ⟨rfl,rfl,rfl,rfl,hb⟩ | ⟨rfl,hgk⟩
      ·exact .inl ⟨rfl,aLb hF.low hG hs haf2 hfar hk (show tt<n by omega) (by rw[hru];exact hb)⟩
      ·exact aTz hF hG hs haf2 (hgk.all hbG bo lo (by rw[hql,hgl])) (.inr ⟨hfar,hhl,hk,hru.symm⟩)
     ·have q48:((op:Int)==48)=false:=by simp;omega
      by_cases e49:op=49
      ·have q49:((op:Int)==49)=true:=by simp;omega
       have HE:Hid _:=e49
       obtain⟨hF,hG,hs,haf2,bo,br,lo,hopE,hgl,hql,hbG,R5,hJ,htt,hln,hax⟩:=HY.out
       have hfar:far s.op=true:=by unfold far;rw[hopE,HE.out];rfl
       have hhl:cS s.op=false:=by unfold cS;rw[hopE,HE.out];rfl
       obtain⟨t',ht',hk⟩:=hJ i s hi hs hfar
       rw[htt] at ht'
       cases ht'
       have hkl:=uN hk
       have hru:r=u:=by
        have:=hax
        unfold iA at this
        rw[hopE,HE.out] at this
        change ((eD [1] st).bind _)=_ at this
        cases hx:eD [1] st with
        | none=>rw[hx] at this;cases this
        | some rest=>
         rw[hx] at this
         simp only[Option.bind_some] at this
         split at this
         ·simp only[Option.some.injEq,Prod.mk.injEq] at this
          rw[← this.1,← this.2]
          simp[pM,pK]
         ·cases this
       have hkn:tt≤n:=by omega
       have HK:Hid _:=AI hk (AI hfar (AI hhl (AI hkl hru)))
       clear hF hG hs haf2 bo br lo hopE hgl hql hbG R5 hJ htt hln hax hfar hhl hk hkl hru e49 e48 e17 e51
       go_wp2_with fail
       refine (HGo.out () tt hkn).mono ?_
       rintro e w6 ⟨rfl,FB,hsb,G1,Q1,m1,wr1,P1,F1,hP1,hR⟩
       have hst6:cY w6 sb (some u):=HS5.out.of_block hsb
       have hB6:=FB.size
       obtain⟨i1,hi1⟩:=eX (i+1)
       have hI1:(i:Int)+1=(i1:Int):=by omega
       have hi1n:i1≤n:=by omega
       have HG2:Hid _:=fun (_:Unit)=>rP w6 B fb kb qb n (some ⟨ga,0,none⟩) acap _ G1 Q1 m1 wr1 P1 F1 hn sb (some u) hst6 n1 n2 n3 hP1 i1 hi1n (fun x hx=>by cases hx;exact HY.out.2.2.2.2.1)
       have HM1:Hid _:=AI hR (AI FB (AI F1 hi1))
       clear e5' hi1 hR FB F1 hst6 hsb hP1 HGo
       go_wp2_with fail
       refine (HG2.out ()).mono ?_
       rintro e w7 ⟨rfl,FB2,hsb2,G2,Q2,m2,wr2,P2,F2,hP2,hR2⟩
       go_wp2
       go_end0
       obtain⟨hF,hG,hs,haf2,bo,br,lo,hopE,hgl,hql,hbG,R5,hJ,htt,hln,hax⟩:=HY.out
       obtain⟨hk,hfar,hhl,hkl,hru⟩:=HK.out
       obtain⟨hR,FB,F1,hi1⟩:=HM1.out
       subst hru
       refine⟨rfl,(R5.trans FB).trans FB2,G2,Q2,m2,wr2,P2,F2,?_⟩
       rcases mL hR hgl with ⟨rfl,rfl,rfl,rfl,hb⟩ | ⟨rfl,hgk⟩
       ·exact .inl ⟨aBx hR2,aLb hF.low hG hs haf2 hfar hk (show tt<n by omega) hb⟩
       ·have g1:=hgk.all hbG br lo (by rw[hql,hgl])
        have hl1:Low (bD m) l (abG G1):=by rw[g1.lay];exact hF.low.farLow (eM hG) hs haf2 hfar hk
        rcases mL hR2 (g1.gl.trans hgl) with ⟨rfl,rfl,rfl,rfl,hb⟩ | ⟨rfl,hgk2⟩
        ·exact .inl ⟨rfl,aDq hF.low hl1 (g1.gl.trans hgl) hG hs haf2 hhl (by rw[hi1];exact hb)⟩
        ·rw[← hi1] at hgk2
         exact aTy hF hG hs haf2 g1 (hgk2.all g1.bits bo lo (by rw[g1.ql,g1.gl,hql,hgl])) hfar hhl hk
      ·have q49:((op:Int)==49)=false:=by simp;omega
       have hI1:(i:Int)+1=((i+1:Nat):Int):=by push_cast;rfl
       obtain⟨i1,hi1⟩:=eX (i+1)
       rw[hi1] at hI1
       have HI1:Hid _:=hi1
       have HE:Hid _:=AI e17 (AI e51 (AI e48 e49))
       have hi1n:i1≤n:=by omega
       clear hi1 e17 e51 e48 e49 e5'
       go_wp2_with fail
       refine (HGo.out () i1 hi1n).mono ?_
       rintro e w6 ⟨rfl,FB,hsb,G1,Q1,m1,wr1,P1,F1,hP1,hR⟩
       go_wp2
       go_end0
       obtain⟨hF,hG,hs,haf2,bo,br,lo,hopE,hgl,hql,hbG,R5,hJ,htt,hln,hax⟩:=HY.out
       obtain⟨e17,e51,e48,e49⟩:=HE.out
       have hfar:far s.op=false:=by unfold far;rw[hopE];simp;omega
       have hhl:cS s.op=false:=by unfold cS;rw[hopE];simp;omega
       have hi1:=HI1.out
       refine⟨rfl,R5.trans FB,G1,Q1,m1,wr1,P1,F1,?_⟩
       rcases mL hR hgl with ⟨rfl,rfl,rfl,rfl,hb⟩ | ⟨rfl,hgk⟩
       ·exact .inl ⟨rfl,aDq hF.low hF.low hgl hG hs haf2 hhl (by rw[hi1];exact hb)⟩
       ·exact aTz hF hG hs haf2 (hgk.all hbG bo lo (by rw[hql,hgl])) (.inl ⟨hfar,hhl,hi1.symm,rfl⟩)
end Go.Proofs.YtgpamchpeamnfaaGreatDoor
