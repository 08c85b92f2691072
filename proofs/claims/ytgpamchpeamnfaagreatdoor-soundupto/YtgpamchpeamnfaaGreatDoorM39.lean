/-
  Texts Fe Ki Fg Xb Xc.
-/
import Derived.Test.YtgpamchpeamnfaaGreatDoorMA
import Derived.Test.YtgpamchpeamnfaaGreatDoorM38
import Derived.Test.YtgpamchpeamnfaaGreatDoorM25
import Derived.Test.YtgpamchpeamnfaaGreatDoorM33
import Derived.Test.YtgpamchpeamnfaaGreatDoorM12
import Derived.Test.YtgpamchpeamnfaaGreatDoorM13
import Derived.Test.YtgpamchpeamnfaaGreatDoorM00
set_option linter.unusedSimpArgs false
set_option linter.unusedVariables false
set_option maxRecDepth 100000
set_option maxHeartbeats 40000000
open _root_.Go.Proofs.Tryz
namespace Go.Proofs.YtgpamchpeamnfaaGreatDoor
open Go.RowKit
open Wire Flow Mach
theorem ML.setUs {E:Ev}{ks:List UInt8}{T0:Nat→Nat}{W0 W:World}{bs:List (Nat × Obj)} (h:ML E ks T0 W0 bs W) (s:Nat):(W.cell? ⟨E.X,11,none⟩=some (.int .i64 E.us)∧W.frozen? ⟨E.X,11,none⟩=false)∧ML { E with us:=s } ks T0 W0 bs (W.setCell ⟨E.X,11,none⟩ (.int .i64 s)):=by
 obtain⟨C,st,K,tag,hs,⟨R,sv,h⟩,kp,hb⟩:=h
 have hX:=h.B.x
 have c:=h.S.oc (i:=0) (j:=11) (by rw[hX.2.1];decide)
 have z:=h.S.oz (i:=0) (j:=11) (by rw[hX.2.1];decide)
 have t:=(h.S.objs 0 (by rw[hX.2.1];decide)).2.2.1
 have h0:E.O 0=E.X:=hX.1
 have hu:C 0 11=.int .i64 E.us:=h.B.us
 simp only[h0,hu] at c z t
 exact⟨⟨c,z⟩,ML.of (E:={ E with us:=s }) (C:=upC C 0 11 (.int .i64 s)) (s:=st) (K:=K) ⟨hs.1,fun j hj=>(bJ _ _ (by omega)).trans (hs.2 j hj)⟩ kp hb ⟨tag,⟨R,sv,MS.setUs h s⟩,Kp.set (by rw[t];decide)⟩⟩
theorem yJ {W:World}{B i:Nat}{cs:Array Value}{t:TypeId}{v:Value} (h:W.heap[B]?=some (.cells cs t)):(W.setCell ⟨B,i,none⟩ v).heap[B]?=some (.cells (cs.setIfInBounds i v) t):=by
 have hl:=(Age.1 h).1
 have hgg:=(Age.1 h).2
 unfold World.setCell
 simp[hl,Array.getElem_modify,hgg]
theorem bHo {W:World}{B:Nat}{z0 z1 z2 z3 z4 v0 v1 v2 v3 v4:Value}{t:TypeId} (h:W.heap[B]?=some (.cells #[z0,z1,z2,z3,z4] t)):(((((W.setCell ⟨B,0,none⟩ v0).setCell ⟨B,1,none⟩ v1).setCell ⟨B,2,none⟩ v2).setCell ⟨B,3,none⟩ v3).setCell ⟨B,4,none⟩ v4).heap[B]?=some (.cells #[v0,v1,v2,v3,v4] t):=
 yJ (yJ (yJ (yJ (yJ h))))
theorem bEn (E:Ev)(ks:List UInt8)(tag:Nat→Nat)(W:World)(h:MT E ks tag W)(hst:0≤E.st∧E.st≤9)(A:Amb E.w0 E.m E.sz)(hu:E.us≤4194304)(hF:FI E.m ((E.fs++[E.x]).map fp) (E.kk++[ks])) :
  Calls prog 17 #[ptr E.X] W fun e W'=>e=.returned (.tuple #[])∧GSt E.w0 E.X E.m E.sz E.O (E.us+1) W':=by
 have hm:prog.follows Departure.mixedOrders=true:=by kernel_rfl
 have hkl:=hF.len.1
 simp at hkl
 obtain⟨l,G,hr,hG,hft⟩:=hF.on E.x.f E.x.pl ks (by simp[fp]) (by simp[← hkl])
 obtain⟨s,o,r,hp,hd,hpl,haf,hfar,hnx⟩:=aCa hr hG hft
 have hfl:=(hF.fns E.fs.length E.x.f E.x.pl (by simp[fp])).2
 obtain⟨fn,hfn⟩:∃ fn,E.m.fns[E.x.f]?=some fn:=⟨_,Lge hfl⟩
 have hcd:qY E.m E.x.f=bl fn.code:=by simp[qY,T6,hfn]
 have hlc:lO E.m E.x.f=fn.locs.toNat:=by simp[lO,T6,hfn]
 have hpc:E.x.pl<fn.code.size:=by rw[hcd,aD] at hp;exact hp
 have hF':FI E.m (E.fs.map fp++[(E.x.f,E.x.pl)]) (E.kk++[ks]):=by simpa [fp] using hF
 obtain⟨g,c,g',c',nl,F⟩:=h.fm
 have M0:=ML.start h hst
 obtain⟨tv,pv,fv,e,-,-,h3⟩:=h.md.is
 simp only[Value.agg.injEq,Array.mk.injEq,List.cons.injEq,and_true] at e
 obtain⟨e0,e1,e2,e3,e4⟩:=e
 obtain⟨a0,cap,gf,off,hv,hc,hx0,hxx⟩:=h3
 obtain⟨rfl,hgl⟩:=hx0 (by omega)
 obtain⟨-,-,c2⟩:=hxx E.x.f fn hfn
 have hmod:eR E.w0 (.agg #[tv,pv,.int .i64 E.m.globs,.int .i64 E.m.arrs,fv]) E.m:=by
  have:=h.md
  rw[e0,e1,e2,e3,e4] at this
  exact this
 rw[hv] at e4 hmod
 obtain⟨j,hj⟩:=eX (E.fs.length)
 have HD:Hid (∀ w,Fr [] E.w0 w→Calls prog 37 #[.agg #[tv,pv,.int .i64 E.m.globs,.int .i64 E.m.arrs,.slice (some ⟨gf,off,none⟩) E.m.fns.length cap],.int .i64 E.x.f,.int .i64 E.x.pl] w fun e w'=>Fr [] w w'∧e=.returned (.tuple #[spV s.pl s.nx s.op s.a s.b,.int .i64 0])):=fun w hw=>(j7 _ E.m w E.x.f E.x.pl fn (A.doc.fr hw) (hmod.fr hw) A.mo hfn hpc).mono fun e w' ⟨hf,s',x',he,hres⟩=>by
  have hd:=hd
  rw[hcd,hlc] at hd
  rcases hres with ⟨-,-,hbad⟩ | ⟨rfl,hok⟩
  ·rw[hd] at hbad;cases hbad
  ·rw[hd] at hok;cases hok;exact⟨hf,he⟩
 have HP:Hid (∀ w,ML E ks tag W [] w→(w.cell? ⟨E.X,0,none⟩=some tv∧w.cell? ⟨E.X,1,none⟩=some pv∧w.cell? ⟨E.X,2,none⟩=some (.int .i64 E.m.globs)∧w.cell? ⟨E.X,3,none⟩=some (.int .i64 E.m.arrs)∧w.cell? ⟨E.X,4,none⟩=some (.slice (some ⟨gf,off,none⟩) E.m.fns.length cap)∧w.cell? ⟨E.X,8,none⟩=some (.slice (some ⟨g,0,none⟩) (j+1) c))∧w.cell? ⟨g,j*4,none⟩=some (.int .i64 E.x.f)∧w.cell? ⟨g,j*4+1,none⟩=some (.int .i64 E.x.pl)∧w.cell? ⟨gf,off+E.x.f*3+2,none⟩=some (.string fn.code)):=fun w M=>by
  obtain⟨fw,f8⟩:=M.fm F
  have k:=fun i (hi:i<9)=>M.low (i:=i) hi
  exact⟨⟨(k 0 (by decide)).trans (by rw[e0]),(k 1 (by decide)).trans (by rw[e1]),(k 2 (by decide)).trans (by rw[e2]),(k 3 (by decide)).trans (by rw[e3]),(k 4 (by decide)).trans (by rw[e4]),by rw[← hj];exact f8⟩,by rw[← hj];exact fw.f,by rw[← hj];exact fw.pl.1,(M.fr.cell (p:=⟨gf,off+E.x.f*3+2,none⟩) hgl (by simp)).trans c2⟩
 have hj20:j≤20:=by have:=F.n21;omega
 have hcj:j+1≤c:=by have:=F.le;omega
 have gcode:¬ ((fn.code.size:Int)≤E.x.pl):=by omega
 have gfn:(E.x.f:Int)<E.m.fns.length:=by omega
 have hop54:=pG (cW hp hd).2.2.2.2
 have HC:Hid (∀ (N:Nat) (C:Nat→Nat→Value) (st:Int) (K:Value→Prop) (tg:Nat→Nat) (V:World),dsp s.op=N→MT { (Ev.at_ { E with us:=E.us+1 } s.nx) with C:=C,st:=st,K:=K } ks tg V→(0≤st∧st≤9)→Calls prog N #[ptr E.X,spV s.pl s.nx s.op s.a s.b] V fun e W'=>e=.returned (.tuple #[])∧GSt E.w0 E.X E.m E.sz E.O (E.us+1) W'):=fun N C st K tg V hN hM hs=>by
  subst hN
  exact bHl _ ks o r s E.x.pl tg V hM hs A rfl hF' hp hd haf (fun hh=>⟨l,G,hr,hG,hfar hh⟩) (fun hh=>⟨l,G,hr,hG,hnx hh⟩)
 clear h hF hF' hr hG hft hp hd haf hfar hnx hfn hcd hlc hpc e0 e1 e2 e3 e4 hv hxx c2 hmod hpl A hx0 hfl hkl hst
 generalize E.m.fns.length=mn at *
 go_enter func17,ntmps17
 obtain⟨⟨x0,x1,x2,x3,x4,x8⟩,y0,y1,y2⟩:=HP.out _ M0
 go_wp2
 go_region
 have M1:=M0.frm ((Fr.refl [] W).drew)
 clear x0 x1 x2 x3 x4 x8 y0 y1 y2
 obtain⟨⟨x0,x1,x2,x3,x4,x8⟩,y0,y1,y2⟩:=HP.out _ M1
 generalize W.drew=WA at M1 x0 x1 x2 x3 x4 x8 y0 y1 y2 ⊢
 go_wp2
 go_region
 have M2:=M1.frm ((Fr.refl [] WA).drew)
 clear x0 x1 x2 x3 x4 x8 y0 y1 y2
 obtain⟨⟨x0,x1,x2,x3,x4,x8⟩,y0,y1,y2⟩:=HP.out _ M2
 generalize WA.drew=WB at M2 x0 x1 x2 x3 x4 x8 y0 y1 y2 ⊢
 clear M0 M1
 go_upto_region 3 with fail
 simp only[show decide (fn.code.size≤E.x.pl)=false from decide_eq_false (by omega)]
 go_cut[3,4] from 37 (fun t3 t4 wx=>∃ B,t3=ptr B∧t4=.int .i64 0∧ML E ks tag W [(B,spO s.pl s.nx s.op s.a s.b)] wx)
 case first=>
  obtain⟨WD,hWD⟩:=eX (WB.drew)
  have D:=M2.frm ((Fr.refl [] WB).drew)
  rw[hWD] at D
  clear x0 x1 x2 x3 x4 x8 y0 y1 y2 M2
  have HQ:Hid (∀ w,Fr [] WD w→_):=fun w hw=>HP.out _ (D.frm hw)
  have hS:Fr [] WD WD:=Fr.refl _ _
  go_wp2
  refine wp_region_noPanic ?_
  refine aE (fun w=>Fr [] WD w) hm ?_
  rw[hWD]
  refine aH (fuel:=7) (fun _ _ _ _ _ h=>h) hS [0,1,2,3,4,5,6,7,8,9,10,11] (by kernel_rfl) ?_
  iterate 12
   refine Yls.cons (v:=?_) rfl (.inl ⟨rfl,fun w1 hS1=>?_⟩) ?_
   rotate_left
   ·obtain⟨⟨x0,x1,x2,x3,x4,x8⟩,y0,y1,y2⟩:=HQ.out _ hS1
    go_simp
    first | rfl | (refine (if_neg (by omega)).trans ?_;rfl)
   simp only[Act.put,Z1,Z2,Z3,Z4,Z5,Z6]
  refine Yls.nil ?_
  refine wpAnyH_ready (rs:=[12,16]) (by kernel_rfl) (by simp) ?_
  refine AllReadyH.cons rfl (fun K hK=>?_) (AllReadyH.cons rfl (fun K hK=>?_) AllReadyH.nil)
  rotate_left
  go_simp
  have k0:=wan WD (.cells #[.int .i64 0,.int .i64 0,.int .i64 0,.int .i64 0,.int .i64 0] 84)
  have f0:Fr [] WD (WD.alloc (.cells #[.int .i64 0,.int .i64 0,.int .i64 0,.int .i64 0,.int .i64 0] 84)):=(Fr.refl [] WD).alloc _
  refine hK _ _ f0 ?_
  clear hK K
  intro _
  try simp only[Act.put,Z1,Z2,Z3,Z4,Z5,Z6]
  generalize WD.alloc _=V at k0 f0 ⊢
  refine rd1 (r:=12) (by kernel_rfl) rfl fun K hK=>?_
  go_simp
  refine (HD.out _ (D.frm f0).fr).mono ?_
  rintro e VA ⟨f1,rfl⟩
  have fA:=f0.trans f1
  have k1:=(f1.block _ (Age.1 k0).1 (by simp)).trans k0
  have hB:WD.heap.size≤WD.heap.size:=Nat.le_refl _
  refine hK _ _ fA ?_
  clear hK K
  intro _
  try simp only[Act.put,Z1,Z2,Z3,Z4,Z5,Z6]
  refine aH (fuel:=2) (fun _ _ _ _ _ h=>h) fA [13,14,15] (by kernel_rfl) ?_
  iterate 3
   refine Yls.cons (v:=?_) rfl (.inl ⟨rfl,fun w1 hS1=>?_⟩) ?_
   rotate_left
   ·go_simp
    first | rfl | (refine (if_neg (by omega)).trans ?_;rfl)
   simp only[Act.put,Z1,Z2,Z3,Z4,Z5,Z6]
  refine Yls.nil ?_
  generalize hBe:WD.heap.size=B at k1 ⊢
  rw[hBe] at hB
  have hB:WD.heap.size≤B:=by omega
  clear f0 f1 k0 hBe
  rotate_left
  go_simp
  refine (HD.out _ D.fr).mono ?_
  rintro e V ⟨f1,rfl⟩
  refine hK _ _ f1 ?_
  clear hK K
  intro _
  try simp only[Act.put,Z1,Z2,Z3,Z4,Z5,Z6]
  refine aH (fuel:=3) (fun _ _ _ _ _ h=>h) f1 [13,14,15] (by kernel_rfl) ?_
  iterate 3
   refine Yls.cons (v:=?_) rfl (.inl ⟨rfl,fun w1 hS1=>?_⟩) ?_
   rotate_left
   ·go_simp
    first | rfl | (refine (if_neg (by omega)).trans ?_;rfl)
   simp only[Act.put,Z1,Z2,Z3,Z4,Z5,Z6]
  refine Yls.nil ?_
  refine rd1 (r:=16) (by kernel_rfl) rfl fun K hK=>?_
  go_simp
  refine hK _ _ (f1.alloc _) ?_
  clear hK K
  intro _
  try simp only[Act.put,Z1,Z2,Z3,Z4,Z5,Z6]
  have k1:=wan V (.cells #[.int .i64 0,.int .i64 0,.int .i64 0,.int .i64 0,.int .i64 0] 84)
  have fA:Fr [] WD (V.alloc (.cells #[.int .i64 0,.int .i64 0,.int .i64 0,.int .i64 0,.int .i64 0] 84)):=f1.alloc _
  have hB:WD.heap.size≤V.heap.size:=f1.size
  generalize V.alloc _=VA at k1 fA ⊢
  generalize V.heap.size=B at k1 hB ⊢
  clear f1
  all_goals
   have cb:∀ t,VA.cell? ⟨B,t,none⟩=(#[.int .i64 0,.int .i64 0,.int .i64 0,.int .i64 0,.int .i64 0]:Array Value)[t]?:=fun t=>by unfold World.cell?;rw[k1];rfl
   have zb:∀ t,VA.frozen? ⟨B,t,none⟩=false:=fun t=>by unfold World.frozen?;rw[k1];simp
   have b0:=cb 0
   have b1:=cb 1
   have b2:=cb 2
   have b3:=cb 3
   have b4:=cb 4
   simp at b0 b1 b2 b3 b4
   have y0:=zb 0
   have y1:=zb 1
   have y2:=zb 2
   have y3:=zb 3
   have y4:=zb 4
   have fB:=uK B 0 [.int .i64 s.pl,.int .i64 s.nx,.int .i64 s.op,.int .i64 s.a,.int .i64 s.b] VA
   have fC:=fA.trans' fB (by simp;omega)
   have HZ:Hid _:=D.grab fC hB (bHo k1)
   simp only[oA,Nat.zero_add] at fC HZ
   clear cb zb k1 fB fA
   refine rd1 (r:=17) (by kernel_rfl) rfl fun K hK=>?_
   go_simp
   refine hK _ _ fC ?_
   clear hK K
   intro _
   try simp only[Act.put,Z1,Z2,Z3,Z4,Z5,Z6]
   refine aH (fuel:=0) (fun _ _ _ _ _ h=>h) fC [18] (by kernel_rfl) ?_
   iterate 1
    refine Yls.cons (v:=?_) rfl (.inl ⟨rfl,fun w1 hS1=>?_⟩) ?_
    rotate_left
    ·go_simp
     first | rfl | (refine (if_neg (by omega)).trans ?_;rfl)
    simp only[Act.put,Z1,Z2,Z3,Z4,Z5,Z6]
   refine Yls.nil ?_
   refine wpAnyH_done (by kernel_rfl) ?_ _
   refine NoPanic.normal ?_
   go_wp2_with fail
   go_meet
   exact⟨B,rfl,rfl,HZ.out⟩
 obtain⟨B,rfl,rfl,M⟩:=hcut
 clear M2 x0 x1 x2 x3 x4 x8 y0 y1 y2
 obtain⟨⟨u1,uz⟩,M3⟩:=M.setUs (E.us+1)
 have F1:FmI { E with us:=E.us+1 } g c g' c' nl:=⟨F.fn,F.f8,F.le,F.lv,F.n21⟩
 obtain⟨fw,-⟩:=M3.fm F1
 obtain⟨pc,pz⟩:=fw.pl
 have q1:=M3.cell (List.mem_cons_self ..) 1
 have M4:=M3.setPl F1 s.nx
 have r0:=M4.cell (List.mem_cons_self ..) 0
 have r1:=M4.cell (List.mem_cons_self ..) 1
 have r2:=M4.cell (List.mem_cons_self ..) 2
 have r3:=M4.cell (List.mem_cons_self ..) 3
 have r4:=M4.cell (List.mem_cons_self ..) 4
 simp at q1 r0 r1 r2 r3 r4
 simp only[hj] at pc pz M4 r0 r1 r2 r3 r4
 simp only[Int.natCast_add,Int.natCast_one] at q1 pc pz M4 r0 r1 r2 r3 r4
 obtain⟨C,st,K,tg,hs,hM,kp,hb⟩:=M4
 have HN:Hid _:=fun N (hN:dsp s.op=N)=>HC.out N C st K tg _ hN hM hs.1
 have g0:(E.us:Int)+1≤9223372036854775807:=by omega
 clear hM kp hb hs M M3 F1 fw HC HP HD F
 rcases (show s.op≤6∨(45≤s.op∧s.op≤47)∨(7≤s.op∧s.op≤10)∨(42≤s.op∧s.op≤44)∨(11≤s.op∧s.op≤17)∨(18≤s.op∧s.op≤34)∨(35≤s.op∧s.op≤41)∨48≤s.op by omega) with ho | ho | ho | ho | ho | ho | ho | ho
 all_goals first | (have g6:(s.op:Int)≤6:=by omega) | (have g6:¬ (s.op:Int)≤6:=by omega)
 all_goals first | (have g7:(45:Int)≤s.op:=by omega) | (have g7:¬ (45:Int)≤s.op:=by omega)
 all_goals first | (have g8:(s.op:Int)≤47:=by omega) | (have g8:¬ (s.op:Int)≤47:=by omega)
 all_goals first | (have g9:(s.op:Int)≤10:=by omega) | (have g9:¬ (s.op:Int)≤10:=by omega)
 all_goals first | (have g10:(42:Int)≤s.op:=by omega) | (have g10:¬ (42:Int)≤s.op:=by omega)
 all_goals first | (have g11:(s.op:Int)≤44:=by omega) | (have g11:¬ (s.op:Int)≤44:=by omega)
 all_goals first | (have g12:(s.op:Int)≤17:=by omega) | (have g12:¬ (s.op:Int)≤17:=by omega)
 all_goals first | (have g13:(s.op:Int)≤34:=by omega) | (have g13:¬ (s.op:Int)≤34:=by omega)
 all_goals first | (have g14:(s.op:Int)≤41:=by omega) | (have g14:¬ (s.op:Int)≤41:=by omega)
 all_goals
  go_wp2_with fail
  refine (HN.out _ (by unfold dsp;(repeat' split) <;> omega)).mono ?_
  rintro e W7 ⟨rfl,Z⟩
  have HZ:Hid _:=Z
  clear Z HN
  go_wp2
  go_end0
  exact⟨rfl,HZ.out⟩
theorem bEm {w0 W:World}{X:Nat}{m:Mo}{tag:Nat→Nat}{lv:Nat→Bool}{R:Nat→Rw}{sz O:Nat→Nat}{C:Nat→Nat→Value}{K:Value→Prop}{us:Nat}{L:List FrV}{kk:List (List UInt8)} (h:MS w0 W X m tag lv R sz O C K 0 us L kk) (hF:FI m (L.map fp) kk) (A:Amb w0 m sz) (hu:us≤4194304) :
  Calls prog 17 #[ptr X] W fun e W'=>e=.returned (.tuple #[])∧GSt w0 X m sz O (us+1) W':=by
 rcases List.eq_nil_or_concat L with h1 | ⟨fs,x,h1⟩
 ·subst h1;have:=hF.len.2;simp at this
 rw[List.concat_eq_append] at h1
 rcases List.eq_nil_or_concat kk with h2 | ⟨kkl,ks,h2⟩
 ·subst h1 h2;have:=hF.len.1;simp at this
 rw[List.concat_eq_append] at h2
 subst h1 h2
 exact bEn ⟨w0,X,m,lv,sz,O,C,K,0,us,fs,x,kkl⟩ ks tag W ⟨R,x.sv,h⟩ ⟨Int.le_refl _,by show (0:Int)≤9;decide⟩ A hu hF
theorem goT (w0:World)(X:Nat)(m:Mo)(sz O:Nat→Nat)(W:World)(n:Int)(hG:GSt w0 X m sz O 0 W)(A:Amb w0 m sz)(hn:n≤4194304)(hn0:-9223372036854775808≤n) :
  Calls prog 10 #[ptr X,.int .i64 n] W fun e W'=>e=.returned (.tuple #[])∧∃ us:Nat,GSt w0 X m sz O us W'∧((us:Int)≤n∨n<0):=by
 go_enter func10,ntmps10
 go_wp2
 go_loopw [4] (fun iv wr=>∃ k:Nat,iv=.int .i64 k∧((k:Int)≤n∨(k=0∧n<0))∧GSt w0 X m sz O k wr) (fun iv _=>(n-intOf iv).toNat)
 case atStart=>exact⟨0,rfl,by omega,hG⟩
 case round=>
  clear hG
  obtain⟨k,rfl,hk,hG⟩:=hrel
  obtain⟨tag,lv,R,C,K,st,L,kk,h,hst,hF⟩:=id hG
  have hX:=h.B.x
  have c9:=h.S.oc (i:=0) (j:=9) (by rw[hX.2.1];decide)
  have c12:=h.S.oc (i:=0) (j:=12) (by rw[hX.2.1];decide)
  rw[hX.1,h.B.st] at c9
  rw[hX.1,h.B.sk] at c12
  have HG:Hid _:=hG
  by_cases hlt:(k:Int)<n
  ·by_cases h0:st=0
   ·subst h0
    have hs:=bEm h (hF rfl) A (by omega)
    clear h hF hG A hst hX
    go_wp2_with fail
    refine hs.mono ?_
    rintro e W2 ⟨rfl,G2⟩
    have HZ:Hid _:=G2
    clear G2 hs c9 c12
    go_wp2
    go_roundw
    case rel=>exact⟨k+1,by simp,by omega,HZ.out⟩
    case measure=>simp[intOf] <;> omega
   ·have g0:(st==0)=false:=by simpa using h0
    clear h hF hG A hst hX h0
    go_wp2
    go_end0
    exact⟨rfl,k,HG.out,by omega⟩
  ·clear h hF hG A hst hX
   go_wp2
   go_end0
   exact⟨rfl,k,HG.out,by omega⟩
def mo5:Mo:=⟨[],[],0,0,[⟨0,0,⟨#[0,10,27,44,1,52]⟩⟩,⟨0,0,⟨#[52]⟩⟩,⟨0,0,⟨#[52]⟩⟩]⟩
def fn5:Array Value:=#[.int .i64 0,.int .i64 0,.string ⟨#[0,10,27,44,1,52]⟩,.int .i64 0,.int .i64 0,.string ⟨#[52]⟩,.int .i64 0,.int .i64 0,.string ⟨#[52]⟩]
theorem aUp (W:World)(g:Nat)(h:W.heap[g]?=some (.cells fn5 47)):eR W (.agg #[.slice none 0 0,.slice none 0 0,.int .i64 mo5.globs,.int .i64 mo5.arrs,.slice (some ⟨g,0,none⟩) 3 3]) mo5:=by
 have e:∀ j,W.cell? ⟨g,j,none⟩=fn5[j]?:=fun j=>by unfold World.cell?;rw[h];simp
 refine⟨_,_,_,rfl,⟨none,0,0,0,rfl,Nat.le_refl _,fun h=>absurd h (by decide),fun i x hx=>by cases hx⟩,⟨none,0,0,0,rfl,Nat.le_refl _,fun h=>absurd h (by decide),fun i x hx=>by cases hx⟩,⟨some ⟨g,0,none⟩,3,g,0,rfl,by decide,fun _=>⟨rfl,(Age.1 h).1⟩,fun i x hx=>?_⟩⟩
 match i,hx with
 | 0,hx=>cases hx;exact⟨by rw[e];rfl,by rw[e];rfl,by rw[e];rfl⟩
 | 1,hx=>cases hx;exact⟨by rw[e];rfl,by rw[e];rfl,by rw[e];rfl⟩
 | 2,hx=>cases hx;exact⟨by rw[e];rfl,by rw[e];rfl,by rw[e];rfl⟩
 | i+3,hx=>simp[mo5] at hx
theorem aUo:yP mo5:=by
 refine⟨(by decide),fun s hs=>(by cases hs),(by decide),fun s hs=>(by cases hs),(by decide),fun s hs=>?_⟩
 simp only[mo5,List.mem_cons,List.not_mem_nil,or_false] at hs
 rcases hs with rfl | rfl | rfl <;> decide
theorem aNf (par:Nat→Nat):Sol par [⟨0,1,52,0,0⟩] [some []]:=by
 refine⟨rfl,rfl,fun i hi=>?_⟩
 obtain rfl:i=0:=by simpa using hi
 intro st s h1 h2
 cases h1;cases h2
 exact⟨[],[],rfl,fun h=>absurd h (by decide),fun h=>absurd h (by decide)⟩
theorem aTh (par:Nat→Nat):Sol par [⟨0,2,0,10,0⟩,⟨2,3,27,0,0⟩,⟨3,5,44,1,0⟩,⟨5,6,52,0,0⟩] [some [],some [110],some [116],some []]:=by
 refine⟨rfl,rfl,fun i hi=>?_⟩
 intro st s h1 h2
 match i,hi,h1,h2 with
 | 0,_,h1,h2=>cases h1;cases h2;exact⟨[110],[],rfl,fun h=>absurd h (by decide),fun _=>⟨_,rfl,fW _⟩⟩
 | 1,_,h1,h2=>cases h1;cases h2;exact⟨[116],[],rfl,fun h=>absurd h (by decide),fun _=>⟨_,rfl,fW _⟩⟩
 | 2,_,h1,h2=>cases h1;cases h2;exact⟨[],[],rfl,fun h=>absurd h (by decide),fun _=>⟨_,rfl,fW _⟩⟩
 | 3,_,h1,h2=>cases h1;cases h2;exact⟨[],[],rfl,fun h=>absurd h (by decide),fun h=>absurd h (by decide)⟩
theorem aWo (par:Nat→Nat):sO par mo5 0 0 [0,10,27,44,1,52] 0 0:=
 .inr ⟨[⟨0,2,0,10,0⟩,⟨2,3,27,0,0⟩,⟨3,5,44,1,0⟩,⟨5,6,52,0,0⟩],⟨by decide,rfl,by decide,rfl,by decide,rfl,by decide,rfl,rfl⟩,.inr ⟨rfl,rfl,.inl ⟨⟨_,aTh par⟩,rfl⟩⟩⟩
theorem aOn (par:Nat→Nat)(f:Nat)(hf:f=1∨f=2):sO par mo5 f 0 [52] 0 0:=by
 rcases hf with rfl | rfl
 ·exact .inr ⟨[⟨0,1,52,0,0⟩],⟨by decide,rfl,rfl⟩,.inr ⟨rfl,rfl,.inl ⟨⟨_,aNf par⟩,rfl⟩⟩⟩
 ·exact .inr ⟨[⟨0,1,52,0,0⟩],⟨by decide,rfl,rfl⟩,.inr ⟨rfl,rfl,.inl ⟨⟨_,aNf par⟩,rfl⟩⟩⟩
theorem aZc:cE ipF mo5=true∧(Wire.written mo5).length≤40000:=⟨by decide,by decide⟩
theorem aGz {m:Mo}(h:pA m=0):cE ipF m=true∧(Wire.written m).length≤40000∧bl (jQ m)=Wire.written m∧(jQ m).size≤40000:=by
 unfold pA at h
 split at h
 ·rename_i hc
  have e:jQ m=mkB (Wire.written m):=by unfold jQ;rw[if_pos hc]
  rw[e]
  exact⟨hc.1,hc.2,zK _,by rw[tQ];exact hc.2⟩
 ·cases h
theorem aQi:Y6 mo5 0 0 0:=by
 refine .inl ⟨rfl,rfl,rfl,fun k hk=>⟨0,?_⟩⟩
 match k,hk with
 | 0,_=>exact⟨_,rfl,aWo _⟩
 | 1,_=>exact⟨_,rfl,aOn _ 1 (.inl rfl)⟩
 | 2,_=>exact⟨_,rfl,aOn _ 2 (.inr rfl)⟩
theorem aRh (w:World):Calls prog 4 #[] w fun e w'=>e=.returned (.string (jQ mo5))∧Fr [] w w':=by
 obtain⟨W1,hW1⟩:=eX (w.alloc (.cells #[.int .i64 0,.int .i64 0,.string ⟨#[52]⟩] 47))
 obtain⟨W2,hW2⟩:=eX (W1.alloc (.cells #[.int .i64 0,.int .i64 0,.string ⟨#[0,10,27,44,1,52]⟩,.int .i64 0,.int .i64 0,.string ⟨#[52]⟩,.int .i64 0,.int .i64 0,.string ⟨#[52]⟩] 47))
 obtain⟨W3,hW3⟩:=eX (W2.alloc (.cells #[.slice none 0 0,.slice none 0 0,.int .i64 0,.int .i64 0,.slice (some ⟨W1.heap.size,0,none⟩) 3 3] 25))
 have F1:Fr [] w W1:=by rw[← hW1];exact (Fr.refl [] w).alloc _
 have F2:Fr [] W1 W2:=by rw[← hW2];exact (Fr.refl [] W1).alloc _
 have F3:Fr [] W2 W3:=by rw[← hW3];exact (Fr.refl [] W2).alloc _
 have k1:=wan w (.cells #[.int .i64 0,.int .i64 0,.string ⟨#[52]⟩] 47)
 rw[hW1] at k1
 have k2:=wan W1 (.cells #[.int .i64 0,.int .i64 0,.string ⟨#[0,10,27,44,1,52]⟩,.int .i64 0,.int .i64 0,.string ⟨#[52]⟩,.int .i64 0,.int .i64 0,.string ⟨#[52]⟩] 47)
 rw[hW2] at k2
 have k3:=wan W2 (.cells #[.slice none 0 0,.slice none 0 0,.int .i64 0,.int .i64 0,.slice (some ⟨W1.heap.size,0,none⟩) 3 3] 25)
 rw[hW3] at k3
 have k23:=(F3.block _ (Age.1 k2).1 (by simp)).trans k2
 have hp:=uM _ mo5 W3 (aUp W3 W1.heap.size k23) aUo
 have hp':Calls prog 7 #[.agg #[.slice none 0 0,.slice none 0 0,.int .i64 0,.int .i64 0,.slice (some ⟨W1.heap.size,0,none⟩) 3 3]] W3 fun e w'=>e=.returned (.tuple #[.string (jQ mo5),.int .i64 (pA mo5)])∧Fr [] W3 w':=hp
 generalize jQ mo5=ps at *
 generalize pA mo5=pe at *
 have HP:Hid _:=fun (_:Unit)=>hp'
 have HF:Hid _:=(F1.trans F2).trans F3
 have a0:W1.cell? ⟨w.heap.size,0,none⟩=some (.int .i64 0):=cof k1 rfl
 have a1:W1.cell? ⟨w.heap.size,1,none⟩=some (.int .i64 0):=cof k1 rfl
 have a2:W1.cell? ⟨w.heap.size,2,none⟩=some (.string ⟨#[52]⟩):=cof k1 rfl
 have d0:W3.cell? ⟨W2.heap.size,0,none⟩=some (.slice none 0 0):=cof k3 rfl
 have d1:W3.cell? ⟨W2.heap.size,1,none⟩=some (.slice none 0 0):=cof k3 rfl
 have d2:W3.cell? ⟨W2.heap.size,2,none⟩=some (.int .i64 0):=cof k3 rfl
 have d3:W3.cell? ⟨W2.heap.size,3,none⟩=some (.int .i64 0):=cof k3 rfl
 have d4:W3.cell? ⟨W2.heap.size,4,none⟩=some (.slice (some ⟨W1.heap.size,0,none⟩) 3 3):=cof k3 rfl
 have zz:∀ j,W3.frozen? ⟨W2.heap.size,j,none⟩=false:=fun j=>by unfold World.frozen?;rw[k3];simp
 have zw:∀ j,W1.frozen? ⟨w.heap.size,j,none⟩=false:=fun j=>by unfold World.frozen?;rw[k1];simp
 clear hp hp' F1 F2 F3 k1 k2 k3 k23
 go_enter func4,ntmps4
 go_wp2_with fail
 refine (HP.out ()).mono ?_
 rintro e w4 ⟨rfl,F4⟩
 clear a0 a1 a2 d0 d1 d2 d3 d4 zz zw
 go_wp2
 go_ret
 exact⟨rfl,HF.out.trans F4⟩
open Wire
structure GR (w:World) (r:Nat) (b:ByteArray) (a e:Nat) (l:List UInt8):Prop where
 c:RdC w r b a e 0 0
 le:a≤e∧e≤b.size∧b.size≤40000
 s:seg (bl b) a e=l
section
variable {w w' : World} {r : Nat} {b : ByteArray} {a e : Nat} {l p t : List UInt8}
theorem GR.fr {S:List Nat}(h:GR w r b a e l)(hf:Fr S w w')(hr:r ∉ S):GR w' r b a e l:=⟨h.c.fr hf hr,h.le,h.s⟩
theorem GR.heap (h:GR w r b a e l)(hh:w'.heap=w.heap):GR w' r b a e l:=⟨h.c.of_block (by rw[hh]),h.le,h.s⟩
theorem GR.len (h:GR w r b a e l):l.length=e-a:=by rw[← h.s,bS (by rw[aD];exact h.le.2.1)]
theorem GR.adv {k:Nat}(h:GR w r b a e (p++t))(hk:p.length=k):GR (w.setCell ⟨r,1,none⟩ (.int .i64 ((a:Int)+k))) r b (a+k) e t:=by
 have:=gX h.s h.le.1 (by rw[aD];exact h.le.2.1)
 have hl:=h.len
 have h1:=h.le
 simp at hl
 rw[hk] at this
 exact⟨by have:=h.c.set1 (a+k);rwa [Int.natCast_add] at this,by omega,by rw[← this.2.1];exact this.1⟩
theorem D5 (w:World)(r:Nat)(v:Value):Fr [r] w (w.setCell ⟨r,1,none⟩ v):=(Fr.refl [r] w).setCell (p:=⟨r,1,none⟩) (.inl (by simp)) _
theorem bAg {c:UInt8}{cI nI:Int} (hc:cI=(c.toNat:Int)) (h:GR w r b a e (c :: t)) :
  Calls prog 89 #[.pointer (some ⟨r,0,none⟩),.int .u8 cI,.int .i64 nI] w fun ee w'=>ee=.returned (.tuple #[])∧GR w' r b (a+1) e t∧Fr [r] w w':=by
 subst hc
 have hl:=h.len
 have h1:=h.le
 simp at hl
 have hb:b[a]=c:=by
  have:=h.s
  rw[mU (by omega) h1.2.1] at this
  exact (List.cons.inj this).1
 have K:GR (w.setCell ⟨r,1,none⟩ (.int .i64 ((a:Int)+1))) r b (a+1) e t:=GR.adv (k:=1) (p:=[c]) h rfl
 obtain⟨c0,c1,c2,c3,c4,f1,f2,f3,f4⟩:=h.c
 have hd:((a:Int)==(e:Int))=false:=by simp;omega
 have hd2:((b[a].toNat:Int)!=(c.toNat:Int))=false:=by simp[hb]
 have g1:(a:Int)<b.size:=by omega
 clear h
 go_enter func89,ntmps89
 go_wp2
 go_quiet (fail)
 go_wp2
 go_end0
 exact⟨rfl,K.heap rfl,(D5 _ _ _).drewN _⟩
theorem aNt {n:Nat}(hn:n<34359738368)(h:GR w r b a e (aY n++t)) :
  Calls prog 119 #[.pointer (some ⟨r,0,none⟩)] w fun ee w'=>ee=.returned (.int .i64 n)∧GR w' r b (a+(aY n).length) e t∧Fr [r] w w':=by
 have h1:=h.le
 have hl:=h.len
 have hx:(b.extract a e).size=e-a:=by rw[ByteArray.size_extract];omega
 have hd:num (bl (b.extract a e))=some (n,t):=by rw[bZ,h.s];exact rL hn t
 have hread:=fun (W:World)=>tN (b.extract a e) (by omega) W
 have hV:numV (bl (b.extract a e))=n:=by simp only[numV,hd]
 have hK:vL (bl (b.extract a e))=(aY n).length:=by simp only[vL,hd,aD,hx];simp at hl;omega
 simp only[hV,hK] at hread
 have hdn:0<(aY n).length:=by
  cases hq:aY n with
  | nil=>exact absurd hq (uU _ (by omega))
  | cons a r=>simp
 have hb10:=cQ n
 have K:=h.adv rfl
 obtain⟨c0,c1,c2,c3,c4,f1,f2,f3,f4⟩:=h.c
 have HR:Hid _:=hread
 generalize (aY n).length=k at *
 have g4:((k:Int)==0)=false:=by simp;omega
 have g2:(a:Int)≤e:=by omega
 have g3:(e:Int)≤b.size:=by omega
 clear hread hV hK hd hx h hl
 go_enter func119,ntmps119
 go_wp2
 go_quiet (first | (go_at_call 125;refine Calls.quiet_of_same (HR.out _)))
 go_wp2
 go_ret
 exact⟨rfl,K.heap rfl,(D5 _ _ _).drewN _⟩
theorem aHw {n lo hi:Nat}{loI hiI:Int} (hlo:loI=(lo:Int)) (hhi:hiI=(hi:Int)) (h1:lo≤n) (h2:n≤hi) (h3:hi≤100000) (h:GR w r b a e (aY n++t)) :
  Calls prog 97 #[.pointer (some ⟨r,0,none⟩),.int .i64 loI,.int .i64 hiI] w fun ee w'=>ee=.returned (.int .i64 n)∧GR w' r b (a+(aY n).length) e t∧Fr [r] w w':=by
 subst hlo hhi
 have hnum:=aNt (by omega) h
 have c1:=h.c.c1
 have g1:¬ (n:Int)<lo:=by omega
 have g2:¬ (hi:Int)<n:=by omega
 clear h
 go_enter func97,ntmps97
 go_wp2_with fail
 refine hnum.mono ?_
 rintro ee w1 ⟨rfl,K1,F1⟩
 go_wp2
 go_ret
 exact⟨rfl,K1,F1⟩
theorem U9 {s:ByteArray}{lim:Nat}{lI:Int} (hlim:lI=(lim:Int)) (h1:s.size≤lim) (h2:lim≤20000) (h:GR w r b a e (fP s++t)) :
  Calls prog 120 #[.pointer (some ⟨r,0,none⟩),.int .i64 lI] w fun ee w'=>ee=.returned (.string s)∧GR w' r b (a+(fP s).length) e t∧Fr [r] w w':=by
 subst hlim
 have hm:prog.follows Departure.mixedOrders=true:=by kernel_rfl
 have h':GR w r b a e (aY s.size++(bl s++t)):=by rw[← List.append_assoc];exact h
 have hlm:=aHw (lo:=0) (hi:=lim) rfl rfl (by omega) h1 (by omega) h'
 change Calls prog 97 #[.pointer (some ⟨r,0,none⟩),.int .i64 0,.int .i64 lim] w _ at hlm
 have ht:a+(fP s).length=a+(aY s.size).length+s.size:=by rw[fP,Lla,aD];omega
 rw[ht]
 have hl:=h'.len
 have hle:=h.le
 simp[aD] at hl
 have c1:=h.c.c1
 generalize a+(aY s.size).length=a1 at *
 have hcl:=fun (W:World)=>T8 s W (by omega)
 have HC:Hid _:=hcl
 clear h h' ht hcl
 go_enter func120,ntmps120
 go_wp2_with fail
 refine hlm.mono ?_
 rintro ee w1 ⟨rfl,K1,F1⟩
 have hl1:=K1.len
 simp[aD] at hl1
 have hle1:=K1.le
 have hs:b.extract a1 (a1+s.size)=s:=by
  apply mO
  rw[bZ,← rF (bl b) a1 e s.size (by omega),K1.s,List.take_left' (aD s)]
 obtain⟨d0,d1,d2,d3,d4,f1,f2,f3,f4⟩:=K1.c
 have g1:¬ (e:Int)-(a1:Int)<s.size:=by omega
 have g2:(a1:Int)+s.size≤b.size:=by omega
 clear hlm hl hl1
 go_wp2
 go_quiet (fail)
 go_wp2
 have K2:=(K1.heap (w':=w1.drewN nq) rfl).adv (aD s)
 have F2:=F1.trans (((Fr.refl [r] w1).drewN nq).trans (D5 (w1.drewN nq) r (.int .i64 ((a1:Int)+s.size))))
 have C2:=K2.c
 generalize (w1.drewN nq).setCell ⟨r,1,none⟩ (.int .i64 ((a1:Int)+s.size))=W2 at *
 obtain⟨d0,d1,d2,d3,d4,f1,f2,f3,f4⟩:=C2
 clear K1 F1 hle1
 rw[Int.natCast_add] at d1
 have g3:(0:Int)≤(a1:Int)+s.size-s.size:=by omega
 have g4:(a1:Int)+s.size-s.size=a1:=by omega
 have g5:IntKind.i64.wrap (a1:Int)=a1:=by rw[IntKind.wrap_i64];omega
 have g6:(a1:Int)≤(a1:Int)+s.size:=by omega
 have g7:(0:Int)≤(a1:Int):=by omega
 refine aR 15 hm (by kernel_rfl) ?_
 simp only[List.take_succ_cons,List.take_zero,List.drop_succ_cons,List.drop_zero]
 repeat still_step
 refine wpStill_nil ?_
 go_wp2_with fail
 simp only[hs]
 refine (HC.out _).mono ?_
 rintro ee w3 ⟨rfl,F3⟩
 have F3:Fr [] W2 w3:=⟨F3.os,F3.tape,F3.output,F3.size,F3.block⟩
 clear HC d0 d1 d2 d3 d4 f1 f2 f3 f4 g4 g5
 go_wp2
 go_ret
 exact⟨rfl,K2.fr F3 (by simp),F2.trans (F3.mono (by simp))⟩
theorem bEl {s:ByteArray}(h1:s.size≤100)(h:GR w r b a e (fP s++t)) :
  Calls prog 93 #[.pointer (some ⟨r,0,none⟩)] w fun ee w'=>ee=.returned (.string s)∧GR w' r b (a+(fP s).length) e t∧Fr [r] w w':=by
 have hb:=U9 (lim:=100) rfl h1 (by omega) h
 change Calls prog 120 #[.pointer (some ⟨r,0,none⟩),.int .i64 100] w _ at hb
 clear h
 go_enter func93,ntmps93
 go_wp2_with fail
 refine hb.mono ?_
 rintro ee w1 ⟨rfl,K1,F1⟩
 clear hb
 go_wp2
 go_ret
 exact⟨rfl,K1,F1⟩
theorem aUg {s:ByteArray}(hi:ipF s=true)(hT:Tab w)(hr0:r≠5)(h:GR w r b a e (fP s++t)) :
  Calls prog 95 #[.pointer (some ⟨r,0,none⟩)] w fun ee w'=>ee=.returned (.string s)∧GR w' r b (a+(fP s).length) e t∧Fr [r] w w':=by
 have h1:s.size≤50:=by simp only[ipF,Bool.and_eq_true,decide_eq_true_eq] at hi;exact hi.1
 have hb:=U9 (lim:=50) rfl h1 (by omega) h
 change Calls prog 120 #[.pointer (some ⟨r,0,none⟩),.int .i64 50] w _ at hb
 have HI:Hid _:=fun (W:World) (f:Fr [r] w W)=>qV s W (by unfold maxLen;omega) (hT.fr f (by simpa using fun e=>hr0 e.symm))
 simp only[hi] at HI
 clear h
 go_enter func95,ntmps95
 go_wp2_with fail
 refine hb.mono ?_
 rintro ee w1 ⟨rfl,K1,F1⟩
 clear hb
 go_wp2_with fail
 refine (HI.out w1 F1).mono ?_
 rintro ee w2 ⟨rfl,F2⟩
 go_wp2
 go_ret
 exact⟨rfl,K1.fr F2 (by simp),F1.trans (F2.mono (by simp))⟩
end
def GS (w:World) (r:Nat) (b:ByteArray) (e:Nat) (l:List UInt8):Prop:=∃ a,GR w r b a e l
section
variable {w w' : World} {r : Nat} {b : ByteArray} {e : Nat} {l p t : List UInt8}
theorem GS.fr {S:List Nat}(h:GS w r b e l)(hf:Fr S w w')(hr:r ∉ S):GS w' r b e l:=h.imp fun _ h=>h.fr hf hr
theorem GS.lt (h:GS w r b e l):r<w.heap.size:=by obtain⟨a,h⟩:=h;exact h.c.lt
theorem GS.lim {n lo hi:Nat}{loI hiI:Int} (hlo:loI=(lo:Int)) (hhi:hiI=(hi:Int)) (h1:lo≤n) (h2:n≤hi) (h3:hi≤100000) (h:GS w r b e (aY n++t)) :
  Calls prog 97 #[.pointer (some ⟨r,0,none⟩),.int .i64 loI,.int .i64 hiI] w fun ee w'=>ee=.returned (.int .i64 n)∧GS w' r b e t∧Fr [r] w w':=by
 obtain⟨a,h⟩:=h
 exact (aHw hlo hhi h1 h2 h3 h).mono fun _ _ ⟨h1,h2,h3⟩=>⟨h1,⟨_,h2⟩,h3⟩
theorem GS.bytes {s:ByteArray}{lim:Nat}{lI:Int} (hlim:lI=(lim:Int)) (h1:s.size≤lim) (h2:lim≤20000) (h:GS w r b e (fP s++t)) :
  Calls prog 120 #[.pointer (some ⟨r,0,none⟩),.int .i64 lI] w fun ee w'=>ee=.returned (.string s)∧GS w' r b e t∧Fr [r] w w':=by
 obtain⟨a,h⟩:=h
 exact (U9 hlim h1 h2 h).mono fun _ _ ⟨h1,h2,h3⟩=>⟨h1,⟨_,h2⟩,h3⟩
theorem bAy {L:List ByteArray}(f:Nat)(hf:f=93∨f=95)(hL:L.length≤1000)
  (hone:∀ (W:World) (s:ByteArray) (t:List UInt8),s ∈ L→Fr [r] w W→GS W r b e (fP s++t)→Calls prog f #[.pointer (some ⟨r,0,none⟩)] W fun ee w'=>ee=.returned (.string s)∧GS w' r b e t∧Fr [r] W w') (h:GS w r b e (aZ L++t)) :
  Calls prog 92 #[.pointer (some ⟨r,0,none⟩),.func (.func f) #[.pointer (some ⟨r,0,none⟩)] #[]] w fun ee w'=>∃ v,ee=.returned v∧bW w.heap.size w' v L∧GS w' r b e t∧Fr [r] w w':=by
 obtain⟨i0,hi,hz0,hz1,hz2⟩:=info_parts Q8
 have hrl:=h.lt
 rw[aZ,List.append_assoc] at h
 have hlm:=h.lim (lo:=0) (hi:=1000) rfl rfl (by omega) hL (by omega)
 change Calls prog 97 #[.pointer (some ⟨r,0,none⟩),.int .i64 0,.int .i64 1000] w _ at hlm
 have HO:Hid _:=hone
 clear hone h
 rcases hf with rfl | rfl
 all_goals
  go_enter func92,ntmps92
  go_wp2_with fail
  refine hlm.mono ?_
  rintro ee w1 ⟨rfl,K1,F1⟩
  clear hlm
  go_wp2
  go_loopw [5] (fun u wr=>∃ k:Nat,k≤L.length∧GS wr r b e (cB (L.drop k)++t)∧oG r w (L.take k) u wr) (fun u _=>L.length-uY u)
  case atStart=>exact⟨0,by omega,K1,oG.start F1⟩
  case round=>
   clear K1 F1
   obtain⟨k,hk,K,J⟩:=hrel
   obtain⟨a0,cap,rfl⟩:=J.form
   have htk:(L.take k).length=k:=by rw[List.length_take];omega
   rw[htk] at J ⊢
   have d4:wr.cell? ⟨r,4,none⟩=some (.int .i64 0):=by obtain⟨a,K⟩:=K;exact K.c.c4
   by_cases hlt:k<L.length
   ·have g1:(k:Int)<L.length:=by omega
    rw[List.drop_eq_getElem_cons hlt] at K
    simp only[cB,List.flatMap_cons,List.append_assoc] at K
    have hc:=HO.out wr L[k] _ (List.getElem_mem hlt) J.fr K
    generalize hx:L[k]=x at *
    clear K
    go_wp2_with fail
    refine hc.mono ?_
    rintro ee w2 ⟨rfl,K2,F2⟩
    have J2:=J.kept hrl F2
    have hown:=J2.own
    rw[htk] at hown
    have hsz2:=J2.fr.size
    clear J F2 d4 hc
    go_wp2_with (at_builtin;refine wpList_append_own _ rfl _ _ 22 rfl w.heap.size 9 i0 (.string ⟨#[]⟩) 1 16 underlying22 hi hz0 hz1 hz2 rfl (by decide) _ _ _ rfl (hown.alloc _) ⟨w2.heap.size,0,none⟩ 1 1 [.string x] rfl rfl (cell_one_new _ _ _) (mZ _) (by unfold maxLen;omega) (by omega) (dD _ hsz2) ?_)
    intro v' w3 hown' hgrow _
    have J3:=(J2.kept hrl ((Fr.refl [r] w2).alloc _)).grown (s:=x) (by rw[htk,List.map_take];exact hown') hgrow
    have K3:GS w3 r b e (cB (L.drop (k+1))++t):=by
     obtain⟨a,K2⟩:=K2
     refine⟨a,K2.c.of_block ?_,K2.le,K2.s⟩
     rw[hgrow.block r (by have:=K2.c.lt;simp;omega) (fun e=>by have:=(hown.lt r e.symm).1;omega)]
     exact Below.heap_alloc _ _ _ K2.c.lt
    clear hown hown' hgrow J2 K2
    rw[← hx,List.take_append_getElem hlt] at J3
    obtain⟨b0,cap3,rfl⟩:=J3.form
    rw[List.length_take,Nat.min_eq_left (by omega)] at J3 ⊢
    go_wp2
    refine⟨⟨k+1,by omega,K3,J3⟩,?_⟩
    simp[uY]
    omega
   ·obtain rfl:k=L.length:=by omega
    have g1:¬ (L.length:Int)<L.length:=by omega
    rw[List.drop_length] at K
    rw[List.take_length] at J
    go_wp2
    go_ret
    exact⟨_,rfl,J.far,K,J.fr⟩
theorem aRb (f:Wire.Fn)(i:Nat)(hi:i≤1000)(hf:fI f i=true)(h:GS w r b e (fnB f++t)) :
  Calls prog 122 #[.pointer (some ⟨r,0,none⟩),.int .i64 i] w fun ee w'=>ee=.returned (.agg #[.int .i64 f.params,.int .i64 f.locs,.string f.code])∧GS w' r b e t∧Fr [r] w w':=by
 have hmp:=fun (W:World)=>qS i W
 simp only[fI,Bool.and_eq_true,Bool.or_eq_true,decide_eq_true_eq] at hf
 obtain⟨x1,e1⟩:∃ x:Nat,f.params=x:=⟨f.params.toNat,by omega⟩
 obtain⟨x2,e2⟩:∃ x:Nat,f.locs=x:=⟨f.locs.toNat,by omega⟩
 obtain⟨p,q,o⟩:=f
 simp only at e1 e2 hf
 subst e1 e2
 obtain⟨M,hM,hx1,hM8⟩:∃ M:Nat,(if i<3 then 0 else 8:Int)=(M:Nat)∧x1≤M∧M≤8:=by
  by_cases h3:i<3
  ·exact⟨0,if_pos h3,by omega,by omega⟩
  ·exact⟨8,if_neg h3,by omega,by omega⟩
 rw[hM] at hmp
 simp only[fnB,Int.toNat_natCast,List.append_assoc] at h
 have hrl:=h.lt
 have K0:=h.fr ((Fr.refl [] w).alloc (.cells #[Value.int .i64 0,Value.int .i64 0,Value.string ⟨#[]⟩] 47)) (by simp)
 have hnew:=wan w (.cells #[Value.int .i64 0,Value.int .i64 0,Value.string ⟨#[]⟩] 47)
 have F0:Fr [r] w (w.alloc (.cells #[Value.int .i64 0,Value.int .i64 0,Value.string ⟨#[]⟩] 47)):=(Fr.refl [r] w).alloc _
 have HM:Hid _:=hmp
 clear hmp h hM
 go_enter func122,ntmps122
 go_wp2_with fail
 generalize w.alloc (.cells #[Value.int .i64 0,Value.int .i64 0,Value.string ⟨#[]⟩] 47)=W at *
 have hlt:=(Age.1 hnew).1
 refine (HM.out W).mono ?_
 rintro ee W ⟨rfl,rfl⟩
 go_wp2_with fail
 refine (K0.lim (lo:=0) rfl rfl (by omega) hx1 (by omega)).mono ?_
 rintro ee w1 ⟨rfl,K1,F1⟩
 go_wp2_with fail
 refine (K1.lim (hi:=16) rfl rfl (by omega) (by omega) (by omega)).mono ?_
 rintro ee w2 ⟨rfl,K2,F2⟩
 go_wp2_with fail
 refine (K2.bytes (lim:=20000) rfl (by omega) (by omega)).mono ?_
 rintro ee w3 ⟨rfl,K3,F3⟩
 have FW:=(F1.trans F2).trans F3
 have kept:w3.heap[w.heap.size]?=some (.cells #[Value.int .i64 0,Value.int .i64 0,Value.string ⟨#[]⟩] 47):=by rw[FW.block _ hlt (by simp;omega),hnew]
 have cz:∀ j,w3.cell? ⟨w.heap.size,j,none⟩=(#[Value.int .i64 0,Value.int .i64 0,Value.string ⟨#[]⟩]:Array Value)[j]?:=fun j=>by unfold World.cell?;rw[kept];rfl
 have e0:=cz 0
 have e1:=cz 1
 have e2:=cz 2
 simp at e0 e1 e2
 have e3:∀ i,w3.frozen? ⟨w.heap.size,i,none⟩=false:=fun i=>by unfold World.frozen?;rw[kept];simp
 have FF:=F0.trans FW
 clear HM hnew hlt F0 K0 K1 K2 F1 F2 F3 FW kept cz
 have y2:=aP (v:=.string o) ((aA (i:=1) (v:=.int .i64 x2) (by decide)).trans ((aA (i:=0) (v:=.int .i64 x1) (by decide)).trans e2))
 have y1:=(aA (i:=2) (v:=.string o) (by decide)).trans (aP (v:=.int .i64 x2) ((aA (i:=0) (v:=.int .i64 x1) (by decide)).trans e1))
 have y0:=(aA (i:=2) (v:=.string o) (by decide)).trans ((aA (i:=1) (v:=.int .i64 x2) (by decide)).trans (aP (v:=.int .i64 x1) e0))
 have FZ:=((FF.setCell (p:=⟨w.heap.size,0,none⟩) (.inr (Nat.le_refl _)) (.int .i64 x1)).setCell (p:=⟨w.heap.size,1,none⟩) (.inr (Nat.le_refl _)) (.int .i64 x2)).setCell (p:=⟨w.heap.size,2,none⟩) (.inr (Nat.le_refl _)) (.string o)
 have KZ:=K3.fr (S:=[w.heap.size]) ((((Fr.refl [w.heap.size] w3).setCell (p:=⟨w.heap.size,0,none⟩) (.inl (by simp)) (.int .i64 x1)).setCell (p:=⟨w.heap.size,1,none⟩) (.inl (by simp)) (.int .i64 x2)).setCell (p:=⟨w.heap.size,2,none⟩) (.inl (by simp)) (.string o)) (by simp;omega)
 go_wp2
 generalize (((w3.setCell ⟨w.heap.size,0,none⟩ (.int .i64 x1)).setCell ⟨w.heap.size,1,none⟩ (.int .i64 x2)).setCell ⟨w.heap.size,2,none⟩ (.string o))=Z at *
 refine bodyPost_ret (v:=.agg #[.int .i64 x1,.int .i64 x2,.string o]) (by simp[results,results122,go_sem,y0,y1,y2]) rfl ?_
 exact⟨rfl,KZ,FZ⟩
theorem aBs {L:List Wire.Fn}{i k:Nat} (h:bC L i=true) (hk:k<L.length):fI L[k] (i+k)=true:=by
 induction L generalizing i k with
 | nil=>simp at hk
 | cons x L ih=>
  simp only[bC,Bool.and_eq_true] at h
  cases k with
  | zero=>exact h.1
  | succ k=>have:=ih h.2 (k:=k) (by simpa using hk);rw[show i+(k+1)=i+1+k by omega];exact this
theorem bCp {L:List Wire.Fn}(hL:3≤L.length∧L.length≤1000)(hf:bC L 0=true)(h:GS w r b e (gZ L++t)) :
  Calls prog 100 #[.pointer (some ⟨r,0,none⟩)] w fun ee w'=>∃ v,ee=.returned v∧eN w.heap.size w' v L∧GS w' r b e t∧Fr [r] w w':=by
 obtain⟨i0,hi,hz0,hz1,hz2⟩:=info_parts aOd
 have hrl:=h.lt
 rw[gZ,List.append_assoc] at h
 have hlm:=h.lim (lo:=3) (hi:=1000) rfl rfl hL.1 hL.2 (by omega)
 change Calls prog 97 #[.pointer (some ⟨r,0,none⟩),.int .i64 3,.int .i64 1000] w _ at hlm
 have HF:Hid _:=hf
 clear h hf
 go_enter func100,ntmps100
 go_wp2_with fail
 refine hlm.mono ?_
 rintro ee w1 ⟨rfl,K1,F1⟩
 clear hlm
 go_wp2
 go_loopw [3] (fun u wr=>∃ k:Nat,k≤L.length∧GS wr r b e (gL (L.drop k)++t)∧rU r w (L.take k) u wr) (fun u _=>L.length-uY u)
 case atStart=>exact⟨0,by omega,K1,rU.start F1⟩
 case round=>
  clear K1 F1
  obtain⟨k,hk,K,J⟩:=hrel
  obtain⟨a0,cap,rfl⟩:=J.form
  have htk:(L.take k).length=k:=by rw[List.length_take];omega
  rw[htk] at J ⊢
  have d4:wr.cell? ⟨r,4,none⟩=some (.int .i64 0):=by obtain⟨a,K⟩:=K;exact K.c.c4
  by_cases hlt:k<L.length
  ·have g1:(k:Int)<L.length:=by omega
   rw[List.drop_eq_getElem_cons hlt] at K
   simp only[gL,List.flatMap_cons,List.append_assoc] at K
   have hla:=aBs HF.out hlt
   rw[Nat.zero_add] at hla
   have hc:=aRb L[k] k (by omega) hla K
   generalize hx:L[k]=x at *
   obtain⟨op,ol,oc⟩:=x
   clear K hla
   go_wp2_with fail
   refine hc.mono ?_
   rintro ee w2 ⟨rfl,K2,F2⟩
   have J2:=J.kept hrl F2
   have hown:=J2.own
   rw[htk] at hown
   have hsz2:=J2.fr.size
   obtain⟨ys,hys⟩:=eX ((L.take k).flatMap fnC)
   rw[hys] at hown
   clear J F2 d4 hc
   go_wp2_with (at_builtin;refine wpList_append_own _ rfl _ _ 23 rfl w.heap.size 47 i0 (.agg #[.int .i64 0,.int .i64 0,.string ⟨#[]⟩]) 3 32 underlying23 hi hz0 hz1 hz2 rfl (by decide) _ _ _ rfl (hown.alloc _) ⟨w2.heap.size,0,none⟩ 1 1 [.int .i64 op,.int .i64 ol,.string oc] rfl rfl (yB _ _ _ _) (yA ⟨op,ol,oc⟩) (by unfold maxLen;omega) (by omega) (dD _ hsz2) ?_)
   intro v' w3 hown' hgrow _
   have J3:=(J2.kept hrl ((Fr.refl [r] w2).alloc _)).grown (s:=⟨op,ol,oc⟩) (by rw[htk,hys];exact hown') hgrow
   have K3:GS w3 r b e (gL (L.drop (k+1))++t):=by
    obtain⟨a,K2⟩:=K2
    refine⟨a,K2.c.of_block ?_,K2.le,K2.s⟩
    rw[hgrow.block r (by have:=K2.c.lt;simp;omega) (fun e=>by have:=(hown.lt r e.symm).1;omega)]
    exact Below.heap_alloc _ _ _ K2.c.lt
   clear hown hown' hgrow J2 K2
   rw[← hx,List.take_append_getElem hlt] at J3
   obtain⟨b0,cap3,rfl⟩:=J3.form
   rw[List.length_take,Nat.min_eq_left (by omega)] at J3 ⊢
   go_wp2
   refine⟨⟨k+1,by omega,K3,J3⟩,?_⟩
   simp[uY]
   omega
  ·obtain rfl:k=L.length:=by omega
   have g1:¬ (L.length:Int)<L.length:=by omega
   rw[List.drop_length] at K
   rw[List.take_length] at J
   go_wp2
   go_ret
   exact⟨_,rfl,J.far,K,J.fr⟩
end
end Go.Proofs.YtgpamchpeamnfaaGreatDoor
