/-
  Texts Jb Jc.
-/
import Derived.Deep.RegionHeld
import Derived.Test.YtclkgoigmgkffaaGreatDoorMA
import Derived.Test.YtclkgoigmgkffaaGreatDoorM23
import Derived.Test.YtclkgoigmgkffaaGreatDoorM22
set_option linter.unusedSimpArgs false
set_option linter.unusedVariables false
set_option maxRecDepth 100000
set_option maxHeartbeats 40000000
namespace Go.Proofs.YtclkgoigmgkffaaGreatDoor
open Go.RowKit
open Wire Flow Mach
theorem bnds_two (W:World)(a b c d:Int):BndsIn (W.alloc (.cells #[.int .i64 a,.int .i64 b,.int .i64 c,.int .i64 d] 262)) (.slice (some ⟨W.heap.size,0,none⟩) 2 2) [(a,b),(c,d)]:=by
 have k1:=wan W (.cells #[.int .i64 a,.int .i64 b,.int .i64 c,.int .i64 d] 262)
 refine .inr ⟨_,rfl,by simp,fun i x hi=>?_⟩
 unfold World.cell?
 rw[k1]
 match i,hi with
 | 0,hi=>
  simp at hi
  subst hi
  exact⟨rfl,rfl⟩
 | 1,hi=>
  simp at hi
  subst hi
  exact⟨rfl,rfl⟩
 | i+2,hi=>simp at hi
theorem operands_op38 (tv pv:Value)(m:Mo)(w:World)(f L op:Nat)(fg fo nf cap:Nat)(hf:f<nf)(hn:nf=m.fns.length)(hfg:fg<w.heap.size)(hl:w.cell? ⟨fg,fo+f*3+1,none⟩=some (.int .i64 (L:Nat)))(hL:L≤1000)(hMo:MoOk m)(ho:op=38)
  (ta pa:Option Addr) (tc pc:Nat) (htv:tv=.slice ta m.texts.length tc) (hpv:pv=.slice pa m.pats.length pc) :
  Calls Tryz.prog 177 #[.agg #[tv,pv,.int .i64 m.globs,.int .i64 m.arrs,.slice (some ⟨fg,fo,none⟩) nf cap],.int .i64 f,.int .u8 op] w fun e w'=>∃ v,e=.returned v∧Fr [] w w'∧BndsIn w' v (bnds m L op):=by
 subst htv
 subst hpv
 obtain⟨hg,ha⟩:=AI hMo.g hMo.a
 have ht:=hMo.t
 have hp:=hMo.p
 have hfn:=hMo.f.n
 have g2:(f:Int)<(nf:Int):=by omega
 have hn1000:nf≤1000:=by omega
 obtain⟨W1,hW1⟩:∃ W1,w.alloc (.cells #[.slice ta m.texts.length tc,.slice pa m.pats.length pc,.int .i64 m.globs,.int .i64 m.arrs,.slice (some ⟨fg,fo,none⟩) nf cap] 30)=W1:=⟨_,rfl⟩
 have F1:Fr [] w W1:=by rw[← hW1];exact (Fr.refl [] w).alloc _
 have k1:=wan w (.cells #[.slice ta m.texts.length tc,.slice pa m.pats.length pc,.int .i64 m.globs,.int .i64 m.arrs,.slice (some ⟨fg,fo,none⟩) nf cap] 30)
 rw[hW1] at k1
 have a0:W1.cell? ⟨w.heap.size,0,none⟩=some (.slice ta m.texts.length tc):=by unfold World.cell?;rw[k1];rfl
 have a1:W1.cell? ⟨w.heap.size,1,none⟩=some (.slice pa m.pats.length pc):=by unfold World.cell?;rw[k1];rfl
 have a2:W1.cell? ⟨w.heap.size,2,none⟩=some (.int .i64 m.globs):=by unfold World.cell?;rw[k1];rfl
 have a3:W1.cell? ⟨w.heap.size,3,none⟩=some (.int .i64 m.arrs):=by unfold World.cell?;rw[k1];rfl
 have a4:W1.cell? ⟨w.heap.size,4,none⟩=some (.slice (some ⟨fg,fo,none⟩) nf cap):=by unfold World.cell?;rw[k1];rfl
 have a5:=(F1.cell (p:=⟨fg,fo+f*3+1,none⟩) hfg (by simp)).trans hl
 have HF:Hid _:=F1
 have HB:Hid _:=fun n (h:-5000000≤n∧n≤5000000)=>below_any n W1 h
 clear F1 k1 hl hMo hfn
 subst ho
 have hm:Tryz.prog.follows Departure.mixedOrders=true:=by kernel_rfl
 have hr:bnds m L 38=[(0,m.arrs-1),(0,(m.pats.length:Int)-1)]:=by
  unfold bnds
  rw[if_neg (by decide),if_pos rfl]
 rw[hr]
 have HB1:Hid _:=fun (W:World)=>below_any m.arrs W (by omega)
 have HB2:Hid _:=fun (W:World)=>below_any (m.pats.length:Int) W (by omega)
 have hSt:∀ W,Fr [] W1 W→(fun w1:World=>w1.cell? ⟨w.heap.size,1,none⟩=some (.slice pa m.pats.length pc)∧w1.cell? ⟨w.heap.size,3,none⟩=some (.int .i64 m.arrs)) W:=fun W hW=>by
  have kl:=lt_of_cell a1
  exact⟨(hW.cell (p:=⟨w.heap.size,1,none⟩) kl (by simp)).trans a1,(hW.cell (p:=⟨w.heap.size,3,none⟩) kl (by simp)).trans a3⟩
 have HSt:Hid _:=hSt
 clear hr hn HB hSt
 go_enter Tryz.func177,Tryz.ntmps177
 go_wp2_with fail
 refine wp_region_heldD (fun w1:World=>w1.cell? ⟨w.heap.size,1,none⟩=some (.slice pa m.pats.length pc)∧w1.cell? ⟨w.heap.size,3,none⟩=some (.int .i64 m.arrs)) hm ?_
 have hS:(fun w1:World=>w1.cell? ⟨w.heap.size,1,none⟩=some (.slice pa m.pats.length pc)∧w1.cell? ⟨w.heap.size,3,none⟩=some (.int .i64 m.arrs)) W1.drew:=HSt.out W1 (Fr.refl [] W1)
 refine tkH (i:=0) (v:=?_) rfl (.inl ⟨rfl,fun w1 hS1=>?_⟩) hS ?_
 rotate_left
 ·obtain⟨p0,p1⟩:=hS1
  go_simp
  first | rfl | (refine (if_neg (by omega)).trans ?_;rfl)
 simp only[Act.put,Z1,Z2,Z3,Z4,Z5,Z6]
 refine tkH (i:=1) (v:=?_) rfl (.inl ⟨rfl,fun w1 hS1=>?_⟩) hS ?_
 rotate_left
 ·obtain⟨p0,p1⟩:=hS1
  go_simp
  first | rfl | (refine (if_neg (by omega)).trans ?_;rfl)
 simp only[Act.put,Z1,Z2,Z3,Z4,Z5,Z6]
 refine tkH (i:=3) (v:=?_) rfl (.inl ⟨rfl,fun w1 hS1=>?_⟩) hS ?_
 rotate_left
 ·obtain⟨p0,p1⟩:=hS1
  go_simp
  first | rfl | (refine (if_neg (by omega)).trans ?_;rfl)
 simp only[Act.put,Z1,Z2,Z3,Z4,Z5,Z6]
 refine tkH (i:=4) (v:=?_) rfl (.inl ⟨rfl,fun w1 hS1=>?_⟩) hS ?_
 rotate_left
 ·obtain⟨p0,p1⟩:=hS1
  go_simp
  first | rfl | (refine (if_neg (by omega)).trans ?_;rfl)
 simp only[Act.put,Z1,Z2,Z3,Z4,Z5,Z6]
 refine tkH (i:=5) (v:=?_) rfl (.inl ⟨rfl,fun w1 hS1=>?_⟩) hS ?_
 rotate_left
 ·obtain⟨p0,p1⟩:=hS1
  go_simp
  first | rfl | (refine (if_neg (by omega)).trans ?_;rfl)
 simp only[Act.put,Z1,Z2,Z3,Z4,Z5,Z6]
 refine rdH (r:=2) ?_
 refine AllReadyH.cons rfl (fun K hK=>?_) AllReadyH.nil
 go_simp
 refine (HB1.out _).mono ?_
 rintro e W2 ⟨rfl,F2'⟩
 have F2:Fr [] W1 W2:=(Fr.refl [] W1).drew.trans F2'
 refine hK _ _ (HSt.out W2 F2) ?_
 clear hK K
 intro _
 refine rdH (r:=6) ?_
 refine AllReadyH.cons rfl (fun K hK=>?_) AllReadyH.nil
 go_simp
 refine (HB2.out _).mono ?_
 rintro e W3 ⟨rfl,F3'⟩
 have F3:Fr [] W1 W3:=F2.trans F3'
 refine hK _ _ (HSt.out W3 F3) ?_
 clear hK K
 intro _
 refine rdH (r:=7) ?_
 refine AllReadyH.cons rfl (fun K hK=>?_) AllReadyH.nil
 go_simp
 refine hK _ _ (HSt.out _ (F3.alloc _)) ?_
 clear hK K
 intro _
 refine rdH (r:=8) ?_
 refine AllReadyH.cons rfl (fun K hK=>?_) AllReadyH.nil
 go_simp
 refine hK _ _ (HSt.out _ (F3.alloc _)) ?_
 clear hK K
 intro _
 refine wpAnyH_done (by kernel_rfl) ?_ _
 go_wp2
 go_ret
 exact⟨_,rfl,(HF.out.trans F3).trans ((Fr.refl [] W3).alloc _),bnds_two _ _ _ _ _⟩
theorem sorts_ops:∀ op,op<54→sortsT.getD op 0≠0→op ∈ [0,1,3,4,5,6,11,12,13,14,15,16,17,35,36,37,38,44,48,49,50]:=by decide
theorem operands_any (mv:Value)(m:Mo)(w:World)(f op:Nat)(x:Wire.Fn)(hM:ModIn w mv m)(hMo:MoOk m)(hx:m.fns[f]?=some x)(ho:op<54) :
  Calls Tryz.prog 177 #[mv,.int .i64 f,.int .u8 op] w fun e w'=>∃ v,e=.returned v∧Fr [] w w'∧BndsIn w' v (bnds m x.locs.toNat op):=by
 obtain⟨tv,pv,fv,rfl,h1,h2,h3⟩:=hM.is
 obtain⟨ta,tc,-,-,ht,-⟩:=h1
 obtain⟨pa,pc,-,-,hp,-⟩:=h2
 obtain⟨a0,cap,g,off,rfl,hc,hx0,hxx⟩:=h3
 have hf:=(Lgs.1 hx).1
 obtain⟨c0,c1,c2⟩:=hxx f x hx
 have hpp:=hMo.f.p x (List.mem_of_getElem? hx)
 obtain⟨rfl,hgl⟩:=hx0 (by omega)
 have c1':w.cell? ⟨g,off+f*3+1,none⟩=some (.int .i64 (x.locs.toNat:Nat)):=by rw[c1];congr 2;omega
 have hL:x.locs.toNat≤1000:=by omega
 by_cases hz:sortsT.getD op 0=0
 ·exact operands_none tv pv m w f _ op g off _ cap hf rfl hgl c1' hL hMo ho hz ta pa tc pc ht hp
 ·have hm:=sorts_ops op ho hz
  simp only[List.mem_cons,List.not_mem_nil,or_false] at hm
  rcases hm with e | e | e | e | e | e | e | e | e | e | e | e | e | e | e | e | e | e | e | e | e
  ·exact operands_op0 tv pv m w f _ op g off _ cap hf rfl hgl c1' hL hMo e ta pa tc pc ht hp
  ·exact operands_op1 tv pv m w f _ op g off _ cap hf rfl hgl c1' hL hMo e ta pa tc pc ht hp
  ·exact operands_op3 tv pv m w f _ op g off _ cap hf rfl hgl c1' hL hMo e ta pa tc pc ht hp
  ·exact operands_op4 tv pv m w f _ op g off _ cap hf rfl hgl c1' hL hMo e ta pa tc pc ht hp
  ·exact operands_op5 tv pv m w f _ op g off _ cap hf rfl hgl c1' hL hMo e ta pa tc pc ht hp
  ·exact operands_op6 tv pv m w f _ op g off _ cap hf rfl hgl c1' hL hMo e ta pa tc pc ht hp
  ·exact operands_op11 tv pv m w f _ op g off _ cap hf rfl hgl c1' hL hMo e ta pa tc pc ht hp
  ·exact operands_op12 tv pv m w f _ op g off _ cap hf rfl hgl c1' hL hMo e ta pa tc pc ht hp
  ·exact operands_op13 tv pv m w f _ op g off _ cap hf rfl hgl c1' hL hMo e ta pa tc pc ht hp
  ·exact operands_op14 tv pv m w f _ op g off _ cap hf rfl hgl c1' hL hMo e ta pa tc pc ht hp
  ·exact operands_op15 tv pv m w f _ op g off _ cap hf rfl hgl c1' hL hMo e ta pa tc pc ht hp
  ·exact operands_op16 tv pv m w f _ op g off _ cap hf rfl hgl c1' hL hMo e ta pa tc pc ht hp
  ·exact operands_op17 tv pv m w f _ op g off _ cap hf rfl hgl c1' hL hMo e ta pa tc pc ht hp
  ·exact operands_op35 tv pv m w f _ op g off _ cap hf rfl hgl c1' hL hMo e ta pa tc pc ht hp
  ·exact operands_op36 tv pv m w f _ op g off _ cap hf rfl hgl c1' hL hMo e ta pa tc pc ht hp
  ·exact operands_op37 tv pv m w f _ op g off _ cap hf rfl hgl c1' hL hMo e ta pa tc pc ht hp
  ·exact operands_op38 tv pv m w f _ op g off _ cap hf rfl hgl c1' hL hMo e ta pa tc pc ht hp
  ·exact operands_op44 tv pv m w f _ op g off _ cap hf rfl hgl c1' hL hMo e ta pa tc pc ht hp
  ·exact operands_op48 tv pv m w f _ op g off _ cap hf rfl hgl c1' hL hMo e ta pa tc pc ht hp
  ·exact operands_op49 tv pv m w f _ op g off _ cap hf rfl hgl c1' hL hMo e ta pa tc pc ht hp
  ·exact operands_op50 tv pv m w f _ op g off _ cap hf rfl hgl c1' hL hMo e ta pa tc pc ht hp
structure RMem (w W:World) (x y z:Nat) (mc:Array Value) (v0 v1 v2 v3 v4:Value):Prop where
 fr:Fr [] w W
 mo:W.heap[x]?=some (.cells mc 30)
 re:W.heap[y]?=some (.cells #[.int .u8 0,.int .i64 0,.int .i64 0,.int .i64 0,.int .i64 0] 172)
 sp:W.heap[z]?=some (.cells #[v0,v1,v2,v3,v4] 172)
 lx:w.heap.size≤x
 ly:w.heap.size≤y
 lz:w.heap.size≤z
 ne:x≠z∧y≠z
theorem RMem.st {w W:World}{x y z:Nat}{mc:Array Value}{v0 v1 v2 v3 v4:Value} (h:RMem w W x y z mc v0 v1 v2 v3 v4) :
  W.cell? ⟨z,0,none⟩=some v0∧W.cell? ⟨z,1,none⟩=some v1∧W.cell? ⟨z,2,none⟩=some v2∧W.cell? ⟨z,3,none⟩=some v3∧W.cell? ⟨z,4,none⟩=some v4:=by
 unfold World.cell?
 rw[h.sp]
 exact⟨rfl,rfl,rfl,rfl,rfl⟩
theorem RMem.rs {w W:World}{x y z:Nat}{mc:Array Value}{v0 v1 v2 v3 v4:Value} (h:RMem w W x y z mc v0 v1 v2 v3 v4) :
  W.cell? ⟨y,0,none⟩=some (.int .u8 0)∧W.cell? ⟨y,1,none⟩=some (.int .i64 0)∧W.cell? ⟨y,2,none⟩=some (.int .i64 0)∧W.cell? ⟨y,3,none⟩=some (.int .i64 0)∧W.cell? ⟨y,4,none⟩=some (.int .i64 0):=by
 unfold World.cell?
 rw[h.re]
 exact⟨rfl,rfl,rfl,rfl,rfl⟩
theorem RMem.fz {w W:World}{x y z:Nat}{mc:Array Value}{v0 v1 v2 v3 v4:Value} (h:RMem w W x y z mc v0 v1 v2 v3 v4) :
  W.frozen? ⟨y,0,none⟩=false∧W.frozen? ⟨y,1,none⟩=false∧W.frozen? ⟨y,2,none⟩=false∧W.frozen? ⟨y,3,none⟩=false∧W.frozen? ⟨y,4,none⟩=false:=by
 unfold World.frozen?
 rw[h.re]
 simp
theorem RMem.sz {w W:World}{x y z:Nat}{mc:Array Value}{v0 v1 v2 v3 v4:Value} (h:RMem w W x y z mc v0 v1 v2 v3 v4) :
  W.frozen? ⟨z,2,none⟩=false∧W.frozen? ⟨z,3,none⟩=false∧W.frozen? ⟨z,4,none⟩=false:=by
 unfold World.frozen?
 rw[h.sp]
 simp
theorem RMem.put {w W:World}{x y z:Nat}{mc:Array Value}{v0 v1 v2 v3 v4:Value} (h:RMem w W x y z mc v0 v1 v2 v3 v4) (u0 u1 u2 u3 u4:Value):Fr [] w (put5 W y u0 u1 u2 u3 u4):=
 h.fr.trans' (put5_fr W y u0 u1 u2 u3 u4) (fun q hq=>.inr (by have:=h.ly;simp at hq;omega))
theorem RMem.to {w W W':World}{x y z:Nat}{mc:Array Value}{v0 v1 v2 v3 v4:Value} (h:RMem w W x y z mc v0 v1 v2 v3 v4) (hf:Fr [] W W'):RMem w W' x y z mc v0 v1 v2 v3 v4:=
 ⟨h.fr.trans hf,(hf.block _ (Age.1 h.mo).1 (by simp)).trans h.mo,(hf.block _ (Age.1 h.re).1 (by simp)).trans h.re,(hf.block _ (Age.1 h.sp).1 (by simp)).trans h.sp,h.lx,h.ly,h.lz,h.ne⟩
theorem RMem.set2 {w W:World}{x y z:Nat}{mc:Array Value}{v0 v1 v2 v3 v4:Value} (h:RMem w W x y z mc v0 v1 v2 v3 v4) (u:Value):RMem w (W.setCell ⟨z,2,none⟩ u) x y z mc v0 v1 u v3 v4:=
 ⟨h.fr.setCell (p:=⟨z,2,none⟩) (.inr h.lz) u,(setCell_block h.ne.1).trans h.mo,(setCell_block h.ne.2).trans h.re,setCell_at h.sp,h.lx,h.ly,h.lz,h.ne⟩
theorem RMem.set3 {w W:World}{x y z:Nat}{mc:Array Value}{v0 v1 v2 v3 v4:Value} (h:RMem w W x y z mc v0 v1 v2 v3 v4) (u:Value):RMem w (W.setCell ⟨z,3,none⟩ u) x y z mc v0 v1 v2 u v4:=
 ⟨h.fr.setCell (p:=⟨z,3,none⟩) (.inr h.lz) u,(setCell_block h.ne.1).trans h.mo,(setCell_block h.ne.2).trans h.re,setCell_at h.sp,h.lx,h.ly,h.lz,h.ne⟩
def readOps (c:List UInt8):List (Int × Int)→Nat→Option (List Nat × Nat)
 | [],p=>some ([],p)
 | b :: r,p=>match num (c.drop p) with
  | none=>none
  | some (n,rest)=>if b.1≤(n:Int)∧(n:Int)≤b.2 then (readOps c r (c.length-rest.length)).map (fun q=>(n :: q.1,q.2)) else none
theorem fit_iff (m:Mo)(L sort n:Nat):fitN m L sort n=true↔(low sort:Int)≤(n:Int)∧(n:Int)≤(above m L sort:Int)-1:=by
 unfold fitN
 simp only[Bool.and_eq_true,decide_eq_true_eq]
 omega
theorem decodeL_ops {m:Mo}{f L:Nat}{c:List UInt8}{i op:Nat} (ho:(c.getD i 0).toNat=op) (hm:mayOp f op=true) (hMo:MoOk m) :
  decodeL m f L c i=match readOps c (bnds m L op) (i+1) with
   | none=>.inl 10
   | some q=>.inr ⟨i,q.2,op,q.1.getD 0 0,q.1.getD 1 0⟩:=by
 unfold decodeL
 rw[ho,if_pos hm]
 unfold bnds
 by_cases hz:sortsT.getD op 0=0
 ·rw[if_pos hz,if_pos hz]
  rfl
 ·rw[if_neg hz,if_neg hz]
  by_cases h38:op=38
  ·subst h38
   rw[if_pos rfl]
   have hs:sortsT.getD 38 0=5:=rfl
   rw[hs]
   have f5:∀ n,fitN m L 5 n=true↔(0:Int)≤(n:Int)∧(n:Int)≤m.arrs-1:=fun n=>by
    rw[fit_iff]
    simp only[low,above,Nat.reduceEqDiff,if_true,if_false]
    have:=hMo.a
    omega
   have f6:∀ n,fitN m L 6 n=true↔(0:Int)≤(n:Int)∧(n:Int)≤(m.pats.length:Int)-1:=fun n=>by
    rw[fit_iff]
    simp only[low,above,Nat.reduceEqDiff,if_true,if_false]
    omega
   unfold operandL
   simp only[readOps]
   cases hN:num (c.drop (i+1)) with
   | none=>rfl
   | some nr=>
    obtain⟨n,r⟩:=nr
    simp only
    by_cases hf:fitN m L 5 n=true
    ·rw[if_pos hf,if_pos ((f5 n).1 hf)]
     simp only[if_true]
     cases hN2:num (c.drop (c.length-r.length)) with
     | none=>rfl
     | some nr2=>
      obtain⟨n2,r2⟩:=nr2
      simp only
      by_cases hf2:fitN m L 6 n2=true
      ·rw[if_pos hf2,if_pos ((f6 n2).1 hf2)]
       rfl
      ·rw[if_neg hf2,if_neg (fun h=>hf2 ((f6 n2).2 h))]
       rfl
    ·rw[if_neg hf,if_neg (fun h=>hf ((f5 n).2 h))]
  ·rw[if_neg h38]
   unfold operandL
   simp only[readOps]
   cases hN:num (c.drop (i+1)) with
   | none=>rfl
   | some nr=>
    obtain⟨n,r⟩:=nr
    simp only
    by_cases hf:fitN m L (sortsT.getD op 0) n=true
    ·rw[if_pos hf,if_pos ((fit_iff _ _ _ _).1 hf)]
     simp only[h38,if_false]
     rfl
    ·rw[if_neg hf,if_neg (fun h=>hf ((fit_iff _ _ _ _).2 h))]
theorem bnds_len (m:Mo)(L op:Nat):(bnds m L op).length≤2:=by
 unfold bnds
 split
 ·simp
 ·split <;> simp
def RdP (m:Mo) (f L:Nat) (c:ByteArray) (i:Nat) (w:World) (e:Ending) (w':World):Prop:=
 Fr [] w w'∧∃ op pl a b len x:Nat,e=.returned (.tuple #[.agg #[.int .u8 op,.int .i64 pl,.int .i64 a,.int .i64 b,.int .i64 0],.int .i64 len,.int .i64 x]) ∧
  ((x≠0∧x≤20∧decodeL m f L (bl c) i=.inl x) ∨
    (x=0∧∃ s,decodeL m f L (bl c) i=.inr s∧op=s.op∧pl=s.pl∧a=min s.a 2000000000∧b=min s.b 2000000000∧s.nx=i+len))
theorem bl_ext (c:ByteArray)(p:Nat):bl (c.extract p c.size)=(bl c).drop p:=by
 rw[bl_extract,← bl_length c]
 exact seg_all _ _
theorem readOne_any (mv:Value)(m:Mo)(w:World)(f i:Nat)(x:Wire.Fn)(hM:ModIn w mv m)(hMo:MoOk m)(hx:m.fns[f]?=some x)(hi:i<x.code.size) :
  Calls Tryz.prog 110 #[mv,.int .i64 f,.int .i64 i] w (RdP m f x.locs.toNat x.code i w):=by
 have hOp:=fun (W:World) (hW:Fr [] w W) (op:Nat) (ho:op<54)=>operands_any mv m W f op x (hM.fr hW) hMo hx ho
 obtain⟨tv,pv,fv,rfl,h1,h2,h3⟩:=hM.is
 obtain⟨ad,cap,fg,fo,rfl,hcap,hx0,hxx⟩:=h3
 have hf:=(Lgs.1 hx).1
 obtain⟨c0,c1,hc⟩:=hxx f x hx
 have hpp:=hMo.f.p x (List.mem_of_getElem? hx)
 obtain⟨rfl,hfg⟩:=hx0 (by omega)
 have hn:=hMo.f.n
 have hs:x.code.size≤20000:=hpp.2.2.2.2
 generalize x.locs.toNat=L at *
 generalize x.code=c at *
 have hdo:=fun (hm:mayOp f c[i].toNat=true)=>decodeL_ops (m:=m) (f:=f) (L:=L) (c:=bl c) (i:=i) (op:=c[i].toNat) (by rw[bl_getD hi]) hm hMo
 have hd9:mayOp f c[i].toNat=false→decodeL m f L (bl c) i=.inl 9:=fun e=>by
  unfold decodeL
  rw[bl_getD hi,if_neg (by rw[e];decide)]
 have hfn:f≤2000000:=by omega
 generalize m.fns.length=nf at *
 have g0:(i:Int)<c.size:=by omega
 have gx:c[i].toNat<256:=c[i].toNat_lt
 have g2:(f:Int)<(nf:Int):=by omega
 obtain⟨W1,hW1⟩:∃ W1,w.alloc (.cells #[tv,pv,.int .i64 m.globs,.int .i64 m.arrs,.slice (some ⟨fg,fo,none⟩) nf cap] 30)=W1:=⟨_,rfl⟩
 obtain⟨W2,hW2⟩:∃ W2,W1.alloc (.cells #[.int .u8 0,.int .i64 0,.int .i64 0,.int .i64 0,.int .i64 0] 172)=W2:=⟨_,rfl⟩
 obtain⟨W3,hW3⟩:∃ W3,W2.alloc (.cells #[.int .u8 (c[i].toNat:Nat),.int .i64 (i:Nat),.int .i64 0,.int .i64 0,.int .i64 0] 172)=W3:=⟨_,rfl⟩
 have FA:Fr [] w W1:=by rw[← hW1];exact (Fr.refl [] w).alloc _
 have FB1:Fr [] W1 W2:=by rw[← hW2];exact (Fr.refl [] W1).alloc _
 have FC2:Fr [] W2 W3:=by rw[← hW3];exact (Fr.refl [] W2).alloc _
 have FB:Fr [] w W2:=FA.trans FB1
 have FC:Fr [] w W3:=FB.trans FC2
 have z1:W1.heap.size=w.heap.size+1:=by rw[← hW1];simp
 have z2:W2.heap.size=w.heap.size+2:=by rw[← hW2];simp[z1]
 have k1:=wan w (.cells #[tv,pv,.int .i64 m.globs,.int .i64 m.arrs,.slice (some ⟨fg,fo,none⟩) nf cap] 30)
 have k2:=wan W1 (.cells #[.int .u8 0,.int .i64 0,.int .i64 0,.int .i64 0,.int .i64 0] 172)
 have k3:=wan W2 (.cells #[.int .u8 (c[i].toNat:Nat),.int .i64 (i:Nat),.int .i64 0,.int .i64 0,.int .i64 0] 172)
 rw[hW1] at k1
 rw[hW2] at k2
 rw[hW3] at k3
 have hc2:=(FB.cell (p:=⟨fg,fo+f*3+2,none⟩) hfg (by simp)).trans hc
 have hm2:W2.cell? ⟨w.heap.size,4,none⟩=some (.slice (some ⟨fg,fo,none⟩) nf cap):=by
  refine (FB1.cell (p:=⟨w.heap.size,4,none⟩) (by simp only;omega) (by simp)).trans ?_
  unfold World.cell?
  rw[k1]
  rfl
 have s2:W3.setCell ⟨W2.heap.size,2,none⟩ (.int .i64 0)=W3:=setCell_id k3 rfl
 have s3:W3.setCell ⟨W2.heap.size,3,none⟩ (.int .i64 0)=W3:=setCell_id k3 rfl
 have s4:W3.setCell ⟨W2.heap.size,4,none⟩ (.int .i64 0)=W3:=setCell_id k3 rfl
 have fz2:W3.frozen? ⟨W2.heap.size,2,none⟩=false:=by unfold World.frozen?;rw[k3];simp
 have fz3:W3.frozen? ⟨W2.heap.size,3,none⟩=false:=by unfold World.frozen?;rw[k3];simp
 have fz4:W3.frozen? ⟨W2.heap.size,4,none⟩=false:=by unfold World.frozen?;rw[k3];simp
 have DM:RMem w W3 w.heap.size W1.heap.size W2.heap.size #[tv,pv,.int .i64 m.globs,.int .i64 m.arrs,.slice (some ⟨fg,fo,none⟩) nf cap] (.int .u8 (c[i].toNat:Nat)) (.int .i64 (i:Nat)) (.int .i64 0) (.int .i64 0) (.int .i64 0):=
  ⟨FC,((FB1.trans FC2).block _ (by omega) (by simp)).trans k1,(FC2.block _ (by omega) (by simp)).trans k2,k3,by omega,by omega,by omega,by omega⟩
 clear FA FB1 FC2 FB FC k1 k2 k3 z1 z2 hxx hx0 hMo hM h1 h2 c0 c1 hpp hc hx hn
 have HMS:Hid _:=fun (_:Unit)=>mayStand_any f c[i].toNat W3 hfn gx
 obtain⟨a0,a1,a2,a3,a4⟩:=RMem.st DM
 obtain⟨r0,r1,r2,r3,r4⟩:=RMem.rs DM
 obtain⟨rz0,rz1,rz2,rz3,rz4⟩:=RMem.fz DM
 cases hmay:mayOp f c[i].toNat with
 | false=>
  have hd:=hd9 hmay
  rw[hmay] at HMS
  have HD:Hid _:=hd
  have HDM:Hid _:=DM
  clear hd hd9 hdo hOp DM hmay
  go_enter Tryz.func110,Tryz.ntmps110
  go_wp2_with fail
  refine (HMS.out ()).mono ?_
  rintro e w1 ⟨rfl,hw⟩
  replace hw:=hw.symm
  subst hw
  go_wp2
  have DM:=HDM.out
  change bodyPost Tryz.prog Tryz.f110 (RdP m f L c i w) Exit.ret _ (put5 W3 W1.heap.size (.int .u8 0) (.int .i64 0) (.int .i64 0) (.int .i64 0) (.int .i64 0))
  obtain⟨y0,y1,y2,y3,y4⟩:=put5_cells (W:=W3) (g:=W1.heap.size) (.int .u8 0) (.int .i64 0) (.int .i64 0) (.int .i64 0) (.int .i64 0) r0 r1 r2 r3 r4
  have FZ:=RMem.put DM (.int .u8 0) (.int .i64 0) (.int .i64 0) (.int .i64 0) (.int .i64 0)
  generalize put5 W3 W1.heap.size (.int .u8 0) (.int .i64 0) (.int .i64 0) (.int .i64 0) (.int .i64 0)=Z at *
  refine bodyPost_ret (v:=.tuple #[.agg #[.int .u8 0,.int .i64 0,.int .i64 0,.int .i64 0,.int .i64 0],.int .i64 0,.int .i64 9]) (by simp[results,Tryz.results110,go_sem,y0,y1,y2,y3,y4]) rfl ?_
  exact⟨FZ,0,0,0,0,0,9,rfl,.inl ⟨by omega,by omega,HD.out⟩⟩
 | true=>
  have hd:=hdo hmay
  have ho54:=mayOp_lt hmay
  have HOp:Hid _:=fun (_:Unit)=>hOp W3 DM.fr c[i].toNat ho54
  rw[hmay] at HMS
  have hB2:=bnds_len m L c[i].toNat
  generalize bnds m L c[i].toNat=B at *
  have HD:Hid _:=hd
  have HDM:Hid _:=DM
  obtain⟨m0,m1,m2,m3,m4⟩:W3.cell? ⟨w.heap.size,0,none⟩=some tv∧W3.cell? ⟨w.heap.size,1,none⟩=some pv∧W3.cell? ⟨w.heap.size,2,none⟩=some (.int .i64 m.globs)∧W3.cell? ⟨w.heap.size,3,none⟩=some (.int .i64 m.arrs)∧W3.cell? ⟨w.heap.size,4,none⟩=some (.slice (some ⟨fg,fo,none⟩) nf cap):=by
   unfold World.cell?
   rw[DM.mo]
   exact⟨rfl,rfl,rfl,rfl,rfl⟩
  clear hd hd9 hdo hOp DM hmay
  go_enter Tryz.func110,Tryz.ntmps110
  go_wp2_with fail
  refine (HMS.out ()).mono ?_
  rintro e w1 ⟨rfl,hw⟩
  replace hw:=hw.symm
  subst hw
  go_wp2_with fail
  refine (HOp.out ()).mono ?_
  rintro e Wb ⟨v,rfl,Fb,hBn⟩
  have DMb:=RMem.to HDM.out Fb
  clear m0 m1 m2 m3 m4 a0 a1 a2 a3 a4 r0 r1 r2 r3 r4 rz0 rz1 rz2 rz3 rz4 s2 s3 s4 fz2 fz3 fz4 HDM HOp HMS hW1 hW2 hW3 hc2 hm2
  obtain⟨ba,bg,rfl,hbg,hbx⟩:∃ ba bg,v=.slice ba B.length B.length∧(0<B.length→ba=some ⟨bg,0,none⟩∧bg<Wb.heap.size∧bg≠W2.heap.size)∧∀ (j:Nat) (y:Int × Int),B[j]?=some y→Wb.cell? ⟨bg,j*2,none⟩=some (.int .i64 y.1)∧Wb.cell? ⟨bg,j*2+1,none⟩=some (.int .i64 y.2):=by
   rcases hBn with ⟨rfl,rfl⟩ | ⟨g,rfl,hg,hxy⟩
   ·exact⟨none,0,rfl,fun h=>absurd h (by simp),fun j y hj=>by simp at hj⟩
   ·refine⟨_,g,rfl,fun h0=>⟨rfl,hg,fun e=>?_⟩,hxy⟩
    obtain⟨y,hy⟩:∃ y,B[0]?=some y:=⟨_,Lge h0⟩
    have q1:=(hxy 0 y hy).1
    rw[e] at q1
    have q2:=DMb.st.1
    simp only[Nat.zero_mul] at q1
    rw[q1] at q2
    simp at q2
  have HBX:Hid _:=AI hbg hbx
  have HDMb:Hid _:=DMb
  clear hBn hbg hbx DMb Fb
  go_wp2
  go_loopw [11,41] (fun a j wr=>∃ (ns:List Nat) (p:Nat),j=.int .i64 (ns.length:Nat)∧a=.int .i64 (p:Nat)∧ns.length≤B.length∧i<p∧p≤c.size∧Hid (readOps (bl c) B (i+1)=(readOps (bl c) (B.drop ns.length) p).map (fun q=>(ns++q.1,q.2))) ∧
   RMem w wr w.heap.size W1.heap.size W2.heap.size #[tv,pv,.int .i64 m.globs,.int .i64 m.arrs,.slice (some ⟨fg,fo,none⟩) nf cap] (.int .u8 (c[i].toNat:Nat)) (.int .i64 (i:Nat)) (.int .i64 (min (ns.getD 0 0) 2000000000:Nat)) (.int .i64 (min (ns.getD 1 0) 2000000000:Nat)) (.int .i64 0)∧Fr [W2.heap.size] Wb wr) (fun _ j _=>B.length-(intOf j).toNat)
  case atStart=>
   refine⟨[],i+1,rfl,by push_cast;rfl,by simp,by omega,by omega,?_,HDMb.out,Fr.refl _ _⟩
   show readOps (bl c) B (i+1)=_
   simp
  case round=>
   obtain⟨ns,p,rfl,rfl,hk,hip,hpc,hR,DMr,Fr1⟩:=hrel
   obtain⟨k,hkk⟩:∃ k,ns.length=k:=⟨_,rfl⟩
   obtain⟨nB,hnB⟩:∃ nB,B.length=nB:=⟨_,rfl⟩
   have hkB:k≤nB:=by omega
   by_cases hlt:k<nB
   ·have g1:(k:Int)<(nB:Int):=by omega
    obtain⟨rfl,hbgl,hbne⟩:=HBX.out.1 (by omega)
    obtain⟨y,hy⟩:∃ y,B[k]?=some y:=⟨_,Lge (by omega)⟩
    have hdrop:B.drop k=y :: B.drop (k+1):=by
     rw[List.drop_eq_getElem_cons (by omega)]
     congr 1
     exact (Lgs.1 hy).2
    obtain⟨x0,x1⟩:=HBX.out.2 k y hy
    replace x0:=(Fr1.cell (p:=⟨bg,k*2,none⟩) hbgl (by simpa using hbne)).trans x0
    replace x1:=(Fr1.cell (p:=⟨bg,k*2+1,none⟩) hbgl (by simpa using hbne)).trans x1
    have hR1:=hR.out
    rw[hkk,hdrop] at hR1
    obtain⟨W4,hW4⟩:∃ W4,wr.alloc (.cells #[.int .i64 y.1,.int .i64 y.2] 262)=W4:=⟨_,rfl⟩
    have F4:Fr [] wr W4:=by rw[← hW4];exact (Fr.refl [] wr).alloc _
    have k4:=wan wr (.cells #[.int .i64 y.1,.int .i64 y.2] 262)
    rw[hW4] at k4
    have e0:W4.cell? ⟨wr.heap.size,0,none⟩=some (.int .i64 y.1):=by unfold World.cell?;rw[k4];rfl
    have e1:W4.cell? ⟨wr.heap.size,1,none⟩=some (.int .i64 y.2):=by unfold World.cell?;rw[k4];rfl
    have DM4:=RMem.to DMr F4
    have Fr4:=Fr1.trans (F4.mono (by simp))
    have hnr:=numRead_any (c.extract p c.size) (by rw[ByteArray.size_extract];omega) W4
    rw[bl_ext] at hnr
    have hcl:=bl_length c
    have gp:(p:Int)≤(c.size:Int):=by omega
    cases hN:num ((bl c).drop p) with
    | none=>
     have hV:numV ((bl c).drop p)=0:=by unfold numV;rw[hN]
     have hK:numK ((bl c).drop p)=0:=by unfold numK;rw[hN]
     rw[hV,hK] at hnr
     have HNR:Hid _:=fun (_:Unit)=>hnr
     have hd:decodeL m f L (bl c) i=.inl 10:=by
      rw[HD.out,hR1]
      simp only[readOps,hN]
      rfl
     have HD2:Hid _:=hd
     have HDM:Hid _:=DM4
     obtain⟨a0,a1,a2,a3,a4⟩:=RMem.st DM4
     obtain⟨r0,r1,r2,r3,r4⟩:=RMem.rs DM4
     obtain⟨rz0,rz1,rz2,rz3,rz4⟩:=RMem.fz DM4
     clear hd hR1 hR hN HD hnr hV hK DM4 DMr Fr1 Fr4 F4 k4 HBX HDMb hdrop hy hcl hkB hk a0 a1 a2 a3 a4
     rw[hkk,hnB]
     clear hkk hnB
     go_wp2_with fail
     refine (HNR.out ()).mono ?_
     rintro e w1 ⟨rfl,hw⟩
     replace hw:=hw.symm
     subst hw
     go_wp2
     have DM4:=HDM.out
     change bodyPost Tryz.prog Tryz.f110 (RdP m f L c i w) Exit.ret _ (put5 W4 W1.heap.size (.int .u8 0) (.int .i64 0) (.int .i64 0) (.int .i64 0) (.int .i64 0))
     obtain⟨y0,y1,y2,y3,y4⟩:=put5_cells (W:=W4) (g:=W1.heap.size) (.int .u8 0) (.int .i64 0) (.int .i64 0) (.int .i64 0) (.int .i64 0) r0 r1 r2 r3 r4
     have FZ:=RMem.put DM4 (.int .u8 0) (.int .i64 0) (.int .i64 0) (.int .i64 0) (.int .i64 0)
     generalize put5 W4 W1.heap.size (.int .u8 0) (.int .i64 0) (.int .i64 0) (.int .i64 0) (.int .i64 0)=Z at *
     refine bodyPost_ret (v:=.tuple #[.agg #[.int .u8 0,.int .i64 0,.int .i64 0,.int .i64 0,.int .i64 0],.int .i64 0,.int .i64 10]) (by simp[results,Tryz.results110,go_sem,y0,y1,y2,y3,y4]) rfl ?_
     exact⟨FZ,0,0,0,0,0,10,rfl,.inl ⟨by omega,by omega,HD2.out⟩⟩
    | some nr=>
     obtain⟨n,r⟩:=nr
     have hn36:=(num_some hN).2
     have hsh:=numF_shorter 5 true _ _ _ hN
     rw[List.length_drop,hcl] at hsh
     have hV:numV ((bl c).drop p)=n:=by unfold numV;rw[hN]
     have hK:numK ((bl c).drop p)=c.size-p-r.length:=by unfold numK;rw[hN,List.length_drop,hcl]
     obtain⟨K0,hK0⟩:∃ K0,c.size-p-r.length=K0:=⟨_,rfl⟩
     rw[hV,hK,hK0] at hnr
     have HNR:Hid _:=fun (_:Unit)=>hnr
     have gK:0<K0:=by omega
     have gK2:p+K0≤c.size:=by omega
     have eK:c.size-r.length=p+K0:=by omega
     have qK:((K0:Int)==0)=false:=by simp;omega
     simp only[readOps,hN,hcl] at hR1
     have HX:Hid _:=AI hR1 (AI eK (AI Fr4 (AI DM4 (AI hkk (AI hnB hB2)))))
     obtain⟨y1,y2⟩:=y
     simp only at e0 e1 hW4 x0 x1
     obtain⟨a0,a1,a2,a3,a4⟩:=RMem.st DM4
     obtain⟨r0,r1,r2,r3,r4⟩:=RMem.rs DM4
     obtain⟨rz0,rz1,rz2,rz3,rz4⟩:=RMem.fz DM4
     clear hnr hN hV hK hK0 DMr Fr1 F4 k4 HBX HDMb hdrop hy hcl hR hR1 eK DM4 Fr4 hsh
     by_cases hf1:y1≤(n:Int)
     ·by_cases hf2:(n:Int)≤y2
      ·have q3:decide ((n:Int)<y1)=false:=decide_eq_false (by omega)
       have q4:decide (y2<(n:Int))=false:=decide_eq_false (by omega)
       obtain⟨nm,hnm⟩:∃ nm,min n 2000000000=nm:=⟨_,rfl⟩
       have hnmI:min (n:Int) 2000000000=(nm:Int):=by omega
       obtain⟨p2,hp2⟩:∃ p2,p+K0=p2:=⟨_,rfl⟩
       have hpI:(p:Int)+(K0:Int)=(p2:Int):=by omega
       have hp2c:p2≤c.size:=by omega
       have hp2i:i<p2:=by omega
       have HP2:Hid _:=AI hp2 hnm
       clear hp2 hnm
       clear r0 r1 r2 r3 r4 rz0 rz1 rz2 rz3 rz4
       rcases ns with _ | ⟨aa,_ | ⟨bb,ns⟩⟩
       ·obtain rfl:0=k:=hkk
        have hR2:readOps (bl c) B (i+1)=(readOps (bl c) (B.drop (0+1)) p2).map (fun q=>([n]++q.1,q.2)):=by
         rw[HX.out.1,if_pos ⟨hf1,hf2⟩,HX.out.2.1,HP2.out.1,Option.map_map]
         rfl
        have DM5:=RMem.set2 HX.out.2.2.2.1 (.int .i64 (nm:Nat))
        have fz5:=(RMem.sz HX.out.2.2.2.1).1
        obtain⟨W5,hW5⟩:∃ W5,W4.setCell ⟨W2.heap.size,2,none⟩ (.int .i64 (nm:Nat))=W5:=⟨_,rfl⟩
        rw[hW5] at DM5
        have F5:Fr [W2.heap.size] Wb W5:=by rw[← hW5];exact HX.out.2.2.1.setCell (p:=⟨W2.heap.size,2,none⟩) (.inl (by simp)) _
        have HY:Hid _:=AI hR2 (AI DM5 F5)
        simp only[List.length_cons,List.length_nil,Nat.zero_add] at *
        rw[hnB]
        clear hR2 DM5 F5 HD hkB hk HX
        go_wp2_with fail
        refine (HNR.out ()).mono ?_
        rintro e w1 ⟨rfl,hw⟩
        replace hw:=hw.symm
        subst hw
        go_wp2
        refine⟨⟨[n],p2,rfl,rfl,by simp;omega,hp2i,hp2c,HY.out.1,?_,HY.out.2.2⟩,?_⟩
        ·have h:=HY.out.2.1
         rw[← HP2.out.2] at h
         exact h
        ·simp[intOf]
         omega
       ·obtain rfl:1=k:=hkk
        have hR2:readOps (bl c) B (i+1)=(readOps (bl c) (B.drop (1+1)) p2).map (fun q=>([aa,n]++q.1,q.2)):=by
         rw[HX.out.1,if_pos ⟨hf1,hf2⟩,HX.out.2.1,HP2.out.1,Option.map_map]
         rfl
        have DM5:=RMem.set3 HX.out.2.2.2.1 (.int .i64 (nm:Nat))
        have fz5:=(RMem.sz HX.out.2.2.2.1).2.1
        obtain⟨W5,hW5⟩:∃ W5,W4.setCell ⟨W2.heap.size,3,none⟩ (.int .i64 (nm:Nat))=W5:=⟨_,rfl⟩
        rw[hW5] at DM5
        have F5:Fr [W2.heap.size] Wb W5:=by rw[← hW5];exact HX.out.2.2.1.setCell (p:=⟨W2.heap.size,3,none⟩) (.inl (by simp)) _
        have HY:Hid _:=AI hR2 (AI DM5 F5)
        simp only[List.length_cons,List.length_nil,Nat.zero_add] at *
        rw[hnB]
        clear hR2 DM5 F5 HD hkB hk HX
        go_wp2_with fail
        refine (HNR.out ()).mono ?_
        rintro e w1 ⟨rfl,hw⟩
        replace hw:=hw.symm
        subst hw
        go_wp2
        refine⟨⟨[aa,n],p2,rfl,rfl,by simp;omega,hp2i,hp2c,HY.out.1,?_,HY.out.2.2⟩,?_⟩
        ·have h:=HY.out.2.1
         rw[← HP2.out.2] at h
         exact h
        ·simp[intOf]
         omega
       ·simp only[List.length_cons] at hkk
        omega
      ·have q3:decide ((n:Int)<y1)=false:=decide_eq_false (by omega)
       have q4:decide (y2<(n:Int))=true:=decide_eq_true (by omega)
       have hd:decodeL m f L (bl c) i=.inl 10:=by
        rw[HD.out,HX.out.1,if_neg (fun h=>hf2 h.2)]
        rfl
       have HD2:Hid _:=hd
       clear hd HD a0 a1 a2 a3 a4 hkB hk
       rw[hkk,hnB]
       clear hkk hnB
       go_wp2_with fail
       refine (HNR.out ()).mono ?_
       rintro e w1 ⟨rfl,hw⟩
       replace hw:=hw.symm
       subst hw
       go_wp2
       have DM4:=HX.out.2.2.2.1
       change bodyPost Tryz.prog Tryz.f110 (RdP m f L c i w) Exit.ret _ (put5 W4 W1.heap.size (.int .u8 0) (.int .i64 0) (.int .i64 0) (.int .i64 0) (.int .i64 0))
       obtain⟨y0,y1,y2,y3,y4⟩:=put5_cells (W:=W4) (g:=W1.heap.size) (.int .u8 0) (.int .i64 0) (.int .i64 0) (.int .i64 0) (.int .i64 0) r0 r1 r2 r3 r4
       have FZ:=RMem.put DM4 (.int .u8 0) (.int .i64 0) (.int .i64 0) (.int .i64 0) (.int .i64 0)
       generalize put5 W4 W1.heap.size (.int .u8 0) (.int .i64 0) (.int .i64 0) (.int .i64 0) (.int .i64 0)=Z at *
       refine bodyPost_ret (v:=.tuple #[.agg #[.int .u8 0,.int .i64 0,.int .i64 0,.int .i64 0,.int .i64 0],.int .i64 0,.int .i64 10]) (by simp[results,Tryz.results110,go_sem,y0,y1,y2,y3,y4]) rfl ?_
       exact⟨FZ,0,0,0,0,0,10,rfl,.inl ⟨by omega,by omega,HD2.out⟩⟩
     ·have q3:decide ((n:Int)<y1)=true:=decide_eq_true (by omega)
      have hd:decodeL m f L (bl c) i=.inl 10:=by
       rw[HD.out,HX.out.1,if_neg (fun h=>hf1 h.1)]
       rfl
      have HD2:Hid _:=hd
      clear hd HD a0 a1 a2 a3 a4 hkB hk
      rw[hkk,hnB]
      clear hkk hnB
      go_wp2_with fail
      refine (HNR.out ()).mono ?_
      rintro e w1 ⟨rfl,hw⟩
      replace hw:=hw.symm
      subst hw
      go_wp2
      have DM4:=HX.out.2.2.2.1
      change bodyPost Tryz.prog Tryz.f110 (RdP m f L c i w) Exit.ret _ (put5 W4 W1.heap.size (.int .u8 0) (.int .i64 0) (.int .i64 0) (.int .i64 0) (.int .i64 0))
      obtain⟨y0,y1,y2,y3,y4⟩:=put5_cells (W:=W4) (g:=W1.heap.size) (.int .u8 0) (.int .i64 0) (.int .i64 0) (.int .i64 0) (.int .i64 0) r0 r1 r2 r3 r4
      have FZ:=RMem.put DM4 (.int .u8 0) (.int .i64 0) (.int .i64 0) (.int .i64 0) (.int .i64 0)
      generalize put5 W4 W1.heap.size (.int .u8 0) (.int .i64 0) (.int .i64 0) (.int .i64 0) (.int .i64 0)=Z at *
      refine bodyPost_ret (v:=.tuple #[.agg #[.int .u8 0,.int .i64 0,.int .i64 0,.int .i64 0,.int .i64 0],.int .i64 0,.int .i64 10]) (by simp[results,Tryz.results110,go_sem,y0,y1,y2,y3,y4]) rfl ?_
      exact⟨FZ,0,0,0,0,0,10,rfl,.inl ⟨by omega,by omega,HD2.out⟩⟩
   ·have g1:¬ (k:Int)<(nB:Int):=by omega
    have hd:decodeL m f L (bl c) i=.inr ⟨i,p,c[i].toNat,ns.getD 0 0,ns.getD 1 0⟩:=by
     rw[HD.out,hR.out,List.drop_eq_nil_of_le (by omega)]
     simp[readOps]
    obtain⟨len,hlen⟩:∃ len,p=i+len:=⟨p-i,by omega⟩
    have hI:(p:Int)-(i:Int)=(len:Int):=by omega
    have HD2:Hid _:=AI hd hlen
    have HDM:Hid _:=DMr
    obtain⟨va,hva⟩:∃ va,min (ns.getD 0 0) 2000000000=va:=⟨_,rfl⟩
    obtain⟨vb,hvb⟩:∃ vb,min (ns.getD 1 0) 2000000000=vb:=⟨_,rfl⟩
    rw[hva,hvb] at DMr
    obtain⟨a0,a1,a2,a3,a4⟩:=RMem.st DMr
    obtain⟨r0,r1,r2,r3,r4⟩:=RMem.rs DMr
    obtain⟨rz0,rz1,rz2,rz3,rz4⟩:=RMem.fz DMr
    have HV:Hid _:=AI hva (AI hvb DMr)
    clear hd hR HD DMr Fr1 HBX HDMb hkB hk hlen hva hvb HDM
    rw[hkk,hnB]
    clear hkk hnB
    go_wp2
    obtain⟨hva,hvb,DMr⟩:=HV.out
    change bodyPost Tryz.prog Tryz.f110 (RdP m f L c i w) Exit.ret _ (put5 wr W1.heap.size (.int .u8 (c[i].toNat:Nat)) (.int .i64 (i:Nat)) (.int .i64 (va:Nat)) (.int .i64 (vb:Nat)) (.int .i64 0))
    obtain⟨y0,y1,y2,y3,y4⟩:=put5_cells (W:=wr) (g:=W1.heap.size) (.int .u8 (c[i].toNat:Nat)) (.int .i64 (i:Nat)) (.int .i64 (va:Nat)) (.int .i64 (vb:Nat)) (.int .i64 0) r0 r1 r2 r3 r4
    have FZ:=RMem.put DMr (.int .u8 (c[i].toNat:Nat)) (.int .i64 (i:Nat)) (.int .i64 (va:Nat)) (.int .i64 (vb:Nat)) (.int .i64 0)
    generalize put5 wr W1.heap.size (.int .u8 (c[i].toNat:Nat)) (.int .i64 (i:Nat)) (.int .i64 (va:Nat)) (.int .i64 (vb:Nat)) (.int .i64 0)=Z at *
    refine bodyPost_ret (v:=.tuple #[.agg #[.int .u8 (c[i].toNat:Nat),.int .i64 (i:Nat),.int .i64 (va:Nat),.int .i64 (vb:Nat),.int .i64 0],.int .i64 (len:Nat),.int .i64 0]) (by simp[results,Tryz.results110,go_sem,y0,y1,y2,y3,y4]) rfl ?_
    exact⟨FZ,c[i].toNat,i,va,vb,len,0,rfl,.inr ⟨rfl,_,HD2.out.1,rfl,rfl,hva.symm,hvb.symm,HD2.out.2⟩⟩
end Go.Proofs.YtclkgoigmgkffaaGreatDoor
