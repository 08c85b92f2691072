/-
  Texts Ja.
-/
import Derived.Test.YtclkgoigmgkffaaGreatDoorMA
import Derived.Test.YtclkgoigmgkffaaGreatDoorM21
set_option linter.unusedSimpArgs false
set_option linter.unusedVariables false
set_option maxRecDepth 100000
set_option maxHeartbeats 40000000
namespace Go.Proofs.YtclkgoigmgkffaaGreatDoor
open Go.RowKit
open Wire Flow Mach
theorem mayStand_any (f op:Nat)(w:World)(hf:f≤2000000)(ho:op<256):Calls Tryz.prog 176 #[.int .i64 f,.int .u8 op] w fun e w'=>e=.returned (.bool (mayOp f op))∧w'=w:=by
 have hd:∀ a b:Nat,decide ((a:Int)<(b:Int))=decide (a<b):=fun a b=>decide_eq_decide.2 (by omega)
 by_cases e1:op=51
 ·subst e1
  have hr:mayOp f 51 = !decide (f<3):=by
   unfold mayOp
   by_cases h:f<3
   ·rw[decide_eq_true h];rfl
   ·rw[decide_eq_false h];rfl
  rw[hr]
  have h3:decide ((f:Int)<3)=decide (f<3):=hd f 3
  generalize decide (f<3)=b at *
  go_enter Tryz.func176,Tryz.ntmps176
  go_wp2
  go_ret
  exact⟨rfl,rfl⟩
 ·by_cases e2:op=52
  ·subst e2
   have hr:mayOp f 52=decide (f<3):=by
    unfold mayOp
    by_cases h:f<3
    ·rw[decide_eq_true h,decide_eq_false (show ¬ 3≤f by omega)];rfl
    ·rw[decide_eq_false h,decide_eq_true (show 3≤f by omega)];rfl
   rw[hr]
   have h3:decide ((f:Int)<3)=decide (f<3):=hd f 3
   generalize decide (f<3)=b at *
   go_enter Tryz.func176,Tryz.ntmps176
   go_wp2
   go_ret
   exact⟨rfl,rfl⟩
  ·have hr:mayOp f op=decide ((op:Int)≤53):=by
    unfold mayOp
    rw[decide_eq_false e1,decide_eq_false e2]
    simp only[Bool.false_and,Bool.not_false,Bool.and_true,decide_eq_decide]
    omega
   have q1:((op:Int)==51)=false:=by simp;omega
   have q2:((op:Int)==52)=false:=by simp;omega
   rw[hr]
   generalize hq:decide ((op:Int)≤53)=b
   clear hd hr
   go_enter Tryz.func176,Tryz.ntmps176
   go_wp2
   go_ret
   exact⟨rfl,rfl⟩
theorem below_any (n:Int)(w:World)(hn:-5000000≤n∧n≤5000000):Calls Tryz.prog 209 #[.int .i64 n] w fun e w'=>e=.returned (.agg #[.int .i64 0,.int .i64 (n-1)])∧Fr [] w w':=by
 obtain⟨W1,hW1⟩:∃ W1,w.alloc (.cells #[.int .i64 0,.int .i64 (n-1)] 262)=W1:=⟨_,rfl⟩
 have F1:Fr [] w W1:=by rw[← hW1];exact (Fr.refl [] w).alloc _
 have k1:=wan w (.cells #[.int .i64 0,.int .i64 (n-1)] 262)
 rw[hW1] at k1
 have a0:W1.cell? ⟨w.heap.size,0,none⟩=some (.int .i64 0):=by unfold World.cell?;rw[k1];rfl
 have a1:W1.cell? ⟨w.heap.size,1,none⟩=some (.int .i64 (n-1)):=by unfold World.cell?;rw[k1];rfl
 have HF:Hid _:=F1
 clear F1 k1
 go_enter Tryz.func209,Tryz.ntmps209
 go_wp2
 refine bodyPost_ret (v:=.agg #[.int .i64 0,.int .i64 (n-1)]) (by simp[results,Tryz.results209,go_sem,a0,a1]) rfl ?_
 exact⟨rfl,HF.out⟩
def bnds (m:Mo) (locs op:Nat):List (Int × Int):=
 if sortsT.getD op 0=0 then [] else if op=38 then [(0,m.arrs-1),(0,(m.pats.length:Int)-1)]
 else [((low (sortsT.getD op 0):Int),(above m locs (sortsT.getD op 0):Int)-1)]
def BndsIn (W:World) (v:Value) (l:List (Int × Int)):Prop:=
 (l=[]∧v=.slice none 0 0)∨∃ g,v=.slice (some ⟨g,0,none⟩) l.length l.length∧g<W.heap.size ∧
  ∀ (i:Nat) (x:Int × Int),l[i]?=some x→W.cell? ⟨g,i*2,none⟩=some (.int .i64 x.1)∧W.cell? ⟨g,i*2+1,none⟩=some (.int .i64 x.2)
theorem bnds_one (W:World)(a b:Int):BndsIn (W.alloc (.cells #[.int .i64 a,.int .i64 b] 262)) (.slice (some ⟨W.heap.size,0,none⟩) 1 1) [(a,b)]:=by
 have k1:=wan W (.cells #[.int .i64 a,.int .i64 b] 262)
 refine .inr ⟨_,rfl,by simp,fun i x hi=>?_⟩
 cases i with
 | zero=>
  simp at hi
  subst hi
  unfold World.cell?
  rw[k1]
  exact⟨rfl,rfl⟩
 | succ i=>simp at hi
theorem operands_op0 (tv pv:Value)(m:Mo)(w:World)(f L op:Nat)(fg fo nf cap:Nat)(hf:f<nf)(hn:nf=m.fns.length)(hfg:fg<w.heap.size)(hl:w.cell? ⟨fg,fo+f*3+1,none⟩=some (.int .i64 (L:Nat)))(hL:L≤1000)(hMo:MoOk m)(ho:op=0)
  (ta pa:Option Addr) (tc pc:Nat) (htv:tv=.slice ta m.texts.length tc) (hpv:pv=.slice pa m.pats.length pc) :
  Calls Tryz.prog 177 #[.agg #[tv,pv,.int .i64 m.globs,.int .i64 m.arrs,.slice (some ⟨fg,fo,none⟩) nf cap],.int .i64 f,.int .u8 op] w fun e w'=>∃ v,e=.returned v∧Fr [] w w'∧BndsIn w' v (bnds m L op):=by
 subst htv
 subst hpv
 obtain⟨hg,ha⟩:=AI hMo.g hMo.a
 have ht:=hMo.t
 have hp:=hMo.p
 have hfn:=hMo.f.n
 have g2:(f:Int)<(nf:Int):=by omega
 have hn1000:nf≤1000:=by omega
 obtain⟨W1,hW1⟩:∃ W1,w.alloc (.cells #[.slice ta m.texts.length tc,.slice pa m.pats.length pc,.int .i64 m.globs,.int .i64 m.arrs,.slice (some ⟨fg,fo,none⟩) nf cap] 30)=W1:=⟨_,rfl⟩
 have F1:Fr [] w W1:=by rw[← hW1];exact (Fr.refl [] w).alloc _
 have k1:=wan w (.cells #[.slice ta m.texts.length tc,.slice pa m.pats.length pc,.int .i64 m.globs,.int .i64 m.arrs,.slice (some ⟨fg,fo,none⟩) nf cap] 30)
 rw[hW1] at k1
 have a0:W1.cell? ⟨w.heap.size,0,none⟩=some (.slice ta m.texts.length tc):=by unfold World.cell?;rw[k1];rfl
 have a1:W1.cell? ⟨w.heap.size,1,none⟩=some (.slice pa m.pats.length pc):=by unfold World.cell?;rw[k1];rfl
 have a2:W1.cell? ⟨w.heap.size,2,none⟩=some (.int .i64 m.globs):=by unfold World.cell?;rw[k1];rfl
 have a3:W1.cell? ⟨w.heap.size,3,none⟩=some (.int .i64 m.arrs):=by unfold World.cell?;rw[k1];rfl
 have a4:W1.cell? ⟨w.heap.size,4,none⟩=some (.slice (some ⟨fg,fo,none⟩) nf cap):=by unfold World.cell?;rw[k1];rfl
 have a5:=(F1.cell (p:=⟨fg,fo+f*3+1,none⟩) hfg (by simp)).trans hl
 have HF:Hid _:=F1
 have HB:Hid _:=fun n (h:-5000000≤n∧n≤5000000)=>below_any n W1 h
 clear F1 k1 hl hMo hfn
 subst ho
 have hr:bnds m L 0=[(0,2000000000)]:=by
  unfold bnds
  rw[if_neg (by decide),if_neg (by decide)]
  simp only[show sortsT.getD 0 0=1 from rfl,low,above,Nat.reduceEqDiff,if_true,if_false,← hn]
  rfl
 rw[hr]
 clear hr hn
 go_enter Tryz.func177,Tryz.ntmps177
 go_wp2
 go_ret
 exact⟨_,rfl,HF.out.trans ((Fr.refl [] W1).alloc _),bnds_one _ _ _⟩
theorem operands_op44 (tv pv:Value)(m:Mo)(w:World)(f L op:Nat)(fg fo nf cap:Nat)(hf:f<nf)(hn:nf=m.fns.length)(hfg:fg<w.heap.size)(hl:w.cell? ⟨fg,fo+f*3+1,none⟩=some (.int .i64 (L:Nat)))(hL:L≤1000)(hMo:MoOk m)(ho:op=44)
  (ta pa:Option Addr) (tc pc:Nat) (htv:tv=.slice ta m.texts.length tc) (hpv:pv=.slice pa m.pats.length pc) :
  Calls Tryz.prog 177 #[.agg #[tv,pv,.int .i64 m.globs,.int .i64 m.arrs,.slice (some ⟨fg,fo,none⟩) nf cap],.int .i64 f,.int .u8 op] w fun e w'=>∃ v,e=.returned v∧Fr [] w w'∧BndsIn w' v (bnds m L op):=by
 subst htv
 subst hpv
 obtain⟨hg,ha⟩:=AI hMo.g hMo.a
 have ht:=hMo.t
 have hp:=hMo.p
 have hfn:=hMo.f.n
 have g2:(f:Int)<(nf:Int):=by omega
 have hn1000:nf≤1000:=by omega
 obtain⟨W1,hW1⟩:∃ W1,w.alloc (.cells #[.slice ta m.texts.length tc,.slice pa m.pats.length pc,.int .i64 m.globs,.int .i64 m.arrs,.slice (some ⟨fg,fo,none⟩) nf cap] 30)=W1:=⟨_,rfl⟩
 have F1:Fr [] w W1:=by rw[← hW1];exact (Fr.refl [] w).alloc _
 have k1:=wan w (.cells #[.slice ta m.texts.length tc,.slice pa m.pats.length pc,.int .i64 m.globs,.int .i64 m.arrs,.slice (some ⟨fg,fo,none⟩) nf cap] 30)
 rw[hW1] at k1
 have a0:W1.cell? ⟨w.heap.size,0,none⟩=some (.slice ta m.texts.length tc):=by unfold World.cell?;rw[k1];rfl
 have a1:W1.cell? ⟨w.heap.size,1,none⟩=some (.slice pa m.pats.length pc):=by unfold World.cell?;rw[k1];rfl
 have a2:W1.cell? ⟨w.heap.size,2,none⟩=some (.int .i64 m.globs):=by unfold World.cell?;rw[k1];rfl
 have a3:W1.cell? ⟨w.heap.size,3,none⟩=some (.int .i64 m.arrs):=by unfold World.cell?;rw[k1];rfl
 have a4:W1.cell? ⟨w.heap.size,4,none⟩=some (.slice (some ⟨fg,fo,none⟩) nf cap):=by unfold World.cell?;rw[k1];rfl
 have a5:=(F1.cell (p:=⟨fg,fo+f*3+1,none⟩) hfg (by simp)).trans hl
 have HF:Hid _:=F1
 have HB:Hid _:=fun n (h:-5000000≤n∧n≤5000000)=>below_any n W1 h
 clear F1 k1 hl hMo hfn
 subst ho
 have hr:bnds m L 44=[(1,1000)]:=by
  unfold bnds
  rw[if_neg (by decide),if_neg (by decide)]
  simp only[show sortsT.getD 44 0=8 from rfl,low,above,Nat.reduceEqDiff,if_true,if_false,← hn]
  rfl
 rw[hr]
 clear hr hn
 go_enter Tryz.func177,Tryz.ntmps177
 go_wp2
 go_ret
 exact⟨_,rfl,HF.out.trans ((Fr.refl [] W1).alloc _),bnds_one _ _ _⟩
theorem operands_op17 (tv pv:Value)(m:Mo)(w:World)(f L op:Nat)(fg fo nf cap:Nat)(hf:f<nf)(hn:nf=m.fns.length)(hfg:fg<w.heap.size)(hl:w.cell? ⟨fg,fo+f*3+1,none⟩=some (.int .i64 (L:Nat)))(hL:L≤1000)(hMo:MoOk m)(ho:op=17)
  (ta pa:Option Addr) (tc pc:Nat) (htv:tv=.slice ta m.texts.length tc) (hpv:pv=.slice pa m.pats.length pc) :
  Calls Tryz.prog 177 #[.agg #[tv,pv,.int .i64 m.globs,.int .i64 m.arrs,.slice (some ⟨fg,fo,none⟩) nf cap],.int .i64 f,.int .u8 op] w fun e w'=>∃ v,e=.returned v∧Fr [] w w'∧BndsIn w' v (bnds m L op):=by
 subst htv
 subst hpv
 obtain⟨hg,ha⟩:=AI hMo.g hMo.a
 have ht:=hMo.t
 have hp:=hMo.p
 have hfn:=hMo.f.n
 have g2:(f:Int)<(nf:Int):=by omega
 have hn1000:nf≤1000:=by omega
 obtain⟨W1,hW1⟩:∃ W1,w.alloc (.cells #[.slice ta m.texts.length tc,.slice pa m.pats.length pc,.int .i64 m.globs,.int .i64 m.arrs,.slice (some ⟨fg,fo,none⟩) nf cap] 30)=W1:=⟨_,rfl⟩
 have F1:Fr [] w W1:=by rw[← hW1];exact (Fr.refl [] w).alloc _
 have k1:=wan w (.cells #[.slice ta m.texts.length tc,.slice pa m.pats.length pc,.int .i64 m.globs,.int .i64 m.arrs,.slice (some ⟨fg,fo,none⟩) nf cap] 30)
 rw[hW1] at k1
 have a0:W1.cell? ⟨w.heap.size,0,none⟩=some (.slice ta m.texts.length tc):=by unfold World.cell?;rw[k1];rfl
 have a1:W1.cell? ⟨w.heap.size,1,none⟩=some (.slice pa m.pats.length pc):=by unfold World.cell?;rw[k1];rfl
 have a2:W1.cell? ⟨w.heap.size,2,none⟩=some (.int .i64 m.globs):=by unfold World.cell?;rw[k1];rfl
 have a3:W1.cell? ⟨w.heap.size,3,none⟩=some (.int .i64 m.arrs):=by unfold World.cell?;rw[k1];rfl
 have a4:W1.cell? ⟨w.heap.size,4,none⟩=some (.slice (some ⟨fg,fo,none⟩) nf cap):=by unfold World.cell?;rw[k1];rfl
 have a5:=(F1.cell (p:=⟨fg,fo+f*3+1,none⟩) hfg (by simp)).trans hl
 have HF:Hid _:=F1
 have HB:Hid _:=fun n (h:-5000000≤n∧n≤5000000)=>below_any n W1 h
 clear F1 k1 hl hMo hfn
 subst ho
 have hr:bnds m L 17=[(0,34359738367)]:=by
  unfold bnds
  rw[if_neg (by decide),if_neg (by decide)]
  simp only[show sortsT.getD 17 0=7 from rfl,low,above,Nat.reduceEqDiff,if_true,if_false,← hn]
  rfl
 rw[hr]
 clear hr hn
 go_enter Tryz.func177,Tryz.ntmps177
 go_wp2
 go_ret
 exact⟨_,rfl,HF.out.trans ((Fr.refl [] W1).alloc _),bnds_one _ _ _⟩
theorem operands_op48 (tv pv:Value)(m:Mo)(w:World)(f L op:Nat)(fg fo nf cap:Nat)(hf:f<nf)(hn:nf=m.fns.length)(hfg:fg<w.heap.size)(hl:w.cell? ⟨fg,fo+f*3+1,none⟩=some (.int .i64 (L:Nat)))(hL:L≤1000)(hMo:MoOk m)(ho:op=48)
  (ta pa:Option Addr) (tc pc:Nat) (htv:tv=.slice ta m.texts.length tc) (hpv:pv=.slice pa m.pats.length pc) :
  Calls Tryz.prog 177 #[.agg #[tv,pv,.int .i64 m.globs,.int .i64 m.arrs,.slice (some ⟨fg,fo,none⟩) nf cap],.int .i64 f,.int .u8 op] w fun e w'=>∃ v,e=.returned v∧Fr [] w w'∧BndsIn w' v (bnds m L op):=by
 subst htv
 subst hpv
 obtain⟨hg,ha⟩:=AI hMo.g hMo.a
 have ht:=hMo.t
 have hp:=hMo.p
 have hfn:=hMo.f.n
 have g2:(f:Int)<(nf:Int):=by omega
 have hn1000:nf≤1000:=by omega
 obtain⟨W1,hW1⟩:∃ W1,w.alloc (.cells #[.slice ta m.texts.length tc,.slice pa m.pats.length pc,.int .i64 m.globs,.int .i64 m.arrs,.slice (some ⟨fg,fo,none⟩) nf cap] 30)=W1:=⟨_,rfl⟩
 have F1:Fr [] w W1:=by rw[← hW1];exact (Fr.refl [] w).alloc _
 have k1:=wan w (.cells #[.slice ta m.texts.length tc,.slice pa m.pats.length pc,.int .i64 m.globs,.int .i64 m.arrs,.slice (some ⟨fg,fo,none⟩) nf cap] 30)
 rw[hW1] at k1
 have a0:W1.cell? ⟨w.heap.size,0,none⟩=some (.slice ta m.texts.length tc):=by unfold World.cell?;rw[k1];rfl
 have a1:W1.cell? ⟨w.heap.size,1,none⟩=some (.slice pa m.pats.length pc):=by unfold World.cell?;rw[k1];rfl
 have a2:W1.cell? ⟨w.heap.size,2,none⟩=some (.int .i64 m.globs):=by unfold World.cell?;rw[k1];rfl
 have a3:W1.cell? ⟨w.heap.size,3,none⟩=some (.int .i64 m.arrs):=by unfold World.cell?;rw[k1];rfl
 have a4:W1.cell? ⟨w.heap.size,4,none⟩=some (.slice (some ⟨fg,fo,none⟩) nf cap):=by unfold World.cell?;rw[k1];rfl
 have a5:=(F1.cell (p:=⟨fg,fo+f*3+1,none⟩) hfg (by simp)).trans hl
 have HF:Hid _:=F1
 have HB:Hid _:=fun n (h:-5000000≤n∧n≤5000000)=>below_any n W1 h
 clear F1 k1 hl hMo hfn
 subst ho
 have hr:bnds m L 48=[(0,34359738367)]:=by
  unfold bnds
  rw[if_neg (by decide),if_neg (by decide)]
  simp only[show sortsT.getD 48 0=7 from rfl,low,above,Nat.reduceEqDiff,if_true,if_false,← hn]
  rfl
 rw[hr]
 clear hr hn
 go_enter Tryz.func177,Tryz.ntmps177
 go_wp2
 go_ret
 exact⟨_,rfl,HF.out.trans ((Fr.refl [] W1).alloc _),bnds_one _ _ _⟩
theorem operands_op49 (tv pv:Value)(m:Mo)(w:World)(f L op:Nat)(fg fo nf cap:Nat)(hf:f<nf)(hn:nf=m.fns.length)(hfg:fg<w.heap.size)(hl:w.cell? ⟨fg,fo+f*3+1,none⟩=some (.int .i64 (L:Nat)))(hL:L≤1000)(hMo:MoOk m)(ho:op=49)
  (ta pa:Option Addr) (tc pc:Nat) (htv:tv=.slice ta m.texts.length tc) (hpv:pv=.slice pa m.pats.length pc) :
  Calls Tryz.prog 177 #[.agg #[tv,pv,.int .i64 m.globs,.int .i64 m.arrs,.slice (some ⟨fg,fo,none⟩) nf cap],.int .i64 f,.int .u8 op] w fun e w'=>∃ v,e=.returned v∧Fr [] w w'∧BndsIn w' v (bnds m L op):=by
 subst htv
 subst hpv
 obtain⟨hg,ha⟩:=AI hMo.g hMo.a
 have ht:=hMo.t
 have hp:=hMo.p
 have hfn:=hMo.f.n
 have g2:(f:Int)<(nf:Int):=by omega
 have hn1000:nf≤1000:=by omega
 obtain⟨W1,hW1⟩:∃ W1,w.alloc (.cells #[.slice ta m.texts.length tc,.slice pa m.pats.length pc,.int .i64 m.globs,.int .i64 m.arrs,.slice (some ⟨fg,fo,none⟩) nf cap] 30)=W1:=⟨_,rfl⟩
 have F1:Fr [] w W1:=by rw[← hW1];exact (Fr.refl [] w).alloc _
 have k1:=wan w (.cells #[.slice ta m.texts.length tc,.slice pa m.pats.length pc,.int .i64 m.globs,.int .i64 m.arrs,.slice (some ⟨fg,fo,none⟩) nf cap] 30)
 rw[hW1] at k1
 have a0:W1.cell? ⟨w.heap.size,0,none⟩=some (.slice ta m.texts.length tc):=by unfold World.cell?;rw[k1];rfl
 have a1:W1.cell? ⟨w.heap.size,1,none⟩=some (.slice pa m.pats.length pc):=by unfold World.cell?;rw[k1];rfl
 have a2:W1.cell? ⟨w.heap.size,2,none⟩=some (.int .i64 m.globs):=by unfold World.cell?;rw[k1];rfl
 have a3:W1.cell? ⟨w.heap.size,3,none⟩=some (.int .i64 m.arrs):=by unfold World.cell?;rw[k1];rfl
 have a4:W1.cell? ⟨w.heap.size,4,none⟩=some (.slice (some ⟨fg,fo,none⟩) nf cap):=by unfold World.cell?;rw[k1];rfl
 have a5:=(F1.cell (p:=⟨fg,fo+f*3+1,none⟩) hfg (by simp)).trans hl
 have HF:Hid _:=F1
 have HB:Hid _:=fun n (h:-5000000≤n∧n≤5000000)=>below_any n W1 h
 clear F1 k1 hl hMo hfn
 subst ho
 have hr:bnds m L 49=[(0,34359738367)]:=by
  unfold bnds
  rw[if_neg (by decide),if_neg (by decide)]
  simp only[show sortsT.getD 49 0=7 from rfl,low,above,Nat.reduceEqDiff,if_true,if_false,← hn]
  rfl
 rw[hr]
 clear hr hn
 go_enter Tryz.func177,Tryz.ntmps177
 go_wp2
 go_ret
 exact⟨_,rfl,HF.out.trans ((Fr.refl [] W1).alloc _),bnds_one _ _ _⟩
theorem operands_op50 (tv pv:Value)(m:Mo)(w:World)(f L op:Nat)(fg fo nf cap:Nat)(hf:f<nf)(hn:nf=m.fns.length)(hfg:fg<w.heap.size)(hl:w.cell? ⟨fg,fo+f*3+1,none⟩=some (.int .i64 (L:Nat)))(hL:L≤1000)(hMo:MoOk m)(ho:op=50)
  (ta pa:Option Addr) (tc pc:Nat) (htv:tv=.slice ta m.texts.length tc) (hpv:pv=.slice pa m.pats.length pc) :
  Calls Tryz.prog 177 #[.agg #[tv,pv,.int .i64 m.globs,.int .i64 m.arrs,.slice (some ⟨fg,fo,none⟩) nf cap],.int .i64 f,.int .u8 op] w fun e w'=>∃ v,e=.returned v∧Fr [] w w'∧BndsIn w' v (bnds m L op):=by
 subst htv
 subst hpv
 obtain⟨hg,ha⟩:=AI hMo.g hMo.a
 have ht:=hMo.t
 have hp:=hMo.p
 have hfn:=hMo.f.n
 have g2:(f:Int)<(nf:Int):=by omega
 have hn1000:nf≤1000:=by omega
 obtain⟨W1,hW1⟩:∃ W1,w.alloc (.cells #[.slice ta m.texts.length tc,.slice pa m.pats.length pc,.int .i64 m.globs,.int .i64 m.arrs,.slice (some ⟨fg,fo,none⟩) nf cap] 30)=W1:=⟨_,rfl⟩
 have F1:Fr [] w W1:=by rw[← hW1];exact (Fr.refl [] w).alloc _
 have k1:=wan w (.cells #[.slice ta m.texts.length tc,.slice pa m.pats.length pc,.int .i64 m.globs,.int .i64 m.arrs,.slice (some ⟨fg,fo,none⟩) nf cap] 30)
 rw[hW1] at k1
 have a0:W1.cell? ⟨w.heap.size,0,none⟩=some (.slice ta m.texts.length tc):=by unfold World.cell?;rw[k1];rfl
 have a1:W1.cell? ⟨w.heap.size,1,none⟩=some (.slice pa m.pats.length pc):=by unfold World.cell?;rw[k1];rfl
 have a2:W1.cell? ⟨w.heap.size,2,none⟩=some (.int .i64 m.globs):=by unfold World.cell?;rw[k1];rfl
 have a3:W1.cell? ⟨w.heap.size,3,none⟩=some (.int .i64 m.arrs):=by unfold World.cell?;rw[k1];rfl
 have a4:W1.cell? ⟨w.heap.size,4,none⟩=some (.slice (some ⟨fg,fo,none⟩) nf cap):=by unfold World.cell?;rw[k1];rfl
 have a5:=(F1.cell (p:=⟨fg,fo+f*3+1,none⟩) hfg (by simp)).trans hl
 have HF:Hid _:=F1
 have HB:Hid _:=fun n (h:-5000000≤n∧n≤5000000)=>below_any n W1 h
 clear F1 k1 hl hMo hfn
 subst ho
 have hr:bnds m L 50=[(3,(nf:Int)-1)]:=by
  unfold bnds
  rw[if_neg (by decide),if_neg (by decide)]
  simp only[show sortsT.getD 50 0=9 from rfl,low,above,Nat.reduceEqDiff,if_true,if_false,← hn]
  congr 2
 rw[hr]
 clear hr hn
 go_enter Tryz.func177,Tryz.ntmps177
 go_wp2
 go_ret
 exact⟨_,rfl,HF.out.trans ((Fr.refl [] W1).alloc _),bnds_one _ _ _⟩
theorem operands_op1 (tv pv:Value)(m:Mo)(w:World)(f L op:Nat)(fg fo nf cap:Nat)(hf:f<nf)(hn:nf=m.fns.length)(hfg:fg<w.heap.size)(hl:w.cell? ⟨fg,fo+f*3+1,none⟩=some (.int .i64 (L:Nat)))(hL:L≤1000)(hMo:MoOk m)(ho:op=1)
  (ta pa:Option Addr) (tc pc:Nat) (htv:tv=.slice ta m.texts.length tc) (hpv:pv=.slice pa m.pats.length pc) :
  Calls Tryz.prog 177 #[.agg #[tv,pv,.int .i64 m.globs,.int .i64 m.arrs,.slice (some ⟨fg,fo,none⟩) nf cap],.int .i64 f,.int .u8 op] w fun e w'=>∃ v,e=.returned v∧Fr [] w w'∧BndsIn w' v (bnds m L op):=by
 subst htv
 subst hpv
 obtain⟨hg,ha⟩:=AI hMo.g hMo.a
 have ht:=hMo.t
 have hp:=hMo.p
 have hfn:=hMo.f.n
 have g2:(f:Int)<(nf:Int):=by omega
 have hn1000:nf≤1000:=by omega
 obtain⟨W1,hW1⟩:∃ W1,w.alloc (.cells #[.slice ta m.texts.length tc,.slice pa m.pats.length pc,.int .i64 m.globs,.int .i64 m.arrs,.slice (some ⟨fg,fo,none⟩) nf cap] 30)=W1:=⟨_,rfl⟩
 have F1:Fr [] w W1:=by rw[← hW1];exact (Fr.refl [] w).alloc _
 have k1:=wan w (.cells #[.slice ta m.texts.length tc,.slice pa m.pats.length pc,.int .i64 m.globs,.int .i64 m.arrs,.slice (some ⟨fg,fo,none⟩) nf cap] 30)
 rw[hW1] at k1
 have a0:W1.cell? ⟨w.heap.size,0,none⟩=some (.slice ta m.texts.length tc):=by unfold World.cell?;rw[k1];rfl
 have a1:W1.cell? ⟨w.heap.size,1,none⟩=some (.slice pa m.pats.length pc):=by unfold World.cell?;rw[k1];rfl
 have a2:W1.cell? ⟨w.heap.size,2,none⟩=some (.int .i64 m.globs):=by unfold World.cell?;rw[k1];rfl
 have a3:W1.cell? ⟨w.heap.size,3,none⟩=some (.int .i64 m.arrs):=by unfold World.cell?;rw[k1];rfl
 have a4:W1.cell? ⟨w.heap.size,4,none⟩=some (.slice (some ⟨fg,fo,none⟩) nf cap):=by unfold World.cell?;rw[k1];rfl
 have a5:=(F1.cell (p:=⟨fg,fo+f*3+1,none⟩) hfg (by simp)).trans hl
 have HF:Hid _:=F1
 have HB:Hid _:=fun n (h:-5000000≤n∧n≤5000000)=>below_any n W1 h
 clear F1 k1 hl hMo hfn
 subst ho
 have hr:bnds m L 1=[(0,(m.texts.length:Int)-1)]:=by
  unfold bnds
  rw[if_neg (by decide),if_neg (by decide)]
  simp only[show sortsT.getD 1 0=2 from rfl,low,above,Nat.reduceEqDiff,if_true,if_false]
  rfl
 rw[hr]
 have HB1:Hid _:=fun (_:Unit)=>HB.out ((m.texts.length:Int)) (by omega)
 clear hr hn HB
 go_enter Tryz.func177,Tryz.ntmps177
 go_wp2_with fail
 refine (HB1.out ()).mono ?_
 rintro e w2 ⟨rfl,F2⟩
 clear a0 a1 a2 a3 a4 a5
 go_wp2
 go_ret
 exact⟨_,rfl,(HF.out.trans F2).trans ((Fr.refl [] w2).alloc _),bnds_one _ _ _⟩
theorem operands_op3 (tv pv:Value)(m:Mo)(w:World)(f L op:Nat)(fg fo nf cap:Nat)(hf:f<nf)(hn:nf=m.fns.length)(hfg:fg<w.heap.size)(hl:w.cell? ⟨fg,fo+f*3+1,none⟩=some (.int .i64 (L:Nat)))(hL:L≤1000)(hMo:MoOk m)(ho:op=3)
  (ta pa:Option Addr) (tc pc:Nat) (htv:tv=.slice ta m.texts.length tc) (hpv:pv=.slice pa m.pats.length pc) :
  Calls Tryz.prog 177 #[.agg #[tv,pv,.int .i64 m.globs,.int .i64 m.arrs,.slice (some ⟨fg,fo,none⟩) nf cap],.int .i64 f,.int .u8 op] w fun e w'=>∃ v,e=.returned v∧Fr [] w w'∧BndsIn w' v (bnds m L op):=by
 subst htv
 subst hpv
 obtain⟨hg,ha⟩:=AI hMo.g hMo.a
 have ht:=hMo.t
 have hp:=hMo.p
 have hfn:=hMo.f.n
 have g2:(f:Int)<(nf:Int):=by omega
 have hn1000:nf≤1000:=by omega
 obtain⟨W1,hW1⟩:∃ W1,w.alloc (.cells #[.slice ta m.texts.length tc,.slice pa m.pats.length pc,.int .i64 m.globs,.int .i64 m.arrs,.slice (some ⟨fg,fo,none⟩) nf cap] 30)=W1:=⟨_,rfl⟩
 have F1:Fr [] w W1:=by rw[← hW1];exact (Fr.refl [] w).alloc _
 have k1:=wan w (.cells #[.slice ta m.texts.length tc,.slice pa m.pats.length pc,.int .i64 m.globs,.int .i64 m.arrs,.slice (some ⟨fg,fo,none⟩) nf cap] 30)
 rw[hW1] at k1
 have a0:W1.cell? ⟨w.heap.size,0,none⟩=some (.slice ta m.texts.length tc):=by unfold World.cell?;rw[k1];rfl
 have a1:W1.cell? ⟨w.heap.size,1,none⟩=some (.slice pa m.pats.length pc):=by unfold World.cell?;rw[k1];rfl
 have a2:W1.cell? ⟨w.heap.size,2,none⟩=some (.int .i64 m.globs):=by unfold World.cell?;rw[k1];rfl
 have a3:W1.cell? ⟨w.heap.size,3,none⟩=some (.int .i64 m.arrs):=by unfold World.cell?;rw[k1];rfl
 have a4:W1.cell? ⟨w.heap.size,4,none⟩=some (.slice (some ⟨fg,fo,none⟩) nf cap):=by unfold World.cell?;rw[k1];rfl
 have a5:=(F1.cell (p:=⟨fg,fo+f*3+1,none⟩) hfg (by simp)).trans hl
 have HF:Hid _:=F1
 have HB:Hid _:=fun n (h:-5000000≤n∧n≤5000000)=>below_any n W1 h
 clear F1 k1 hl hMo hfn
 subst ho
 have hr:bnds m L 3=[(0,(L:Int)-1)]:=by
  unfold bnds
  rw[if_neg (by decide),if_neg (by decide)]
  simp only[show sortsT.getD 3 0=3 from rfl,low,above,Nat.reduceEqDiff,if_true,if_false]
  rfl
 rw[hr]
 have HB1:Hid _:=fun (_:Unit)=>HB.out ((L:Int)) (by omega)
 clear hr hn HB
 go_enter Tryz.func177,Tryz.ntmps177
 go_wp2_with fail
 refine (HB1.out ()).mono ?_
 rintro e w2 ⟨rfl,F2⟩
 clear a0 a1 a2 a3 a4 a5
 go_wp2
 go_ret
 exact⟨_,rfl,(HF.out.trans F2).trans ((Fr.refl [] w2).alloc _),bnds_one _ _ _⟩
theorem operands_op4 (tv pv:Value)(m:Mo)(w:World)(f L op:Nat)(fg fo nf cap:Nat)(hf:f<nf)(hn:nf=m.fns.length)(hfg:fg<w.heap.size)(hl:w.cell? ⟨fg,fo+f*3+1,none⟩=some (.int .i64 (L:Nat)))(hL:L≤1000)(hMo:MoOk m)(ho:op=4)
  (ta pa:Option Addr) (tc pc:Nat) (htv:tv=.slice ta m.texts.length tc) (hpv:pv=.slice pa m.pats.length pc) :
  Calls Tryz.prog 177 #[.agg #[tv,pv,.int .i64 m.globs,.int .i64 m.arrs,.slice (some ⟨fg,fo,none⟩) nf cap],.int .i64 f,.int .u8 op] w fun e w'=>∃ v,e=.returned v∧Fr [] w w'∧BndsIn w' v (bnds m L op):=by
 subst htv
 subst hpv
 obtain⟨hg,ha⟩:=AI hMo.g hMo.a
 have ht:=hMo.t
 have hp:=hMo.p
 have hfn:=hMo.f.n
 have g2:(f:Int)<(nf:Int):=by omega
 have hn1000:nf≤1000:=by omega
 obtain⟨W1,hW1⟩:∃ W1,w.alloc (.cells #[.slice ta m.texts.length tc,.slice pa m.pats.length pc,.int .i64 m.globs,.int .i64 m.arrs,.slice (some ⟨fg,fo,none⟩) nf cap] 30)=W1:=⟨_,rfl⟩
 have F1:Fr [] w W1:=by rw[← hW1];exact (Fr.refl [] w).alloc _
 have k1:=wan w (.cells #[.slice ta m.texts.length tc,.slice pa m.pats.length pc,.int .i64 m.globs,.int .i64 m.arrs,.slice (some ⟨fg,fo,none⟩) nf cap] 30)
 rw[hW1] at k1
 have a0:W1.cell? ⟨w.heap.size,0,none⟩=some (.slice ta m.texts.length tc):=by unfold World.cell?;rw[k1];rfl
 have a1:W1.cell? ⟨w.heap.size,1,none⟩=some (.slice pa m.pats.length pc):=by unfold World.cell?;rw[k1];rfl
 have a2:W1.cell? ⟨w.heap.size,2,none⟩=some (.int .i64 m.globs):=by unfold World.cell?;rw[k1];rfl
 have a3:W1.cell? ⟨w.heap.size,3,none⟩=some (.int .i64 m.arrs):=by unfold World.cell?;rw[k1];rfl
 have a4:W1.cell? ⟨w.heap.size,4,none⟩=some (.slice (some ⟨fg,fo,none⟩) nf cap):=by unfold World.cell?;rw[k1];rfl
 have a5:=(F1.cell (p:=⟨fg,fo+f*3+1,none⟩) hfg (by simp)).trans hl
 have HF:Hid _:=F1
 have HB:Hid _:=fun n (h:-5000000≤n∧n≤5000000)=>below_any n W1 h
 clear F1 k1 hl hMo hfn
 subst ho
 have hr:bnds m L 4=[(0,(L:Int)-1)]:=by
  unfold bnds
  rw[if_neg (by decide),if_neg (by decide)]
  simp only[show sortsT.getD 4 0=3 from rfl,low,above,Nat.reduceEqDiff,if_true,if_false]
  rfl
 rw[hr]
 have HB1:Hid _:=fun (_:Unit)=>HB.out ((L:Int)) (by omega)
 clear hr hn HB
 go_enter Tryz.func177,Tryz.ntmps177
 go_wp2_with fail
 refine (HB1.out ()).mono ?_
 rintro e w2 ⟨rfl,F2⟩
 clear a0 a1 a2 a3 a4 a5
 go_wp2
 go_ret
 exact⟨_,rfl,(HF.out.trans F2).trans ((Fr.refl [] w2).alloc _),bnds_one _ _ _⟩
theorem operands_op5 (tv pv:Value)(m:Mo)(w:World)(f L op:Nat)(fg fo nf cap:Nat)(hf:f<nf)(hn:nf=m.fns.length)(hfg:fg<w.heap.size)(hl:w.cell? ⟨fg,fo+f*3+1,none⟩=some (.int .i64 (L:Nat)))(hL:L≤1000)(hMo:MoOk m)(ho:op=5)
  (ta pa:Option Addr) (tc pc:Nat) (htv:tv=.slice ta m.texts.length tc) (hpv:pv=.slice pa m.pats.length pc) :
  Calls Tryz.prog 177 #[.agg #[tv,pv,.int .i64 m.globs,.int .i64 m.arrs,.slice (some ⟨fg,fo,none⟩) nf cap],.int .i64 f,.int .u8 op] w fun e w'=>∃ v,e=.returned v∧Fr [] w w'∧BndsIn w' v (bnds m L op):=by
 subst htv
 subst hpv
 obtain⟨hg,ha⟩:=AI hMo.g hMo.a
 have ht:=hMo.t
 have hp:=hMo.p
 have hfn:=hMo.f.n
 have g2:(f:Int)<(nf:Int):=by omega
 have hn1000:nf≤1000:=by omega
 obtain⟨W1,hW1⟩:∃ W1,w.alloc (.cells #[.slice ta m.texts.length tc,.slice pa m.pats.length pc,.int .i64 m.globs,.int .i64 m.arrs,.slice (some ⟨fg,fo,none⟩) nf cap] 30)=W1:=⟨_,rfl⟩
 have F1:Fr [] w W1:=by rw[← hW1];exact (Fr.refl [] w).alloc _
 have k1:=wan w (.cells #[.slice ta m.texts.length tc,.slice pa m.pats.length pc,.int .i64 m.globs,.int .i64 m.arrs,.slice (some ⟨fg,fo,none⟩) nf cap] 30)
 rw[hW1] at k1
 have a0:W1.cell? ⟨w.heap.size,0,none⟩=some (.slice ta m.texts.length tc):=by unfold World.cell?;rw[k1];rfl
 have a1:W1.cell? ⟨w.heap.size,1,none⟩=some (.slice pa m.pats.length pc):=by unfold World.cell?;rw[k1];rfl
 have a2:W1.cell? ⟨w.heap.size,2,none⟩=some (.int .i64 m.globs):=by unfold World.cell?;rw[k1];rfl
 have a3:W1.cell? ⟨w.heap.size,3,none⟩=some (.int .i64 m.arrs):=by unfold World.cell?;rw[k1];rfl
 have a4:W1.cell? ⟨w.heap.size,4,none⟩=some (.slice (some ⟨fg,fo,none⟩) nf cap):=by unfold World.cell?;rw[k1];rfl
 have a5:=(F1.cell (p:=⟨fg,fo+f*3+1,none⟩) hfg (by simp)).trans hl
 have HF:Hid _:=F1
 have HB:Hid _:=fun n (h:-5000000≤n∧n≤5000000)=>below_any n W1 h
 clear F1 k1 hl hMo hfn
 subst ho
 have hr:bnds m L 5=[(0,m.globs-1)]:=by
  unfold bnds
  rw[if_neg (by decide),if_neg (by decide)]
  simp only[show sortsT.getD 5 0=4 from rfl,low,above,Nat.reduceEqDiff,if_true,if_false]
  congr 2
  omega
 rw[hr]
 have HB1:Hid _:=fun (_:Unit)=>HB.out (m.globs) (by omega)
 clear hr hn HB
 go_enter Tryz.func177,Tryz.ntmps177
 go_wp2_with fail
 refine (HB1.out ()).mono ?_
 rintro e w2 ⟨rfl,F2⟩
 clear a0 a1 a2 a3 a4 a5
 go_wp2
 go_ret
 exact⟨_,rfl,(HF.out.trans F2).trans ((Fr.refl [] w2).alloc _),bnds_one _ _ _⟩
theorem operands_op6 (tv pv:Value)(m:Mo)(w:World)(f L op:Nat)(fg fo nf cap:Nat)(hf:f<nf)(hn:nf=m.fns.length)(hfg:fg<w.heap.size)(hl:w.cell? ⟨fg,fo+f*3+1,none⟩=some (.int .i64 (L:Nat)))(hL:L≤1000)(hMo:MoOk m)(ho:op=6)
  (ta pa:Option Addr) (tc pc:Nat) (htv:tv=.slice ta m.texts.length tc) (hpv:pv=.slice pa m.pats.length pc) :
  Calls Tryz.prog 177 #[.agg #[tv,pv,.int .i64 m.globs,.int .i64 m.arrs,.slice (some ⟨fg,fo,none⟩) nf cap],.int .i64 f,.int .u8 op] w fun e w'=>∃ v,e=.returned v∧Fr [] w w'∧BndsIn w' v (bnds m L op):=by
 subst htv
 subst hpv
 obtain⟨hg,ha⟩:=AI hMo.g hMo.a
 have ht:=hMo.t
 have hp:=hMo.p
 have hfn:=hMo.f.n
 have g2:(f:Int)<(nf:Int):=by omega
 have hn1000:nf≤1000:=by omega
 obtain⟨W1,hW1⟩:∃ W1,w.alloc (.cells #[.slice ta m.texts.length tc,.slice pa m.pats.length pc,.int .i64 m.globs,.int .i64 m.arrs,.slice (some ⟨fg,fo,none⟩) nf cap] 30)=W1:=⟨_,rfl⟩
 have F1:Fr [] w W1:=by rw[← hW1];exact (Fr.refl [] w).alloc _
 have k1:=wan w (.cells #[.slice ta m.texts.length tc,.slice pa m.pats.length pc,.int .i64 m.globs,.int .i64 m.arrs,.slice (some ⟨fg,fo,none⟩) nf cap] 30)
 rw[hW1] at k1
 have a0:W1.cell? ⟨w.heap.size,0,none⟩=some (.slice ta m.texts.length tc):=by unfold World.cell?;rw[k1];rfl
 have a1:W1.cell? ⟨w.heap.size,1,none⟩=some (.slice pa m.pats.length pc):=by unfold World.cell?;rw[k1];rfl
 have a2:W1.cell? ⟨w.heap.size,2,none⟩=some (.int .i64 m.globs):=by unfold World.cell?;rw[k1];rfl
 have a3:W1.cell? ⟨w.heap.size,3,none⟩=some (.int .i64 m.arrs):=by unfold World.cell?;rw[k1];rfl
 have a4:W1.cell? ⟨w.heap.size,4,none⟩=some (.slice (some ⟨fg,fo,none⟩) nf cap):=by unfold World.cell?;rw[k1];rfl
 have a5:=(F1.cell (p:=⟨fg,fo+f*3+1,none⟩) hfg (by simp)).trans hl
 have HF:Hid _:=F1
 have HB:Hid _:=fun n (h:-5000000≤n∧n≤5000000)=>below_any n W1 h
 clear F1 k1 hl hMo hfn
 subst ho
 have hr:bnds m L 6=[(0,m.globs-1)]:=by
  unfold bnds
  rw[if_neg (by decide),if_neg (by decide)]
  simp only[show sortsT.getD 6 0=4 from rfl,low,above,Nat.reduceEqDiff,if_true,if_false]
  congr 2
  omega
 rw[hr]
 have HB1:Hid _:=fun (_:Unit)=>HB.out (m.globs) (by omega)
 clear hr hn HB
 go_enter Tryz.func177,Tryz.ntmps177
 go_wp2_with fail
 refine (HB1.out ()).mono ?_
 rintro e w2 ⟨rfl,F2⟩
 clear a0 a1 a2 a3 a4 a5
 go_wp2
 go_ret
 exact⟨_,rfl,(HF.out.trans F2).trans ((Fr.refl [] w2).alloc _),bnds_one _ _ _⟩
theorem operands_op11 (tv pv:Value)(m:Mo)(w:World)(f L op:Nat)(fg fo nf cap:Nat)(hf:f<nf)(hn:nf=m.fns.length)(hfg:fg<w.heap.size)(hl:w.cell? ⟨fg,fo+f*3+1,none⟩=some (.int .i64 (L:Nat)))(hL:L≤1000)(hMo:MoOk m)(ho:op=11)
  (ta pa:Option Addr) (tc pc:Nat) (htv:tv=.slice ta m.texts.length tc) (hpv:pv=.slice pa m.pats.length pc) :
  Calls Tryz.prog 177 #[.agg #[tv,pv,.int .i64 m.globs,.int .i64 m.arrs,.slice (some ⟨fg,fo,none⟩) nf cap],.int .i64 f,.int .u8 op] w fun e w'=>∃ v,e=.returned v∧Fr [] w w'∧BndsIn w' v (bnds m L op):=by
 subst htv
 subst hpv
 obtain⟨hg,ha⟩:=AI hMo.g hMo.a
 have ht:=hMo.t
 have hp:=hMo.p
 have hfn:=hMo.f.n
 have g2:(f:Int)<(nf:Int):=by omega
 have hn1000:nf≤1000:=by omega
 obtain⟨W1,hW1⟩:∃ W1,w.alloc (.cells #[.slice ta m.texts.length tc,.slice pa m.pats.length pc,.int .i64 m.globs,.int .i64 m.arrs,.slice (some ⟨fg,fo,none⟩) nf cap] 30)=W1:=⟨_,rfl⟩
 have F1:Fr [] w W1:=by rw[← hW1];exact (Fr.refl [] w).alloc _
 have k1:=wan w (.cells #[.slice ta m.texts.length tc,.slice pa m.pats.length pc,.int .i64 m.globs,.int .i64 m.arrs,.slice (some ⟨fg,fo,none⟩) nf cap] 30)
 rw[hW1] at k1
 have a0:W1.cell? ⟨w.heap.size,0,none⟩=some (.slice ta m.texts.length tc):=by unfold World.cell?;rw[k1];rfl
 have a1:W1.cell? ⟨w.heap.size,1,none⟩=some (.slice pa m.pats.length pc):=by unfold World.cell?;rw[k1];rfl
 have a2:W1.cell? ⟨w.heap.size,2,none⟩=some (.int .i64 m.globs):=by unfold World.cell?;rw[k1];rfl
 have a3:W1.cell? ⟨w.heap.size,3,none⟩=some (.int .i64 m.arrs):=by unfold World.cell?;rw[k1];rfl
 have a4:W1.cell? ⟨w.heap.size,4,none⟩=some (.slice (some ⟨fg,fo,none⟩) nf cap):=by unfold World.cell?;rw[k1];rfl
 have a5:=(F1.cell (p:=⟨fg,fo+f*3+1,none⟩) hfg (by simp)).trans hl
 have HF:Hid _:=F1
 have HB:Hid _:=fun n (h:-5000000≤n∧n≤5000000)=>below_any n W1 h
 clear F1 k1 hl hMo hfn
 subst ho
 have hr:bnds m L 11=[(0,m.arrs-1)]:=by
  unfold bnds
  rw[if_neg (by decide),if_neg (by decide)]
  simp only[show sortsT.getD 11 0=5 from rfl,low,above,Nat.reduceEqDiff,if_true,if_false]
  congr 2
  omega
 rw[hr]
 have HB1:Hid _:=fun (_:Unit)=>HB.out (m.arrs) (by omega)
 clear hr hn HB
 go_enter Tryz.func177,Tryz.ntmps177
 go_wp2_with fail
 refine (HB1.out ()).mono ?_
 rintro e w2 ⟨rfl,F2⟩
 clear a0 a1 a2 a3 a4 a5
 go_wp2
 go_ret
 exact⟨_,rfl,(HF.out.trans F2).trans ((Fr.refl [] w2).alloc _),bnds_one _ _ _⟩
theorem operands_op12 (tv pv:Value)(m:Mo)(w:World)(f L op:Nat)(fg fo nf cap:Nat)(hf:f<nf)(hn:nf=m.fns.length)(hfg:fg<w.heap.size)(hl:w.cell? ⟨fg,fo+f*3+1,none⟩=some (.int .i64 (L:Nat)))(hL:L≤1000)(hMo:MoOk m)(ho:op=12)
  (ta pa:Option Addr) (tc pc:Nat) (htv:tv=.slice ta m.texts.length tc) (hpv:pv=.slice pa m.pats.length pc) :
  Calls Tryz.prog 177 #[.agg #[tv,pv,.int .i64 m.globs,.int .i64 m.arrs,.slice (some ⟨fg,fo,none⟩) nf cap],.int .i64 f,.int .u8 op] w fun e w'=>∃ v,e=.returned v∧Fr [] w w'∧BndsIn w' v (bnds m L op):=by
 subst htv
 subst hpv
 obtain⟨hg,ha⟩:=AI hMo.g hMo.a
 have ht:=hMo.t
 have hp:=hMo.p
 have hfn:=hMo.f.n
 have g2:(f:Int)<(nf:Int):=by omega
 have hn1000:nf≤1000:=by omega
 obtain⟨W1,hW1⟩:∃ W1,w.alloc (.cells #[.slice ta m.texts.length tc,.slice pa m.pats.length pc,.int .i64 m.globs,.int .i64 m.arrs,.slice (some ⟨fg,fo,none⟩) nf cap] 30)=W1:=⟨_,rfl⟩
 have F1:Fr [] w W1:=by rw[← hW1];exact (Fr.refl [] w).alloc _
 have k1:=wan w (.cells #[.slice ta m.texts.length tc,.slice pa m.pats.length pc,.int .i64 m.globs,.int .i64 m.arrs,.slice (some ⟨fg,fo,none⟩) nf cap] 30)
 rw[hW1] at k1
 have a0:W1.cell? ⟨w.heap.size,0,none⟩=some (.slice ta m.texts.length tc):=by unfold World.cell?;rw[k1];rfl
 have a1:W1.cell? ⟨w.heap.size,1,none⟩=some (.slice pa m.pats.length pc):=by unfold World.cell?;rw[k1];rfl
 have a2:W1.cell? ⟨w.heap.size,2,none⟩=some (.int .i64 m.globs):=by unfold World.cell?;rw[k1];rfl
 have a3:W1.cell? ⟨w.heap.size,3,none⟩=some (.int .i64 m.arrs):=by unfold World.cell?;rw[k1];rfl
 have a4:W1.cell? ⟨w.heap.size,4,none⟩=some (.slice (some ⟨fg,fo,none⟩) nf cap):=by unfold World.cell?;rw[k1];rfl
 have a5:=(F1.cell (p:=⟨fg,fo+f*3+1,none⟩) hfg (by simp)).trans hl
 have HF:Hid _:=F1
 have HB:Hid _:=fun n (h:-5000000≤n∧n≤5000000)=>below_any n W1 h
 clear F1 k1 hl hMo hfn
 subst ho
 have hr:bnds m L 12=[(0,m.arrs-1)]:=by
  unfold bnds
  rw[if_neg (by decide),if_neg (by decide)]
  simp only[show sortsT.getD 12 0=5 from rfl,low,above,Nat.reduceEqDiff,if_true,if_false]
  congr 2
  omega
 rw[hr]
 have HB1:Hid _:=fun (_:Unit)=>HB.out (m.arrs) (by omega)
 clear hr hn HB
 go_enter Tryz.func177,Tryz.ntmps177
 go_wp2_with fail
 refine (HB1.out ()).mono ?_
 rintro e w2 ⟨rfl,F2⟩
 clear a0 a1 a2 a3 a4 a5
 go_wp2
 go_ret
 exact⟨_,rfl,(HF.out.trans F2).trans ((Fr.refl [] w2).alloc _),bnds_one _ _ _⟩
theorem operands_op13 (tv pv:Value)(m:Mo)(w:World)(f L op:Nat)(fg fo nf cap:Nat)(hf:f<nf)(hn:nf=m.fns.length)(hfg:fg<w.heap.size)(hl:w.cell? ⟨fg,fo+f*3+1,none⟩=some (.int .i64 (L:Nat)))(hL:L≤1000)(hMo:MoOk m)(ho:op=13)
  (ta pa:Option Addr) (tc pc:Nat) (htv:tv=.slice ta m.texts.length tc) (hpv:pv=.slice pa m.pats.length pc) :
  Calls Tryz.prog 177 #[.agg #[tv,pv,.int .i64 m.globs,.int .i64 m.arrs,.slice (some ⟨fg,fo,none⟩) nf cap],.int .i64 f,.int .u8 op] w fun e w'=>∃ v,e=.returned v∧Fr [] w w'∧BndsIn w' v (bnds m L op):=by
 subst htv
 subst hpv
 obtain⟨hg,ha⟩:=AI hMo.g hMo.a
 have ht:=hMo.t
 have hp:=hMo.p
 have hfn:=hMo.f.n
 have g2:(f:Int)<(nf:Int):=by omega
 have hn1000:nf≤1000:=by omega
 obtain⟨W1,hW1⟩:∃ W1,w.alloc (.cells #[.slice ta m.texts.length tc,.slice pa m.pats.length pc,.int .i64 m.globs,.int .i64 m.arrs,.slice (some ⟨fg,fo,none⟩) nf cap] 30)=W1:=⟨_,rfl⟩
 have F1:Fr [] w W1:=by rw[← hW1];exact (Fr.refl [] w).alloc _
 have k1:=wan w (.cells #[.slice ta m.texts.length tc,.slice pa m.pats.length pc,.int .i64 m.globs,.int .i64 m.arrs,.slice (some ⟨fg,fo,none⟩) nf cap] 30)
 rw[hW1] at k1
 have a0:W1.cell? ⟨w.heap.size,0,none⟩=some (.slice ta m.texts.length tc):=by unfold World.cell?;rw[k1];rfl
 have a1:W1.cell? ⟨w.heap.size,1,none⟩=some (.slice pa m.pats.length pc):=by unfold World.cell?;rw[k1];rfl
 have a2:W1.cell? ⟨w.heap.size,2,none⟩=some (.int .i64 m.globs):=by unfold World.cell?;rw[k1];rfl
 have a3:W1.cell? ⟨w.heap.size,3,none⟩=some (.int .i64 m.arrs):=by unfold World.cell?;rw[k1];rfl
 have a4:W1.cell? ⟨w.heap.size,4,none⟩=some (.slice (some ⟨fg,fo,none⟩) nf cap):=by unfold World.cell?;rw[k1];rfl
 have a5:=(F1.cell (p:=⟨fg,fo+f*3+1,none⟩) hfg (by simp)).trans hl
 have HF:Hid _:=F1
 have HB:Hid _:=fun n (h:-5000000≤n∧n≤5000000)=>below_any n W1 h
 clear F1 k1 hl hMo hfn
 subst ho
 have hr:bnds m L 13=[(0,m.arrs-1)]:=by
  unfold bnds
  rw[if_neg (by decide),if_neg (by decide)]
  simp only[show sortsT.getD 13 0=5 from rfl,low,above,Nat.reduceEqDiff,if_true,if_false]
  congr 2
  omega
 rw[hr]
 have HB1:Hid _:=fun (_:Unit)=>HB.out (m.arrs) (by omega)
 clear hr hn HB
 go_enter Tryz.func177,Tryz.ntmps177
 go_wp2_with fail
 refine (HB1.out ()).mono ?_
 rintro e w2 ⟨rfl,F2⟩
 clear a0 a1 a2 a3 a4 a5
 go_wp2
 go_ret
 exact⟨_,rfl,(HF.out.trans F2).trans ((Fr.refl [] w2).alloc _),bnds_one _ _ _⟩
theorem operands_op14 (tv pv:Value)(m:Mo)(w:World)(f L op:Nat)(fg fo nf cap:Nat)(hf:f<nf)(hn:nf=m.fns.length)(hfg:fg<w.heap.size)(hl:w.cell? ⟨fg,fo+f*3+1,none⟩=some (.int .i64 (L:Nat)))(hL:L≤1000)(hMo:MoOk m)(ho:op=14)
  (ta pa:Option Addr) (tc pc:Nat) (htv:tv=.slice ta m.texts.length tc) (hpv:pv=.slice pa m.pats.length pc) :
  Calls Tryz.prog 177 #[.agg #[tv,pv,.int .i64 m.globs,.int .i64 m.arrs,.slice (some ⟨fg,fo,none⟩) nf cap],.int .i64 f,.int .u8 op] w fun e w'=>∃ v,e=.returned v∧Fr [] w w'∧BndsIn w' v (bnds m L op):=by
 subst htv
 subst hpv
 obtain⟨hg,ha⟩:=AI hMo.g hMo.a
 have ht:=hMo.t
 have hp:=hMo.p
 have hfn:=hMo.f.n
 have g2:(f:Int)<(nf:Int):=by omega
 have hn1000:nf≤1000:=by omega
 obtain⟨W1,hW1⟩:∃ W1,w.alloc (.cells #[.slice ta m.texts.length tc,.slice pa m.pats.length pc,.int .i64 m.globs,.int .i64 m.arrs,.slice (some ⟨fg,fo,none⟩) nf cap] 30)=W1:=⟨_,rfl⟩
 have F1:Fr [] w W1:=by rw[← hW1];exact (Fr.refl [] w).alloc _
 have k1:=wan w (.cells #[.slice ta m.texts.length tc,.slice pa m.pats.length pc,.int .i64 m.globs,.int .i64 m.arrs,.slice (some ⟨fg,fo,none⟩) nf cap] 30)
 rw[hW1] at k1
 have a0:W1.cell? ⟨w.heap.size,0,none⟩=some (.slice ta m.texts.length tc):=by unfold World.cell?;rw[k1];rfl
 have a1:W1.cell? ⟨w.heap.size,1,none⟩=some (.slice pa m.pats.length pc):=by unfold World.cell?;rw[k1];rfl
 have a2:W1.cell? ⟨w.heap.size,2,none⟩=some (.int .i64 m.globs):=by unfold World.cell?;rw[k1];rfl
 have a3:W1.cell? ⟨w.heap.size,3,none⟩=some (.int .i64 m.arrs):=by unfold World.cell?;rw[k1];rfl
 have a4:W1.cell? ⟨w.heap.size,4,none⟩=some (.slice (some ⟨fg,fo,none⟩) nf cap):=by unfold World.cell?;rw[k1];rfl
 have a5:=(F1.cell (p:=⟨fg,fo+f*3+1,none⟩) hfg (by simp)).trans hl
 have HF:Hid _:=F1
 have HB:Hid _:=fun n (h:-5000000≤n∧n≤5000000)=>below_any n W1 h
 clear F1 k1 hl hMo hfn
 subst ho
 have hr:bnds m L 14=[(0,m.arrs-1)]:=by
  unfold bnds
  rw[if_neg (by decide),if_neg (by decide)]
  simp only[show sortsT.getD 14 0=5 from rfl,low,above,Nat.reduceEqDiff,if_true,if_false]
  congr 2
  omega
 rw[hr]
 have HB1:Hid _:=fun (_:Unit)=>HB.out (m.arrs) (by omega)
 clear hr hn HB
 go_enter Tryz.func177,Tryz.ntmps177
 go_wp2_with fail
 refine (HB1.out ()).mono ?_
 rintro e w2 ⟨rfl,F2⟩
 clear a0 a1 a2 a3 a4 a5
 go_wp2
 go_ret
 exact⟨_,rfl,(HF.out.trans F2).trans ((Fr.refl [] w2).alloc _),bnds_one _ _ _⟩
theorem operands_op15 (tv pv:Value)(m:Mo)(w:World)(f L op:Nat)(fg fo nf cap:Nat)(hf:f<nf)(hn:nf=m.fns.length)(hfg:fg<w.heap.size)(hl:w.cell? ⟨fg,fo+f*3+1,none⟩=some (.int .i64 (L:Nat)))(hL:L≤1000)(hMo:MoOk m)(ho:op=15)
  (ta pa:Option Addr) (tc pc:Nat) (htv:tv=.slice ta m.texts.length tc) (hpv:pv=.slice pa m.pats.length pc) :
  Calls Tryz.prog 177 #[.agg #[tv,pv,.int .i64 m.globs,.int .i64 m.arrs,.slice (some ⟨fg,fo,none⟩) nf cap],.int .i64 f,.int .u8 op] w fun e w'=>∃ v,e=.returned v∧Fr [] w w'∧BndsIn w' v (bnds m L op):=by
 subst htv
 subst hpv
 obtain⟨hg,ha⟩:=AI hMo.g hMo.a
 have ht:=hMo.t
 have hp:=hMo.p
 have hfn:=hMo.f.n
 have g2:(f:Int)<(nf:Int):=by omega
 have hn1000:nf≤1000:=by omega
 obtain⟨W1,hW1⟩:∃ W1,w.alloc (.cells #[.slice ta m.texts.length tc,.slice pa m.pats.length pc,.int .i64 m.globs,.int .i64 m.arrs,.slice (some ⟨fg,fo,none⟩) nf cap] 30)=W1:=⟨_,rfl⟩
 have F1:Fr [] w W1:=by rw[← hW1];exact (Fr.refl [] w).alloc _
 have k1:=wan w (.cells #[.slice ta m.texts.length tc,.slice pa m.pats.length pc,.int .i64 m.globs,.int .i64 m.arrs,.slice (some ⟨fg,fo,none⟩) nf cap] 30)
 rw[hW1] at k1
 have a0:W1.cell? ⟨w.heap.size,0,none⟩=some (.slice ta m.texts.length tc):=by unfold World.cell?;rw[k1];rfl
 have a1:W1.cell? ⟨w.heap.size,1,none⟩=some (.slice pa m.pats.length pc):=by unfold World.cell?;rw[k1];rfl
 have a2:W1.cell? ⟨w.heap.size,2,none⟩=some (.int .i64 m.globs):=by unfold World.cell?;rw[k1];rfl
 have a3:W1.cell? ⟨w.heap.size,3,none⟩=some (.int .i64 m.arrs):=by unfold World.cell?;rw[k1];rfl
 have a4:W1.cell? ⟨w.heap.size,4,none⟩=some (.slice (some ⟨fg,fo,none⟩) nf cap):=by unfold World.cell?;rw[k1];rfl
 have a5:=(F1.cell (p:=⟨fg,fo+f*3+1,none⟩) hfg (by simp)).trans hl
 have HF:Hid _:=F1
 have HB:Hid _:=fun n (h:-5000000≤n∧n≤5000000)=>below_any n W1 h
 clear F1 k1 hl hMo hfn
 subst ho
 have hr:bnds m L 15=[(0,m.arrs-1)]:=by
  unfold bnds
  rw[if_neg (by decide),if_neg (by decide)]
  simp only[show sortsT.getD 15 0=5 from rfl,low,above,Nat.reduceEqDiff,if_true,if_false]
  congr 2
  omega
 rw[hr]
 have HB1:Hid _:=fun (_:Unit)=>HB.out (m.arrs) (by omega)
 clear hr hn HB
 go_enter Tryz.func177,Tryz.ntmps177
 go_wp2_with fail
 refine (HB1.out ()).mono ?_
 rintro e w2 ⟨rfl,F2⟩
 clear a0 a1 a2 a3 a4 a5
 go_wp2
 go_ret
 exact⟨_,rfl,(HF.out.trans F2).trans ((Fr.refl [] w2).alloc _),bnds_one _ _ _⟩
theorem operands_op16 (tv pv:Value)(m:Mo)(w:World)(f L op:Nat)(fg fo nf cap:Nat)(hf:f<nf)(hn:nf=m.fns.length)(hfg:fg<w.heap.size)(hl:w.cell? ⟨fg,fo+f*3+1,none⟩=some (.int .i64 (L:Nat)))(hL:L≤1000)(hMo:MoOk m)(ho:op=16)
  (ta pa:Option Addr) (tc pc:Nat) (htv:tv=.slice ta m.texts.length tc) (hpv:pv=.slice pa m.pats.length pc) :
  Calls Tryz.prog 177 #[.agg #[tv,pv,.int .i64 m.globs,.int .i64 m.arrs,.slice (some ⟨fg,fo,none⟩) nf cap],.int .i64 f,.int .u8 op] w fun e w'=>∃ v,e=.returned v∧Fr [] w w'∧BndsIn w' v (bnds m L op):=by
 subst htv
 subst hpv
 obtain⟨hg,ha⟩:=AI hMo.g hMo.a
 have ht:=hMo.t
 have hp:=hMo.p
 have hfn:=hMo.f.n
 have g2:(f:Int)<(nf:Int):=by omega
 have hn1000:nf≤1000:=by omega
 obtain⟨W1,hW1⟩:∃ W1,w.alloc (.cells #[.slice ta m.texts.length tc,.slice pa m.pats.length pc,.int .i64 m.globs,.int .i64 m.arrs,.slice (some ⟨fg,fo,none⟩) nf cap] 30)=W1:=⟨_,rfl⟩
 have F1:Fr [] w W1:=by rw[← hW1];exact (Fr.refl [] w).alloc _
 have k1:=wan w (.cells #[.slice ta m.texts.length tc,.slice pa m.pats.length pc,.int .i64 m.globs,.int .i64 m.arrs,.slice (some ⟨fg,fo,none⟩) nf cap] 30)
 rw[hW1] at k1
 have a0:W1.cell? ⟨w.heap.size,0,none⟩=some (.slice ta m.texts.length tc):=by unfold World.cell?;rw[k1];rfl
 have a1:W1.cell? ⟨w.heap.size,1,none⟩=some (.slice pa m.pats.length pc):=by unfold World.cell?;rw[k1];rfl
 have a2:W1.cell? ⟨w.heap.size,2,none⟩=some (.int .i64 m.globs):=by unfold World.cell?;rw[k1];rfl
 have a3:W1.cell? ⟨w.heap.size,3,none⟩=some (.int .i64 m.arrs):=by unfold World.cell?;rw[k1];rfl
 have a4:W1.cell? ⟨w.heap.size,4,none⟩=some (.slice (some ⟨fg,fo,none⟩) nf cap):=by unfold World.cell?;rw[k1];rfl
 have a5:=(F1.cell (p:=⟨fg,fo+f*3+1,none⟩) hfg (by simp)).trans hl
 have HF:Hid _:=F1
 have HB:Hid _:=fun n (h:-5000000≤n∧n≤5000000)=>below_any n W1 h
 clear F1 k1 hl hMo hfn
 subst ho
 have hr:bnds m L 16=[(0,m.arrs-1)]:=by
  unfold bnds
  rw[if_neg (by decide),if_neg (by decide)]
  simp only[show sortsT.getD 16 0=5 from rfl,low,above,Nat.reduceEqDiff,if_true,if_false]
  congr 2
  omega
 rw[hr]
 have HB1:Hid _:=fun (_:Unit)=>HB.out (m.arrs) (by omega)
 clear hr hn HB
 go_enter Tryz.func177,Tryz.ntmps177
 go_wp2_with fail
 refine (HB1.out ()).mono ?_
 rintro e w2 ⟨rfl,F2⟩
 clear a0 a1 a2 a3 a4 a5
 go_wp2
 go_ret
 exact⟨_,rfl,(HF.out.trans F2).trans ((Fr.refl [] w2).alloc _),bnds_one _ _ _⟩
theorem operands_op35 (tv pv:Value)(m:Mo)(w:World)(f L op:Nat)(fg fo nf cap:Nat)(hf:f<nf)(hn:nf=m.fns.length)(hfg:fg<w.heap.size)(hl:w.cell? ⟨fg,fo+f*3+1,none⟩=some (.int .i64 (L:Nat)))(hL:L≤1000)(hMo:MoOk m)(ho:op=35)
  (ta pa:Option Addr) (tc pc:Nat) (htv:tv=.slice ta m.texts.length tc) (hpv:pv=.slice pa m.pats.length pc) :
  Calls Tryz.prog 177 #[.agg #[tv,pv,.int .i64 m.globs,.int .i64 m.arrs,.slice (some ⟨fg,fo,none⟩) nf cap],.int .i64 f,.int .u8 op] w fun e w'=>∃ v,e=.returned v∧Fr [] w w'∧BndsIn w' v (bnds m L op):=by
 subst htv
 subst hpv
 obtain⟨hg,ha⟩:=AI hMo.g hMo.a
 have ht:=hMo.t
 have hp:=hMo.p
 have hfn:=hMo.f.n
 have g2:(f:Int)<(nf:Int):=by omega
 have hn1000:nf≤1000:=by omega
 obtain⟨W1,hW1⟩:∃ W1,w.alloc (.cells #[.slice ta m.texts.length tc,.slice pa m.pats.length pc,.int .i64 m.globs,.int .i64 m.arrs,.slice (some ⟨fg,fo,none⟩) nf cap] 30)=W1:=⟨_,rfl⟩
 have F1:Fr [] w W1:=by rw[← hW1];exact (Fr.refl [] w).alloc _
 have k1:=wan w (.cells #[.slice ta m.texts.length tc,.slice pa m.pats.length pc,.int .i64 m.globs,.int .i64 m.arrs,.slice (some ⟨fg,fo,none⟩) nf cap] 30)
 rw[hW1] at k1
 have a0:W1.cell? ⟨w.heap.size,0,none⟩=some (.slice ta m.texts.length tc):=by unfold World.cell?;rw[k1];rfl
 have a1:W1.cell? ⟨w.heap.size,1,none⟩=some (.slice pa m.pats.length pc):=by unfold World.cell?;rw[k1];rfl
 have a2:W1.cell? ⟨w.heap.size,2,none⟩=some (.int .i64 m.globs):=by unfold World.cell?;rw[k1];rfl
 have a3:W1.cell? ⟨w.heap.size,3,none⟩=some (.int .i64 m.arrs):=by unfold World.cell?;rw[k1];rfl
 have a4:W1.cell? ⟨w.heap.size,4,none⟩=some (.slice (some ⟨fg,fo,none⟩) nf cap):=by unfold World.cell?;rw[k1];rfl
 have a5:=(F1.cell (p:=⟨fg,fo+f*3+1,none⟩) hfg (by simp)).trans hl
 have HF:Hid _:=F1
 have HB:Hid _:=fun n (h:-5000000≤n∧n≤5000000)=>below_any n W1 h
 clear F1 k1 hl hMo hfn
 subst ho
 have hr:bnds m L 35=[(0,(m.pats.length:Int)-1)]:=by
  unfold bnds
  rw[if_neg (by decide),if_neg (by decide)]
  simp only[show sortsT.getD 35 0=6 from rfl,low,above,Nat.reduceEqDiff,if_true,if_false]
  rfl
 rw[hr]
 have HB1:Hid _:=fun (_:Unit)=>HB.out ((m.pats.length:Int)) (by omega)
 clear hr hn HB
 go_enter Tryz.func177,Tryz.ntmps177
 go_wp2_with fail
 refine (HB1.out ()).mono ?_
 rintro e w2 ⟨rfl,F2⟩
 clear a0 a1 a2 a3 a4 a5
 go_wp2
 go_ret
 exact⟨_,rfl,(HF.out.trans F2).trans ((Fr.refl [] w2).alloc _),bnds_one _ _ _⟩
theorem operands_op36 (tv pv:Value)(m:Mo)(w:World)(f L op:Nat)(fg fo nf cap:Nat)(hf:f<nf)(hn:nf=m.fns.length)(hfg:fg<w.heap.size)(hl:w.cell? ⟨fg,fo+f*3+1,none⟩=some (.int .i64 (L:Nat)))(hL:L≤1000)(hMo:MoOk m)(ho:op=36)
  (ta pa:Option Addr) (tc pc:Nat) (htv:tv=.slice ta m.texts.length tc) (hpv:pv=.slice pa m.pats.length pc) :
  Calls Tryz.prog 177 #[.agg #[tv,pv,.int .i64 m.globs,.int .i64 m.arrs,.slice (some ⟨fg,fo,none⟩) nf cap],.int .i64 f,.int .u8 op] w fun e w'=>∃ v,e=.returned v∧Fr [] w w'∧BndsIn w' v (bnds m L op):=by
 subst htv
 subst hpv
 obtain⟨hg,ha⟩:=AI hMo.g hMo.a
 have ht:=hMo.t
 have hp:=hMo.p
 have hfn:=hMo.f.n
 have g2:(f:Int)<(nf:Int):=by omega
 have hn1000:nf≤1000:=by omega
 obtain⟨W1,hW1⟩:∃ W1,w.alloc (.cells #[.slice ta m.texts.length tc,.slice pa m.pats.length pc,.int .i64 m.globs,.int .i64 m.arrs,.slice (some ⟨fg,fo,none⟩) nf cap] 30)=W1:=⟨_,rfl⟩
 have F1:Fr [] w W1:=by rw[← hW1];exact (Fr.refl [] w).alloc _
 have k1:=wan w (.cells #[.slice ta m.texts.length tc,.slice pa m.pats.length pc,.int .i64 m.globs,.int .i64 m.arrs,.slice (some ⟨fg,fo,none⟩) nf cap] 30)
 rw[hW1] at k1
 have a0:W1.cell? ⟨w.heap.size,0,none⟩=some (.slice ta m.texts.length tc):=by unfold World.cell?;rw[k1];rfl
 have a1:W1.cell? ⟨w.heap.size,1,none⟩=some (.slice pa m.pats.length pc):=by unfold World.cell?;rw[k1];rfl
 have a2:W1.cell? ⟨w.heap.size,2,none⟩=some (.int .i64 m.globs):=by unfold World.cell?;rw[k1];rfl
 have a3:W1.cell? ⟨w.heap.size,3,none⟩=some (.int .i64 m.arrs):=by unfold World.cell?;rw[k1];rfl
 have a4:W1.cell? ⟨w.heap.size,4,none⟩=some (.slice (some ⟨fg,fo,none⟩) nf cap):=by unfold World.cell?;rw[k1];rfl
 have a5:=(F1.cell (p:=⟨fg,fo+f*3+1,none⟩) hfg (by simp)).trans hl
 have HF:Hid _:=F1
 have HB:Hid _:=fun n (h:-5000000≤n∧n≤5000000)=>below_any n W1 h
 clear F1 k1 hl hMo hfn
 subst ho
 have hr:bnds m L 36=[(0,(m.pats.length:Int)-1)]:=by
  unfold bnds
  rw[if_neg (by decide),if_neg (by decide)]
  simp only[show sortsT.getD 36 0=6 from rfl,low,above,Nat.reduceEqDiff,if_true,if_false]
  rfl
 rw[hr]
 have HB1:Hid _:=fun (_:Unit)=>HB.out ((m.pats.length:Int)) (by omega)
 clear hr hn HB
 go_enter Tryz.func177,Tryz.ntmps177
 go_wp2_with fail
 refine (HB1.out ()).mono ?_
 rintro e w2 ⟨rfl,F2⟩
 clear a0 a1 a2 a3 a4 a5
 go_wp2
 go_ret
 exact⟨_,rfl,(HF.out.trans F2).trans ((Fr.refl [] w2).alloc _),bnds_one _ _ _⟩
theorem operands_op37 (tv pv:Value)(m:Mo)(w:World)(f L op:Nat)(fg fo nf cap:Nat)(hf:f<nf)(hn:nf=m.fns.length)(hfg:fg<w.heap.size)(hl:w.cell? ⟨fg,fo+f*3+1,none⟩=some (.int .i64 (L:Nat)))(hL:L≤1000)(hMo:MoOk m)(ho:op=37)
  (ta pa:Option Addr) (tc pc:Nat) (htv:tv=.slice ta m.texts.length tc) (hpv:pv=.slice pa m.pats.length pc) :
  Calls Tryz.prog 177 #[.agg #[tv,pv,.int .i64 m.globs,.int .i64 m.arrs,.slice (some ⟨fg,fo,none⟩) nf cap],.int .i64 f,.int .u8 op] w fun e w'=>∃ v,e=.returned v∧Fr [] w w'∧BndsIn w' v (bnds m L op):=by
 subst htv
 subst hpv
 obtain⟨hg,ha⟩:=AI hMo.g hMo.a
 have ht:=hMo.t
 have hp:=hMo.p
 have hfn:=hMo.f.n
 have g2:(f:Int)<(nf:Int):=by omega
 have hn1000:nf≤1000:=by omega
 obtain⟨W1,hW1⟩:∃ W1,w.alloc (.cells #[.slice ta m.texts.length tc,.slice pa m.pats.length pc,.int .i64 m.globs,.int .i64 m.arrs,.slice (some ⟨fg,fo,none⟩) nf cap] 30)=W1:=⟨_,rfl⟩
 have F1:Fr [] w W1:=by rw[← hW1];exact (Fr.refl [] w).alloc _
 have k1:=wan w (.cells #[.slice ta m.texts.length tc,.slice pa m.pats.length pc,.int .i64 m.globs,.int .i64 m.arrs,.slice (some ⟨fg,fo,none⟩) nf cap] 30)
 rw[hW1] at k1
 have a0:W1.cell? ⟨w.heap.size,0,none⟩=some (.slice ta m.texts.length tc):=by unfold World.cell?;rw[k1];rfl
 have a1:W1.cell? ⟨w.heap.size,1,none⟩=some (.slice pa m.pats.length pc):=by unfold World.cell?;rw[k1];rfl
 have a2:W1.cell? ⟨w.heap.size,2,none⟩=some (.int .i64 m.globs):=by unfold World.cell?;rw[k1];rfl
 have a3:W1.cell? ⟨w.heap.size,3,none⟩=some (.int .i64 m.arrs):=by unfold World.cell?;rw[k1];rfl
 have a4:W1.cell? ⟨w.heap.size,4,none⟩=some (.slice (some ⟨fg,fo,none⟩) nf cap):=by unfold World.cell?;rw[k1];rfl
 have a5:=(F1.cell (p:=⟨fg,fo+f*3+1,none⟩) hfg (by simp)).trans hl
 have HF:Hid _:=F1
 have HB:Hid _:=fun n (h:-5000000≤n∧n≤5000000)=>below_any n W1 h
 clear F1 k1 hl hMo hfn
 subst ho
 have hr:bnds m L 37=[(0,(m.pats.length:Int)-1)]:=by
  unfold bnds
  rw[if_neg (by decide),if_neg (by decide)]
  simp only[show sortsT.getD 37 0=6 from rfl,low,above,Nat.reduceEqDiff,if_true,if_false]
  rfl
 rw[hr]
 have HB1:Hid _:=fun (_:Unit)=>HB.out ((m.pats.length:Int)) (by omega)
 clear hr hn HB
 go_enter Tryz.func177,Tryz.ntmps177
 go_wp2_with fail
 refine (HB1.out ()).mono ?_
 rintro e w2 ⟨rfl,F2⟩
 clear a0 a1 a2 a3 a4 a5
 go_wp2
 go_ret
 exact⟨_,rfl,(HF.out.trans F2).trans ((Fr.refl [] w2).alloc _),bnds_one _ _ _⟩
theorem operands_none (tv pv:Value)(m:Mo)(w:World)(f L op:Nat)(fg fo nf cap:Nat)(hf:f<nf)(hn:nf=m.fns.length)(hfg:fg<w.heap.size)(hl:w.cell? ⟨fg,fo+f*3+1,none⟩=some (.int .i64 (L:Nat)))(hL:L≤1000)(hMo:MoOk m)(ho:op<54)(hz:sortsT.getD op 0=0)
  (ta pa:Option Addr) (tc pc:Nat) (htv:tv=.slice ta m.texts.length tc) (hpv:pv=.slice pa m.pats.length pc) :
  Calls Tryz.prog 177 #[.agg #[tv,pv,.int .i64 m.globs,.int .i64 m.arrs,.slice (some ⟨fg,fo,none⟩) nf cap],.int .i64 f,.int .u8 op] w fun e w'=>∃ v,e=.returned v∧Fr [] w w'∧BndsIn w' v (bnds m L op):=by
 subst htv
 subst hpv
 obtain⟨hg,ha⟩:=AI hMo.g hMo.a
 have ht:=hMo.t
 have hp:=hMo.p
 have hfn:=hMo.f.n
 have g2:(f:Int)<(nf:Int):=by omega
 have hn1000:nf≤1000:=by omega
 obtain⟨W1,hW1⟩:∃ W1,w.alloc (.cells #[.slice ta m.texts.length tc,.slice pa m.pats.length pc,.int .i64 m.globs,.int .i64 m.arrs,.slice (some ⟨fg,fo,none⟩) nf cap] 30)=W1:=⟨_,rfl⟩
 have F1:Fr [] w W1:=by rw[← hW1];exact (Fr.refl [] w).alloc _
 have k1:=wan w (.cells #[.slice ta m.texts.length tc,.slice pa m.pats.length pc,.int .i64 m.globs,.int .i64 m.arrs,.slice (some ⟨fg,fo,none⟩) nf cap] 30)
 rw[hW1] at k1
 have a0:W1.cell? ⟨w.heap.size,0,none⟩=some (.slice ta m.texts.length tc):=by unfold World.cell?;rw[k1];rfl
 have a1:W1.cell? ⟨w.heap.size,1,none⟩=some (.slice pa m.pats.length pc):=by unfold World.cell?;rw[k1];rfl
 have a2:W1.cell? ⟨w.heap.size,2,none⟩=some (.int .i64 m.globs):=by unfold World.cell?;rw[k1];rfl
 have a3:W1.cell? ⟨w.heap.size,3,none⟩=some (.int .i64 m.arrs):=by unfold World.cell?;rw[k1];rfl
 have a4:W1.cell? ⟨w.heap.size,4,none⟩=some (.slice (some ⟨fg,fo,none⟩) nf cap):=by unfold World.cell?;rw[k1];rfl
 have a5:=(F1.cell (p:=⟨fg,fo+f*3+1,none⟩) hfg (by simp)).trans hl
 have HF:Hid _:=F1
 have HB:Hid _:=fun n (h:-5000000≤n∧n≤5000000)=>below_any n W1 h
 clear F1 k1 hl hMo hfn
 have hne:∀ k,k<54→sortsT.getD k 0≠0→((op:Int)==(k:Int))=false:=fun k hk h=>by
  simp only[beq_eq_false_iff_ne,ne_eq]
  intro e
  have:op=k:=by omega
  subst this
  exact h hz
 have q0:((op:Int)==0)=false:=hne 0 (by decide) (by decide)
 have q1:((op:Int)==1)=false:=hne 1 (by decide) (by decide)
 have q3:((op:Int)==3)=false:=hne 3 (by decide) (by decide)
 have q4:((op:Int)==4)=false:=hne 4 (by decide) (by decide)
 have q5:((op:Int)==5)=false:=hne 5 (by decide) (by decide)
 have q6:((op:Int)==6)=false:=hne 6 (by decide) (by decide)
 have q11:((op:Int)==11)=false:=hne 11 (by decide) (by decide)
 have q12:((op:Int)==12)=false:=hne 12 (by decide) (by decide)
 have q13:((op:Int)==13)=false:=hne 13 (by decide) (by decide)
 have q14:((op:Int)==14)=false:=hne 14 (by decide) (by decide)
 have q15:((op:Int)==15)=false:=hne 15 (by decide) (by decide)
 have q16:((op:Int)==16)=false:=hne 16 (by decide) (by decide)
 have q17:((op:Int)==17)=false:=hne 17 (by decide) (by decide)
 have q35:((op:Int)==35)=false:=hne 35 (by decide) (by decide)
 have q36:((op:Int)==36)=false:=hne 36 (by decide) (by decide)
 have q37:((op:Int)==37)=false:=hne 37 (by decide) (by decide)
 have q38:((op:Int)==38)=false:=hne 38 (by decide) (by decide)
 have q44:((op:Int)==44)=false:=hne 44 (by decide) (by decide)
 have q48:((op:Int)==48)=false:=hne 48 (by decide) (by decide)
 have q49:((op:Int)==49)=false:=hne 49 (by decide) (by decide)
 have q50:((op:Int)==50)=false:=hne 50 (by decide) (by decide)
 have hr:bnds m L op=[]:=by unfold bnds;rw[if_pos hz]
 rw[hr]
 clear hr hne hz HB hn
 go_enter Tryz.func177,Tryz.ntmps177
 go_wp2
 go_ret
 exact⟨_,rfl,HF.out,.inl ⟨rfl,rfl⟩⟩
end Go.Proofs.YtclkgoigmgkffaaGreatDoor
