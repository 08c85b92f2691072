import Derived.Test.YtmolfmgchbjnbaaGreatDoorM15
import Derived.Test.YtmolfmgchbjnbaaGreatDoorM04
set_option linter.unusedSimpArgs false
set_option linter.unusedVariables false
set_option linter.unusedSectionVars false
set_option maxRecDepth 100000
set_option maxHeartbeats 40000000
open _root_.Go.Proofs.Tryz
namespace Go.Proofs.YtmolfmgchbjnbaaGreatDoor
open Go.RowKit
open Wire Flow
structure StpOk (m:Mo) (s:Stp):Prop where
 op:s.op<54
 pr:s.op=44→s.a≤1000
 ca:s.op=50→s.a<m.fns.length
 aa:s.a≤34359738368
structure FnsOk (m:Mo):Prop where
 n:m.fns.length≤1000
 p:∀ x ∈ m.fns,0≤x.params∧x.params≤8∧0≤x.locs∧x.locs≤1000∧x.code.size≤20000
structure MoOk (m:Mo):Prop where
 f:FnsOk m
 t:m.texts.length≤1000
 p:m.pats.length≤1000
 g:0≤m.globs∧m.globs≤1000
 a:0≤m.arrs∧m.arrs≤1000
theorem bl_getD {c:BA}{i:Nat} (h:i<c.size):(bl c).getD i 0=c[i]:=by
 have hL:=bl_length c;rw[List.getD_eq_getElem?_getD,Lge (by omega),Option.getD_some];simp only[bl,Array.getElem_toList];rfl
theorem setCell_id {w:WL}{g i:Nat}{cs:Array Value}{t:TypeId}{fr:Nat × Nat}{v:Value} (hg:w.heap[g]?=some (.cells cs t fr)) (hv:cs[i]?=some v):w.setCell ⟨g,i,none⟩ v=w:=by
 have hlt:g<w.heap.size:=(Age.1 hg).1;have hv1:w.heap[g]=.cells cs t fr:=(Age.1 hg).2;have hi:i<cs.size:=(Age.1 hv).1;have hc:cs.setIfInBounds i v=cs:=by
  apply Array.ext
  ·simp
  intro k h1 h2;rw[Array.getElem_setIfInBounds];split
  ·rename_i e
   subst e;exact ((Age.1 hv).2).symm
  rfl
 have hh:(w.heap.modify g fun | .cells c elem frozen=>.cells (if (none:Option Nat).isSome then c else c.setIfInBounds i v) elem frozen | o=>o)=w.heap:=by
  apply Array.ext
  ·simp
  intro k h1 h2;rw[Array.getElem_modify];split
  ·rename_i e
   subst e;rw[hv1];simp[hc]
  rfl
 exact congrArg (fun h=>({ w with heap:=h }:WL)) hh
-- CUT
theorem setCell_block {W:WL}{x z i:Nat}{v:Value} (h:x≠z):(W.setCell ⟨z,i,none⟩ v).heap[x]?=W.heap[x]?:=by
 unfold World.setCell;simp only[Array.getElem?_modify];rw[if_neg (fun e=>h e.symm)]
theorem setCell_at {W:WL}{z i:Nat}{cs:Array Value}{t:TypeId}{v:Value} (h:W.heap[z]?=some (.cells cs t)):(W.setCell ⟨z,i,none⟩ v).heap[z]?=some (.cells (cs.setIfInBounds i v) t):=by
 unfold World.setCell;simp only[Array.getElem?_modify];rw[if_pos trivial,h];rfl
structure OwnL {α:Type} (e:TypeId) (k:Nat) (cs:α→LV) (w0:WL) (L:List α) (v:Value) (W:WL):Prop where
 own:W.ownsRow w0.heap.size e k v L.length (L.flatMap cs)
 fr:Fr [] w0 W
theorem OwnL.start {α:Type}{e:TypeId}{k:Nat}{cs:α→LV}{w0 w1:WL} (hf:Fr [] w0 w1):OwnL e k cs w0 [] (.slice none 0 0) w1:=⟨World.ownsRow_nil _ _ _ _,hf⟩
theorem OwnL.kept {α:Type}{e:TypeId}{k:Nat}{cs:α→LV}{w0:WL}{L:List α}{v:Value}{W W':WL} (h:OwnL e k cs w0 L v W) (hf:Fr [] W W'):OwnL e k cs w0 L v W':=⟨own_fr h.own hf (by simp),h.fr.trans hf⟩
theorem fr_grown0 {w0 W W':WL}{e:TypeId}{size n:Nat}{xs:LV}{v:Value} (h:W.ownsRow w0.heap.size e size v n xs) (hf:Fr [] w0 W) (hg:W.grownBy W' v.ownBlock):Fr [] w0 W':=by
 refine⟨hg.os.trans hf.os,hg.tape.trans hf.tape,hg.output.trans hf.output,Nat.le_trans hf.size hg.size,fun k hk hn=>?_⟩;have h1:=hf.size;rw[hg.block k (by omega) (fun e=>by have:=(h.lt k e.symm).1;omega),hf.block k hk hn]
theorem OwnL.grown {α:Type}{e:TypeId}{k:Nat}{cs:α→LV}{w0:WL}{L:List α}{v v':Value}{W W':WL}{s:α} (h:OwnL e k cs w0 L v W) (hown:W'.ownsRow w0.heap.size e k v' (L.length+1) (L.flatMap cs++cs s)) (hg:W.grownBy W' v.ownBlock):OwnL e k cs w0 (L++[s]) v' W':=
 ⟨by rw[Lla,List.flatMap_append];simpa using hown,fr_grown0 h.own h.fr hg⟩
theorem OwnL.form {α:Type}{e:TypeId}{k:Nat}{cs:α→LV}{w0:WL}{L:List α}{v:Value}{W:WL} (h:OwnL e k cs w0 L v W):∃ a0 cap,v=.slice a0 L.length cap:=by
 rcases h.own.2 with ⟨hv,h0⟩ | ⟨g,cap,cur,hv,_⟩
 ·exact⟨none,0,by rw[hv,h0]⟩
 exact⟨_,cap,hv⟩
theorem flat_at {α:Type}{k:Nat}{cs:α→LV} (hk:∀ x,(cs x).length=k) (L:List α) (i t:Nat) (f:α) (hi:L[i]?=some f) (ht:t<k):(L.flatMap cs)[i*k+t]?=(cs f)[t]?:=by
 induction L generalizing i with
 | nil=>cases hi
 | cons a L ih=>
  rw[List.flatMap_cons];cases i with
  | zero=>
   simp at hi;subst hi;rw[List.getElem?_append_left (by rw[hk];omega)];simp
  | succ i=>
   have e1:(i+1)*k+t=i*k+t+k:=by rw[Nat.succ_mul];omega
   rw[List.getElem?_append_right (by rw[hk,e1];omega)];have e:(i+1)*k+t-(cs a).length=i*k+t:=by rw[hk,e1];omega
   rw[e];exact ih i (by simpa using hi)
theorem OwnL.cells {α:Type}{e:TypeId}{k:Nat}{cs:α→LV} (hk:∀ x,(cs x).length=k) {w0:WL}{L:List α}{v:Value}{W:WL} (h:OwnL e k cs w0 L v W) :
  ∃ (a0:OA) (cap g:Nat),v=.slice a0 L.length cap∧L.length≤cap∧(0<L.length→a0=some (Ad g 0)∧g<W.heap.size∧w0.heap.size≤g) ∧
   ∀ (i:Nat) (x:α) (t:Nat) (u:Value),L[i]?=some x→t<k→(cs x)[t]?=some u→W.cell? (Ad g (i*k+t))=some u:=by
 rcases h.own.2 with ⟨hv,h0⟩ | ⟨g,cap,cur,hv,hb,hg,hn,_⟩
 ·have hL:=List.eq_nil_of_length_eq_zero h0;subst hL;exact⟨none,0,0,hv,Nat.le_refl _,fun h=>absurd h (Nat.lt_irrefl _),(fun i x _ _ hx=>by cases hx)⟩
 refine⟨some (Ad g 0),cap,g,hv,hn,fun _=>⟨rfl,(Age.1 hg).1,hb⟩,fun i x t u hx ht hu=>?_⟩;have hc:=h.own.cells (g:=g) (by rw[hv];rfl) (i*k+t) u ((flat_at hk L i t x hx ht).trans hu);simp only[add_plain0] at hc;exact hc
theorem operandL_num {m:Mo}{locs:Nat}{c:LB}{sort i n j:Nat} (h:operandL m locs c sort i=some (n,j)):n<34359738368:=by
 unfold operandL at h;split at h
 ·cases h
 ·rename_i n' r hn
  split at h
  ·simp only[Option.some.injEq,Prod.mk.injEq] at h;obtain⟨rfl,rfl⟩:=h;exact (num_some hn).2
  cases h
theorem decodeL_ok {m:Mo}{f locs:Nat}{c:LB}{i:Nat}{s:Stp} (h:decodeL m f locs c i=.inr s):StpOk m s:=by
 unfold decodeL at h;split at h
 ·rename_i hm
  have h54:=mayOp_lt hm;split at h
  ·rename_i hz
   simp only[Sum.inr.injEq] at h;subst h;refine⟨h54,fun e=>?_,fun e=>?_,by simp⟩
   ·simp only at e;rw[e] at hz;exact absurd hz (by decide)
   simp only at e;rw[e] at hz;exact absurd hz (by decide)
  split at h
  ·cases h
  ·rename_i n j hop
   have h1:=operandL_next hop;have h2:=operandL_num hop;have key:∀ k b,StpOk m ⟨i,k,(c.getD i 0).toNat,n,b⟩:=fun k b=>by
    refine⟨h54,fun e=>?_,fun e=>?_,by simp only;omega⟩
    ·simp only at e;rw[e] at h1;have h3:=h1.2.2;unfold fitN at h3;simp only[Bool.and_eq_true,decide_eq_true_eq] at h3;have h4:=h3.2;rw[show sortsT.getD 44 0=8 from rfl] at h4;simp only[above] at h4;simp only[Nat.reduceEqDiff,if_true,if_false] at h4;simp only;omega
    simp only at e;rw[e] at h1;have h3:=h1.2.2;unfold fitN at h3;simp only[Bool.and_eq_true,decide_eq_true_eq] at h3;have h4:=h3.2;rw[show sortsT.getD 50 0=9 from rfl] at h4;simp only[above] at h4;simp only[Nat.reduceEqDiff,if_true,if_false] at h4;exact h4
   split at h
   ·split at h
    ·cases h
    simp only[Sum.inr.injEq] at h;subst h;exact key _ _
   simp only[Sum.inr.injEq] at h;subst h;exact key _ _
 cases h
theorem Chain.ok {m:Mo}{f locs:Nat}{c:LB}{i j:Nat}{l:List Stp} (h:Chain m f locs c i l j):∀ s ∈ l,StpOk m s:=by
 induction l generalizing i with
 | nil=>intro s hs;cases hs
 | cons a l ih=>
  intro s hs;rcases List.mem_cons.1 hs with rfl | hs
  ·exact decodeL_ok h.2.1
  exact ih h.2.2 s hs
theorem Chain.pls {m:Mo}{f locs:Nat}{c:LB}{i j:Nat}{l:List Stp} (h:Chain m f locs c i l j):∀ s ∈ l,s.pl<c.length:=by
 induction l generalizing i with
 | nil=>intro s hs;cases hs
 | cons a l ih=>
  intro s hs;rcases List.mem_cons.1 hs with rfl | hs
  ·have:=(decodeL_next h.1 h.2.1).1;have:=h.1;omega
  exact ih h.2.2 s hs
open Wire Flow Mach
theorem mayStand_any (f op:Nat)(w:WL)(hf:f≤2000000)(ho:op<256):Calls prog 186 #[iA f,.int .u8 op] w fun e w'=>e=.returned (.bool (mayOp f op))∧w'=w:=by
 have hd:∀ a b:Nat,decide ((a:Int)<(b:Int))=decide (a<b):=fun a b=>decide_eq_decide.2 (by omega);by_cases e1:op=51
 ·subst e1;have hr:mayOp f 51 = !decide (f<3):=by
   unfold mayOp;by_cases h:f<3
   ·rw[decide_eq_true h];rfl
   rw[decide_eq_false h];rfl
  rw[hr];have h3:decide ((f:Int)<3)=decide (f<3):=hd f 3;generalize decide (f<3)=b at *;go_enter func186,ntmps186;go_wp2;go_ret;exact⟨rfl,rfl⟩
 by_cases e2:op=52
 ·subst e2;have hr:mayOp f 52=decide (f<3):=by
   unfold mayOp;by_cases h:f<3
   ·rw[decide_eq_true h,decide_eq_false (show ¬ 3≤f by omega)];rfl
   rw[decide_eq_false h,decide_eq_true (show 3≤f by omega)];rfl
  rw[hr];have h3:decide ((f:Int)<3)=decide (f<3):=hd f 3;generalize decide (f<3)=b at *;go_enter func186,ntmps186;go_wp2;go_ret;exact⟨rfl,rfl⟩
 have hr:mayOp f op=decide ((op:Int)≤53):=by
  unfold mayOp;rw[decide_eq_false e1,decide_eq_false e2];simp only[Bool.false_and,Bool.not_false,Bool.and_true,decide_eq_decide];omega
 have q1:((op:Int)==51)=false:=by simp;omega
 have q2:((op:Int)==52)=false:=by simp;omega
 rw[hr];generalize hq:decide ((op:Int)≤53)=b;clear hd hr;go_enter func186,ntmps186;go_wp2;go_ret;exact⟨rfl,rfl⟩
theorem below_any (n:Int)(w:WL)(hn:-5000000≤n∧n≤5000000):Calls prog 272 #[iA n] w fun e w'=>e=.returned (.agg #[iA 0,iA (n-1)])∧Fr [] w w':=by
 obtain⟨W1,hW1⟩:=eXi (w.alloc (.cells #[iA 0,iA (n-1)] 291));have F1:=frA hW1
 have k1:=kA hW1;have a0:W1.cell? (Ad w.heap.size 0)=some (iA 0):=cof k1 rfl;have a1:W1.cell? (Ad w.heap.size 1)=some (iA (n-1)):=cof k1 rfl;have HF:Hid _:=F1;clear F1 k1;go_enter func272,ntmps272;go_wp2;refine bodyPost_ret (v:=.agg #[iA 0,iA (n-1)]) (by simp[results,results272,go_sem,a0,a1]) rfl ?_;exact⟨rfl,HF.out⟩
def bnds (m:Mo) (locs op:Nat):List (Int × Int):=
 if sortsT.getD op 0=0 then [] else if op=38 then [(0,m.arrs-1),(0,(m.pats.length:Int)-1)]
 else [((low (sortsT.getD op 0):Int),(above m locs (sortsT.getD op 0):Int)-1)]
def BndsIn (W:WL) (v:Value) (l:List (Int × Int)):Prop:=
 (l=[]∧v=.slice none 0 0)∨∃ g,v=.slice (some ⟨g,0,none⟩) l.length l.length∧g<W.heap.size ∧
  ∀ (i:Nat) (x:Int × Int),l[i]?=some x→W.cell? ⟨g,i*2,none⟩=some (.int .i64 x.1)∧W.cell? ⟨g,i*2+1,none⟩=some (.int .i64 x.2)
theorem bnds_one (W:WL)(a b:Int):BndsIn (W.alloc (.cells #[iA a,iA b] 291)) (.slice (some (Ad W.heap.size 0)) 1 1) [(a,b)]:=by
 have k1:=wan W (.cells #[iA a,iA b] 291);refine .inr ⟨_,rfl,by simp,fun i x hi=>?_⟩;cases i with
 | zero=>
  simp at hi;subst hi;unfold World.cell?;rw[k1];exact⟨rfl,rfl⟩
 | succ i=>simp at hi
theorem operands_ops (tv pv:Value)(m:Mo)(w:WL)(f L op:Nat)(fg fo nf cap:Nat)(hf:f<nf)(hn:nf=m.fns.length)(hfg:fg<w.heap.size)(hl:w.cell? (Ad fg (fo+f*3+1))=some (iA (L:Nat)))(hL:L≤1000)(hMo:MoOk m)(ho:(op=0∨op=44∨op=17∨op=48∨op=49∨op=50)∨op=1∨op=3∨op=4∨op=5∨op=6∨op=11∨op=12∨op=13∨op=14∨op=15∨op=16∨op=35∨op=36∨op=37)
  (ta pa:OA) (tc pc:Nat) (htv:tv=.slice ta m.texts.length tc) (hpv:pv=.slice pa m.pats.length pc) :
  Calls prog 187 #[.agg #[tv,pv,iA m.globs,iA m.arrs,.slice (some (Ad fg fo)) nf cap],iA f,.int .u8 op] w fun e w'=>∃ v,e=.returned v∧Fr [] w w'∧BndsIn w' v (bnds m L op):=by
 subst htv;subst hpv;obtain⟨hg,ha⟩:=AI hMo.g hMo.a;have ht:=hMo.t;have hp:=hMo.p;have hfn:=hMo.f.n;have g2:(f:Int)<(nf:Int):=by omega
 have hn1000:nf≤1000:=by omega
 obtain⟨W1,hW1⟩:=eXi (w.alloc (.cells #[.slice ta m.texts.length tc,.slice pa m.pats.length pc,iA m.globs,iA m.arrs,.slice (some (Ad fg fo)) nf cap] 70));have F1:=frA hW1
 have k1:=kA hW1;have a0:W1.cell? (Ad w.heap.size 0)=some (.slice ta m.texts.length tc):=cof k1 rfl;have a1:W1.cell? (Ad w.heap.size 1)=some (.slice pa m.pats.length pc):=cof k1 rfl;have a2:W1.cell? (Ad w.heap.size 2)=some (iA m.globs):=cof k1 rfl;have a3:W1.cell? (Ad w.heap.size 3)=some (iA m.arrs):=cof k1 rfl;have a4:W1.cell? (Ad w.heap.size 4)=some (.slice (some (Ad fg fo)) nf cap):=cof k1 rfl;have a5:=(F1.cell (p:=Ad fg (fo+f*3+1)) hfg (by simp)).trans hl;have HF:Hid _:=F1;have HB:Hid _:=fun n (h:-5000000≤n∧n≤5000000)=>below_any n W1 h;clear F1 k1 hl hMo hfn;have HN:Hid _:=hn;clear hn;rcases ho with ho | ho
 ·rcases ho with rfl | rfl | rfl | rfl | rfl | rfl
  all_goals
   go_enter func187,ntmps187;go_wp2;go_ret;refine⟨_,rfl,HF.out.trans ((Fr.refl [] W1).alloc _),?_⟩;refine Eq.mpr (congrArg _ ?_) (bnds_one _ _ _);simp[bnds,sortsT,low,above,HN.out]
 rcases ho with rfl | rfl | rfl | rfl | rfl | rfl | rfl | rfl | rfl | rfl | rfl | rfl | rfl | rfl
 all_goals
  go_enter func187,ntmps187;go_wp2_with fail;refine (HB.out _ ?hb).mono ?_
  case hb=>omega
  rintro e w2 ⟨rfl,F2⟩;clear a0 a1 a2 a3 a4 a5;go_wp2;go_ret;refine⟨_,rfl,(HF.out.trans F2).trans ((Fr.refl [] w2).alloc _),?_⟩;refine Eq.mpr (congrArg _ ?_) (bnds_one _ _ _);simp[bnds,sortsT,low,above,HN.out]
  try omega
theorem operands_none (tv pv:Value)(m:Mo)(w:WL)(f L op:Nat)(fg fo nf cap:Nat)(hf:f<nf)(hn:nf=m.fns.length)(hfg:fg<w.heap.size)(hl:w.cell? (Ad fg (fo+f*3+1))=some (iA (L:Nat)))(hL:L≤1000)(hMo:MoOk m)(ho:op<54)(hz:sortsT.getD op 0=0)
  (ta pa:OA) (tc pc:Nat) (htv:tv=.slice ta m.texts.length tc) (hpv:pv=.slice pa m.pats.length pc) :
  Calls prog 187 #[.agg #[tv,pv,iA m.globs,iA m.arrs,.slice (some (Ad fg fo)) nf cap],iA f,.int .u8 op] w fun e w'=>∃ v,e=.returned v∧Fr [] w w'∧BndsIn w' v (bnds m L op):=by
 subst htv;subst hpv;obtain⟨hg,ha⟩:=AI hMo.g hMo.a;have ht:=hMo.t;have hp:=hMo.p;have hfn:=hMo.f.n;have g2:(f:Int)<(nf:Int):=by omega
 have hn1000:nf≤1000:=by omega
 obtain⟨W1,hW1⟩:=eXi (w.alloc (.cells #[.slice ta m.texts.length tc,.slice pa m.pats.length pc,iA m.globs,iA m.arrs,.slice (some (Ad fg fo)) nf cap] 70));have F1:=frA hW1
 have k1:=kA hW1;have a0:W1.cell? (Ad w.heap.size 0)=some (.slice ta m.texts.length tc):=cof k1 rfl;have a1:W1.cell? (Ad w.heap.size 1)=some (.slice pa m.pats.length pc):=cof k1 rfl;have a2:W1.cell? (Ad w.heap.size 2)=some (iA m.globs):=cof k1 rfl;have a3:W1.cell? (Ad w.heap.size 3)=some (iA m.arrs):=cof k1 rfl;have a4:W1.cell? (Ad w.heap.size 4)=some (.slice (some (Ad fg fo)) nf cap):=cof k1 rfl;have a5:=(F1.cell (p:=Ad fg (fo+f*3+1)) hfg (by simp)).trans hl;have HF:Hid _:=F1;have HB:Hid _:=fun n (h:-5000000≤n∧n≤5000000)=>below_any n W1 h;clear F1 k1 hl hMo hfn;have hne:∀ k,k<54→sortsT.getD k 0≠0→((op:Int)==(k:Int))=false:=fun k hk h=>by
  simp only[beq_eq_false_iff_ne,ne_eq];intro e;have:op=k:=by omega
  subst this;exact h hz
 have q0:((op:Int)==0)=false:=hne 0 (by decide) (by decide);have q1:((op:Int)==1)=false:=hne 1 (by decide) (by decide);have q3:((op:Int)==3)=false:=hne 3 (by decide) (by decide);have q4:((op:Int)==4)=false:=hne 4 (by decide) (by decide);have q5:((op:Int)==5)=false:=hne 5 (by decide) (by decide);have q6:((op:Int)==6)=false:=hne 6 (by decide) (by decide);have q11:((op:Int)==11)=false:=hne 11 (by decide) (by decide);have q12:((op:Int)==12)=false:=hne 12 (by decide) (by decide);have q13:((op:Int)==13)=false:=hne 13 (by decide) (by decide);have q14:((op:Int)==14)=false:=hne 14 (by decide) (by decide);have q15:((op:Int)==15)=false:=hne 15 (by decide) (by decide);have q16:((op:Int)==16)=false:=hne 16 (by decide) (by decide);have q17:((op:Int)==17)=false:=hne 17 (by decide) (by decide);have q35:((op:Int)==35)=false:=hne 35 (by decide) (by decide);have q36:((op:Int)==36)=false:=hne 36 (by decide) (by decide);have q37:((op:Int)==37)=false:=hne 37 (by decide) (by decide);have q38:((op:Int)==38)=false:=hne 38 (by decide) (by decide);have q44:((op:Int)==44)=false:=hne 44 (by decide) (by decide);have q48:((op:Int)==48)=false:=hne 48 (by decide) (by decide);have q49:((op:Int)==49)=false:=hne 49 (by decide) (by decide);have q50:((op:Int)==50)=false:=hne 50 (by decide) (by decide);have hr:bnds m L op=[]:=by unfold bnds;rw[if_pos hz]
 rw[hr];clear hr hne hz HB hn;go_enter func187,ntmps187;go_wp2;go_ret;exact⟨_,rfl,HF.out,.inl ⟨rfl,rfl⟩⟩
theorem bnds_two (W:WL)(a b c d:Int):BndsIn (W.alloc (.cells #[iA a,iA b,iA c,iA d] 291)) (.slice (some (Ad W.heap.size 0)) 2 2) [(a,b),(c,d)]:=by
 have k1:=wan W (.cells #[iA a,iA b,iA c,iA d] 291)
 refine .inr ⟨_,rfl,by simp,fun i x hi=>?_⟩
 unfold World.cell?
 rw[k1]
 match i,hi with
 | 0,hi=>
  simp at hi
  subst hi
  exact⟨rfl,rfl⟩
 | 1,hi=>
  simp at hi
  subst hi
  exact⟨rfl,rfl⟩
 | i+2,hi=>simp at hi
theorem operands_op38 (tv pv:Value)(m:Mo)(w:WL)(f L op:Nat)(fg fo nf cap:Nat)(hf:f<nf)(hn:nf=m.fns.length)(hfg:fg<w.heap.size)(hl:w.cell? (Ad fg (fo+f*3+1))=some (iA (L:Nat)))(hL:L≤1000)(hMo:MoOk m)(ho:op=38)
  (ta pa:OA) (tc pc:Nat) (htv:tv=.slice ta m.texts.length tc) (hpv:pv=.slice pa m.pats.length pc) :
  Calls prog 187 #[.agg #[tv,pv,iA m.globs,iA m.arrs,.slice (some (Ad fg fo)) nf cap],iA f,.int .u8 op] w fun e w'=>∃ v,e=.returned v∧Fr [] w w'∧BndsIn w' v (bnds m L op):=by
 subst htv;subst hpv;obtain⟨hg,ha⟩:=AI hMo.g hMo.a;have ht:=hMo.t;have hp:=hMo.p;have hfn:=hMo.f.n;have g2:(f:Int)<(nf:Int):=by omega
 have hn1000:nf≤1000:=by omega
 obtain⟨W1,hW1⟩:=eXi (w.alloc (.cells #[.slice ta m.texts.length tc,.slice pa m.pats.length pc,iA m.globs,iA m.arrs,.slice (some (Ad fg fo)) nf cap] 70));have F1:=frA hW1
 have k1:=kA hW1;have a0:W1.cell? (Ad w.heap.size 0)=some (.slice ta m.texts.length tc):=cof k1 rfl;have a1:W1.cell? (Ad w.heap.size 1)=some (.slice pa m.pats.length pc):=cof k1 rfl;have a2:W1.cell? (Ad w.heap.size 2)=some (iA m.globs):=cof k1 rfl;have a3:W1.cell? (Ad w.heap.size 3)=some (iA m.arrs):=cof k1 rfl;have a4:W1.cell? (Ad w.heap.size 4)=some (.slice (some (Ad fg fo)) nf cap):=cof k1 rfl;have a5:=(F1.cell (p:=Ad fg (fo+f*3+1)) hfg (by simp)).trans hl;have HF:Hid _:=F1;have HB:Hid _:=fun n (h:-5000000≤n∧n≤5000000)=>below_any n W1 h;clear F1 k1 hl hMo hfn;subst ho;have hm:=hmX
 have hr:bnds m L 38=[(0,m.arrs-1),(0,(m.pats.length:Int)-1)]:=by
  unfold bnds;rw[if_neg (by decide),if_pos rfl]
 rw[hr];have HB1:Hid _:=fun (W:WL)=>below_any m.arrs W (by omega);have HB2:Hid _:=fun (W:WL)=>below_any (m.pats.length:Int) W (by omega);have hSt:∀ W,Fr [] W1 W→(fun w1:WL=>w1.cell? (Ad w.heap.size 1)=some (.slice pa m.pats.length pc)∧w1.cell? (Ad w.heap.size 3)=some (iA m.arrs)) W:=fun W hW=>by
  have kl:=lt_of_cell a1;exact⟨(hW.cell (p:=Ad w.heap.size 1) kl (by simp)).trans a1,(hW.cell (p:=Ad w.heap.size 3) kl (by simp)).trans a3⟩
 have HSt:Hid _:=hSt;clear hr hn HB hSt;go_enter func187,ntmps187;go_wp2_with fail;refine wp_region_heldD (fun w1:WL=>w1.cell? (Ad w.heap.size 1)=some (.slice pa m.pats.length pc)∧w1.cell? (Ad w.heap.size 3)=some (iA m.arrs)) hm ?_;have hS:(fun w1:WL=>w1.cell? (Ad w.heap.size 1)=some (.slice pa m.pats.length pc)∧w1.cell? (Ad w.heap.size 3)=some (iA m.arrs)) W1.drew:=HSt.out W1 (Fr.refl [] W1);refine wpAnyH_take (i:=0) (v:=?_) rfl (by kernel_rfl) (by kernel_rfl) (by kernel_rfl) (fun _ _ _ h=>h) (.inl ⟨rfl,fun w1 hS1=>?_⟩) hS ?_;rotate_left
 ·obtain⟨p0,p1⟩:=hS1;go_simp
  first | rfl | (refine (if_neg (by omega)).trans ?_;rfl)
 simp only[Act.put,Zp,Zq];refine wpAnyH_take (i:=1) (v:=?_) rfl (by kernel_rfl) (by kernel_rfl) (by kernel_rfl) (fun _ _ _ h=>h) (.inl ⟨rfl,fun w1 hS1=>?_⟩) hS ?_;rotate_left
 ·obtain⟨p0,p1⟩:=hS1;go_simp
  first | rfl | (refine (if_neg (by omega)).trans ?_;rfl)
 simp only[Act.put,Zp,Zq];refine wpAnyH_take (i:=3) (v:=?_) rfl (by kernel_rfl) (by kernel_rfl) (by kernel_rfl) (fun _ _ _ h=>h) (.inl ⟨rfl,fun w1 hS1=>?_⟩) hS ?_;rotate_left
 ·obtain⟨p0,p1⟩:=hS1;go_simp
  first | rfl | (refine (if_neg (by omega)).trans ?_;rfl)
 simp only[Act.put,Zp,Zq];refine wpAnyH_take (i:=4) (v:=?_) rfl (by kernel_rfl) (by kernel_rfl) (by kernel_rfl) (fun _ _ _ h=>h) (.inl ⟨rfl,fun w1 hS1=>?_⟩) hS ?_;rotate_left
 ·obtain⟨p0,p1⟩:=hS1;go_simp
  first | rfl | (refine (if_neg (by omega)).trans ?_;rfl)
 simp only[Act.put,Zp,Zq];refine wpAnyH_take (i:=5) (v:=?_) rfl (by kernel_rfl) (by kernel_rfl) (by kernel_rfl) (fun _ _ _ h=>h) (.inl ⟨rfl,fun w1 hS1=>?_⟩) hS ?_;rotate_left
 ·obtain⟨p0,p1⟩:=hS1;go_simp
  first | rfl | (refine (if_neg (by omega)).trans ?_;rfl)
 simp only[Act.put,Zp,Zq];refine rd1 (r:=2) (by kernel_rfl) rfl fun K hK=>?_;go_simp;refine (HB1.out _).mono ?_;rintro e W2 ⟨rfl,F2'⟩;have F2:Fr [] W1 W2:=(Fr.refl [] W1).drew.trans F2';refine hK _ _ (HSt.out W2 F2) ?_;clear hK K;intro _;refine rd1 (r:=6) (by kernel_rfl) rfl fun K hK=>?_;go_simp;refine (HB2.out _).mono ?_;rintro e W3 ⟨rfl,F3'⟩;have F3:Fr [] W1 W3:=F2.trans F3';refine hK _ _ (HSt.out W3 F3) ?_;clear hK K;intro _;refine rd1 (r:=7) (by kernel_rfl) rfl fun K hK=>?_;go_simp;refine hK _ _ (HSt.out _ (F3.alloc _)) ?_;clear hK K;intro _;refine rd1 (r:=8) (by kernel_rfl) rfl fun K hK=>?_;go_simp;refine hK _ _ (HSt.out _ (F3.alloc _)) ?_;clear hK K;intro _;refine wpAnyH_done (by kernel_rfl) ?_ _;go_wp2;go_ret;exact⟨_,rfl,(HF.out.trans F3).trans ((Fr.refl [] W3).alloc _),bnds_two _ _ _ _ _⟩
theorem sorts_ops:∀ op,op<54→sortsT.getD op 0≠0→op ∈ [0,1,3,4,5,6,11,12,13,14,15,16,17,35,36,37,38,44,48,49,50]:=by decide
theorem operands_any (mv:Value)(m:Mo)(w:WL)(f op:Nat)(x:Wire.Fn)(hM:ModIn w mv m)(hMo:MoOk m)(hx:m.fns[f]?=some x)(ho:op<54) :
  Calls prog 187 #[mv,iA f,.int .u8 op] w fun e w'=>∃ v,e=.returned v∧Fr [] w w'∧BndsIn w' v (bnds m x.locs.toNat op):=by
 obtain⟨tv,pv,fv,rfl,h1,h2,h3⟩:=hM.is;obtain⟨ta,tc,-,-,ht,-⟩:=h1;obtain⟨pa,pc,-,-,hp,-⟩:=h2;obtain⟨a0,cap,g,off,rfl,hc,hx0,hxx⟩:=h3;have hf:=(Lgs.1 hx).1;obtain⟨c0,c1,c2⟩:=hxx f x hx;have hpp:=hMo.f.p x (List.mem_of_getElem? hx);obtain⟨rfl,hgl⟩:=hx0 (by omega);have c1':w.cell? (Ad g (off+f*3+1))=some (iA (x.locs.toNat:Nat)):=by rw[c1];congr 2;omega
 have hL:x.locs.toNat≤1000:=by omega
 by_cases hz:sortsT.getD op 0=0
 ·exact operands_none tv pv m w f _ op g off _ cap hf rfl hgl c1' hL hMo ho hz ta pa tc pc ht hp
 have hm:=sorts_ops op ho hz;simp only[List.mem_cons,List.not_mem_nil,or_false] at hm;by_cases e:op=38
 ·exact operands_op38 tv pv m w f _ op g off _ cap hf rfl hgl c1' hL hMo e ta pa tc pc ht hp
 exact operands_ops tv pv m w f _ op g off _ cap hf rfl hgl c1' hL hMo (by omega) ta pa tc pc ht hp
structure RMem (w W:WL) (x y z:Nat) (mc:Array Value) (v0 v1 v2 v3 v4:Value):Prop where
 fr:Fr [] w W
 mo:W.heap[x]?=some (.cells mc 70)
 re:W.heap[y]?=some (.cells #[.int .u8 0,.int .i64 0,.int .i64 0,.int .i64 0,.int .i64 0] 150)
 sp:W.heap[z]?=some (.cells #[v0,v1,v2,v3,v4] 150)
 lx:w.heap.size≤x
 ly:w.heap.size≤y
 lz:w.heap.size≤z
 ne:x≠z∧y≠z
theorem RMem.st {w W:WL}{x y z:Nat}{mc:Array Value}{v0 v1 v2 v3 v4:Value} (h:RMem w W x y z mc v0 v1 v2 v3 v4) :
  W.cell? (Ad z 0)=some v0∧W.cell? (Ad z 1)=some v1∧W.cell? (Ad z 2)=some v2∧W.cell? (Ad z 3)=some v3∧W.cell? (Ad z 4)=some v4:=by
 unfold World.cell?;rw[h.sp];exact⟨rfl,rfl,rfl,rfl,rfl⟩
theorem RMem.rs {w W:WL}{x y z:Nat}{mc:Array Value}{v0 v1 v2 v3 v4:Value} (h:RMem w W x y z mc v0 v1 v2 v3 v4) :
  W.cell? (Ad y 0)=some (.int .u8 0)∧W.cell? (Ad y 1)=some (iA 0)∧W.cell? (Ad y 2)=some (iA 0)∧W.cell? (Ad y 3)=some (iA 0)∧W.cell? (Ad y 4)=some (iA 0):=by
 unfold World.cell?;rw[h.re];exact⟨rfl,rfl,rfl,rfl,rfl⟩
theorem RMem.fz {w W:WL}{x y z:Nat}{mc:Array Value}{v0 v1 v2 v3 v4:Value} (h:RMem w W x y z mc v0 v1 v2 v3 v4) :
  W.frozen? (Ad y 0)=false∧W.frozen? (Ad y 1)=false∧W.frozen? (Ad y 2)=false∧W.frozen? (Ad y 3)=false∧W.frozen? (Ad y 4)=false:=by
 unfold World.frozen?;rw[h.re];simp
theorem RMem.sz {w W:WL}{x y z:Nat}{mc:Array Value}{v0 v1 v2 v3 v4:Value} (h:RMem w W x y z mc v0 v1 v2 v3 v4) :
  W.frozen? (Ad z 2)=false∧W.frozen? (Ad z 3)=false∧W.frozen? (Ad z 4)=false:=by
 unfold World.frozen?;rw[h.sp];simp
theorem RMem.put {w W:WL}{x y z:Nat}{mc:Array Value}{v0 v1 v2 v3 v4:Value} (h:RMem w W x y z mc v0 v1 v2 v3 v4) (u0 u1 u2 u3 u4:Value):Fr [] w (put5 W y u0 u1 u2 u3 u4):=
 h.fr.trans' (put5_fr W y u0 u1 u2 u3 u4) (fun q hq=>.inr (by have:=h.ly;simp at hq;omega))
theorem RMem.to {w W W':WL}{x y z:Nat}{mc:Array Value}{v0 v1 v2 v3 v4:Value} (h:RMem w W x y z mc v0 v1 v2 v3 v4) (hf:Fr [] W W'):RMem w W' x y z mc v0 v1 v2 v3 v4:=
 ⟨h.fr.trans hf,(hf.block _ (Age.1 h.mo).1 (by simp)).trans h.mo,(hf.block _ (Age.1 h.re).1 (by simp)).trans h.re,(hf.block _ (Age.1 h.sp).1 (by simp)).trans h.sp,h.lx,h.ly,h.lz,h.ne⟩
theorem RMem.set2 {w W:WL}{x y z:Nat}{mc:Array Value}{v0 v1 v2 v3 v4:Value} (h:RMem w W x y z mc v0 v1 v2 v3 v4) (u:Value):RMem w (W.setCell ⟨z,2,none⟩ u) x y z mc v0 v1 u v3 v4:=
 ⟨h.fr.setCell (p:=⟨z,2,none⟩) (.inr h.lz) u,(setCell_block h.ne.1).trans h.mo,(setCell_block h.ne.2).trans h.re,setCell_at h.sp,h.lx,h.ly,h.lz,h.ne⟩
theorem RMem.set3 {w W:WL}{x y z:Nat}{mc:Array Value}{v0 v1 v2 v3 v4:Value} (h:RMem w W x y z mc v0 v1 v2 v3 v4) (u:Value):RMem w (W.setCell ⟨z,3,none⟩ u) x y z mc v0 v1 v2 u v4:=
 ⟨h.fr.setCell (p:=⟨z,3,none⟩) (.inr h.lz) u,(setCell_block h.ne.1).trans h.mo,(setCell_block h.ne.2).trans h.re,setCell_at h.sp,h.lx,h.ly,h.lz,h.ne⟩
def readOps (c:LB):List (Int × Int)→Nat→Option (LN × Nat)
 | [],p=>some ([],p)
 | b :: r,p=>match num (c.drop p) with
  | none=>none
  | some (n,rest)=>if b.1≤(n:Int)∧(n:Int)≤b.2 then (readOps c r (c.length-rest.length)).map (fun q=>(n :: q.1,q.2)) else none
theorem fit_iff (m:Mo)(L sort n:Nat):fitN m L sort n=true↔(low sort:Int)≤(n:Int)∧(n:Int)≤(above m L sort:Int)-1:=by
 unfold fitN;simp only[Bool.and_eq_true,decide_eq_true_eq];omega
theorem decodeL_ops {m:Mo}{f L:Nat}{c:LB}{i op:Nat} (ho:(c.getD i 0).toNat=op) (hm:mayOp f op=true) (hMo:MoOk m) :
  decodeL m f L c i=match readOps c (bnds m L op) (i+1) with
   | none=>.inl 10
   | some q=>.inr ⟨i,q.2,op,q.1.getD 0 0,q.1.getD 1 0⟩:=by
 unfold decodeL;rw[ho,if_pos hm];unfold bnds;by_cases hz:sortsT.getD op 0=0
 ·rw[if_pos hz,if_pos hz];rfl
 rw[if_neg hz,if_neg hz];by_cases h38:op=38
 ·subst h38;rw[if_pos rfl];have hs:sortsT.getD 38 0=5:=rfl;rw[hs];have f5:∀ n,fitN m L 5 n=true↔(0:Int)≤(n:Int)∧(n:Int)≤m.arrs-1:=fun n=>by
   rw[fit_iff];simp only[low,above,Nat.reduceEqDiff,if_true,if_false];have:=hMo.a;omega
  have f6:∀ n,fitN m L 6 n=true↔(0:Int)≤(n:Int)∧(n:Int)≤(m.pats.length:Int)-1:=fun n=>by
   rw[fit_iff];simp only[low,above,Nat.reduceEqDiff,if_true,if_false];omega
  unfold operandL;simp only[readOps];cases hN:num (c.drop (i+1)) with
  | none=>rfl
  | some nr=>
   obtain⟨n,r⟩:=nr;simp only;by_cases hf:fitN m L 5 n=true
   ·rw[if_pos hf,if_pos ((f5 n).1 hf)];simp only[if_true];cases hN2:num (c.drop (c.length-r.length)) with
    | none=>rfl
    | some nr2=>
     obtain⟨n2,r2⟩:=nr2;simp only;by_cases hf2:fitN m L 6 n2=true
     ·rw[if_pos hf2,if_pos ((f6 n2).1 hf2)];rfl
     rw[if_neg hf2,if_neg (fun h=>hf2 ((f6 n2).2 h))];rfl
   rw[if_neg hf,if_neg (fun h=>hf ((f5 n).2 h))]
 rw[if_neg h38];unfold operandL;simp only[readOps];cases hN:num (c.drop (i+1)) with
 | none=>rfl
 | some nr=>
  obtain⟨n,r⟩:=nr;simp only;by_cases hf:fitN m L (sortsT.getD op 0) n=true
  ·rw[if_pos hf,if_pos ((fit_iff _ _ _ _).1 hf)];simp only[h38,if_false];rfl
  rw[if_neg hf,if_neg (fun h=>hf ((fit_iff _ _ _ _).2 h))]
theorem bnds_len (m:Mo)(L op:Nat):(bnds m L op).length≤2:=by
 unfold bnds;split
 ·simp
 split <;> simp
def RdP (m:Mo) (f L:Nat) (c:BA) (i:Nat) (w:WL) (e:Ending) (w':WL):Prop:=
 Fr [] w w'∧∃ op pl a b len x:Nat,e=.returned (.tuple #[.agg #[.int .u8 op,.int .i64 pl,.int .i64 a,.int .i64 b,.int .i64 0],.int .i64 len,.int .i64 x]) ∧
  ((x≠0∧x≤20∧decodeL m f L (bl c) i=.inl x) ∨
    (x=0∧∃ s,decodeL m f L (bl c) i=.inr s∧op=s.op∧pl=s.pl∧a=min s.a 2000000000∧b=min s.b 2000000000∧s.nx=i+len))
theorem bl_ext (c:BA)(p:Nat):bl (c.extract p c.size)=(bl c).drop p:=by
 rw[bl_extract,← bl_length c];exact seg_all _ _
theorem readOne_any (mv:Value)(m:Mo)(w:WL)(f i:Nat)(x:Wire.Fn)(hM:ModIn w mv m)(hMo:MoOk m)(hx:m.fns[f]?=some x)(hi:i<x.code.size) :
  Calls prog 114 #[mv,iA f,iA i] w (RdP m f x.locs.toNat x.code i w):=by
 have hOp:=fun (W:WL) (hW:Fr [] w W) (op:Nat) (ho:op<54)=>operands_any mv m W f op x (hM.fr hW) hMo hx ho;obtain⟨tv,pv,fv,rfl,h1,h2,h3⟩:=hM.is;obtain⟨ad,cap,fg,fo,rfl,hcap,hx0,hxx⟩:=h3;have hf:=(Lgs.1 hx).1;obtain⟨c0,c1,hc⟩:=hxx f x hx;have hpp:=hMo.f.p x (List.mem_of_getElem? hx);obtain⟨rfl,hfg⟩:=hx0 (by omega);have hn:=hMo.f.n;have hs:x.code.size≤20000:=hpp.2.2.2.2;generalize x.locs.toNat=L at *;generalize x.code=c at *;have hdo:=fun (hm:mayOp f c[i].toNat=true)=>decodeL_ops (m:=m) (f:=f) (L:=L) (c:=bl c) (i:=i) (op:=c[i].toNat) (by rw[bl_getD hi]) hm hMo;have hd9:mayOp f c[i].toNat=false→decodeL m f L (bl c) i=.inl 9:=fun e=>by
  unfold decodeL;rw[bl_getD hi,if_neg (by rw[e];decide)]
 have hfn:f≤2000000:=by omega
 generalize m.fns.length=nf at *;have g0:(i:Int)<c.size:=by omega
 have gx:c[i].toNat<256:=c[i].toNat_lt;have g2:(f:Int)<(nf:Int):=by omega
 obtain⟨W1,hW1⟩:=eXi (w.alloc (.cells #[tv,pv,iA m.globs,iA m.arrs,.slice (some (Ad fg fo)) nf cap] 70));obtain⟨W2,hW2⟩:=eXi (W1.alloc (.cells #[.int .u8 0,iA 0,iA 0,iA 0,iA 0] 150));obtain⟨W3,hW3⟩:=eXi (W2.alloc (.cells #[.int .u8 (c[i].toNat:Nat),iA (i:Nat),iA 0,iA 0,iA 0] 150));have FA:=frA hW1
 have FB1:=frA hW2
 have FC2:=frA hW3
 have FB:Fr [] w W2:=FA.trans FB1;have FC:Fr [] w W3:=FB.trans FC2;have z1:W1.heap.size=w.heap.size+1:=by rw[← hW1];simp
 have z2:W2.heap.size=w.heap.size+2:=by rw[← hW2];simp[z1]
 have k1:=wan w (.cells #[tv,pv,iA m.globs,iA m.arrs,.slice (some (Ad fg fo)) nf cap] 70);have k2:=wan W1 (.cells #[.int .u8 0,iA 0,iA 0,iA 0,iA 0] 150);have k3:=wan W2 (.cells #[.int .u8 (c[i].toNat:Nat),iA (i:Nat),iA 0,iA 0,iA 0] 150);rw[hW1] at k1;rw[hW2] at k2;rw[hW3] at k3;have hc2:=(FB.cell (p:=Ad fg (fo+f*3+2)) hfg (by simp)).trans hc;have hm2:W2.cell? (Ad w.heap.size 4)=some (.slice (some (Ad fg fo)) nf cap):=by
  refine (FB1.cell (p:=Ad w.heap.size 4) (by simp only;omega) (by simp)).trans ?_;unfold World.cell?;rw[k1];rfl
 have s2:W3.setCell ⟨W2.heap.size,2,none⟩ (.int .i64 0)=W3:=setCell_id k3 rfl;have s3:W3.setCell ⟨W2.heap.size,3,none⟩ (.int .i64 0)=W3:=setCell_id k3 rfl;have s4:W3.setCell ⟨W2.heap.size,4,none⟩ (.int .i64 0)=W3:=setCell_id k3 rfl;have fz2:W3.frozen? (Ad W2.heap.size 2)=false:=by unfold World.frozen?;rw[k3];simp
 have fz3:W3.frozen? (Ad W2.heap.size 3)=false:=by unfold World.frozen?;rw[k3];simp
 have fz4:W3.frozen? (Ad W2.heap.size 4)=false:=by unfold World.frozen?;rw[k3];simp
 have DM:RMem w W3 w.heap.size W1.heap.size W2.heap.size #[tv,pv,iA m.globs,iA m.arrs,.slice (some (Ad fg fo)) nf cap] (.int .u8 (c[i].toNat:Nat)) (iA (i:Nat)) (iA 0) (iA 0) (iA 0):=
  ⟨FC,((FB1.trans FC2).block _ (by omega) (by simp)).trans k1,(FC2.block _ (by omega) (by simp)).trans k2,k3,by omega,by omega,by omega,by omega⟩
 clear FA FB1 FC2 FB FC k1 k2 k3 z1 z2 hxx hx0 hMo hM h1 h2 c0 c1 hpp hc hx hn;have HMS:Hid _:=fun (_:Unit)=>mayStand_any f c[i].toNat W3 hfn gx;obtain⟨a0,a1,a2,a3,a4⟩:=RMem.st DM;obtain⟨r0,r1,r2,r3,r4⟩:=RMem.rs DM;obtain⟨rz0,rz1,rz2,rz3,rz4⟩:=RMem.fz DM;cases hmay:mayOp f c[i].toNat with
 | false=>
  have hd:=hd9 hmay;rw[hmay] at HMS;have HD:Hid _:=hd;have HDM:Hid _:=DM;clear hd hd9 hdo hOp DM hmay;go_enter func114,ntmps114;go_wp2_with fail;refine (HMS.out ()).mono ?_;rintro e w1 ⟨rfl,hw⟩;replace hw:=hw.symm;subst hw;go_wp2;have DM:=HDM.out;change bodyPost prog f114 (RdP m f L c i w) Exit.ret _ (put5 W3 W1.heap.size (.int .u8 0) (iA 0) (iA 0) (iA 0) (iA 0));obtain⟨y0,y1,y2,y3,y4⟩:=put5_cells (W:=W3) (g:=W1.heap.size) (.int .u8 0) (iA 0) (iA 0) (iA 0) (iA 0) r0 r1 r2 r3 r4;have FZ:=RMem.put DM (.int .u8 0) (iA 0) (iA 0) (iA 0) (iA 0);generalize put5 W3 W1.heap.size (.int .u8 0) (iA 0) (iA 0) (iA 0) (iA 0)=Z at *;refine bodyPost_ret (v:=.tuple #[.agg #[.int .u8 0,iA 0,iA 0,iA 0,iA 0],iA 0,iA 9]) (by simp[results,results114,go_sem,y0,y1,y2,y3,y4]) rfl ?_;exact⟨FZ,0,0,0,0,0,9,rfl,.inl ⟨by omega,by omega,HD.out⟩⟩
 | true=>
  have hd:=hdo hmay;have ho54:=mayOp_lt hmay;have HOp:Hid _:=fun (_:Unit)=>hOp W3 DM.fr c[i].toNat ho54;rw[hmay] at HMS;have hB2:=bnds_len m L c[i].toNat;generalize bnds m L c[i].toNat=B at *;have HD:Hid _:=hd;have HDM:Hid _:=DM;obtain⟨m0,m1,m2,m3,m4⟩:W3.cell? (Ad w.heap.size 0)=some tv∧W3.cell? (Ad w.heap.size 1)=some pv∧W3.cell? (Ad w.heap.size 2)=some (iA m.globs)∧W3.cell? (Ad w.heap.size 3)=some (iA m.arrs)∧W3.cell? (Ad w.heap.size 4)=some (.slice (some (Ad fg fo)) nf cap):=by
   unfold World.cell?;rw[DM.mo];exact⟨rfl,rfl,rfl,rfl,rfl⟩
  clear hd hd9 hdo hOp DM hmay;go_enter func114,ntmps114;go_wp2_with fail;refine (HMS.out ()).mono ?_;rintro e w1 ⟨rfl,hw⟩;replace hw:=hw.symm;subst hw;go_wp2_with fail;refine (HOp.out ()).mono ?_;rintro e Wb ⟨v,rfl,Fb,hBn⟩;have DMb:=RMem.to HDM.out Fb;clear m0 m1 m2 m3 m4 a0 a1 a2 a3 a4 r0 r1 r2 r3 r4 rz0 rz1 rz2 rz3 rz4 s2 s3 s4 fz2 fz3 fz4 HDM HOp HMS hW1 hW2 hW3 hc2 hm2;obtain⟨ba,bg,rfl,hbg,hbx⟩:∃ ba bg,v=.slice ba B.length B.length∧(0<B.length→ba=some (Ad bg 0)∧bg<Wb.heap.size∧bg≠W2.heap.size)∧∀ (j:Nat) (y:Int × Int),B[j]?=some y→Wb.cell? (Ad bg (j*2))=some (iA y.1)∧Wb.cell? (Ad bg (j*2+1))=some (iA y.2):=by
   rcases hBn with ⟨rfl,rfl⟩ | ⟨g,rfl,hg,hxy⟩
   ·exact⟨none,0,rfl,fun h=>absurd h (by simp),fun j y hj=>by simp at hj⟩
   refine⟨_,g,rfl,fun h0=>⟨rfl,hg,fun e=>?_⟩,hxy⟩;obtain⟨y,hy⟩:∃ y,B[0]?=some y:=⟨_,Lge h0⟩;have q1:=(hxy 0 y hy).1;rw[e] at q1;have q2:=DMb.st.1;simp only[Nat.zero_mul] at q1;rw[q1] at q2;simp at q2
  have HBX:Hid _:=AI hbg hbx;have HDMb:Hid _:=DMb;clear hBn hbg hbx DMb Fb;go_wp2
  go_loopw [11,41] (fun a j wr=>∃ (ns:LN) (p:Nat),j=iA (ns.length:Nat)∧a=iA (p:Nat)∧ns.length≤B.length∧i<p∧p≤c.size∧Hid (readOps (bl c) B (i+1)=(readOps (bl c) (B.drop ns.length) p).map (fun q=>(ns++q.1,q.2))) ∧
   RMem w wr w.heap.size W1.heap.size W2.heap.size #[tv,pv,iA m.globs,iA m.arrs,.slice (some (Ad fg fo)) nf cap] (.int .u8 (c[i].toNat:Nat)) (iA (i:Nat)) (iA (min (ns.getD 0 0) 2000000000:Nat)) (iA (min (ns.getD 1 0) 2000000000:Nat)) (iA 0)∧Fr [W2.heap.size] Wb wr) (fun _ j _=>B.length-(intOf j).toNat)
  case atStart=>
   refine⟨[],i+1,rfl,by push_cast;rfl,by simp,by omega,by omega,?_,HDMb.out,Fr.refl _ _⟩;show readOps (bl c) B (i+1)=_;simp
  case round=>
   obtain⟨ns,p,rfl,rfl,hk,hip,hpc,hR,DMr,Fr1⟩:=hrel;obtain⟨k,hkk⟩:=eXi (ns.length);obtain⟨nB,hnB⟩:=eXi (B.length);have hkB:k≤nB:=by omega
   by_cases hlt:k<nB
   ·have g1:(k:Int)<(nB:Int):=by omega
    obtain⟨rfl,hbgl,hbne⟩:=HBX.out.1 (by omega);obtain⟨y,hy⟩:∃ y,B[k]?=some y:=⟨_,Lge (by omega)⟩;have hdrop:B.drop k=y :: B.drop (k+1):=by
     rw[List.drop_eq_getElem_cons (by omega)];congr 1;exact (Lgs.1 hy).2
    obtain⟨x0,x1⟩:=HBX.out.2 k y hy;replace x0:=(Fr1.cell (p:=Ad bg (k*2)) hbgl (by simpa using hbne)).trans x0;replace x1:=(Fr1.cell (p:=Ad bg (k*2+1)) hbgl (by simpa using hbne)).trans x1;have hR1:=hR.out;rw[hkk,hdrop] at hR1;obtain⟨W4,hW4⟩:=eXi (wr.alloc (.cells #[iA y.1,iA y.2] 291));have F4:=frA hW4
    have k4:=kA hW4;have e0:W4.cell? (Ad wr.heap.size 0)=some (iA y.1):=cof k4 rfl;have e1:W4.cell? (Ad wr.heap.size 1)=some (iA y.2):=cof k4 rfl;have DM4:=RMem.to DMr F4;have Fr4:=Fr1.trans (F4.mono (by simp));have hnr:=numRead_any (c.extract p c.size) (by rw[ByteArray.size_extract];omega) W4;rw[bl_ext] at hnr;have hcl:=bl_length c;have gp:(p:Int)≤(c.size:Int):=by omega
    cases hN:num ((bl c).drop p) with
    | none=>
     have hV:numV ((bl c).drop p)=0:=by unfold numV;rw[hN]
     have hK:numK ((bl c).drop p)=0:=by unfold numK;rw[hN]
     rw[hV,hK] at hnr;have HNR:Hid _:=fun (_:Unit)=>hnr;have hd:decodeL m f L (bl c) i=.inl 10:=by
      rw[HD.out,hR1];simp only[readOps,hN];rfl
     have HD2:Hid _:=hd;have HDM:Hid _:=DM4;obtain⟨a0,a1,a2,a3,a4⟩:=RMem.st DM4;obtain⟨r0,r1,r2,r3,r4⟩:=RMem.rs DM4;obtain⟨rz0,rz1,rz2,rz3,rz4⟩:=RMem.fz DM4;clear hd hR1 hR hN HD hnr hV hK DM4 DMr Fr1 Fr4 F4 k4 HBX HDMb hdrop hy hcl hkB hk a0 a1 a2 a3 a4;rw[hkk,hnB];clear hkk hnB;go_wp2_with fail;refine (HNR.out ()).mono ?_;rintro e w1 ⟨rfl,hw⟩;replace hw:=hw.symm;subst hw;go_wp2;have DM4:=HDM.out;change bodyPost prog f114 (RdP m f L c i w) Exit.ret _ (put5 W4 W1.heap.size (.int .u8 0) (iA 0) (iA 0) (iA 0) (iA 0));obtain⟨y0,y1,y2,y3,y4⟩:=put5_cells (W:=W4) (g:=W1.heap.size) (.int .u8 0) (iA 0) (iA 0) (iA 0) (iA 0) r0 r1 r2 r3 r4;have FZ:=RMem.put DM4 (.int .u8 0) (iA 0) (iA 0) (iA 0) (iA 0);generalize put5 W4 W1.heap.size (.int .u8 0) (iA 0) (iA 0) (iA 0) (iA 0)=Z at *;refine bodyPost_ret (v:=.tuple #[.agg #[.int .u8 0,iA 0,iA 0,iA 0,iA 0],iA 0,iA 10]) (by simp[results,results114,go_sem,y0,y1,y2,y3,y4]) rfl ?_;exact⟨FZ,0,0,0,0,0,10,rfl,.inl ⟨by omega,by omega,HD2.out⟩⟩
    | some nr=>
     obtain⟨n,r⟩:=nr;have hn36:=(num_some hN).2;have hsh:=numF_shorter 5 true _ _ _ hN;rw[List.length_drop,hcl] at hsh;have hV:numV ((bl c).drop p)=n:=by unfold numV;rw[hN]
     have hK:numK ((bl c).drop p)=c.size-p-r.length:=by unfold numK;rw[hN,List.length_drop,hcl]
     obtain⟨K0,hK0⟩:=eXi (c.size-p-r.length);rw[hV,hK,hK0] at hnr;have HNR:Hid _:=fun (_:Unit)=>hnr;have gK:0<K0:=by omega
     have gK2:p+K0≤c.size:=by omega
     have eK:c.size-r.length=p+K0:=by omega
     have qK:((K0:Int)==0)=false:=by simp;omega
     simp only[readOps,hN,hcl] at hR1;have HX:Hid _:=AI hR1 (AI eK (AI Fr4 (AI DM4 (AI hkk (AI hnB hB2)))));obtain⟨y1,y2⟩:=y;simp only at e0 e1 hW4 x0 x1;obtain⟨a0,a1,a2,a3,a4⟩:=RMem.st DM4;obtain⟨r0,r1,r2,r3,r4⟩:=RMem.rs DM4;obtain⟨rz0,rz1,rz2,rz3,rz4⟩:=RMem.fz DM4;clear hnr hN hV hK hK0 DMr Fr1 F4 k4 HBX HDMb hdrop hy hcl hR hR1 eK DM4 Fr4 hsh;by_cases hf1:y1≤(n:Int)
     ·by_cases hf2:(n:Int)≤y2
      ·have q3:decide ((n:Int)<y1)=false:=decide_eq_false (by omega);have q4:decide (y2<(n:Int))=false:=decide_eq_false (by omega);obtain⟨nm,hnm⟩:=eXi (min n 2000000000);have hnmI:min (n:Int) 2000000000=(nm:Int):=by omega
       obtain⟨p2,hp2⟩:=eXi (p+K0);have hpI:(p:Int)+(K0:Int)=(p2:Int):=by omega
       have hp2c:p2≤c.size:=by omega
       have hp2i:i<p2:=by omega
       have HP2:Hid _:=AI hp2 hnm;clear hp2 hnm;clear r0 r1 r2 r3 r4 rz0 rz1 rz2 rz3 rz4;rcases ns with _ | ⟨aa,_ | ⟨bb,ns⟩⟩
       ·obtain rfl:0=k:=hkk;have hR2:readOps (bl c) B (i+1)=(readOps (bl c) (B.drop (0+1)) p2).map (fun q=>([n]++q.1,q.2)):=by
         rw[HX.out.1,if_pos ⟨hf1,hf2⟩,HX.out.2.1,HP2.out.1,Option.map_map];rfl
        have DM5:=RMem.set2 HX.out.2.2.2.1 (iA (nm:Nat));have fz5:=(RMem.sz HX.out.2.2.2.1).1;obtain⟨W5,hW5⟩:=eXi (W4.setCell ⟨W2.heap.size,2,none⟩ (.int .i64 (nm:Nat)));rw[hW5] at DM5;have F5:Fr [W2.heap.size] Wb W5:=by rw[← hW5];exact HX.out.2.2.1.setCell (p:=⟨W2.heap.size,2,none⟩) (.inl (by simp)) _
        have HY:Hid _:=AI hR2 (AI DM5 F5);simp only[List.length_cons,List.length_nil,Nat.zero_add] at *;rw[hnB];clear hR2 DM5 F5 HD hkB hk HX;go_wp2_with fail;refine (HNR.out ()).mono ?_;rintro e w1 ⟨rfl,hw⟩;replace hw:=hw.symm;subst hw;go_wp2;refine⟨⟨[n],p2,rfl,rfl,by simp;omega,hp2i,hp2c,HY.out.1,?_,HY.out.2.2⟩,?_⟩
        ·have h:=HY.out.2.1;rw[← HP2.out.2] at h;exact h
        simp[intOf];omega
       ·obtain rfl:1=k:=hkk;have hR2:readOps (bl c) B (i+1)=(readOps (bl c) (B.drop (1+1)) p2).map (fun q=>([aa,n]++q.1,q.2)):=by
         rw[HX.out.1,if_pos ⟨hf1,hf2⟩,HX.out.2.1,HP2.out.1,Option.map_map];rfl
        have DM5:=RMem.set3 HX.out.2.2.2.1 (iA (nm:Nat));have fz5:=(RMem.sz HX.out.2.2.2.1).2.1;obtain⟨W5,hW5⟩:=eXi (W4.setCell ⟨W2.heap.size,3,none⟩ (.int .i64 (nm:Nat)));rw[hW5] at DM5;have F5:Fr [W2.heap.size] Wb W5:=by rw[← hW5];exact HX.out.2.2.1.setCell (p:=⟨W2.heap.size,3,none⟩) (.inl (by simp)) _
        have HY:Hid _:=AI hR2 (AI DM5 F5);simp only[List.length_cons,List.length_nil,Nat.zero_add] at *;rw[hnB];clear hR2 DM5 F5 HD hkB hk HX;go_wp2_with fail;refine (HNR.out ()).mono ?_;rintro e w1 ⟨rfl,hw⟩;replace hw:=hw.symm;subst hw;go_wp2;refine⟨⟨[aa,n],p2,rfl,rfl,by simp;omega,hp2i,hp2c,HY.out.1,?_,HY.out.2.2⟩,?_⟩
        ·have h:=HY.out.2.1;rw[← HP2.out.2] at h;exact h
        simp[intOf];omega
       simp only[List.length_cons] at hkk;omega
      have q3:decide ((n:Int)<y1)=false:=decide_eq_false (by omega);have q4:decide (y2<(n:Int))=true:=decide_eq_true (by omega);have hd:decodeL m f L (bl c) i=.inl 10:=by
       rw[HD.out,HX.out.1,if_neg (fun h=>hf2 h.2)];rfl
      have HD2:Hid _:=hd;clear hd HD a0 a1 a2 a3 a4 hkB hk;rw[hkk,hnB];clear hkk hnB;go_wp2_with fail;refine (HNR.out ()).mono ?_;rintro e w1 ⟨rfl,hw⟩;replace hw:=hw.symm;subst hw;go_wp2;have DM4:=HX.out.2.2.2.1;change bodyPost prog f114 (RdP m f L c i w) Exit.ret _ (put5 W4 W1.heap.size (.int .u8 0) (iA 0) (iA 0) (iA 0) (iA 0));obtain⟨y0,y1,y2,y3,y4⟩:=put5_cells (W:=W4) (g:=W1.heap.size) (.int .u8 0) (iA 0) (iA 0) (iA 0) (iA 0) r0 r1 r2 r3 r4;have FZ:=RMem.put DM4 (.int .u8 0) (iA 0) (iA 0) (iA 0) (iA 0);generalize put5 W4 W1.heap.size (.int .u8 0) (iA 0) (iA 0) (iA 0) (iA 0)=Z at *;refine bodyPost_ret (v:=.tuple #[.agg #[.int .u8 0,iA 0,iA 0,iA 0,iA 0],iA 0,iA 10]) (by simp[results,results114,go_sem,y0,y1,y2,y3,y4]) rfl ?_;exact⟨FZ,0,0,0,0,0,10,rfl,.inl ⟨by omega,by omega,HD2.out⟩⟩
     have q3:decide ((n:Int)<y1)=true:=decide_eq_true (by omega);have hd:decodeL m f L (bl c) i=.inl 10:=by
      rw[HD.out,HX.out.1,if_neg (fun h=>hf1 h.1)];rfl
     have HD2:Hid _:=hd;clear hd HD a0 a1 a2 a3 a4 hkB hk;rw[hkk,hnB];clear hkk hnB;go_wp2_with fail;refine (HNR.out ()).mono ?_;rintro e w1 ⟨rfl,hw⟩;replace hw:=hw.symm;subst hw;go_wp2;have DM4:=HX.out.2.2.2.1;change bodyPost prog f114 (RdP m f L c i w) Exit.ret _ (put5 W4 W1.heap.size (.int .u8 0) (iA 0) (iA 0) (iA 0) (iA 0));obtain⟨y0,y1,y2,y3,y4⟩:=put5_cells (W:=W4) (g:=W1.heap.size) (.int .u8 0) (iA 0) (iA 0) (iA 0) (iA 0) r0 r1 r2 r3 r4;have FZ:=RMem.put DM4 (.int .u8 0) (iA 0) (iA 0) (iA 0) (iA 0);generalize put5 W4 W1.heap.size (.int .u8 0) (iA 0) (iA 0) (iA 0) (iA 0)=Z at *;refine bodyPost_ret (v:=.tuple #[.agg #[.int .u8 0,iA 0,iA 0,iA 0,iA 0],iA 0,iA 10]) (by simp[results,results114,go_sem,y0,y1,y2,y3,y4]) rfl ?_;exact⟨FZ,0,0,0,0,0,10,rfl,.inl ⟨by omega,by omega,HD2.out⟩⟩
   have g1:¬ (k:Int)<(nB:Int):=by omega
   have hd:decodeL m f L (bl c) i=.inr ⟨i,p,c[i].toNat,ns.getD 0 0,ns.getD 1 0⟩:=by
    rw[HD.out,hR.out,List.drop_eq_nil_of_le (by omega)];simp[readOps]
   obtain⟨len,hlen⟩:∃ len,p=i+len:=⟨p-i,by omega⟩;have hI:(p:Int)-(i:Int)=(len:Int):=by omega
   have HD2:Hid _:=AI hd hlen;have HDM:Hid _:=DMr;obtain⟨va,hva⟩:=eXi (min (ns.getD 0 0) 2000000000);obtain⟨vb,hvb⟩:=eXi (min (ns.getD 1 0) 2000000000);rw[hva,hvb] at DMr;obtain⟨a0,a1,a2,a3,a4⟩:=RMem.st DMr;obtain⟨r0,r1,r2,r3,r4⟩:=RMem.rs DMr;obtain⟨rz0,rz1,rz2,rz3,rz4⟩:=RMem.fz DMr;have HV:Hid _:=AI hva (AI hvb DMr);clear hd hR HD DMr Fr1 HBX HDMb hkB hk hlen hva hvb HDM;rw[hkk,hnB];clear hkk hnB;go_wp2;obtain⟨hva,hvb,DMr⟩:=HV.out;change bodyPost prog f114 (RdP m f L c i w) Exit.ret _ (put5 wr W1.heap.size (.int .u8 (c[i].toNat:Nat)) (iA (i:Nat)) (iA (va:Nat)) (iA (vb:Nat)) (iA 0));obtain⟨y0,y1,y2,y3,y4⟩:=put5_cells (W:=wr) (g:=W1.heap.size) (.int .u8 (c[i].toNat:Nat)) (iA (i:Nat)) (iA (va:Nat)) (iA (vb:Nat)) (iA 0) r0 r1 r2 r3 r4;have FZ:=RMem.put DMr (.int .u8 (c[i].toNat:Nat)) (iA (i:Nat)) (iA (va:Nat)) (iA (vb:Nat)) (iA 0);generalize put5 wr W1.heap.size (.int .u8 (c[i].toNat:Nat)) (iA (i:Nat)) (iA (va:Nat)) (iA (vb:Nat)) (iA 0)=Z at *;refine bodyPost_ret (v:=.tuple #[.agg #[.int .u8 (c[i].toNat:Nat),iA (i:Nat),iA (va:Nat),iA (vb:Nat),iA 0],iA (len:Nat),iA 0]) (by simp[results,results114,go_sem,y0,y1,y2,y3,y4]) rfl ?_;exact⟨FZ,c[i].toNat,i,va,vb,len,0,rfl,.inr ⟨rfl,_,HD2.out.1,rfl,rfl,hva.symm,hvb.symm,HD2.out.2⟩⟩
theorem isNaN_any (n:Int)(w:WL):Calls prog 307 #[iA n] w fun e w'=>e=.returned (.bool false)∧w'=w:=by
 go_enter func307,ntmps307;go_wp2;go_ret;exact⟨rfl,rfl⟩
def cmpI (a b:Nat):Int:=if a<b then -1 else if b<a then 1 else 0
theorem compare_any (a b:Nat)(w:WL):Calls prog 273 #[iA a,iA b] w fun e w'=>e=.returned (iA (cmpI a b))∧w'=w:=by
 have H1:Hid _:=fun (n:Int)=>isNaN_any n w;by_cases h1:a<b
 ·have hr:cmpI a b = -1:=by unfold cmpI;rw[if_pos h1]
  rw[hr];have g1:(a:Int)<(b:Int):=by omega
  clear hr;go_enter func273,ntmps273;go_wp2_with fail;refine (H1.out _).mono ?_;rintro e w1 ⟨rfl,hw⟩;replace hw:=hw.symm;subst hw;go_wp2_with fail;refine (H1.out _).mono ?_;rintro e w1 ⟨rfl,hw⟩;replace hw:=hw.symm;subst hw;go_wp2;go_ret;exact⟨rfl,rfl⟩
 by_cases h2:b<a
 ·have hr:cmpI a b=1:=by unfold cmpI;rw[if_neg h1,if_pos h2]
  rw[hr];have g1:¬ (a:Int)<(b:Int):=by omega
  have g2:(b:Int)<(a:Int):=by omega
  clear hr;go_enter func273,ntmps273;go_wp2_with fail;refine (H1.out _).mono ?_;rintro e w1 ⟨rfl,hw⟩;replace hw:=hw.symm;subst hw;go_wp2_with fail;refine (H1.out _).mono ?_;rintro e w1 ⟨rfl,hw⟩;replace hw:=hw.symm;subst hw;go_wp2;go_ret;exact⟨rfl,rfl⟩
 have hr:cmpI a b=0:=by unfold cmpI;rw[if_neg h1,if_neg h2]
 rw[hr];have g1:¬ (a:Int)<(b:Int):=by omega
 have g2:¬ (b:Int)<(a:Int):=by omega
 clear hr;go_enter func273,ntmps273;go_wp2_with fail;refine (H1.out _).mono ?_;rintro e w1 ⟨rfl,hw⟩;replace hw:=hw.symm;subst hw;go_wp2_with fail;refine (H1.out _).mono ?_;rintro e w1 ⟨rfl,hw⟩;replace hw:=hw.symm;subst hw;go_wp2;go_ret;exact⟨rfl,rfl⟩
theorem byPlace_any (op pl a b to_ p:Nat)(w:WL):Calls prog 191 #[.agg #[.int .u8 op,iA pl,iA a,iA b,iA to_],iA p] w fun e w'=>e=.returned (iA (cmpI pl p))∧Fr [] w w':=by
 obtain⟨W1,hW1⟩:=eXi (w.alloc (.cells #[.int .u8 op,iA pl,iA a,iA b,iA to_] 150));have F1:=frA hW1
 have k1:=kA hW1;have a1:W1.cell? (Ad w.heap.size 1)=some (iA pl):=cof k1 rfl;have H1:Hid _:=fun (_:Unit)=>compare_any pl p W1;have HF:Hid _:=F1;clear F1 k1;go_enter func191,ntmps191;go_wp2_with fail;refine (H1.out ()).mono ?_;rintro e w1 ⟨rfl,hw⟩;replace hw:=hw.symm;subst hw;go_wp2;go_ret;exact⟨rfl,HF.out⟩
theorem names_any (op:Nat)(ho:op<256)(w:WL):Calls prog 189 #[.int .u8 op] w fun e w'=>e=.returned (.bool (far op))∧w'=w:=by
 have fact:∀ k:Nat,op=k∨((op:Int)==(k:Int))=false:=fun k=>by
  by_cases e:op=k
  ·exact .inl e
  right;simp only[beq_eq_false_iff_ne,ne_eq];omega
 by_cases e1:op=17
 ·subst e1;have hf:far 17=true:=rfl;rw[hf];go_enter func189,ntmps189;go_wp2;go_ret;exact⟨rfl,rfl⟩
 by_cases e2:op=48
 ·subst e2;have hf:far 48=true:=rfl;rw[hf];go_enter func189,ntmps189;go_wp2;go_ret;exact⟨rfl,rfl⟩
 have hf:far op=(((op:Int)==49)):=by
  unfold far;rw[show (op==48)=false by simpa using e2,show (op==17)=false by simpa using e1];simp only[Bool.false_or,Bool.or_false];by_cases e3:op=49
  ·subst e3;rfl
  rw[show (op==49)=false by simpa using e3];symm;simp only[beq_eq_false_iff_ne,ne_eq];omega
 have q1:((op:Int)==17)=false:=(fact 17).resolve_left e1;have q2:((op:Int)==48)=false:=(fact 48).resolve_left e2;rw[hf];generalize hq:((op:Int)==49)=q3;clear fact hf;go_enter func189,ntmps189;go_wp2;go_ret;exact⟨rfl,rfl⟩
structure InsM (W:WL) (g:Nat) (L:List Stp) (T:LN):Prop where
 len:T.length=L.length
 cell:∀ i s t,L[i]?=some s→T[i]?=some t→W.cell? ⟨g,i*5,none⟩=some (.int .u8 (s.op:Nat))∧W.cell? ⟨g,i*5+1,none⟩=some (.int .i64 (s.pl:Nat))∧W.cell? ⟨g,i*5+2,none⟩=some (.int .i64 (min s.a 2000000000:Nat))∧W.cell? ⟨g,i*5+3,none⟩=some (.int .i64 (min s.b 2000000000:Nat))∧W.cell? ⟨g,i*5+4,none⟩=some (.int .i64 (t:Nat))
 fz:∀ k,W.frozen? ⟨g,k,none⟩=false
 sm:∀ t ∈ T,t≤20000
theorem InsM.fr {W W':WL}{g:Nat}{L:List Stp}{T:LN} (h:InsM W g L T) {S:LN} (hg:g<W.heap.size) (hf:Fr S W W') (hS:g ∉ S):InsM W' g L T:=
 ⟨h.len,fun i s t hs ht=>by
  obtain⟨h0,h1,h2,h3,h4⟩:=h.cell i s t hs ht
  exact⟨(hf.cell (p:=Ad g (i*5)) hg hS).trans h0,(hf.cell (p:=Ad g (i*5+1)) hg hS).trans h1,(hf.cell (p:=Ad g (i*5+2)) hg hS).trans h2,(hf.cell (p:=Ad g (i*5+3)) hg hS).trans h3,(hf.cell (p:=Ad g (i*5+4)) hg hS).trans h4⟩,fun k=>(hf.frozen (p:=Ad g k) hg hS).trans (h.fz k),h.sm⟩
def SrchP (L:List Stp) (p n:Nat) (e:Ending):Prop:=∃ (k:Nat) (b:Bool),e=.returned (.tuple #[.int .i64 k,.bool b])∧k≤n∧((b=true∧numb L p=some k)∨(b=false∧numb L p=none))
theorem search_any (g:Nat)(L:List Stp)(T:LN)(n cap p:Nat)(hn:L.length=n)(h0:0<n)(hn2:n≤20000)(w:WL)(hg:g<w.heap.size)(hI:InsM w g L T)(hs:Sorted 0 L) :
  Calls prog 190 #[.slice (some (Ad g 0)) n cap,iA p,.func (.func 191) #[] #[]] w fun e w'=>Fr [] w w'∧SrchP L p n e:=by
 have hlt:=hs.lt;have HL:Hid _:=AI hlt (AI hs (AI hI hn));clear hlt hs hI hn;go_enter func190,ntmps190;go_wp2
 go_loopw [9,10] (fun a b wr=>∃ lo hi:Nat,a=iA (lo:Nat)∧b=iA (hi:Nat)∧lo≤hi∧hi≤n∧Fr [] w wr∧Hid (∀ q s,L[q]?=some s→(q<lo→s.pl<p)∧(hi≤q→p≤s.pl))) (fun a b _=>(intOf b).toNat-(intOf a).toNat)
 case atStart=>exact⟨0,n,rfl,rfl,by omega,by omega,Fr.refl [] _,fun q s hq=>⟨fun h=>absurd h (by omega),fun h=>absurd (Lgs.1 hq).1 (by rw[HL.out.2.2.2];omega)⟩⟩
 case round=>
  obtain⟨lo,hi,rfl,rfl,hlh,hhn,F1,hQ⟩:=hrel;by_cases hl:lo<hi
  ·have g1:(lo:Int)<(hi:Int):=by omega
   obtain⟨h,hh⟩:=eXi ((lo+hi) / 2);have hm:((lo:Int)+(hi:Int)) / 2=(h:Int):=by omega
   have hh1:lo≤h:=by omega
   have hh2:h<hi:=by omega
   have g2:(h:Int)<(n:Int):=by omega
   obtain⟨s,hs⟩:∃ s,L[h]?=some s:=⟨_,Lge (by rw[HL.out.2.2.2];omega)⟩;obtain⟨t,ht⟩:∃ t,T[h]?=some t:=⟨_,Lge (by rw[HL.out.2.2.1.len,HL.out.2.2.2];omega)⟩;obtain⟨x0,x1,x2,x3,x4⟩:=(HL.out.2.2.1.fr hg F1 (by simp)).cell h s t hs ht;have HB:Hid _:=fun (_:Unit)=>byPlace_any s.op s.pl (min s.a 2000000000) (min s.b 2000000000) t p wr;obtain⟨sa,hsa⟩:=eXi (min s.a 2000000000);obtain⟨sb,hsb⟩:=eXi (min s.b 2000000000);rw[hsa] at x2 HB;rw[hsb] at x3 HB;have HS:Hid _:=hs;have HF:Hid _:=F1;clear hs ht hsa hsb hh F1;go_wp2_with fail;refine (HB.out ()).mono ?_;rintro e w2 ⟨rfl,F2⟩;by_cases hc:s.pl<p
   ·have hr:cmpI s.pl p = -1:=by unfold cmpI;rw[if_pos hc]
    rw[hr];clear x0 x1 x2 x3 x4 hr HB;go_wp2;refine⟨⟨h+1,hi,by go_num,rfl,by omega,by omega,HF.out.trans F2,fun q s' hq=>⟨fun hq2=>?_,fun hq2=>(hQ.out q s' hq).2 hq2⟩⟩,?_⟩
    ·by_cases e:q<lo
     ·exact (hQ.out q s' hq).1 e
     rcases Nat.lt_or_ge q h with c | c
     ·have:=HL.out.1 q h s' s c hq HS.out;omega
     have e2:q=h:=by omega
     subst e2;rw[HS.out] at hq;cases hq;exact hc
    simp[intOf];omega
   have hr:¬ cmpI s.pl p<0:=by unfold cmpI;rw[if_neg hc];split <;> omega
   generalize cmpI s.pl p=y at hr;clear x0 x1 x2 x3 x4 HB;go_wp2;refine⟨⟨lo,h,rfl,rfl,by omega,by omega,HF.out.trans F2,fun q s' hq=>⟨fun hq2=>(hQ.out q s' hq).1 hq2,fun hq2=>?_⟩⟩,?_⟩
   ·rcases Nat.lt_or_ge h q with c | c
    ·have:=HL.out.1 h q s s' c HS.out hq;omega
    have e2:q=h:=by omega
    subst e2;rw[HS.out] at hq;cases hq;omega
   simp[intOf];omega
  have g1:¬ (lo:Int)<(hi:Int):=by omega
  have ehl:hi=lo:=by omega
  by_cases hln:lo<n
  ·have g2:(lo:Int)<(n:Int):=by omega
   obtain⟨s,hs⟩:∃ s,L[lo]?=some s:=⟨_,Lge (by rw[HL.out.2.2.2];omega)⟩;obtain⟨t,ht⟩:∃ t,T[lo]?=some t:=⟨_,Lge (by rw[HL.out.2.2.1.len,HL.out.2.2.2];omega)⟩;obtain⟨x0,x1,x2,x3,x4⟩:=(HL.out.2.2.1.fr hg F1 (by simp)).cell lo s t hs ht;have HB:Hid _:=fun (_:Unit)=>byPlace_any s.op s.pl (min s.a 2000000000) (min s.b 2000000000) t p wr;obtain⟨sa,hsa⟩:=eXi (min s.a 2000000000);obtain⟨sb,hsb⟩:=eXi (min s.b 2000000000);rw[hsa] at x2 HB;rw[hsb] at x3 HB;have HS:Hid _:=hs;have HF:Hid _:=F1;have hQ2:=(hQ.out lo s hs).2 (by omega);clear hs ht hsa hsb F1;have HE:Hid _:=ehl;clear ehl;go_wp2_with fail;refine (HB.out ()).mono ?_;rintro e w2 ⟨rfl,F2⟩;by_cases hc:s.pl=p
   ·have hr:cmpI s.pl p=0:=by unfold cmpI;rw[if_neg (by omega),if_neg (by omega)]
    rw[hr];have HC:Hid _:=hc;clear x0 x1 x2 x3 x4 hr HB hc;go_wp2;go_ret2;exact⟨HF.out.trans F2,lo,true,rfl,by omega,.inl ⟨rfl,numb_is HL.out.2.1 HS.out HC.out⟩⟩
   have hr:(cmpI s.pl p==0)=false:=by
    have hx:cmpI s.pl p=1:=by unfold cmpI;rw[if_neg (by omega),if_pos (by omega)]
    rw[hx];rfl
   generalize cmpI s.pl p=y at hr;clear x0 x1 x2 x3 x4 HB;go_wp2;go_ret2;refine⟨HF.out.trans F2,lo,false,rfl,by omega,.inr ⟨rfl,?_⟩⟩;cases hq:numb L p with
   | none=>rfl
   | some q=>
    exfalso;obtain⟨s',hs',hp'⟩:=numb_some hq;have h1:=hQ.out q s' hs';rcases Nat.lt_trichotomy q lo with c | c | c
    ·have:=h1.1 c;omega
    ·subst c;rw[HS.out] at hs';cases hs';exact hc hp'
    have:=HL.out.1 lo q s s' c HS.out hs';omega
  have g2:¬ (lo:Int)<(n:Int):=by omega
  have HF:Hid _:=F1;clear F1;have HE:Hid _:=ehl;clear ehl;have hnone:numb L p=none:=by
   cases hq:numb L p with
   | none=>rfl
   | some q=>
    exfalso;obtain⟨s',hs',hp'⟩:=numb_some hq;have h1:=(hQ.out q s' hs').1 (by have:=(Lgs.1 hs').1;have:=HL.out.2.2.2;omega);omega
  have HN:Hid _:=hnone;clear hnone;go_wp2;go_ret2;exact⟨HF.out,lo,false,rfl,by omega,.inr ⟨rfl,HN.out⟩⟩
theorem InsM.set {W:WL}{g:Nat}{L:List Stp}{T:LN} (h:InsM W g L T) {k:Nat} (hk:k<L.length) (v:Nat) (hv:v≤20000):InsM (W.setCell ⟨g,k*5+4,none⟩ (.int .i64 (v:Nat))) g L (T.set k v):=by
 refine⟨by rw[List.length_set];exact h.len,fun i s t hs ht=>?_,fun j=>by rw[wfz];exact h.fz j,fun t ht=>(List.mem_or_eq_of_mem_set ht).elim (h.sm t) fun e=>e ▸ hv⟩;by_cases e:i=k
 ·subst e;rw[List.getElem?_set_self (by rw[h.len];exact hk)] at ht;obtain⟨t0,ht0⟩:∃ t0,T[i]?=some t0:=⟨_,Lge (by rw[h.len];exact hk)⟩;obtain⟨h0,h1,h2,h3,h4⟩:=h.cell i s t0 hs ht0;cases ht;exact⟨(setCell_off (by omega)).trans h0,(setCell_off (by omega)).trans h1,(setCell_off (by omega)).trans h2,(setCell_off (by omega)).trans h3,cell_set h4⟩
 rw[List.getElem?_set_ne (fun e2=>e e2.symm)] at ht;obtain⟨h0,h1,h2,h3,h4⟩:=h.cell i s t hs ht;exact⟨(setCell_off (by omega)).trans h0,(setCell_off (by omega)).trans h1,(setCell_off (by omega)).trans h2,(setCell_off (by omega)).trans h3,(setCell_off (by omega)).trans h4⟩
theorem numb_clip {L:List Stp}{a:Nat} (h:∀ s ∈ L,s.pl<20000):numb L (min a 2000000000)=numb L a:=by
 by_cases e:a≤2000000000
 ·rw[Nat.min_eq_left e]
 have h1:∀ p,20000≤p→numb L p=none:=fun p hp=>by
  cases hq:numb L p with
  | none=>rfl
  | some q=>
   obtain⟨s,hs,hpl⟩:=numb_some hq;have:=h s (List.mem_of_getElem? hs);omega
 rw[h1 _ (by omega),h1 _ (by omega)]
def Joined (L:List Stp) (T:LN) (k:Nat):Prop:=∀ i s,i<k→L[i]?=some s→far s.op=true→∃ t,T[i]?=some t∧numb L s.a=some t
def JoinP (w:WL) (g:Nat) (L:List Stp) (e:Ending) (w':WL):Prop:=
 Fr [g] w w'∧((∃ q,badJump L L=some q∧q≤20000∧e=.returned (.tuple #[.int .i64 q,.int .i64 11])) ∨
  (badJump L L=none∧e=.returned (.tuple #[.int .i64 0,.int .i64 0])∧∃ T,InsM w' g L T∧Joined L T L.length))
theorem joinI_any (g:Nat)(L:List Stp)(T:LN)(cap:Nat)(h0:0<L.length)(hn2:L.length≤20000)(w:WL)(hg:g<w.heap.size)(hI:InsM w g L T)(hs:Sorted 0 L)(hpl:∀ s ∈ L,s.pl<20000)(hop:∀ s ∈ L,s.op<54) :
  Calls prog 115 #[.slice (some (Ad g 0)) L.length cap] w (JoinP w g L):=by
 obtain⟨n,hn⟩:=eXi (L.length);have hsr:=fun (W:WL) (TT:LN) (p:Nat) (hW:g<W.heap.size) (hI:InsM W g L TT)=>search_any g L TT n cap p hn (by omega) (by omega) W hW hI hs;have HS:Hid _:=fun (_:Unit)=>hsr;have HI:Hid _:=hI;have HP:Hid _:=AI hpl (AI hop hn);rw[hn] at h0 hn2 ⊢;clear hsr hI hs hpl hop hn;go_enter func115,ntmps115;go_wp2
 go_loopw [10] (fun j wr=>∃ (k:Nat) (TT:LN),j=iA (k:Nat)∧k≤n∧Fr [g] w wr∧Hid (InsM wr g L TT∧badJump L L=badJump L (L.drop k)∧Joined L TT k)) (fun j _=>n-(intOf j).toNat)
 case atStart=>exact⟨0,T,rfl,by omega,Fr.refl _ _,HI.out,rfl,fun i s hi=>absurd hi (by omega)⟩
 case round=>
  obtain⟨k,TT,rfl,hk,F1,hQ⟩:=hrel;have hgw:g<wr.heap.size:=Nll hg F1.size;by_cases hlt:k<n
  ·have g1:(k:Int)<(n:Int):=by omega
   obtain⟨s,hs⟩:∃ s,L[k]?=some s:=⟨_,Lge (by rw[HP.out.2.2];omega)⟩;obtain⟨t,ht⟩:∃ t,TT[k]?=some t:=⟨_,Lge (by rw[hQ.out.1.len,HP.out.2.2];omega)⟩;have hmem:=List.mem_of_getElem? hs;have hpl:=HP.out.1 s hmem;have hop:=HP.out.2.1 s hmem;obtain⟨x0,x1,x2,x3,x4⟩:=hQ.out.1.cell k s t hs ht;have fz4:=hQ.out.1.fz (k*5+4);have hdrop:L.drop k=s :: L.drop (k+1):=by
    rw[List.drop_eq_getElem_cons (by rw[HP.out.2.2];exact hlt)];congr 1;exact (Lgs.1 hs).2
   have hbj:badJump L L=if far s.op=true∧numb L s.a=none then some s.pl else badJump L (L.drop (k+1)):=by rw[hQ.out.2.1,hdrop];rfl
   have hcl:=numb_clip (a:=s.a) HP.out.1;have HB:Hid _:=AI hbj (AI hcl (AI hs ht));have HNm:Hid _:=fun (_:Unit)=>names_any s.op (by omega) wr;have HSr:Hid _:=fun (_:Unit)=>HS.out () wr TT (min s.a 2000000000) hgw hQ.out.1;obtain⟨sa,hsa⟩:=eXi (min s.a 2000000000);obtain⟨sb,hsb⟩:=eXi (min s.b 2000000000);rw[hsa] at x2 HSr HB;rw[hsb] at x3;have HF:Hid _:=F1;clear hbj hcl hs ht hdrop hsa hsb F1 HS HI hmem;cases hf:far s.op with
   | false=>
    rw[hf] at HNm;go_wp2_with fail;refine (HNm.out ()).mono ?_;rintro e w2 ⟨rfl,hw⟩;replace hw:=hw.symm;subst hw;clear x0 x1 x2 x3 x4;go_wp2;refine⟨⟨k+1,TT,by go_num,by omega,HF.out,hQ.out.1,?_,?_⟩,?_⟩
    ·rw[HB.out.1,if_neg (fun h=>by rw[hf] at h;exact absurd h.1 (by decide))]
    ·intro i s' hi hs' hfar;by_cases e:i<k
     ·exact hQ.out.2.2 i s' e hs' hfar
     have e2:i=k:=by omega
     subst e2;rw[HB.out.2.2.1] at hs';cases hs';rw[hf] at hfar;cases hfar
    simp[intOf];omega
   | true=>
    rw[hf] at HNm;go_wp2_with fail;refine (HNm.out ()).mono ?_;rintro e w2 ⟨rfl,hw⟩;replace hw:=hw.symm;subst hw;go_wp2_with fail;refine (HSr.out ()).mono ?_;rintro e w3 ⟨F3,q,b,rfl,hq,hb⟩;have hI3:=hQ.out.1.fr hgw F3 (by simp);obtain⟨y0,y1,y2,y3,y4⟩:=hI3.cell k s t HB.out.2.2.1 HB.out.2.2.2;have fz3:=hI3.fz (k*5+4);clear x0 x1 x2 x3 x4 fz4 y2 y3 HNm HSr;rcases hb with ⟨rfl,hb⟩ | ⟨rfl,hb⟩
    ·have HY:Hid _:=AI hI3 (AI hb F3);clear hI3 hb F3;go_wp2;refine⟨⟨k+1,TT.set k q,by go_num,by omega,?_,HY.out.1.set (by rw[HP.out.2.2];exact hlt) q (by omega),?_,?_⟩,?_⟩
     ·exact (HF.out.trans (HY.out.2.2.mono (by simp))).setCell (p:=⟨g,k*5+4,none⟩) (.inl (by simp)) _
     ·rw[HB.out.1,if_neg (fun h=>by rw[← HB.out.2.1,HY.out.2.1] at h;cases h.2)]
     ·intro i s' hi hs' hfar;by_cases e:i<k
      ·obtain⟨t',ht',hn'⟩:=hQ.out.2.2 i s' e hs' hfar;exact⟨t',by rw[List.getElem?_set_ne (by omega)];exact ht',hn'⟩
      have e2:i=k:=by omega
      subst e2;rw[HB.out.2.2.1] at hs';cases hs';exact⟨q,List.getElem?_set_self (by rw[hQ.out.1.len,HP.out.2.2];exact hlt),by rw[← HB.out.2.1];exact HY.out.2.1⟩
     simp[intOf];omega
    have HY:Hid _:=AI hI3 (AI hb F3);clear hI3 hb F3;go_wp2;go_ret2;refine⟨HF.out.trans (HY.out.2.2.mono (by simp)),.inl ⟨s.pl,?_,by omega,rfl⟩⟩;rw[HB.out.1,if_pos ⟨hf,by rw[← HB.out.2.1];exact HY.out.2.1⟩]
  have g1:¬ (k:Int)<(n:Int):=by omega
  go_wp2;go_ret2;refine⟨F1,.inr ⟨?_,rfl,TT,hQ.out.1,?_⟩⟩
  ·rw[hQ.out.2.1,List.drop_eq_nil_of_le (by rw[HP.out.2.2];omega)];rfl
  rw[HP.out.2.2,show n=k by omega];exact hQ.out.2.2
end Go.Proofs.YtmolfmgchbjnbaaGreatDoor
