/-
  Texts Ic Mc Md Me Mf Rr.
-/
import Derived.ArgAppend
import Derived.Deep.Onto
import Derived.StillTailTactics
import Derived.RangeFuncWrites
import Derived.RangeFuncCalls
import Derived.OwnWalkIn
import Derived.OrdersHeld
import Derived.Test.YtclkgoigmgkffaaGreatDoorMA
import Derived.Test.YtclkgoigmgkffaaGreatDoorM03
import Derived.Test.YtclkgoigmgkffaaGreatDoorM01
set_option linter.unusedSimpArgs false
set_option linter.unusedVariables false
set_option maxRecDepth 100000
set_option maxHeartbeats 40000000
namespace Go.Proofs.YtclkgoigmgkffaaGreatDoor
open Go.RowKit
open Wire Flow
structure DocT (w:World):Prop where
 tk:∀ i,i<54→w.cell? ⟨1,i,none⟩=some (.string (wdK (takesT.getD i [])))
 gv:∀ i,i<54→w.cell? ⟨2,i,none⟩=some (.string (wdK (givesT.getD i [])))
theorem DocT.lt {w:World}(h:DocT w):2<w.heap.size:=lt_of_cell (h.gv 0 (by decide))
theorem DocT.fr {w w':World}(h:DocT w)(hf:Fr [] w w'):DocT w':=by
 have hl:=h.lt
 exact⟨fun i hi=>(hf.cell (p:=⟨1,i,none⟩) (by simp only;omega) (by simp)).trans (h.tk i hi),fun i hi=>(hf.cell (p:=⟨2,i,none⟩) (by simp only;omega) (by simp)).trans (h.gv i hi)⟩
def stpV (pl nx op a b:Nat):Value:=.agg #[.int .i64 pl,.int .i64 nx,.int .i64 op,.int .i64 a,.int .i64 b]
theorem takesT_len:∀ i,i<54→(takesT.getD i []).length≤3:=by decide
theorem givesT_len:∀ i,i<54→(givesT.getD i []).length≤2:=by decide
def AfterP (par:Nat→Nat) (op a:Nat) (st:List UInt8) (e:Ending):Prop:=
 match after par op a st with
 | none=>∃ x y:ByteArray,e=.returned (.tuple #[.string x,.string y,.bool false])
 | some (o,r)=>e=.returned (.tuple #[.string (wdK o),.string (wdK r),.bool true])
theorem after_no {par:Nat→Nat}{op a:Nat}{st:List UInt8} (h:takenS st (want par op a)=none):after par op a st=none:=by
 unfold takenS at h
 unfold after
 split
 ·rfl
 ·rename_i h1
  rw[if_neg h1] at h
  split
  ·rename_i h2
   rw[if_pos h2] at h
   cases h
  ·rfl
theorem after_yes {par:Nat→Nat}{op a:Nat}{st r:List UInt8} (h:takenS st (want par op a)=some r) :
  after par op a st=if (r++give op (st.drop r.length)).length≤1024 then some (r++give op (st.drop r.length),r) else none:=by
 unfold takenS at h
 unfold after
 split at h
 ·cases h
 ·rename_i h1
  rw[if_neg h1]
  split at h
  ·rename_i h2
   rw[if_pos h2]
   simp only[Option.some.injEq] at h
   subst h
   have e:(st.take (st.length-(want par op a).length)).length=st.length-(want par op a).length:=by rw[List.length_take];omega
   rw[e]
  ·cases h
theorem takenS_le {S W r:List UInt8}(h:takenS S W=some r):r.length≤S.length∧r.length+W.length=S.length:=by
 unfold takenS at h
 split at h
 ·cases h
 ·split at h
  ·simp only[Option.some.injEq] at h
   subst h
   rw[List.length_take]
   omega
  ·cases h
theorem wdK_app (s t:List UInt8):wdK s++wdK t=wdK (s++t):=by
 apply bl_inj
 rw[bl_wdK]
 unfold bl wdK
 rw[ByteArray.data_append,Array.toList_append]
theorem wdK_ext (s:List UInt8)(i:Nat):(wdK s).extract i s.length=wdK (s.drop i):=by
 apply bl_inj
 rw[bl_wdK]
 unfold bl wdK
 rw[ByteArray.data_extract,Array.toList_extract]
 rw[List.extract_eq_take_drop]
 exact List.take_of_length_le (by rw[List.length_drop];exact Nat.le_refl _)
theorem afterR_table (tv pv gv av fv:Value)(w:World)(pl nx op a b:Nat)(par:Nat→Nat)(st:List UInt8)(hT:DocT w)(hs:st.length≤1024)(hop:op<54)(h44:op≠44)(h45:op≠45)(h46:op≠46)(h50:op≠50) :
  Calls Tryz.prog 187 #[.agg #[tv,pv,gv,av,fv],stpV pl nx op a b,.string (wdK st)] w fun e w'=>AfterP par op a st e∧Fr [] w w':=by
 have hlt:=hT.lt
 obtain⟨W2,hW2⟩:∃ W2,(w.alloc (.cells #[tv,pv,gv,av,fv] 30)).alloc (.cells #[.int .i64 pl,.int .i64 nx,.int .i64 (op:Nat),.int .i64 a,.int .i64 b] 119)=W2:=⟨_,rfl⟩
 have F0:Fr [] w W2:=by rw[← hW2];exact ((Fr.refl [] w).alloc _).alloc _
 have T0:=hT.fr F0
 have e1:=T0.tk op (by omega)
 have e2:=T0.gv op (by omega)
 have dd:∀ i v,(#[.int .i64 pl,.int .i64 nx,.int .i64 (op:Nat),.int .i64 a,.int .i64 b]:Array Value)[i]?=some v→W2.cell? ⟨w.heap.size+1,i,none⟩=some v:=fun i v h=>by
  rw[← hW2]
  unfold World.cell?
  have hq:=wan (w.alloc (.cells #[tv,pv,gv,av,fv] 30)) (.cells #[.int .i64 pl,.int .i64 nx,.int .i64 (op:Nat),.int .i64 a,.int .i64 b] 119)
  rw[show (w.alloc (.cells #[tv,pv,gv,av,fv] 30)).heap.size=w.heap.size+1 by simp] at hq
  rw[hq]
  exact h
 have d0:=dd 2 _ rfl
 have dA:=dd 3 _ rfl
 have dF:W2.cell? ⟨w.heap.size,4,none⟩=some fv:=by
  rw[← hW2]
  refine (((Fr.refl [] _).alloc _).cell (p:=⟨w.heap.size,4,none⟩) (by simp) (by simp)).trans ?_
  unfold World.cell?
  rw[wan w (.cells #[tv,pv,gv,av,fv] 30)]
  rfl
 have hw:want par op a=takesT.getD op []:=by unfold want;rw[if_neg h44,if_neg h50]
 have hg:∀ t,give op t=givesT.getD op []:=fun t=>by unfold give;rw[if_neg h45,if_neg h46]
 have hwl:=takesT_len op hop
 have hgl:=givesT_len op hop
 have q44:((op:Int)==44)=false:=by simp only[beq_eq_false_iff_ne,ne_eq];omega
 have q45:((op:Int)==45)=false:=by simp only[beq_eq_false_iff_ne,ne_eq];omega
 have q46:((op:Int)==46)=false:=by simp only[beq_eq_false_iff_ne,ne_eq];omega
 have q50:((op:Int)==50)=false:=by simp only[beq_eq_false_iff_ne,ne_eq];omega
 have gA:(op:Int)<54:=by omega
 rw[← hw] at e1 hwl
 clear hw h44 h45 h46 h50
 have hno:=after_no (par:=par) (op:=op) (a:=a) (st:=st)
 have hyes:=fun r=>after_yes (par:=par) (op:=op) (a:=a) (st:=st) (r:=r)
 simp only[hg] at hyes
 clear hg
 unfold AfterP
 generalize after par op a st=R at *
 generalize givesT.getD op []=gk at *
 generalize want par op a=wk at *
 have HTk:Hid _:=fun (W:World)=>takenR_any (wdK st) (wdK wk) W (by rw[wdK_size];omega) (by rw[wdK_size];omega)
 simp only[bl_wdK] at HTk
 have z1:(wdK st).size=st.length:=wdK_size _
 have z3:(wdK gk).size=gk.length:=wdK_size _
 have HN:Hid _:=hno
 have HY:Hid _:=hyes
 clear hno hyes hT T0 dd
 unfold stpV
 go_enter Tryz.func187,Tryz.ntmps187
 go_wp2_with fail
 refine (HTk.out _).mono ?_
 rintro e w3 ⟨rfl,F1⟩
 have F2:=F0.trans F1
 have d1:=(F1.cell (p:=⟨w.heap.size+1,2,none⟩) (lt_of_cell d0) (by simp)).trans d0
 clear e1 e2 hW2 HTk F1 F0 d0 dA dF
 cases ht:takenS st wk with
 | none=>
  have hR:=HN.out ht
  subst hR
  clear HN HY ht
  go_wp2
  go_ret3
  exact⟨⟨_,_,rfl⟩,F2⟩
 | some r=>
  have hr:=takenS_le ht
  have hR:=HY.out r ht
  have z2:(wdK r).size=r.length:=wdK_size _
  clear HN HY ht
  obtain⟨hr1,hr2⟩:=hr
  have hap:=wdK_app r gk
  have z4:(wdK r++wdK gk).size=r.length+gk.length:=by rw[hap,wdK_size,Lla]
  rw[Lla] at hR
  have HA:Hid _:=hap
  clear hap
  by_cases hle:r.length+gk.length≤1024
  ·rw[if_pos hle] at hR
   subst hR
   have g1:decide ((r.length:Int)+(gk.length:Int)≤1024)=true:=decide_eq_true (by omega)
   go_wp2
   go_ret3
   (try rw[HA.out])
   exact⟨rfl,F2⟩
  ·rw[if_neg hle] at hR
   subst hR
   have g1:decide ((r.length:Int)+(gk.length:Int)≤1024)=false:=decide_eq_false (by omega)
   go_wp2
   go_ret3
   exact⟨⟨_,_,rfl⟩,F2⟩
theorem afterR_print (tv pv gv av fv:Value)(w:World)(pl nx op a b:Nat)(par:Nat→Nat)(st:List UInt8)(hT:DocT w)(hs:st.length≤1024)(ho:op=44)(ha:a≤100000) :
  Calls Tryz.prog 187 #[.agg #[tv,pv,gv,av,fv],stpV pl nx op a b,.string (wdK st)] w fun e w'=>AfterP par op a st e∧Fr [] w w':=by
 have hlt:=hT.lt
 obtain⟨W2,hW2⟩:∃ W2,(w.alloc (.cells #[tv,pv,gv,av,fv] 30)).alloc (.cells #[.int .i64 pl,.int .i64 nx,.int .i64 (op:Nat),.int .i64 a,.int .i64 b] 119)=W2:=⟨_,rfl⟩
 have F0:Fr [] w W2:=by rw[← hW2];exact ((Fr.refl [] w).alloc _).alloc _
 have T0:=hT.fr F0
 have e1:=T0.tk op (by omega)
 have e2:=T0.gv op (by omega)
 have dd:∀ i v,(#[.int .i64 pl,.int .i64 nx,.int .i64 (op:Nat),.int .i64 a,.int .i64 b]:Array Value)[i]?=some v→W2.cell? ⟨w.heap.size+1,i,none⟩=some v:=fun i v h=>by
  rw[← hW2]
  unfold World.cell?
  have hq:=wan (w.alloc (.cells #[tv,pv,gv,av,fv] 30)) (.cells #[.int .i64 pl,.int .i64 nx,.int .i64 (op:Nat),.int .i64 a,.int .i64 b] 119)
  rw[show (w.alloc (.cells #[tv,pv,gv,av,fv] 30)).heap.size=w.heap.size+1 by simp] at hq
  rw[hq]
  exact h
 have d0:=dd 2 _ rfl
 have dA:=dd 3 _ rfl
 have dF:W2.cell? ⟨w.heap.size,4,none⟩=some fv:=by
  rw[← hW2]
  refine (((Fr.refl [] _).alloc _).cell (p:=⟨w.heap.size,4,none⟩) (by simp) (by simp)).trans ?_
  unfold World.cell?
  rw[wan w (.cells #[tv,pv,gv,av,fv] 30)]
  rfl
 have hop:op<54:=by omega
 have q44:((op:Int)==44)=decide (44=44):=by subst ho;rfl
 have q45:((op:Int)==45)=decide (44=45):=by subst ho;rfl
 have q46:((op:Int)==46)=decide (44=46):=by subst ho;rfl
 have q50:((op:Int)==50)=decide (44=50):=by subst ho;rfl
 have gA':(op:Int)<54:=by omega
 simp only[Nat.reduceEqDiff,decide_true,decide_false] at q44 q45 q46 q50
 have hw:want par op a=List.replicate a 116:=by subst ho;rfl
 have hg:∀ t,give op t=givesT.getD op []:=fun t=>by subst ho;rfl
 have hgl:=givesT_len op hop
 have HM:Hid _:=fun (W:World)=>manyR_any 116 a W ha
 rw[← hw] at HM
 have hwl:(want par op a).length≤100000:=by rw[hw,List.length_replicate];exact ha
 clear hw ho
 have hno:=after_no (par:=par) (op:=op) (a:=a) (st:=st)
 have hyes:=fun r=>after_yes (par:=par) (op:=op) (a:=a) (st:=st) (r:=r)
 simp only[hg] at hyes
 clear hg
 unfold AfterP
 generalize after par op a st=R at *
 generalize givesT.getD op []=gk at *
 generalize takesT.getD op []=tk at *
 generalize want par op a=wk at *
 have HTk:Hid _:=fun (W:World)=>takenR_any (wdK st) (wdK wk) W (by rw[wdK_size];omega) (by rw[wdK_size];omega)
 simp only[bl_wdK] at HTk
 have z1:(wdK st).size=st.length:=wdK_size _
 have z3:(wdK gk).size=gk.length:=wdK_size _
 have HN:Hid _:=hno
 have HY:Hid _:=hyes
 clear hno hyes hT T0 dd
 unfold stpV
 go_enter Tryz.func187,Tryz.ntmps187
 go_wp2_with fail
 refine (HM.out _).mono ?_
 rintro e w2 ⟨rfl,rfl⟩
 go_wp2_with fail
 refine (HTk.out _).mono ?_
 rintro e w3 ⟨rfl,F1⟩
 have F2:=F0.trans F1
 have d1:=(F1.cell (p:=⟨w.heap.size+1,2,none⟩) (lt_of_cell d0) (by simp)).trans d0
 clear e1 e2 hW2 HTk F1 F0 d0 dA dF
 cases ht:takenS st wk with
 | none=>
  have hR:=HN.out ht
  subst hR
  clear HN HY ht
  go_wp2
  go_ret3
  exact⟨⟨_,_,rfl⟩,F2⟩
 | some r=>
  have hr:=takenS_le ht
  have hR:=HY.out r ht
  have z2:(wdK r).size=r.length:=wdK_size _
  clear HN HY ht
  obtain⟨hr1,hr2⟩:=hr
  have hap:=wdK_app r gk
  have z4:(wdK r++wdK gk).size=r.length+gk.length:=by rw[hap,wdK_size,Lla]
  rw[Lla] at hR
  have HA:Hid _:=hap
  clear hap
  by_cases hle:r.length+gk.length≤1024
  ·rw[if_pos hle] at hR
   subst hR
   have g1:decide ((r.length:Int)+(gk.length:Int)≤1024)=true:=decide_eq_true (by omega)
   go_wp2
   go_ret3
   (try rw[HA.out])
   exact⟨rfl,F2⟩
  ·rw[if_neg hle] at hR
   subst hR
   have g1:decide ((r.length:Int)+(gk.length:Int)≤1024)=false:=decide_eq_false (by omega)
   go_wp2
   go_ret3
   exact⟨⟨_,_,rfl⟩,F2⟩
theorem afterR_call (tv pv gv av fv:Value)(w:World)(pl nx op a b:Nat)(par:Nat→Nat)(st:List UInt8)(hT:DocT w)(hs:st.length≤1024)(ho:op=50)(g off n cap:Nat)(hf:fv=.slice (some ⟨g,off,none⟩) n cap)(ha:a<n)(hp:w.cell? ⟨g,off+a*3,none⟩=some (.int .i64 (par a:Nat)))(hp8:par a≤100000) :
  Calls Tryz.prog 187 #[.agg #[tv,pv,gv,av,fv],stpV pl nx op a b,.string (wdK st)] w fun e w'=>AfterP par op a st e∧Fr [] w w':=by
 have hlt:=hT.lt
 obtain⟨W2,hW2⟩:∃ W2,(w.alloc (.cells #[tv,pv,gv,av,fv] 30)).alloc (.cells #[.int .i64 pl,.int .i64 nx,.int .i64 (op:Nat),.int .i64 a,.int .i64 b] 119)=W2:=⟨_,rfl⟩
 have F0:Fr [] w W2:=by rw[← hW2];exact ((Fr.refl [] w).alloc _).alloc _
 have T0:=hT.fr F0
 have e1:=T0.tk op (by omega)
 have e2:=T0.gv op (by omega)
 have dd:∀ i v,(#[.int .i64 pl,.int .i64 nx,.int .i64 (op:Nat),.int .i64 a,.int .i64 b]:Array Value)[i]?=some v→W2.cell? ⟨w.heap.size+1,i,none⟩=some v:=fun i v h=>by
  rw[← hW2]
  unfold World.cell?
  have hq:=wan (w.alloc (.cells #[tv,pv,gv,av,fv] 30)) (.cells #[.int .i64 pl,.int .i64 nx,.int .i64 (op:Nat),.int .i64 a,.int .i64 b] 119)
  rw[show (w.alloc (.cells #[tv,pv,gv,av,fv] 30)).heap.size=w.heap.size+1 by simp] at hq
  rw[hq]
  exact h
 have d0:=dd 2 _ rfl
 have dA:=dd 3 _ rfl
 have dF:W2.cell? ⟨w.heap.size,4,none⟩=some fv:=by
  rw[← hW2]
  refine (((Fr.refl [] _).alloc _).cell (p:=⟨w.heap.size,4,none⟩) (by simp) (by simp)).trans ?_
  unfold World.cell?
  rw[wan w (.cells #[tv,pv,gv,av,fv] 30)]
  rfl
 have hop:op<54:=by omega
 have q44:((op:Int)==44)=decide (50=44):=by subst ho;rfl
 have q45:((op:Int)==45)=decide (50=45):=by subst ho;rfl
 have q46:((op:Int)==46)=decide (50=46):=by subst ho;rfl
 have q50:((op:Int)==50)=decide (50=50):=by subst ho;rfl
 have gA':(op:Int)<54:=by omega
 simp only[Nat.reduceEqDiff,decide_true,decide_false] at q44 q45 q46 q50
 have hw:want par op a=List.replicate (par a) 97:=by subst ho;rfl
 have hg:∀ t,give op t=givesT.getD op []:=fun t=>by subst ho;rfl
 have hgl:=givesT_len op hop
 have HM:Hid _:=fun (W:World)=>manyR_any 97 (par a) W hp8
 rw[← hw] at HM
 have hwl:(want par op a).length≤100000:=by rw[hw,List.length_replicate];exact hp8
 have dP:=(F0.cell (p:=⟨g,off+a*3,none⟩) (lt_of_cell hp) (by simp)).trans hp
 have gA:(a:Int)<(n:Int):=by omega
 subst hf
 clear hw hp ho
 have hno:=after_no (par:=par) (op:=op) (a:=a) (st:=st)
 have hyes:=fun r=>after_yes (par:=par) (op:=op) (a:=a) (st:=st) (r:=r)
 simp only[hg] at hyes
 clear hg
 unfold AfterP
 generalize after par op a st=R at *
 generalize par a=pa at *
 generalize givesT.getD op []=gk at *
 generalize takesT.getD op []=tk at *
 generalize want par op a=wk at *
 have HTk:Hid _:=fun (W:World)=>takenR_any (wdK st) (wdK wk) W (by rw[wdK_size];omega) (by rw[wdK_size];omega)
 simp only[bl_wdK] at HTk
 have z1:(wdK st).size=st.length:=wdK_size _
 have z3:(wdK gk).size=gk.length:=wdK_size _
 have HN:Hid _:=hno
 have HY:Hid _:=hyes
 clear hno hyes hT T0 dd
 unfold stpV
 go_enter Tryz.func187,Tryz.ntmps187
 go_wp2_with fail
 refine (HM.out _).mono ?_
 rintro e w2 ⟨rfl,rfl⟩
 go_wp2_with fail
 refine (HTk.out _).mono ?_
 rintro e w3 ⟨rfl,F1⟩
 have F2:=F0.trans F1
 have d1:=(F1.cell (p:=⟨w.heap.size+1,2,none⟩) (lt_of_cell d0) (by simp)).trans d0
 clear e1 e2 hW2 HTk F1 F0 d0 dA dF
 cases ht:takenS st wk with
 | none=>
  have hR:=HN.out ht
  subst hR
  clear HN HY ht
  go_wp2
  go_ret3
  exact⟨⟨_,_,rfl⟩,F2⟩
 | some r=>
  have hr:=takenS_le ht
  have hR:=HY.out r ht
  have z2:(wdK r).size=r.length:=wdK_size _
  clear HN HY ht
  obtain⟨hr1,hr2⟩:=hr
  have hap:=wdK_app r gk
  have z4:(wdK r++wdK gk).size=r.length+gk.length:=by rw[hap,wdK_size,Lla]
  rw[Lla] at hR
  have HA:Hid _:=hap
  clear hap
  by_cases hle:r.length+gk.length≤1024
  ·rw[if_pos hle] at hR
   subst hR
   have g1:decide ((r.length:Int)+(gk.length:Int)≤1024)=true:=decide_eq_true (by omega)
   go_wp2
   go_ret3
   (try rw[HA.out])
   exact⟨rfl,F2⟩
  ·rw[if_neg hle] at hR
   subst hR
   have g1:decide ((r.length:Int)+(gk.length:Int)≤1024)=false:=decide_eq_false (by omega)
   go_wp2
   go_ret3
   exact⟨⟨_,_,rfl⟩,F2⟩
theorem afterR_dup (tv pv gv av fv:Value)(w:World)(pl nx op a b:Nat)(par:Nat→Nat)(st:List UInt8)(hT:DocT w)(hs:st.length≤1024)(ho:op=45) :
  Calls Tryz.prog 187 #[.agg #[tv,pv,gv,av,fv],stpV pl nx op a b,.string (wdK st)] w fun e w'=>AfterP par op a st e∧Fr [] w w':=by
 have hlt:=hT.lt
 obtain⟨W2,hW2⟩:∃ W2,(w.alloc (.cells #[tv,pv,gv,av,fv] 30)).alloc (.cells #[.int .i64 pl,.int .i64 nx,.int .i64 (op:Nat),.int .i64 a,.int .i64 b] 119)=W2:=⟨_,rfl⟩
 have F0:Fr [] w W2:=by rw[← hW2];exact ((Fr.refl [] w).alloc _).alloc _
 have T0:=hT.fr F0
 have e1:=T0.tk op (by omega)
 have e2:=T0.gv op (by omega)
 have dd:∀ i v,(#[.int .i64 pl,.int .i64 nx,.int .i64 (op:Nat),.int .i64 a,.int .i64 b]:Array Value)[i]?=some v→W2.cell? ⟨w.heap.size+1,i,none⟩=some v:=fun i v h=>by
  rw[← hW2]
  unfold World.cell?
  have hq:=wan (w.alloc (.cells #[tv,pv,gv,av,fv] 30)) (.cells #[.int .i64 pl,.int .i64 nx,.int .i64 (op:Nat),.int .i64 a,.int .i64 b] 119)
  rw[show (w.alloc (.cells #[tv,pv,gv,av,fv] 30)).heap.size=w.heap.size+1 by simp] at hq
  rw[hq]
  exact h
 have d0:=dd 2 _ rfl
 have dA:=dd 3 _ rfl
 have dF:W2.cell? ⟨w.heap.size,4,none⟩=some fv:=by
  rw[← hW2]
  refine (((Fr.refl [] _).alloc _).cell (p:=⟨w.heap.size,4,none⟩) (by simp) (by simp)).trans ?_
  unfold World.cell?
  rw[wan w (.cells #[tv,pv,gv,av,fv] 30)]
  rfl
 have hop:op<54:=by omega
 have q44:((op:Int)==44)=decide (45=44):=by subst ho;rfl
 have q45:((op:Int)==45)=decide (45=45):=by subst ho;rfl
 have q46:((op:Int)==46)=decide (45=46):=by subst ho;rfl
 have q50:((op:Int)==50)=decide (45=50):=by subst ho;rfl
 have gA':(op:Int)<54:=by omega
 simp only[Nat.reduceEqDiff,decide_true,decide_false] at q44 q45 q46 q50
 have hw:want par op a=takesT.getD op []:=by subst ho;rfl
 have hg:∀ tp,give op tp=tp++tp:=fun tp=>by subst ho;rfl
 have hwl:(want par op a).length=1:=by subst ho;rfl
 rw[← hw] at e1
 have hgl:=givesT_len op hop
 clear hw ho
 have hno:=after_no (par:=par) (op:=op) (a:=a) (st:=st)
 have hyes:=fun r=>after_yes (par:=par) (op:=op) (a:=a) (st:=st) (r:=r)
 simp only[hg] at hyes
 clear hg
 unfold AfterP
 generalize after par op a st=R at *
 generalize givesT.getD op []=gk at *
 generalize want par op a=wk at *
 have HTk:Hid _:=fun (W:World)=>takenR_any (wdK st) (wdK wk) W (by rw[wdK_size];omega) (by rw[wdK_size];omega)
 simp only[bl_wdK] at HTk
 have z1:(wdK st).size=st.length:=wdK_size _
 have z3:(wdK gk).size=gk.length:=wdK_size _
 have HN:Hid _:=hno
 have HY:Hid _:=hyes
 clear hno hyes hT T0 dd
 unfold stpV
 go_enter Tryz.func187,Tryz.ntmps187
 go_wp2_with fail
 refine (HTk.out _).mono ?_
 rintro e w3 ⟨rfl,F1⟩
 have F2:=F0.trans F1
 have d1:=(F1.cell (p:=⟨w.heap.size+1,2,none⟩) (lt_of_cell d0) (by simp)).trans d0
 clear e1 e2 hW2 HTk F1 F0 d0 dA dF
 cases ht:takenS st wk with
 | none=>
  have hR:=HN.out ht
  subst hR
  clear HN HY ht
  go_wp2
  go_ret3
  exact⟨⟨_,_,rfl⟩,F2⟩
 | some r=>
  have hr:=takenS_le ht
  have hR:=HY.out r ht
  have z2:(wdK r).size=r.length:=wdK_size _
  clear HN HY ht
  obtain⟨hr1,hr2⟩:=hr
  have hx:=wdK_ext st r.length
  have htp:(st.drop r.length).length=wk.length:=by rw[List.length_drop];omega
  generalize st.drop r.length=tp at *
  have z5:(wdK tp).size=wk.length:=by rw[wdK_size,htp]
  rw[hwl] at z5 htp
  have hdd:=wdK_app tp tp
  have z7:(wdK tp++wdK tp).size=2:=by rw[hdd,wdK_size,Lla,htp]
  have hap:=wdK_app r (tp++tp)
  have z4:(wdK r++wdK (tp++tp)).size=r.length+2:=by rw[hap,wdK_size,Lla];simp only[Lla,List.length_drop,htp]
  have z6:(wdK (tp++tp)).size=2:=by rw[wdK_size];simp only[Lla,List.length_drop,htp]
  rw[Lla,show (tp++tp).length=2 by simp only[Lla,List.length_drop,htp]] at hR
  have HA:Hid _:=hap
  clear hap
  by_cases hle:r.length+2≤1024
  ·rw[if_pos hle] at hR
   subst hR
   have g1:decide ((r.length:Int)+2≤1024)=true:=decide_eq_true (by omega)
   go_wp2
   go_ret3
   (try rw[HA.out])
   exact⟨rfl,F2⟩
  ·rw[if_neg hle] at hR
   subst hR
   have g1:decide ((r.length:Int)+2≤1024)=false:=decide_eq_false (by omega)
   go_wp2
   go_ret3
   exact⟨⟨_,_,rfl⟩,F2⟩
theorem afterR_under (tv pv gv av fv:Value)(w:World)(pl nx op a b:Nat)(par:Nat→Nat)(st:List UInt8)(hT:DocT w)(hs:st.length≤1024)(ho:op=46) :
  Calls Tryz.prog 187 #[.agg #[tv,pv,gv,av,fv],stpV pl nx op a b,.string (wdK st)] w fun e w'=>AfterP par op a st e∧Fr [] w w':=by
 have hlt:=hT.lt
 obtain⟨W2,hW2⟩:∃ W2,(w.alloc (.cells #[tv,pv,gv,av,fv] 30)).alloc (.cells #[.int .i64 pl,.int .i64 nx,.int .i64 (op:Nat),.int .i64 a,.int .i64 b] 119)=W2:=⟨_,rfl⟩
 have F0:Fr [] w W2:=by rw[← hW2];exact ((Fr.refl [] w).alloc _).alloc _
 have T0:=hT.fr F0
 have e1:=T0.tk op (by omega)
 have e2:=T0.gv op (by omega)
 have dd:∀ i v,(#[.int .i64 pl,.int .i64 nx,.int .i64 (op:Nat),.int .i64 a,.int .i64 b]:Array Value)[i]?=some v→W2.cell? ⟨w.heap.size+1,i,none⟩=some v:=fun i v h=>by
  rw[← hW2]
  unfold World.cell?
  have hq:=wan (w.alloc (.cells #[tv,pv,gv,av,fv] 30)) (.cells #[.int .i64 pl,.int .i64 nx,.int .i64 (op:Nat),.int .i64 a,.int .i64 b] 119)
  rw[show (w.alloc (.cells #[tv,pv,gv,av,fv] 30)).heap.size=w.heap.size+1 by simp] at hq
  rw[hq]
  exact h
 have d0:=dd 2 _ rfl
 have dA:=dd 3 _ rfl
 have dF:W2.cell? ⟨w.heap.size,4,none⟩=some fv:=by
  rw[← hW2]
  refine (((Fr.refl [] _).alloc _).cell (p:=⟨w.heap.size,4,none⟩) (by simp) (by simp)).trans ?_
  unfold World.cell?
  rw[wan w (.cells #[tv,pv,gv,av,fv] 30)]
  rfl
 have hop:op<54:=by omega
 have q44:((op:Int)==44)=decide (46=44):=by subst ho;rfl
 have q45:((op:Int)==45)=decide (46=45):=by subst ho;rfl
 have q46:((op:Int)==46)=decide (46=46):=by subst ho;rfl
 have q50:((op:Int)==50)=decide (46=50):=by subst ho;rfl
 have gA':(op:Int)<54:=by omega
 simp only[Nat.reduceEqDiff,decide_true,decide_false] at q44 q45 q46 q50
 have hw:want par op a=takesT.getD op []:=by subst ho;rfl
 have hg:∀ tp,give op tp=tp.drop 1++tp:=fun tp=>by subst ho;rfl
 have hwl:(want par op a).length=2:=by subst ho;rfl
 rw[← hw] at e1
 have hgl:=givesT_len op hop
 clear hw ho
 have hno:=after_no (par:=par) (op:=op) (a:=a) (st:=st)
 have hyes:=fun r=>after_yes (par:=par) (op:=op) (a:=a) (st:=st) (r:=r)
 simp only[hg] at hyes
 clear hg
 unfold AfterP
 generalize after par op a st=R at *
 generalize givesT.getD op []=gk at *
 generalize want par op a=wk at *
 have HTk:Hid _:=fun (W:World)=>takenR_any (wdK st) (wdK wk) W (by rw[wdK_size];omega) (by rw[wdK_size];omega)
 simp only[bl_wdK] at HTk
 have z1:(wdK st).size=st.length:=wdK_size _
 have z3:(wdK gk).size=gk.length:=wdK_size _
 have HN:Hid _:=hno
 have HY:Hid _:=hyes
 clear hno hyes hT T0 dd
 unfold stpV
 go_enter Tryz.func187,Tryz.ntmps187
 go_wp2_with fail
 refine (HTk.out _).mono ?_
 rintro e w3 ⟨rfl,F1⟩
 have F2:=F0.trans F1
 have d1:=(F1.cell (p:=⟨w.heap.size+1,2,none⟩) (lt_of_cell d0) (by simp)).trans d0
 clear e1 e2 hW2 HTk F1 F0 d0 dA dF
 cases ht:takenS st wk with
 | none=>
  have hR:=HN.out ht
  subst hR
  clear HN HY ht
  go_wp2
  go_ret3
  exact⟨⟨_,_,rfl⟩,F2⟩
 | some r=>
  have hr:=takenS_le ht
  have hR:=HY.out r ht
  have z2:(wdK r).size=r.length:=wdK_size _
  clear HN HY ht
  obtain⟨hr1,hr2⟩:=hr
  have hx:=wdK_ext st r.length
  have htp:(st.drop r.length).length=wk.length:=by rw[List.length_drop];omega
  generalize st.drop r.length=tp at *
  have z5:(wdK tp).size=wk.length:=by rw[wdK_size,htp]
  rw[hwl] at z5 htp
  have hd1:=wdK_ext tp 1
  rw[htp] at hd1
  have ht1:(tp.drop 1).length=1:=by rw[List.length_drop,htp]
  generalize tp.drop 1=t1 at *
  have z8:(wdK t1).size=1:=by rw[wdK_size,ht1]
  have hdd:=wdK_app t1 tp
  have z7:(wdK t1++wdK tp).size=3:=by rw[hdd,wdK_size,Lla,ht1,htp]
  have hap:=wdK_app r (t1++tp)
  have z4:(wdK r++wdK (t1++tp)).size=r.length+3:=by rw[hap,wdK_size,Lla];simp only[Lla,ht1,htp]
  have z6:(wdK (t1++tp)).size=3:=by rw[wdK_size];simp only[Lla,ht1,htp]
  rw[Lla,show (t1++tp).length=3 by simp only[Lla,ht1,htp]] at hR
  have HA:Hid _:=hap
  clear hap
  by_cases hle:r.length+3≤1024
  ·rw[if_pos hle] at hR
   subst hR
   have g1:decide ((r.length:Int)+3≤1024)=true:=decide_eq_true (by omega)
   go_wp2
   go_ret3
   (try rw[HA.out])
   exact⟨rfl,F2⟩
  ·rw[if_neg hle] at hR
   subst hR
   have g1:decide ((r.length:Int)+3≤1024)=false:=decide_eq_false (by omega)
   go_wp2
   go_ret3
   exact⟨⟨_,_,rfl⟩,F2⟩
open Wire
def StrsIn (W:World) (v:Value) (L:List ByteArray):Prop:=
 ∃ (a0:Option Addr) (cap g off:Nat),v=.slice a0 L.length cap∧L.length≤cap∧(0<L.length→a0=some ⟨g,off,none⟩∧g<W.heap.size) ∧
  ∀ (i:Nat) (x:ByteArray),L[i]?=some x→W.cell? ⟨g,off+i,none⟩=some (.string x)
def FnsIn (W:World) (v:Value) (L:List Wire.Fn):Prop:=
 ∃ (a0:Option Addr) (cap g off:Nat),v=.slice a0 L.length cap∧L.length≤cap∧(0<L.length→a0=some ⟨g,off,none⟩∧g<W.heap.size) ∧
  ∀ (i:Nat) (x:Wire.Fn),L[i]?=some x→W.cell? ⟨g,off+i*3,none⟩=some (.int .i64 x.params)∧W.cell? ⟨g,off+i*3+1,none⟩=some (.int .i64 x.locs)∧W.cell? ⟨g,off+i*3+2,none⟩=some (.string x.code)
theorem StrsIn.fr {W W':World}{v:Value}{L:List ByteArray} (h:StrsIn W v L) (hf:Fr [] W W'):StrsIn W' v L:=by
 obtain⟨a0,cap,g,off,hv,hc,ha,hx⟩:=h
 refine⟨a0,cap,g,off,hv,hc,fun h0=>⟨(ha h0).1,Nll (ha h0).2 hf.size⟩,fun i x hi=>?_⟩
 have h0:0<L.length:=by have:=(Lgs.1 hi).1;omega
 exact (hf.cell (p:=⟨g,off+i,none⟩) (ha h0).2 (by simp)).trans (hx i x hi)
theorem FnsIn.fr {W W':World}{v:Value}{L:List Wire.Fn} (h:FnsIn W v L) (hf:Fr [] W W'):FnsIn W' v L:=by
 obtain⟨a0,cap,g,off,hv,hc,ha,hx⟩:=h
 refine⟨a0,cap,g,off,hv,hc,fun h0=>⟨(ha h0).1,Nll (ha h0).2 hf.size⟩,fun i x hi=>?_⟩
 have h0:0<L.length:=by have:=(Lgs.1 hi).1;omega
 obtain⟨x0,x1,x2⟩:=hx i x hi
 exact⟨(hf.cell (p:=⟨g,off+i*3,none⟩) (ha h0).2 (by simp)).trans x0,(hf.cell (p:=⟨g,off+i*3+1,none⟩) (ha h0).2 (by simp)).trans x1,(hf.cell (p:=⟨g,off+i*3+2,none⟩) (ha h0).2 (by simp)).trans x2⟩
theorem textB_len (s:ByteArray):(textB s).length≤10+s.size:=by
 have:=digs_len s.size
 rw[textB,Lla,bl_length];omega
theorem textsB_len (L:List ByteArray)(n:Nat)(h:∀ s ∈ L,s.size≤n):(textsB L).length≤L.length*(10+n):=by
 induction L with
 | nil=>simp[textsB]
 | cons s L ih=>
  have h1:=ih (fun x hx=>h x (by simp[hx]))
  have h2:=textB_len s
  have h3:=h s (by simp)
  have e:textsB (s :: L)=textB s++textsB L:=by simp[textsB]
  rw[e,Lla,List.length_cons,Nat.add_mul]
  omega
theorem fnB_len (f:Wire.Fn)(h:f.code.size≤20000):(fnB f).length≤20030:=by
 have h1:=digs_len f.params.toNat
 have h2:=digs_len f.locs.toNat
 have h3:=textB_len f.code
 rw[fnB,Lla,Lla];omega
theorem fnsB_len (L:List Wire.Fn)(h:∀ s ∈ L,s.code.size≤20000):(fnsB L).length≤L.length*20030:=by
 induction L with
 | nil=>simp[fnsB]
 | cons s L ih=>
  have h1:=ih (fun x hx=>h x (by simp[hx]))
  have h2:=fnB_len s (h s (by simp))
  have e:fnsB (s :: L)=fnB s++fnsB L:=by simp[fnsB]
  rw[e,Lla,List.length_cons,Nat.add_mul]
  omega
structure ModIn (W:World) (v:Value) (m:Mo):Prop where
 is:∃ tv pv fv,v=.agg #[tv,pv,.int .i64 m.globs,.int .i64 m.arrs,fv]∧StrsIn W tv m.texts∧StrsIn W pv m.pats∧FnsIn W fv m.fns
theorem ModIn.fr {W W':World}{v:Value}{m:Mo} (h:ModIn W v m) (hf:Fr [] W W'):ModIn W' v m:=by
 obtain⟨tv,pv,fv,h1,h2,h3,h4⟩:=h.is
 exact⟨tv,pv,fv,h1,h2.fr hf,h3.fr hf,h4.fr hf⟩
theorem digs_ne (n:Nat)(h:n<9223372036854775808):digs n≠[]:=by
 by_cases hl:n<128
 ·rw[digs_lt hl];simp
 ·rw[digs_ge (by omega) (by have:=pow9;omega)];simp
theorem listing_len (L:List ByteArray)(h:∀ s ∈ L,s.size≤100)(hn:L.length≤1000):(listing L).length≤200000∧listing L≠[]:=by
 have h1:=digs_len L.length
 have h2:=textsB_len L 100 h
 exact⟨by rw[listing,Lla];omega,List.append_ne_nil_of_left_ne_nil (digs_ne _ (by omega)) _⟩
theorem fnsL_len (L:List Wire.Fn)(h:∀ s ∈ L,s.code.size≤20000)(hn:L.length≤1000):(fnsL L).length≤30000000∧fnsL L≠[]:=by
 have h1:=digs_len L.length
 have h2:=fnsB_len L h
 exact⟨by rw[fnsL,Lla];omega,List.append_ne_nil_of_left_ne_nil (digs_ne _ (by omega)) _⟩
theorem lawfulAll_mem (L:List Wire.Fn)(i:Nat)(h:lawfulAll L i=true):∀ s ∈ L,s.code.size≤20000∧0≤s.params∧s.params≤100∧0≤s.locs∧s.locs≤100:=by
 induction L generalizing i with
 | nil=>simp
 | cons f L ih=>
  simp only[lawfulAll,Bool.and_eq_true] at h
  intro s hs
  cases List.mem_cons.1 hs with
  | inl e=>
   subst e
   have:=lawful_iff.1 h.1
   omega
  | inr e=>exact ih _ h.2 s e
theorem sect_len (k:Nat)(c:List UInt8):(sect k c).length≤c.length+11:=by
 have:=digs_len c.length
 rw[sect_length];omega
theorem conv_bytes (W:World)(g cap n:Nat)(l:List UInt8)(hl:l.length=n)(hc:∀ j (hj:j<l.length),W.cell? ⟨g,j,none⟩=some (.int .u8 (l[j].toNat:Int))) :
  (convert 129 9 (.slice (some ⟨g,0,none⟩) n cap)).run Tryz.prog W=.ok (.string ⟨l.toArray⟩) W:=by
 subst hl
 exact run_convert_bytes_back (P:=Tryz.prog) W 129 9 5 ⟨g,0,none⟩ cap l Tryz.underlying129 Tryz.underlying5 Tryz.underlying9 (fun j hj=>by rcases j with _ | j <;> simpa [Addr.add] using hc _ hj)
theorem sumStep_val (m:Nat)(c:UInt8):sumStep m c=(m*257+c.toNat+1) % 1000003:=by
 unfold sumStep;rw[Nat.mul_comm]
theorem sum_any (b:ByteArray)(w:World)(hb:b.size≤1000000000):Calls Tryz.prog 108 #[.string b] w fun e w'=>e=.returned (.string ⟨(sum3 (bl b)).toArray⟩)∧Fr [] w w':=by
 have hL:=bl_length b
 obtain⟨S,hS⟩:∃ S,sum3 (bl b)=S:=⟨_,rfl⟩
 rw[hS]
 have HS:Hid _:=hS
 clear hS
 go_enter Tryz.func108,Tryz.ntmps108
 go_wp2
 go_loop [3,7] (fun s i=>∃ (k m:Nat),k≤b.size∧m<1000003∧s=.int .u32 m∧i=.int .i64 k∧Hid (m=sumFrom 1 ((bl b).take k))) (fun _ i=>b.size-(intOf i).toNat)
 case atStart=>exact⟨0,1,by omega,by omega,rfl,rfl,rfl⟩
 case round=>
  obtain⟨k,m,hk,hm,rfl,rfl,hM⟩:=hrel
  by_cases hlt:k<b.size
  ·have g1:(k:Int)<b.size:=by omega
   have hu:=b[k].toNat_lt
   have ht:=sumFrom_take 1 (bl b) k (by omega)
   rw[← hM.out,sumStep_val] at ht
   have hk2:(bl b)[k]'(by omega)=b[k]:=by simp[bl];rfl
   rw[hk2] at ht
   have Ht:Hid _:=ht
   clear ht hk2
   go_wp2
   refine⟨⟨k+1,(m*257+b[k].toNat+1) % 1000003,by omega,by omega,by go_num,by go_num,Ht.out.symm⟩,by simp[intOf];omega⟩
  ·obtain rfl:k=b.size:=by omega
   have g1:¬ ((b.size:Int)<b.size):=by omega
   have hN:sumN (bl b)=m:=by
    rw[hM.out,← hL,List.take_length];rfl
   have hSS:S=[UInt8.ofNat (m % 256),UInt8.ofNat (m / 256 % 256),UInt8.ofNat (m / 65536)]:=by
    rw[← HS.out,sum3,hN]
   have H:Hid _:=hSS
   clear hSS hN HS
   go_wp2
   rw[conv_bytes _ _ _ 3 [UInt8.ofNat (m % 256),UInt8.ofNat (m / 256 % 256),UInt8.ofNat (m / 65536)] rfl (by
    intro j hj
    have hj3:j<3:=by simpa using hj
    obtain rfl | rfl | rfl:j=0∨j=1∨j=2:=by omega
    ·simp
    ·simp
    ·simp;omega)]
   simp only[Result.andThen]
   rw[Oper.upon_value]
   go_wp2
   go_ret
   rw[← H.out]
   exact⟨rfl,(Fr.refl [] w).alloc _⟩
open Go
theorem rowsIn_of_rows {P:Program}{l n:Nat}{row:String}{args:Array Value}{w:World}{R:Value→World→Prop} (h:Rows P row args w R):RowsIn (Fence.wide.inRound l) n P row args w R:=by
 intro c cs _
 obtain⟨v,w',hr,hs⟩:=h c cs
 exact⟨v,w',hr,(stepsIn_wide (P:=P)).2 hs⟩
theorem wpOpsIn_of_wpOps {P:Program}{l n:Nat}{ops:Array Oper}{Q:Exit→Act→World→Prop} (hd:∀ (i:Nat) (o:Oper) (c:Call),ops[i]?=some o→o.op≠.defer c) (hQ:¬ LetsOut Q) :
  ∀ (s:List Nat) (a:Act) (w:World),wpOps P ops Q s a w→wpOpsIn (Fence.wide.inRound l) n P ops Q s a w
 | [],_,_,h=>h
 | i :: s,a,w,h=>by
  have ih:=wpOpsIn_of_wpOps (P:=P) (l:=l) (n:=n) hd hQ s
  simp only[wpOps] at h
  simp only[wpOpsIn]
  cases ho:ops[i]? with
  | none=>rw[ho] at h;exact ih a w h
  | some o=>
   rw[ho] at h
   simp only at h ⊢
   by_cases hw:Region.wanted o (yielded ops a.tmps)=true
   ·rw[if_pos hw] at h ⊢
    rcases h with h | h
    case inr=>exact absurd h.2 hQ
    refine⟨fun _ _=>trivial,?_⟩
    rw[Oper.semAt_plain _ _ _ (fun c=>hd i o c ho)]
    unfold Oper.wp at h
    generalize (execOp a.eval o).run P w=r at *
    cases r with
    | ok n w'=>
     cases n <;> simp only[Oper.upon,Oper.uponIn] at h ⊢
     case value u=>exact ih _ _ h
     case skip=>exact ih _ _ h
     case defer d=>exact ih _ _ h
     case enter f args=>
      refine⟨fun h=>(by cases h),CallsIn.inRound l (callsIn_wide.2 (Calls.mono h fun e w'' he=>?_))⟩
      cases e with
      | returned u=>exact ih _ _ he
      | panicked c=>exact he
      | outgrown=>exact he
     case row row args=>exact⟨fun h=>(by cases h),rowsIn_of_rows (Rows.mono h fun u w'' he=>ih _ _ he)⟩
    | halt x w'=>
     cases x <;> simp only[Oper.upon,Oper.uponIn] at h ⊢
     case panic u=>exact h
   ·rw[if_neg hw] at h ⊢
    exact⟨fun _ _=>trivial,ih _ _ h⟩
theorem wpAny_tail {P:Program}{Q:Exit→Act→World→Prop}{a:Act}{w:World}{l:List Oper} (n:Nat) (hB:Region.lexTailB .any l.toArray n=true)
  (h:wpStill P l.toArray w (fun a'=>wpList P l.toArray Q (l.drop n) a' w) (l.take n) a):wpAny P .any l.toArray Q l.toArray.size (Array.replicate l.toArray.size false) a w:=by
 simp only[Region.lexTailB,Bool.and_eq_true,decide_eq_true_eq] at hB
 obtain⟨⟨⟨⟨hsel,hn⟩,hs⟩,hc⟩,hlex⟩:=hB
 have htl:(l.take n).length=n:=by simp at hn ⊢;omega
 have hdl:(l.drop n).length=l.toArray.size-n:=by simp
 have inv0:HeadInv .any l.toArray n (Array.replicate l.toArray.size false):=
  ⟨by simp,fun j oj _ hl=>(by rw[getD_replicate_false] at hl;cases hl),fun t _ ht=>getD_in (by simpa using ht) (getD_replicate_false _ _)⟩
 have H:=wpAnyL_lex (md:=.any) (g:=l.toArray.size-n) hsel hs hc hn (l.take n) 0 _ a (fun j hj=>by rw[htl] at hj;simp[hj]) (by simpa using htl) inv0 (by rw[htl];exact hlex) h
 have E:=wpAny_of_head (Q':=Q) (g:=l.toArray.size-n) (fun listed a' hL=>by
  have:=wpAny_of_seq (md:=.any) (Q':=Q) (l.drop n) n listed a' w (fun j=>by simp[List.getElem?_drop]) (by rw[hdl];exact hL.1) hL.2
  rwa [hdl] at this) _ _ _ H
 rwa [htl,show n+(l.toArray.size-n)=l.toArray.size by omega] at E
theorem wpAny_lex {P:Program}{Q:Exit→Act→World→Prop}{a:Act}{w:World}{l:List Oper} (hB:Region.lexB .any l.toArray=true)
  (h:wpStill P l.toArray w (fun a'=>Q .normal a' w) l a):wpAny P .any l.toArray Q l.toArray.size (Array.replicate l.toArray.size false) a w:=by
 simp only[Region.lexB,Bool.and_eq_true] at hB
 refine wpAny_of_still (Q:=fun a'=>Q .normal a' w) (fun _ h=>h) _ _ _ ?_
 have:=wpAnyS_lex (md:=.any) hB.1 l 0 (Array.replicate l.toArray.size false) a (by simp) (by simpa using hB.2) h
 simpa using this
theorem wp_region_tail {P:Program}{id:Nat}{Q:Exit→Act→World→Prop}{a:Act}{w:World}{ops:List Oper} (n:Nat) (hm:P.follows .mixedOrders=true) (hB:Region.lexTailB .any ops.toArray n=true)
  (h:wpStill P ops.toArray w.drew (fun a'=>wpList P ops.toArray Q (ops.drop n) a' w.drew) (ops.take n) a):(Code.region id ops.toArray true).wp P Q a w:=
 wp_region_any hm (wpAny_tail n hB h)
theorem wp_region_lex {P:Program}{id:Nat}{Q:Exit→Act→World→Prop}{a:Act}{w:World}{ops:List Oper} (hm:P.follows .mixedOrders=true) (hB:Region.lexB .any ops.toArray=true)
  (h:wpStill P ops.toArray w.drew (fun a'=>Q .normal a' w.drew) ops a):(Code.region id ops.toArray true).wp P Q a w:=
 wp_region_any hm (wpAny_lex hB h)
theorem wp_region_heldD {P:Program}{id:Nat}{Q:Exit→Act→World→Prop}{a:Act}{w:World}{ops:List Oper} (S:World→Prop) (hm:P.follows .mixedOrders=true)
  (h:wpAnyH P .any ops.toArray Q S ops.toArray.size (Array.replicate ops.toArray.size false) a w.drew):(Code.region id ops.toArray true).wp P Q a w:=
 wp_region_any hm (wpAny_of_held _ _ _ _ h)
theorem wpIn_region_tail_round {P:Program}{id l m:Nat}{Q:Exit→Act→World→Prop}{a:Act}{w:World}{ops:List Oper} (n:Nat) (hm:P.follows .mixedOrders=true) (hB:Region.lexTailB .any ops.toArray n=true)
  (hd:ops.all (fun o=>match o.op with | .defer _=>false | _=>true)=true) (hQ:¬ LetsOut Q)
  (h:wpStill P ops.toArray w.drew (fun a'=>wpList P ops.toArray Q (ops.drop n) a' w.drew) (ops.take n) a):(Code.region id ops.toArray true).wpIn (Fence.wide.inRound l) m P Q a w:=
 wpIn_region_draw fun t=>by
  simp only[Region.schedule,hm,Bool.true_or,if_true]
  refine wpOpsIn_of_wpOps ?_ hQ _ _ _ (wpAny_sound _ t _ a _ (wpAny_tail n hB h))
  intro i o c hi hc
  rw[List.all_eq_true] at hd
  have:=hd o (by have:=Array.mem_of_getElem? hi;simpa using this)
  rw[hc] at this
  cases this
end Go.Proofs.YtclkgoigmgkffaaGreatDoor
