/-
  Texts Rr Ga Id Ie.
-/
import Derived.StillTailTactics
import Derived.RangeFuncWrites
import Derived.RangeFuncCalls
import Derived.OwnWalkIn
import Derived.OrdersHeld
import Derived.Deep.RegionHeld
import Derived.Test.YtgpamchpeamnfaaGreatDoorMA
import Derived.Test.YtgpamchpeamnfaaGreatDoorM00
import Derived.Test.YtgpamchpeamnfaaGreatDoorM03
set_option linter.unusedSimpArgs false
set_option linter.unusedVariables false
set_option maxRecDepth 100000
set_option maxHeartbeats 40000000
open _root_.Go.Proofs.Tryz
namespace Go.Proofs.YtgpamchpeamnfaaGreatDoor
open Go
theorem L7 {P:Program}{l n:Nat}{row:String}{args:Array Value}{w:World}{R:Value→World→Prop} (h:Rows P row args w R):RowsIn (Fence.wide.inRound l) n P row args w R:=by
 intro c cs _
 obtain⟨v,w',hr,hs⟩:=h c cs
 exact⟨v,w',hr,(stepsIn_wide (P:=P)).2 hs⟩
theorem jH {P:Program}{l n:Nat}{ops:Array Oper}{Q:Exit→Act→World→Prop} (hd:∀ (i:Nat) (o:Oper) (c:Call),ops[i]?=some o→o.op≠.defer c) (hQ:¬ LetsOut Q) :
  ∀ (s:List Nat) (a:Act) (w:World),wpOps P ops Q s a w→wpOpsIn (Fence.wide.inRound l) n P ops Q s a w
 | [],_,_,h=>h
 | i :: s,a,w,h=>by
  have ih:=jH (P:=P) (l:=l) (n:=n) hd hQ s
  simp only[wpOps] at h
  simp only[wpOpsIn]
  cases ho:ops[i]? with
  | none=>rw[ho] at h;exact ih a w h
  | some o=>
   rw[ho] at h
   simp only at h ⊢
   by_cases hw:Region.wanted o (yielded ops a.tmps)=true
   ·rw[if_pos hw] at h ⊢
    rcases h with h | h
    case inr=>exact absurd h.2 hQ
    refine⟨fun _ _=>trivial,?_⟩
    rw[Oper.semAt_plain _ _ _ (fun c=>hd i o c ho)]
    unfold Oper.wp at h
    generalize (execOp a.eval o).run P w=r at *
    cases r with
    | ok n w'=>
     cases n <;> simp only[Oper.upon,Oper.uponIn] at h ⊢
     case value u=>exact ih _ _ h
     case skip=>exact ih _ _ h
     case defer d=>exact ih _ _ h
     case enter f args=>
      refine⟨fun h=>(by cases h),CallsIn.inRound l (callsIn_wide.2 (Calls.mono h fun e w'' he=>?_))⟩
      cases e with
      | returned u=>exact ih _ _ he
      | panicked c=>exact he
      | outgrown=>exact he
     case row row args=>exact⟨fun h=>(by cases h),L7 (Rows.mono h fun u w'' he=>ih _ _ he)⟩
    | halt x w'=>
     cases x <;> simp only[Oper.upon,Oper.uponIn] at h ⊢
     case panic u=>exact h
   ·rw[if_neg hw] at h ⊢
    exact⟨fun _ _=>trivial,ih _ _ h⟩
theorem E0 {P:Program}{Q:Exit→Act→World→Prop}{a:Act}{w:World}{l:List Oper} (n:Nat) (hB:Region.lexTailB .any l.toArray n=true)
  (h:wpStill P l.toArray w (fun a'=>wpList P l.toArray Q (l.drop n) a' w) (l.take n) a):wpAny P .any l.toArray Q l.toArray.size (Array.replicate l.toArray.size false) a w:=by
 simp only[Region.lexTailB,Bool.and_eq_true,decide_eq_true_eq] at hB
 obtain⟨⟨⟨⟨hsel,hn⟩,hs⟩,hc⟩,hlex⟩:=hB
 have htl:(l.take n).length=n:=by simp at hn ⊢;omega
 have hdl:(l.drop n).length=l.toArray.size-n:=by simp
 have inv0:HeadInv .any l.toArray n (Array.replicate l.toArray.size false):=
  ⟨by simp,fun j oj _ hl=>(by rw[getD_replicate_false] at hl;cases hl),fun t _ ht=>getD_in (by simpa using ht) (getD_replicate_false _ _)⟩
 have H:=wpAnyL_lex (md:=.any) (g:=l.toArray.size-n) hsel hs hc hn (l.take n) 0 _ a (fun j hj=>by rw[htl] at hj;simp[hj]) (by simpa using htl) inv0 (by rw[htl];exact hlex) h
 have E:=wpAny_of_head (Q':=Q) (g:=l.toArray.size-n) (fun listed a' hL=>by
  have:=wpAny_of_seq (md:=.any) (Q':=Q) (l.drop n) n listed a' w (fun j=>by simp[List.getElem?_drop]) (by rw[hdl];exact hL.1) hL.2
  rwa [hdl] at this) _ _ _ H
 rwa [htl,show n+(l.toArray.size-n)=l.toArray.size by omega] at E
theorem aAu {P:Program}{Q:Exit→Act→World→Prop}{a:Act}{w:World}{l:List Oper} (hB:Region.lexB .any l.toArray=true)
  (h:wpStill P l.toArray w (fun a'=>Q .normal a' w) l a):wpAny P .any l.toArray Q l.toArray.size (Array.replicate l.toArray.size false) a w:=by
 simp only[Region.lexB,Bool.and_eq_true] at hB
 refine wpAny_of_still (Q:=fun a'=>Q .normal a' w) (fun _ h=>h) _ _ _ ?_
 have:=wpAnyS_lex (md:=.any) hB.1 l 0 (Array.replicate l.toArray.size false) a (by simp) (by simpa using hB.2) h
 simpa using this
theorem aR {P:Program}{id:Nat}{Q:Exit→Act→World→Prop}{a:Act}{w:World}{ops:List Oper} (n:Nat) (hm:P.follows .mixedOrders=true) (hB:Region.lexTailB .any ops.toArray n=true)
  (h:wpStill P ops.toArray w.drew (fun a'=>wpList P ops.toArray Q (ops.drop n) a' w.drew) (ops.take n) a):(Code.region id ops.toArray true).wp P Q a w:=
 wp_region_any hm (E0 n hB h)
theorem mQ {P:Program}{id:Nat}{Q:Exit→Act→World→Prop}{a:Act}{w:World}{ops:List Oper} (hm:P.follows .mixedOrders=true) (hB:Region.lexB .any ops.toArray=true)
  (h:wpStill P ops.toArray w.drew (fun a'=>Q .normal a' w.drew) ops a):(Code.region id ops.toArray true).wp P Q a w:=
 wp_region_any hm (aAu hB h)
theorem aE {P:Program}{id:Nat}{Q:Exit→Act→World→Prop}{a:Act}{w:World}{ops:List Oper} (S:World→Prop) (hm:P.follows .mixedOrders=true)
  (h:wpAnyH P .any ops.toArray Q S ops.toArray.size (Array.replicate ops.toArray.size false) a w.drew):(Code.region id ops.toArray true).wp P Q a w:=
 wp_region_any hm (wpAny_of_held _ _ _ _ h)
theorem gV {P:Program}{id l m:Nat}{Q:Exit→Act→World→Prop}{a:Act}{w:World}{ops:List Oper} (n:Nat) (hm:P.follows .mixedOrders=true) (hB:Region.lexTailB .any ops.toArray n=true)
  (hd:ops.all (fun o=>match o.op with | .defer _=>false | _=>true)=true) (hQ:¬ LetsOut Q)
  (h:wpStill P ops.toArray w.drew (fun a'=>wpList P ops.toArray Q (ops.drop n) a' w.drew) (ops.take n) a):(Code.region id ops.toArray true).wpIn (Fence.wide.inRound l) m P Q a w:=
 wpIn_region_draw fun t=>by
  simp only[Region.schedule,hm,Bool.true_or,if_true]
  refine jH ?_ hQ _ _ _ (wpAny_sound _ t _ a _ (E0 n hB h))
  intro i o c hi hc
  rw[List.all_eq_true] at hd
  have:=hd o (by have:=Array.mem_of_getElem? hi;simpa using this)
  rw[hc] at this
  cases this
open Go.RowKit
open Wire
def mkR (l:List UInt8):ByteArray:=⟨l.toArray⟩
theorem eJ (l:List UInt8):(mkR l).size=l.length:=aDt l
theorem gY (a b:List UInt8):mkR a++mkR b=mkR (a++b):=by
 apply ByteArray.ext
 simp[mkR]
theorem bDa (l:List UInt8):bl (mkR l)=l:=X2 l
theorem aUq (s:ByteArray):mkR (bl s)=s:=aHp s
theorem oS {P:Program}{w:World}{o:Oper}{a:Act}{K:Act→World→Prop}{Q:Exit→Act→World→Prop} (x:Operand) (s t:TypeId)
  (ho:o.op=.convert s t x) (v:Value) (hx:a.eval x=v) {v':Value}{w':World}
  (hr:(convert s t v).run P w=.ok v' w') (h:K (a.put o.dst v') w'):o.wp P a w K Q:=by
 unfold Oper.wp execOp
 simp only[ho,hx,hr,Sem.run_bind,Sem.run_pure,Result.andThen_ok]
 exact h
theorem aCr {o:Oper}{f:Nat→Option Bool}{X Y:Prop} (hg:o.guard=none) (h:X):if Region.wanted o f=true then X else Y:=by
 simp only[Region.wanted,hg,if_true]
 exact h
theorem fK (n:Nat):(aY n).length≤10:=by
 have h:∀ f n,(lW f n).length≤f:=by
  intro f
  induction f with
  | zero=>intro n;simp[lW]
  | succ f ih=>
   intro n
   rw[lW]
   split
   ·simp
   ·simp;exact ih _
 exact h 10 n
theorem j6 (n:Nat)(w:World)(hn:n<128):Calls prog 22 #[.int .i64 n] w fun e w'=>e=.returned (.string (mkR (aY n)))∧Fr [] w w':=by
 have g1:(n:Int)<128:=by omega
 have hd:=yF hn
 have hw:IntKind.u8.wrap (n:Int)=n:=by rw[IntKind.wrap_u8];omega
 go_enter func22,ntmps22
 go_wp2
 rw[jD _ _ _ 1 [UInt8.ofNat n] rfl (by
  intro j hj
  have:j=0:=by simpa using hj
  subst this;simp;omega)]
 simp only[Result.andThen]
 rw[Oper.upon_value]
 go_wp2
 go_ret
 rw[hd]
 exact⟨rfl,(Fr.refl [] w).alloc _⟩
theorem H7 (b:ByteArray)(w:World)(hb:b.size≤1000000000):Calls prog 25 #[.string b] w fun e w'=>e=.returned (.string (mkR (dG (bl b))))∧Fr [] w w':=by
 have hL:=aD b
 obtain⟨S,hS⟩:=eX (dG (bl b))
 rw[hS]
 have HS:Hid _:=hS
 clear hS
 go_enter func25,ntmps25
 go_wp2
 go_loop [3,4] (fun s i=>∃ (k m:Nat),k≤b.size∧m<1000003∧s=.int .i64 m∧i=.int .i64 k∧Hid (m=mR 1 ((bl b).take k))) (fun _ i=>b.size-(intOf i).toNat)
 case atStart=>exact⟨0,1,by omega,by omega,rfl,rfl,rfl⟩
 case round=>
  obtain⟨k,m,hk,hm,rfl,rfl,hM⟩:=hrel
  by_cases hlt:k<b.size
  ·have g1:(k:Int)<b.size:=by omega
   have hu:=b[k].toNat_lt
   have ht:=xG 1 (bl b) k (by omega)
   rw[← hM.out,kO] at ht
   have hk2:(bl b)[k]'(by omega)=b[k]:=by simp[bl];rfl
   rw[hk2] at ht
   have Ht:Hid _:=ht
   clear ht hk2
   go_wp2
   refine⟨⟨k+1,(257*m+b[k].toNat+1) % 1000003,by omega,by omega,by go_num,by go_num,Ht.out.symm⟩,by simp[intOf];omega⟩
  ·obtain rfl:k=b.size:=by omega
   have g1:¬ ((b.size:Int)<b.size):=by omega
   have hN:yS (bl b)=m:=by
    rw[hM.out,← hL,List.take_length];rfl
   have hSS:S=[UInt8.ofNat (m % 256),UInt8.ofNat (m / 256 % 256),UInt8.ofNat (m / 65536)]:=by
    rw[← HS.out,dG,hN]
   have H:Hid _:=hSS
   clear hSS hN HS
   go_wp2
   rw[jD _ _ _ 3 [UInt8.ofNat (m % 256),UInt8.ofNat (m / 256 % 256),UInt8.ofNat (m / 65536)] rfl (by
    intro j hj
    have hj3:j<3:=by simpa using hj
    obtain rfl | rfl | rfl:j=0∨j=1∨j=2:=by omega
    ·simp
    ·simp
    ·simp;omega)]
   simp only[Result.andThen]
   rw[Oper.upon_value]
   go_wp2
   go_ret
   rw[H.out]
   exact⟨rfl,(Fr.refl [] w).alloc _⟩
theorem aEl (n:Nat)(w:World)(hn:128≤n)(hb:n<9223372036854775808)(ih:∀ W:World,Calls prog 22 #[.int .i64 ((n / 128:Nat):Int)] W fun e w'=>e=.returned (.string (mkR (aY (n / 128))))∧Fr [] W w') :
  Calls prog 22 #[.int .i64 n] w fun e w'=>e=.returned (.string (mkR (aY n)))∧Fr [] w w':=by
 have hm:prog.follows .mixedOrders=true:=by kernel_rfl
 have g1:¬ ((n:Int)<128):=by omega
 have hd:=aEk hn (by rw[bBi];exact hb)
 have hq:(n:Int).tdiv 128=((n / 128:Nat):Int):=by rw[Int.tdiv_eq_ediv_of_nonneg (by omega)];omega
 have hr:(n:Int).tmod 128=((n % 128:Nat):Int):=by rw[Int.tmod_eq_emod_of_nonneg (by omega)];omega
 have hlt:n % 128<128:=Nat.mod_lt _ (by omega)
 have hl:=fK (n / 128)
 have hz:=eJ (aY (n / 128))
 have e1:(⟨[UInt8.ofNat (128+n % 128)].toArray⟩:ByteArray)++mkR (aY (n / 128))=mkR (aY n):=by
  rw[hd]
  exact gY [UInt8.ofNat (128+n % 128)] _
 have IH:Hid _:=ih
 have E1:Hid _:=e1
 clear ih e1 hd
 generalize aY n=D at *
 generalize aY (n / 128)=D' at *
 have hqn:n / 128≤n:=Nat.div_le_self _ _
 generalize n / 128=q at *
 generalize n % 128=r at *
 have hw:IntKind.u8.wrap (128+(r:Int))=128+r:=by rw[IntKind.wrap_u8];omega
 have hw1:IntKind.i64.wrap (128+(r:Int))=128+r:=by rw[IntKind.wrap_i64];omega
 have hw2:IntKind.i64.wrap (q:Int)=q:=by rw[IntKind.wrap_i64];omega
 obtain⟨c,hc⟩:=eX (UInt8.ofNat (128+r))
 have hcn:(c.toNat:Int)=128+r:=by rw[← hc];simp;omega
 rw[hc] at E1
 clear hc
 go_enter func22,ntmps22
 go_wp2
 refine aE (fun _=>True) hm ?_
 have hS:(fun _=>True) w.drew:=trivial
 refine aH (fun _ _ _ _ _ h=>h) hS [0,1,2,3,6,7] (by kernel_rfl) ?_
 iterate 6
  refine Yls.cons (v:=?_) rfl (.inl ⟨rfl,fun w1 hS1=>?_⟩) ?_
  rotate_left
  ·have q1:=hS1
   go_simp
   first | rfl | (refine (if_neg (by omega)).trans ?_;rfl)
  simp only[Act.put,Z1,Z2,Z3,Z4,Z5,Z6,hw1,hw,hw2]
 refine Yls.nil ?_
 refine wpAnyH_ready (rs:=[4,8]) (by kernel_rfl) (by simp) ?_
 refine AllReadyH.cons rfl (fun K hK=>?_) ?_
 ·go_simp
  refine hK _ _ trivial ?_
  clear hK K
  intro _
  refine wpAnyH_ready (rs:=[5,8]) (by kernel_rfl) (by simp) ?_
  refine AllReadyH.cons rfl (fun K hK=>?_) ?_
  ·refine aCr (by rfl) ?_
   refine oS _ 105 9 rfl _ rfl (jD _ _ _ 1 [c] rfl (by intro j hj;(have:j=0:=by simpa using hj);subst this;simp[hcn])) ?_
   refine hK _ _ trivial ?_
   clear hK K
   intro _
   simp only[Act.put,Z1,Z2,Z3,Z4,Z5,Z6]
   refine rd1 (r:=8) (by kernel_rfl) rfl fun K hK=>?_
   go_simp
   refine (IH.out _).mono ?_
   rintro e W2 ⟨rfl,f2⟩
   refine hK _ _ trivial ?_
   clear hK K
   intro _
   refine aH (fun _ _ _ _ _ h=>h) trivial [9,10] (by kernel_rfl) ?_
   iterate 2
    refine Yls.cons (v:=?_) rfl (.inl ⟨rfl,fun w1 hS1=>?_⟩) ?_
    rotate_left
    ·have q1:=hS1
     go_simp
     first | rfl | (refine (if_neg (by omega)).trans ?_;rfl)
    simp only[Act.put,Z1,Z2,Z3,Z4,Z5,Z6]
   refine Yls.nil ?_
   refine wpAnyH_done (by kernel_rfl) ?_ _
   go_wp2
   go_ret
   rw[← E1.out]
   exact⟨rfl,((Fr.refl [] w).drew.alloc _).trans f2⟩
  ·refine AllReadyH.cons rfl (fun K hK=>?_) AllReadyH.nil
   go_simp
   refine (IH.out _).mono ?_
   rintro e W2 ⟨rfl,f2⟩
   refine hK _ _ trivial ?_
   clear hK K
   intro _
   refine rd1 (r:=5) (by kernel_rfl) rfl fun K hK=>?_
   refine aCr (by rfl) ?_
   refine oS _ 105 9 rfl _ rfl (jD _ _ _ 1 [c] rfl (by intro j hj;(have:j=0:=by simpa using hj);subst this;rw[f2.cell (by simp) (by simp)];simp[hcn])) ?_
   refine hK _ _ trivial ?_
   clear hK K
   intro _
   simp only[Act.put,Z1,Z2,Z3,Z4,Z5,Z6]
   refine aH (fun _ _ _ _ _ h=>h) trivial [9,10] (by kernel_rfl) ?_
   iterate 2
    refine Yls.cons (v:=?_) rfl (.inl ⟨rfl,fun w1 hS1=>?_⟩) ?_
    rotate_left
    ·have q1:=hS1
     go_simp
     first | rfl | (refine (if_neg (by omega)).trans ?_;rfl)
    simp only[Act.put,Z1,Z2,Z3,Z4,Z5,Z6]
   refine Yls.nil ?_
   refine wpAnyH_done (by kernel_rfl) ?_ _
   go_wp2
   go_ret
   rw[← E1.out]
   exact⟨rfl,((Fr.refl [] w).drew.alloc _).trans f2⟩
 ·refine AllReadyH.cons rfl (fun K hK=>?_) AllReadyH.nil
  go_simp
  refine (IH.out _).mono ?_
  rintro e W2 ⟨rfl,f2⟩
  refine hK _ _ trivial ?_
  clear hK K
  intro _
  refine rd1 (r:=4) (by kernel_rfl) rfl fun K hK=>?_
  go_simp
  refine hK _ _ trivial ?_
  clear hK K
  intro _
  refine rd1 (r:=5) (by kernel_rfl) rfl fun K hK=>?_
  refine aCr (by rfl) ?_
  refine oS _ 105 9 rfl _ rfl (jD _ _ _ 1 [c] rfl (by intro j hj;(have:j=0:=by simpa using hj);subst this;simp[hcn])) ?_
  refine hK _ _ trivial ?_
  clear hK K
  intro _
  simp only[Act.put,Z1,Z2,Z3,Z4,Z5,Z6]
  refine aH (fun _ _ _ _ _ h=>h) trivial [9,10] (by kernel_rfl) ?_
  iterate 2
   refine Yls.cons (v:=?_) rfl (.inl ⟨rfl,fun w1 hS1=>?_⟩) ?_
   rotate_left
   ·have q1:=hS1
    go_simp
    first | rfl | (refine (if_neg (by omega)).trans ?_;rfl)
   simp only[Act.put,Z1,Z2,Z3,Z4,Z5,Z6]
  refine Yls.nil ?_
  refine wpAnyH_done (by kernel_rfl) ?_ _
  go_wp2
  go_ret
  rw[← E1.out]
  exact⟨rfl,((Fr.refl [] w).drew.trans f2).alloc _⟩
theorem lE (n:Nat)(w:World)(hb:n<9223372036854775808):Calls prog 22 #[.int .i64 n] w fun e w'=>e=.returned (.string (mkR (aY n)))∧Fr [] w w':=by
 have h:∀ (k n:Nat),n≤k→n<9223372036854775808→∀ w:World,Calls prog 22 #[.int .i64 n] w fun e w'=>e=.returned (.string (mkR (aY n)))∧Fr [] w w':=by
  intro k
  induction k with
  | zero=>intro n hn hb w;exact j6 n w (by omega)
  | succ k ih=>
   intro n hn hb w
   by_cases hl:n<128
   ·exact j6 n w hl
   ·exact aEl n w (by omega) hb (fun W=>ih (n / 128) (by omega) (by omega) W)
 exact h n n (Nat.le_refl _) hb w
open Wire Flow
def sN (W:World) (v:Value) (L:List Stp):Prop:=
 ∃ (a0:Option Addr) (cap g off:Nat),v=.slice a0 L.length cap∧L.length≤cap∧(0<L.length→a0=some ⟨g,off,none⟩∧g<W.heap.size) ∧
  ∀ (i:Nat) (x:Stp),L[i]?=some x→W.cell? ⟨g,off+i*5,none⟩=some (.int .i64 (x.pl:Nat))∧W.cell? ⟨g,off+i*5+1,none⟩=some (.int .i64 (x.nx:Nat))∧W.cell? ⟨g,off+i*5+2,none⟩=some (.int .i64 (x.op:Nat))∧W.cell? ⟨g,off+i*5+3,none⟩=some (.int .i64 (x.a:Nat))∧W.cell? ⟨g,off+i*5+4,none⟩=some (.int .i64 (x.b:Nat))
theorem aBw (op:Nat)(w:World):Calls prog 34 #[.int .i64 op] w fun e w'=>e=.returned (.bool (far op))∧w'=w:=by
 have fact:∀ k:Nat,op=k∨((op:Int)==(k:Int))=false:=fun k=>by
  by_cases e:op=k
  ·exact .inl e
  ·right;simp only[beq_eq_false_iff_ne,ne_eq];omega
 by_cases e1:op=48
 ·subst e1
  have hf:far 48=true:=rfl
  rw[hf]
  go_enter func34,ntmps34
  go_wp2
  go_ret
  exact⟨rfl,rfl⟩
 ·by_cases e2:op=49
  ·subst e2
   have hf:far 49=true:=rfl
   rw[hf]
   go_enter func34,ntmps34
   go_wp2
   go_ret
   exact⟨rfl,rfl⟩
  ·have hf:far op=(((op:Int)==17)):=by
    unfold far
    rw[show (op==48)=false by simpa using e1,show (op==49)=false by simpa using e2]
    simp only[Bool.false_or]
    by_cases e3:op=17
    ·subst e3;rfl
    ·rw[show (op==17)=false by simpa using e3];symm;simp only[beq_eq_false_iff_ne,ne_eq];omega
   have q1:((op:Int)==48)=false:=(fact 48).resolve_left e1
   have q2:((op:Int)==49)=false:=(fact 49).resolve_left e2
   rw[hf]
   generalize hq:((op:Int)==17)=q3
   clear fact hf
   go_enter func34,ntmps34
   go_wp2
   go_ret
   exact⟨rfl,rfl⟩
def qG (o:Option Nat):Int:=match o with | some k=>(k:Int) | none=>-1
theorem aBn {l:List Stp}{p:Nat}{k:Nat} (h:∀ i s,i<k→l[i]?=some s→s.pl≠p):dY l p=(dY (l.drop k) p).map (·+k):=by
 induction k generalizing l with
 | zero=>simp
 | succ k ih=>
  cases l with
  | nil=>simp[dY]
  | cons s l=>
   have h0:=h 0 s (by omega) rfl
   have h1:=ih (l:=l) (fun i x hi hx=>h (i+1) x (by omega) (by simpa using hx))
   rw[dY,if_neg h0,h1,List.drop_succ_cons]
   cases dY (l.drop k) p with
   | none=>rfl
   | some q=>simp only[Option.map_some,Option.some.injEq];omega
theorem b9 (lv:Value)(l:List Stp)(p:Nat)(w:World)(hL:sN w lv l)(hn:l.length≤1000000):Calls prog 35 #[lv,.int .i64 p] w fun e w'=>e=.returned (.int .i64 (qG (dY l p)))∧w'=w:=by
 obtain⟨a0,cap,g,off,rfl,hc,ha,hx⟩:=hL
 obtain⟨n,hln⟩:=eX (l.length)
 have hend:(∀ i s,i<n→l[i]?=some s→s.pl≠p)→dY l p=none:=fun h=>by
  rw[aBn h,List.drop_eq_nil_of_le (by omega)]
  rfl
 have hhit:∀ k s,(∀ i s,i<k→l[i]?=some s→s.pl≠p)→l[k]?=some s→s.pl=p→dY l p=some k:=fun k s h hs hp=>by
  rw[aBn h]
  have hk:=(Lgs.1 hs)
  obtain⟨hk1,hk2⟩:=hk
  rw[List.drop_eq_getElem_cons hk1,dY,hk2,if_pos hp]
  simp
 rw[hln] at hn hc ha ⊢
 generalize hR:dY l p=R at *
 have HE:Hid _:=hend
 have HH:Hid _:=hhit
 have HX:Hid _:=hx
 have HL:Hid _:=hln
 have HA:Hid _:=ha
 clear hend hhit hx hln hR ha
 go_enter func35,ntmps35
 go_wp2
 go_loop [5] (fun i=>∃ k:Nat,k≤n∧i=.int .i64 k∧Hid (∀ i s,i<k→l[i]?=some s→s.pl≠p)) (fun i=>n-(intOf i).toNat)
 case atStart=>exact⟨0,by omega,rfl,fun i _ h=>absurd h (by omega)⟩
 case round=>
  obtain⟨k,hk,rfl,Hk⟩:=hrel
  by_cases hlt:k<n
  ·have g1:(k:Int)<n:=by omega
   have hkl:k<l.length:=by rw[HL.out];exact hlt
   obtain⟨s,hs⟩:∃ s,l[k]?=some s:=⟨_,Lge hkl⟩
   have x0:=(HX.out k s hs).1
   obtain⟨ha0,-⟩:=HA.out (by omega)
   subst ha0
   by_cases hp:s.pl=p
   ·have g2:((s.pl:Int)==(p:Int))=true:=by rw[hp];simp
    have hr:=HH.out k s Hk.out hs hp
    have HR:Hid _:=hr
    clear HE HH HX HL HA Hk hs hp hr
    generalize s.pl=q at *
    go_wp2
    go_ret
    rw[HR.out]
    exact⟨rfl,rfl⟩
   ·have g2:((s.pl:Int)==(p:Int))=false:=by simp only[beq_eq_false_iff_ne,ne_eq];omega
    have hnew:∀ i s,i<k+1→l[i]?=some s→s.pl≠p:=fun i x hi hx=>by
     by_cases e:i=k
     ·subst e;rw[hs] at hx;cases hx;exact hp
     ·exact Hk.out i x (by omega) hx
    have HN:Hid _:=hnew
    clear hnew HE HH HX HL HA Hk hs hp
    generalize s.pl=q at *
    go_wp2
    exact⟨⟨k+1,by omega,by go_num,HN⟩,by simp[intOf];omega⟩
  ·obtain rfl:k=n:=by omega
   have g1:¬ (k:Int)<k:=by omega
   have HR:Hid _:=HE.out Hk.out
   clear HE HH HX HL HA Hk
   go_wp2
   go_ret
   rw[HR.out]
   exact⟨rfl,rfl⟩
structure kK (W:World) (gb hb sb:Nat) (G:List (Option (List UInt8))) (c:Bool):Prop where
 c0:W.cell? ⟨gb,0,none⟩=some (.slice (some ⟨hb,0,none⟩) G.length G.length)
 c1:W.cell? ⟨gb,1,none⟩=some (.slice (some ⟨sb,0,none⟩) G.length G.length)
 c2:W.cell? ⟨gb,2,none⟩=some (.bool c)
 ch:∀ (i:Nat) (x:Option (List UInt8)),G[i]?=some x→W.cell? ⟨hb,i,none⟩=some (.bool x.isSome)
 cs:∀ (i:Nat) (x:Option (List UInt8)),G[i]?=some x→∃ s,W.cell? ⟨sb,i,none⟩=some (.string s)∧∀ t,x=some t→s=wdK t
 zg:∀ i,W.frozen? ⟨gb,i,none⟩=false
 zh:∀ i,W.frozen? ⟨hb,i,none⟩=false
 zs:∀ i,W.frozen? ⟨sb,i,none⟩=false
 n1:gb≠hb
 n2:gb≠sb
 n3:hb≠sb
 le:G.length≤1000000
 hi:∀ (i:Nat) (t:List UInt8),G[i]?=some (some t)→t.length≤1024
def C0 (w:World) (gb hb sb:Nat) (G:List (Option (List UInt8))) (c:Bool) (i:Int) (st:List UInt8) (e:Ending) (w':World):Prop:=
 Fr [gb,hb,sb] w w' ∧
 ((e=.returned (.bool false)∧((i<0∨(G.length:Int)≤i)∨∃ k:Nat,i=k∧∃ t,G[k]?=some (some t)∧t.length≠st.length)) ∨
   (e=.returned (.bool true)∧∃ k:Nat,i=k∧k<G.length∧(∀ t,G[k]?=some (some t)→t.length=st.length)∧kK w' gb hb sb (laid G k st) (c || decide (laid G k st≠G))))
theorem kK.lt {W:World}{gb hb sb:Nat}{G:List (Option (List UInt8))}{c:Bool} (h:kK W gb hb sb G c):gb<W.heap.size:=aC h.c0
theorem kK.fr {W W':World}{gb hb sb:Nat}{G:List (Option (List UInt8))}{c:Bool}{S:List Nat} (h:kK W gb hb sb G c) (hG:0<G.length) (hf:Fr S W W') (h1:gb ∉ S) (h2:hb ∉ S) (h3:sb ∉ S):kK W' gb hb sb G c:=by
 have l1:=h.lt
 obtain⟨x,hx⟩:∃ x,G[0]?=some x:=⟨_,Lge hG⟩
 have l2:hb<W.heap.size:=aC (h.ch 0 x hx)
 have l3:sb<W.heap.size:=by obtain⟨s,hs,-⟩:=h.cs 0 x hx;exact aC hs
 refine⟨(hf.cell (p:=⟨gb,0,none⟩) l1 h1).trans h.c0,(hf.cell (p:=⟨gb,1,none⟩) l1 h1).trans h.c1,(hf.cell (p:=⟨gb,2,none⟩) l1 h1).trans h.c2,fun i x hi=>(hf.cell (p:=⟨hb,i,none⟩) l2 h2).trans (h.ch i x hi),fun i x hi=>?_,
  fun i=>(hf.frozen (p:=⟨gb,i,none⟩) l1 h1).trans (h.zg i),fun i=>(hf.frozen (p:=⟨hb,i,none⟩) l2 h2).trans (h.zh i),fun i=>(hf.frozen (p:=⟨sb,i,none⟩) l3 h3).trans (h.zs i),h.n1,h.n2,h.n3,h.le,h.hi⟩
 obtain⟨s,hs,hx⟩:=h.cs i x hi
 exact⟨s,(hf.cell (p:=⟨sb,i,none⟩) l3 h3).trans hs,hx⟩
theorem Q0 {G:List (Option (List UInt8))}{k:Nat}{st:List UInt8} (h:G[k]?=some none):laid G k st=G.set k (some st):=by unfold laid;rw[h]
theorem aIf {G:List (Option (List UInt8))}{k:Nat}{st t:List UInt8} (h:G[k]?=some (some t)):laid G k st=G.set k (some (lQ t st)):=by unfold laid;rw[h]
theorem kK.put {W:World}{gb hb sb:Nat}{G:List (Option (List UInt8))}{c:Bool} (h:kK W gb hb sb G c) {k:Nat} (hk:k<G.length) (st:List UInt8) (hst:st.length≤1024) {W':World}
  (e:W'=((W.setCell ⟨hb,k,none⟩ (.bool true)).setCell ⟨sb,k,none⟩ (.string (wdK st))).setCell ⟨gb,2,none⟩ (.bool true)):kK W' gb hb sb (G.set k (some st)) true:=by
 obtain⟨x,hx⟩:∃ x,G[k]?=some x:=⟨_,Lge hk⟩
 have k1:=h.ch k x hx
 obtain⟨s0,k2,-⟩:=h.cs k x hx
 have k3:=h.c2
 obtain⟨n1,n2,n3⟩:gb≠hb∧gb≠sb∧hb≠sb:=⟨h.n1,h.n2,h.n3⟩
 subst e
 have hlen:(G.set k (some st)).length=G.length:=by simp
 refine⟨?_,?_,?_,?_,?_,?_,?_,?_,n1,n2,n3,by rw[hlen];exact h.le,?_⟩
 ·rw[hlen,aA (by decide),aQ (Ne.symm n2),aQ (Ne.symm n1)];exact h.c0
 ·rw[hlen,aA (by decide),aQ (Ne.symm n2),aQ (Ne.symm n1)];exact h.c1
 ·rw[World.cell?_setCell_same' _ _ _ (by rw[aQ (Ne.symm n2),aQ (Ne.symm n1),k3];rfl)]
 ·intro i y hi
  rw[List.getElem?_set] at hi
  rw[aQ n1,aQ (Ne.symm n3)]
  by_cases ei:k=i
  ·subst ei
   rw[if_pos rfl,if_pos hk] at hi
   cases hi
   rw[World.cell?_setCell_same' _ _ _ (by rw[k1];rfl)]
   rfl
  ·rw[if_neg ei] at hi
   rw[aA ei]
   exact h.ch i y hi
 ·intro i y hi
  rw[List.getElem?_set] at hi
  rw[aQ n2]
  by_cases ei:k=i
  ·subst ei
   rw[if_pos rfl,if_pos hk] at hi
   cases hi
   refine⟨wdK st,?_,fun t ht=>by cases ht;rfl⟩
   rw[World.cell?_setCell_same' _ _ _ (by rw[aQ n3,k2];rfl)]
  ·rw[if_neg ei] at hi
   rw[aA ei,aQ n3]
   exact h.cs i y hi
 ·intro i;rw[wfz,wfz,wfz];exact h.zg i
 ·intro i;rw[wfz,wfz,wfz];exact h.zh i
 ·intro i;rw[wfz,wfz,wfz];exact h.zs i
 ·intro i t hi
  rw[List.getElem?_set] at hi
  split at hi
  ·cases hi;exact hst
  ·exact h.hi i t hi
theorem kK.over {W:World}{gb hb sb:Nat}{G:List (Option (List UInt8))}{c:Bool} (h:kK W gb hb sb G c) {k:Nat} (hk:k<G.length) (st:List UInt8) {t0:List UInt8} (hk0:G[k]?=some (some t0)) (hst:st.length≤1024) {W':World}
  (e:W'=(W.setCell ⟨sb,k,none⟩ (.string (wdK st))).setCell ⟨gb,2,none⟩ (.bool true)):kK W' gb hb sb (G.set k (some st)) true:=by
 obtain⟨x,hx⟩:∃ x,G[k]?=some x:=⟨_,Lge hk⟩
 have k1:=h.ch k x hx
 obtain⟨s0,k2,-⟩:=h.cs k x hx
 have k3:=h.c2
 obtain⟨n1,n2,n3⟩:gb≠hb∧gb≠sb∧hb≠sb:=⟨h.n1,h.n2,h.n3⟩
 subst e
 have hlen:(G.set k (some st)).length=G.length:=by simp
 refine⟨?_,?_,?_,?_,?_,?_,?_,?_,n1,n2,n3,by rw[hlen];exact h.le,?_⟩
 ·rw[hlen,aA (by decide),aQ (Ne.symm n2)];exact h.c0
 ·rw[hlen,aA (by decide),aQ (Ne.symm n2)];exact h.c1
 ·rw[World.cell?_setCell_same' _ _ _ (by rw[aQ (Ne.symm n2),k3];rfl)]
 ·intro i y hi
  rw[List.getElem?_set] at hi
  rw[aQ n1,aQ (Ne.symm n3)]
  by_cases ei:k=i
  ·subst ei
   rw[if_pos rfl,if_pos hk] at hi
   cases hi
   exact h.ch k (some t0) hk0
  ·rw[if_neg ei] at hi
   exact h.ch i y hi
 ·intro i y hi
  rw[List.getElem?_set] at hi
  rw[aQ n2]
  by_cases ei:k=i
  ·subst ei
   rw[if_pos rfl,if_pos hk] at hi
   cases hi
   refine⟨wdK st,?_,fun t ht=>by cases ht;rfl⟩
   rw[World.cell?_setCell_same' _ _ _ (by rw[k2];rfl)]
  ·rw[if_neg ei] at hi
   rw[aA ei]
   exact h.cs i y hi
 ·intro i;rw[wfz,wfz];exact h.zg i
 ·intro i;rw[wfz,wfz];exact h.zh i
 ·intro i;rw[wfz,wfz];exact h.zs i
 ·intro i t hi
  rw[List.getElem?_set] at hi
  split at hi
  ·cases hi;exact hst
  ·exact h.hi i t hi
theorem aUz (w:World)(gb hb sb:Nat)(G:List (Option (List UInt8)))(c:Bool)(i:Int)(st:List UInt8)(h:kK w gb hb sb G c)(hi:i<0∨(G.length:Int)≤i)(hi2:-5000000≤i∧i≤5000000) :
  Calls prog 50 #[.pointer (some ⟨gb,0,none⟩),.int .i64 i,.string (wdK st)] w fun e w'=>C0 w gb hb sb G c i st e w':=by
 have c0:=h.c0
 have HP:Hid (C0 w gb hb sb G c i st (.returned (.bool false)) w):=⟨Fr.refl _ w,.inl ⟨rfl,.inl hi⟩⟩
 have hle:=h.le
 clear h
 generalize G.length=n at *
 by_cases h0:i<0
 ·clear hi
  go_enter func50,ntmps50
  go_wp2
  go_ret
  exact HP
 ·have g2:(n:Int)≤i:=by omega
  have g3:i ≥ (n:Int):=by omega
  clear hi
  go_enter func50,ntmps50
  go_wp2
  go_ret
  exact HP
theorem aVa (w:World)(gb hb sb:Nat)(G:List (Option (List UInt8)))(c:Bool)(k:Nat)(st:List UInt8)(h:kK w gb hb sb G c)(hk:G[k]?=some none)(hst:st.length≤1024) :
  Calls prog 50 #[.pointer (some ⟨gb,0,none⟩),.int .i64 (k:Nat),.string (wdK st)] w fun e w'=>C0 w gb hb sb G c (k:Nat) st e w':=by
 have hkl:k<G.length:=(Lgs.1 hk).1
 have e0:=h.ch k none hk
 simp only[Option.isSome_none] at e0
 obtain⟨s0,e1,-⟩:=h.cs k none hk
 have c0:=h.c0
 have c1:=h.c1
 have c2:=h.c2
 have z1:=h.zh k
 have z2:=h.zs k
 have z3:=h.zg 2
 obtain⟨n1,n2,n3⟩:gb≠hb∧gb≠sb∧hb≠sb:=⟨h.n1,h.n2,h.n3⟩
 have hle:=h.le
 have HP:Hid (C0 w gb hb sb G c (k:Nat) st (.returned (.bool true)) (((w.setCell ⟨hb,k,none⟩ (.bool true)).setCell ⟨sb,k,none⟩ (.string (wdK st))).setCell ⟨gb,2,none⟩ (.bool true))):=by
  refine⟨(((Fr.refl _ w).setCell (.inl (by simp)) _).setCell (.inl (by simp)) _).setCell (.inl (by simp)) _,.inr ⟨rfl,k,rfl,hkl,fun t ht=>(by rw[hk] at ht;cases ht),?_⟩⟩
  have:=h.put hkl st hst rfl
  rw[Q0 hk]
  have hne:G.set k (some st)≠G:=fun e=>by
   have e2:=congrArg (fun l=>l[k]?) e
   simp only[List.getElem?_set,if_true,hkl,hk] at e2
   cases e2
  rw[decide_eq_true hne,Bool.or_true]
  exact this
 clear h hk
 generalize G.length=n at *
 have g0:¬ ((k:Int)<0):=by omega
 have g1:(k:Int)<n:=by omega
 have g2:¬ (k:Int) ≥ (n:Int):=by omega
 have g3:¬ (n:Int)≤(k:Int):=by omega
 have g4:(0:Int)≤k:=by omega
 have d1:(w.setCell ⟨hb,k,none⟩ (.bool true)).cell? ⟨gb,1,none⟩=some (.slice (some ⟨sb,0,none⟩) n n):=(aQ (Ne.symm n1)).trans c1
 go_enter func50,ntmps50
 go_wp2
 go_ret
 exact HP
theorem aQp (w:World)(gb hb sb:Nat)(G:List (Option (List UInt8)))(c:Bool)(k:Nat)(st t:List UInt8)(h:kK w gb hb sb G c)(hk:G[k]?=some (some t))(hst:st.length≤1024)(hne:t.length≠st.length) :
  Calls prog 50 #[.pointer (some ⟨gb,0,none⟩),.int .i64 (k:Nat),.string (wdK st)] w fun e w'=>C0 w gb hb sb G c (k:Nat) st e w':=by
 have hkl:k<G.length:=(Lgs.1 hk).1
 have e0:=h.ch k _ hk
 simp only[Option.isSome_some] at e0
 obtain⟨s0,e1,hs0⟩:=h.cs k _ hk
 obtain rfl:=hs0 t rfl
 have c0:=h.c0
 have c1:=h.c1
 have hle:=h.le
 have hht:=h.hi k t hk
 have HP:Hid (C0 w gb hb sb G c (k:Nat) st (.returned (.bool false)) w):=⟨Fr.refl _ w,.inl ⟨rfl,.inr ⟨k,rfl,t,hk,hne⟩⟩⟩
 clear h hk hs0
 generalize G.length=n at *
 have g0:¬ ((k:Int)<0):=by omega
 have g1:(k:Int)<n:=by omega
 have g3:¬ (n:Int)≤(k:Int):=by omega
 have g5:((t.length:Int)==(st.length:Int))=false:=by simp only[beq_eq_false_iff_ne,ne_eq];omega
 have z1:(wdK st).size=st.length:=bE _
 have z2:(wdK t).size=t.length:=bE _
 clear hne
 go_enter func50,ntmps50
 go_wp2
 go_ret
 exact HP
theorem aSu (s:List UInt8)(i:Nat)(h:i<s.length):(wdK s)[i]'(by rw[bE];exact h)=s[i]:=by
 show (wdK s).data[i]=s[i]
 simp[wdK]
theorem aQo (w:World)(gb hb sb:Nat)(G:List (Option (List UInt8)))(c:Bool)(k:Nat)(st t:List UInt8)(h:kK w gb hb sb G c)(hk:G[k]?=some (some t))(hst:st.length≤1024)(heq:t.length=st.length) :
  Calls prog 50 #[.pointer (some ⟨gb,0,none⟩),.int .i64 (k:Nat),.string (wdK st)] w fun e w'=>C0 w gb hb sb G c (k:Nat) st e w':=by
 have hm:prog.follows Departure.mixedOrders=true:=by kernel_rfl
 have hkl:k<G.length:=(Lgs.1 hk).1
 have e0:=h.ch k _ hk
 simp only[Option.isSome_some] at e0
 obtain⟨s0,e1,hs0⟩:=h.cs k _ hk
 obtain rfl:=hs0 t rfl
 have c0:=h.c0
 have c1:=h.c1
 have hle:=h.le
 have hht:=h.hi k t hk
 obtain⟨J,hJ⟩:=eX (lQ t st)
 have hJl:J.length=t.length:=by rw[← hJ];exact aDz heq
 have hJi:∀ (i:Nat) (h1:i<t.length) (h2:i<st.length) (h3:i<J.length),J[i]=lst t[i] st[i]:=fun i h1 h2 h3=>by subst hJ;simp[lQ]
 have HP1:Hid (J=t→∀ W:World,Fr [] w W→Hid (C0 w gb hb sb G c (k:Nat) st (.returned (.bool true)) W)):=fun e W hW=>by
  show C0 _ _ _ _ _ _ _ _ _ _
  refine⟨hW.mono (by simp),.inr ⟨rfl,k,rfl,hkl,fun u hu=>(by rw[hk] at hu;cases hu;exact heq),?_⟩⟩
  have hla:laid G k st=G:=by
   rw[aIf hk,hJ,e]
   obtain⟨h1,h2⟩:=Lgs.1 hk
   rw[← h2,List.set_getElem_self]
  rw[hla,decide_eq_false (by simp),Bool.or_false]
  exact h.fr (by omega) hW (by simp) (by simp) (by simp)
 have HP2:Hid (J≠t→∀ W:World,Fr [] w W→Hid (C0 w gb hb sb G c (k:Nat) st (.returned (.bool true)) ((W.setCell ⟨sb,k,none⟩ (.string (wdK J))).setCell ⟨gb,2,none⟩ (.bool true)))):=fun e W hW=>by
  have hF:=hW.mono (S':=[gb,hb,sb]) (by simp)
  have hG:=h.fr (by omega) hW (by simp) (by simp) (by simp)
  show C0 _ _ _ _ _ _ _ _ _ _
  refine⟨(hF.setCell (.inl (by simp)) _).setCell (.inl (by simp)) _,.inr ⟨rfl,k,rfl,hkl,fun u hu=>(by rw[hk] at hu;cases hu;exact heq),?_⟩⟩
  have hla:laid G k st=G.set k (some J):=by rw[aIf hk,hJ]
  have hne:G.set k (some J)≠G:=fun e2=>by
   have e3:=congrArg (fun l=>l[k]?) e2
   simp only[List.getElem?_set,if_true,hkl,hk] at e3
   cases e3
   exact e rfl
  rw[hla,decide_eq_true hne,Bool.or_true]
  exact hG.over hkl J hk (by omega) rfl
 have HC:Hid (∀ W:World,Fr [] w W→kK W gb hb sb G c):=fun W hW=>h.fr (by omega) hW (by simp) (by simp) (by simp)
 clear h hs0 hJ
 obtain⟨n,hn⟩:=eX (G.length)
 obtain⟨N,hN⟩:=eX (t.length)
 rw[hn] at c0 c1 hkl hle
 have HN:Hid _:=hn
 have g0:¬ ((k:Int)<0):=by omega
 have g1:(k:Int)<n:=by omega
 have g3:¬ (n:Int)≤(k:Int):=by omega
 have z1:(wdK st).size=N:=by rw[bE];omega
 have z2:(wdK t).size=N:=by rw[bE];omega
 have HJ:Hid (∀ i (h1:i<N),∃ (h2:i<t.length) (h3:i<st.length) (h4:i<J.length),J[i]=lst t[i] st[i]∧(wdK t)[i]'(by omega)=t[i]∧(wdK st)[i]'(by omega)=st[i]):=fun i h1=>⟨by omega,by omega,by omega,hJi i _ _ _,aSu t i (by omega),aSu st i (by omega)⟩
 have HL:Hid (J.length=N):=(by omega:J.length=N)
 have hN2:N≤1024:=by omega
 have HM:Hid _:=fun (W:World) (a b:UInt8)=>O9 a b W
 have HK:Hid _:=hk
 clear hJi hJl heq hN hn hht hst hk
 go_enter func50,ntmps50
 go_wp2
 go_loopw [8,9] (fun s i W=>∃ (q:Nat) (S:ByteArray),q≤N∧i=.int .i64 q∧s=.string S∧S.size=q∧Hid (S=wdK (J.take q))∧Fr [] w W) (fun _ i _=>N-(intOf i).toNat)
 case atStart=>exact⟨0,⟨#[]⟩,by omega,rfl,rfl,rfl,rfl,Fr.refl [] w⟩
 case round=>
  obtain⟨q,S,hq,rfl,rfl,hSz,HS,F⟩:=hrel
  clear e0 e1 c0 c1
  by_cases hlt:q<N
  ·have g5:(q:Int)<N:=by omega
   obtain⟨h2,h3,h4,j1,j2,j3⟩:=HJ.out q hlt
   have hml:=fun W:World=>HM.out W (t[q]) (st[q])
   rw[← j1,← j2,← j3] at hml
   have HML:Hid _:=hml
   obtain⟨x,hx⟩:∃ x:UInt8,J[q]=x:=⟨_,rfl⟩
   rw[hx] at HML
   have hz2:(⟨#[x]⟩:ByteArray).size=1:=rfl
   have hnew:S++wdK [x]=wdK (J.take (q+1)):=by
    rw[HS.out,pZ,← hx,List.take_succ_eq_append_getElem h4]
   have z5:(wdK [x]).size=1:=rfl
   have z6:(S++wdK [x]).size=q+1:=by rw[ByteArray.size_append,hSz,z5]
   have HNW:Hid _:=hnew
   have hxt:=x.toNat_lt
   clear hml j1 j2 j3 hnew HS HP1 HP2 HC HJ HM hx HK HN HL
   go_wp2
   go_quiet (first | (go_at_call 109;refine Calls.quiet_of_same (HML.out _)))
   go_wp2
   rw[jD _ _ _ 1 [x] rfl (by
    intro j hj
    have:j=0:=by simpa using hj
    subst this
    unfold World.cell?
    rw[show wr.heap.size=(wr.drewN nq).heap.size from rfl,wan]
    rfl)]
   simp only[Result.andThen]
   rw[Oper.upon_value]
   have hwd:(⟨([x]:List UInt8).toArray⟩:ByteArray)=wdK [x]:=rfl
   go_wp2
   exact⟨⟨q+1,S++wdK [x],by omega,by go_num,rfl,z6,HNW,(F.drewN _).alloc _⟩,by simp[intOf];omega⟩
  ·obtain rfl:q=N:=by omega
   have g5:¬ (q:Int)<q:=by omega
   have hS:S=wdK J:=by rw[HS.out,List.take_of_length_le (by rw[HL.out];exact Nat.le_refl _)]
   subst hS
   by_cases hJt:J=t
   ·have HQ:=HP1.out hJt _ F
    subst hJt
    clear HS HP1 HP2 HC HJ HM HK HN HL
    go_wp2
    go_ret
    exact HQ
   ·have HQ:=HP2.out hJt _ F
    have gS:((wdK J).toList==(wdK t).toList)=false:=by
     simp only[beq_eq_false_iff_ne,ne_eq]
     intro e
     exact hJt (by simpa [wdK,ByteArray.toList_eq] using e)
    have hC:=HC.out _ F
    have c1:=hC.c1
    obtain⟨s1,e1,-⟩:=hC.cs k _ HK.out
    have z8:=hC.zs k
    have z9:=hC.zg 2
    have n2:=hC.n2
    have c2:=hC.c2
    rw[HN.out] at c1
    have c2':(wr.setCell ⟨sb,k,none⟩ (.string (wdK J))).cell? ⟨gb,2,none⟩=some (.bool c):=(aQ (Ne.symm n2)).trans c2
    clear hC HS HP1 HP2 HC HJ HM HK HN HL
    go_wp2
    go_ret
    exact HQ
theorem P8 (w:World)(gb hb sb:Nat)(G:List (Option (List UInt8)))(c:Bool)(i:Int)(st:List UInt8)(h:kK w gb hb sb G c)(hi2:-5000000≤i∧i≤5000000)(hst:st.length≤1024) :
  Calls prog 50 #[.pointer (some ⟨gb,0,none⟩),.int .i64 i,.string (wdK st)] w fun e w'=>C0 w gb hb sb G c i st e w':=by
 by_cases hi:i<0∨(G.length:Int)≤i
 ·exact aUz w gb hb sb G c i st h hi hi2
 ·obtain⟨k,rfl⟩:∃ k:Nat,i=(k:Nat):=⟨i.toNat,by omega⟩
  have hk:k<G.length:=by omega
  obtain⟨x,hx⟩:∃ x,G[k]?=some x:=⟨_,Lge hk⟩
  cases x with
  | none=>exact aVa w gb hb sb G c k st h hx hst
  | some t=>
   by_cases e:t.length=st.length
   ·exact aQo w gb hb sb G c k st t h hx hst e
   ·exact aQp w gb hb sb G c k st t h hx hst e
end Go.Proofs.YtgpamchpeamnfaaGreatDoor
