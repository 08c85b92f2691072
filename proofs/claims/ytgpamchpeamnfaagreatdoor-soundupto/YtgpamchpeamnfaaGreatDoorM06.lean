/-
  Texts Ge Pa Wb Wc Wd Wa We Pb Wj.
-/
import Derived.Lib.TrailingZeros
import Derived.RangeFuncNested
import Derived.RangeFuncBound
import Derived.RangeFuncCalls
import Derived.RangeFuncLeaves
import Derived.Shelf.Abstract
import Derived.Shelf.RegionOpen
import Derived.WalkKit
import Derived.OwnWalkIn
import Derived.TacticsInMore
import Derived.LoopNIn
import Derived.LoopIn
import Derived.WalkSpells
import Derived.WalkLawsBesides
import Derived.Shelf.Spec.TrailingZeros
import Derived.Test.YtgpamchpeamnfaaGreatDoorRows
import Derived.BigQuiet
import Derived.Deep.QuietTactic
import Derived.Deep.RegionHeld
import Derived.Test.YtgpamchpeamnfaaGreatDoorMA
import Derived.Test.YtgpamchpeamnfaaGreatDoorM00
import Derived.Test.YtgpamchpeamnfaaGreatDoorM04
set_option linter.unusedSimpArgs false
set_option linter.unusedVariables false
set_option maxRecDepth 100000
set_option maxHeartbeats 40000000
open _root_.Go.Proofs.Tryz
namespace Go.Proofs.YtgpamchpeamnfaaGreatDoor
open Go.RowKit
open Wire
def nR (b:ByteArray) (i e:Nat):Int:=match num (seg (bl b) i e) with
 | none=>-1
 | some p=>(p.1:Int)
def nA (b:ByteArray) (i e:Nat):Nat:=match num (seg (bl b) i e) with
 | none=>i
 | some p=>e-p.2.length
theorem aXp {b:ByteArray}{i e k j:Nat} (he:e≤b.size) (hj:i+k=j) (hk:j<e):(seg (bl b) i e).getD k 0=b[j]'(by omega):=by
 subst hj
 have hL:=aD b
 have h1:k<(seg (bl b) i e).length:=by rw[bS (by omega)];omega
 rw[List.getD_eq_getElem?_getD,Lge h1]
 simp only[seg,Option.getD_some,List.getElem_drop,List.getElem_take,bl,Array.getElem_toList]
 rfl
theorem nK (b:ByteArray)(i e:Nat)(h1:i≤e)(h2:e≤b.size)(hs:b.size≤1000000000)(w:World) :
  Calls prog 48 #[.string b,.int .i64 i,.int .i64 e] w fun r w'=>r=.returned (.tuple #[.int .i64 (nR b i e),.int .i64 (nA b i e)])∧w'=w:=by
 obtain⟨X,hX⟩:=eX (nR b i e)
 obtain⟨Y,hY⟩:=eX (nA b i e)
 rw[hX,hY]
 have hget:=fun (k j:Nat)=>aXp (b:=b) (i:=i) (e:=e) (k:=k) (j:=j) h2
 have hCl:(seg (bl b) i e).length=e-i:=by rw[bS (by rw[aD];omega)]
 unfold nR at hX
 unfold nA at hY
 generalize seg (bl b) i e=C at *
 have HX:Hid _:=hX
 have HY:Hid _:=hY
 have HG:Hid _:=hget
 clear hX hY hget
 go_enter func48,ntmps48
 go_wp2
 go_loop [8,9,10] (fun n u k=>∃ kk uu aa:Nat,kk≤5∧kk≤e-i∧Hid (128 ^ kk=uu)∧Hid (sV C kk=aa)∧n=.int .i64 aa∧u=.int .i64 uu∧k=.int .i64 kk∧Hid (∀ m,m<kk→128≤(C.getD m 0).toNat)) (fun _ _ k=>5-(intOf k).toNat)
 case atStart=>exact⟨0,1,0,by omega,by omega,rfl,rfl,rfl,rfl,rfl,fun m hm=>absurd hm (by omega)⟩
 case round=>
  obtain⟨k,u,a,hk5,hk,Hu,Ha,rfl,rfl,rfl,Hall⟩:=hrel
  by_cases h5:k<5
  ·have g0:(k:Int)<5:=by omega
   obtain⟨j,hj⟩:∃ j:Nat,i+k=j:=⟨_,rfl⟩
   have hjI:(i:Int)+(k:Int)=(j:Int):=by omega
   have hu5:u≤268435456:=by
    rw[← Hu.out]
    have:(128:Nat) ^ k≤128 ^ 4:=Nat.pow_le_pow_right (by omega) (by omega)
    omega
   have ha5:a≤34359738368:=by rw[← Ha.out];exact Nat.le_of_lt (X6 C k (by omega))
   by_cases hend:j<e
   ·have g1:¬ ((j:Int) ≥ e):=by omega
    have g2:(j:Int)<b.size:=by omega
    have hjs:j<b.size:=by omega
    have hg:=HG.out k j hj hend
    have hx:=b[j].toNat_lt
    have hacc:sV C (k+1)=a+b[j].toNat % 128*u:=by simp only[sV];rw[Ha.out,hg,Hu.out]
    have hpow:128 ^ (k+1)=u*128:=by rw[Nat.pow_succ,Hu.out]
    have hst:=fun h0=>aHl (c:=C) (i:=k) h5 (by omega) Hall.out h0
    rw[hg] at hst
    obtain⟨x,hx'⟩:∃ x,b[j].toNat=x:=⟨_,rfl⟩
    rw[hx'] at hacc hst hx
    have Hst:Hid _:=hst
    have Hacc:Hid _:=hacc
    have Hpow:Hid _:=hpow
    have Hg:Hid (C.getD k 0=b[j]):=hg
    have Hj:Hid (i+k=j):=hj
    clear hst hacc hpow hg hj Hu Ha HG
    by_cases hx1:x<128
    ·have g3:(x:Int)<128:=by omega
     have hst:=Hst.out hx1
     have hm:x % 128=x:=by omega
     rw[hm] at Hacc
     by_cases hz:0<k∧x=0
     ·rw[if_pos hz] at hst
      obtain rfl:X = -1:=by rw[← HX.out,hst]
      obtain rfl:Y=i:=by rw[← HY.out,hst]
      have g4:(k:Int)>0:=by omega
      obtain rfl:x=0:=hz.2
      clear HX HY hst Hst
      go_wp2
      go_ret2
      exact⟨rfl,rfl⟩
     ·rw[if_neg hz] at hst
      have hl:(C.drop (k+1)).length=e-i-(k+1):=by rw[List.length_drop,hCl]
      have hXe:X=((a+x*u:Nat):Int):=by rw[← HX.out,hst];simp only;rw[Hacc.out]
      have hYe:Y=j+1:=by
       rw[← HY.out,hst]
       simp only[hl]
       have:=Hj.out
       omega
      have hmul:x*u≤128*268435456:=Nat.mul_le_mul (by omega) hu5
      have hmulI:(x:Int)*(u:Int)=((x*u:Nat):Int):=by push_cast;rfl
      obtain⟨xu,hxu⟩:∃ xu:Nat,x*u=xu:=⟨_,rfl⟩
      rw[hxu] at hXe hmul hmulI
      subst hXe hYe
      have g5:((x:Int)==0)=true→¬ ((k:Int)>0):=by intro q;simp at q;omega
      clear HX HY hst Hst hxu hl
      by_cases hx0:x=0
      ·subst hx0
       have g6:¬ ((k:Int)>0):=by omega
       have hxz:xu=0:=by omega
       subst hxz
       clear g5
       go_wp2
       go_ret2
       exact⟨by go_num,rfl⟩
      ·have g6:((x:Int)==0)=false:=by simp;omega
       clear g5
       go_wp2
       go_ret2
       exact⟨by go_num,rfl⟩
    ·have g3:¬ ((x:Int)<128):=by omega
     have hmul:(x-128)*u≤128*268435456:=Nat.mul_le_mul (by omega) hu5
     obtain⟨y,hy⟩:∃ y:Nat,x-128=y:=⟨_,rfl⟩
     have hyI:(x:Int)-128=(y:Int):=by omega
     rw[hy] at hmul
     have hmulI:(y:Int)*(u:Int)=((y*u:Nat):Int):=by push_cast;rfl
     obtain⟨yu,hyu⟩:∃ yu:Nat,y*u=yu:=⟨_,rfl⟩
     rw[hyu] at hmul hmulI
     have hm:x % 128=y:=by omega
     rw[hm,hyu] at Hacc
     clear hy hyu hm Hst
     go_wp2
     refine⟨⟨k+1,u*128,a+yu,by omega,by have:=Hj.out;omega,Hpow.out,Hacc.out,by go_num,by go_num,by go_num,fun m hm=>?_⟩,by simp[intOf];omega⟩
     by_cases em:m=k
     ·subst em
      rw[Hg.out,hx']
      omega
     ·exact Hall.out m (by omega)
   ·have g1:(j:Int) ≥ e:=by omega
    have hno:num C=none:=aDp (by omega) (by omega) Hall.out (.inr (by omega))
    obtain rfl:X = -1:=by rw[← HX.out,hno]
    obtain rfl:Y=i:=by rw[← HY.out,hno]
    clear HX HY hno HG Hu Ha hj
    go_wp2
    go_ret2
    exact⟨rfl,rfl⟩
  ·have g0:¬ ((k:Int)<5):=by omega
   obtain rfl:k=5:=by omega
   have hno:num C=none:=aDp (by omega) (by omega) Hall.out (.inl rfl)
   obtain rfl:X = -1:=by rw[← HX.out,hno]
   obtain rfl:Y=i:=by rw[← HY.out,hno]
   clear HX HY hno HG Hu Ha
   go_wp2
   go_ret2
   exact⟨rfl,rfl⟩
def dI (x:Nat):List Nat:=(List.range 64).filter (fun i=>x.testBit i)
theorem pF {x i:Nat}:i ∈ dI x↔i<64∧x.testBit i=true:=by simp[dI]
theorem nJ:dI 0=[]:=by simp[dI]
theorem qC (k m j:Nat):(2 ^ (k+1)*m+2 ^ k).testBit j=if j<k+1 then decide (k=j) else m.testBit (j-(k+1)):=by
 rw[Nat.testBit_two_pow_mul_add _ (by rw[Nat.pow_succ];have:=Nat.two_pow_pos k;omega)]
 split
 ·rw[Nat.testBit_two_pow]
 ·rfl
theorem nV (k m j:Nat):(2 ^ (k+1)*m).testBit j=if j<k+1 then false else m.testBit (j-(k+1)):=by
 have:=Nat.testBit_two_pow_mul_add m (b:=0) (i:=k+1) (Nat.two_pow_pos _) j
 simpa using this
theorem aWp (k m:Nat):(2 ^ (k+1)*m+2 ^ k) &&& (2 ^ (k+1)*m+2 ^ k-1)=2 ^ (k+1)*m:=by
 have hp:=Nat.two_pow_pos k
 have e:2 ^ (k+1)*m+2 ^ k-1=2 ^ (k+1)*m+(2 ^ k-1):=by omega
 rw[e]
 apply Nat.eq_of_testBit_eq
 intro j
 rw[Nat.testBit_and,qC,nV,Nat.testBit_two_pow_mul_add _ (by rw[Nat.pow_succ];omega)]
 split
 ·rw[Nat.testBit_two_pow_sub_one]
  by_cases h:k=j
  ·subst h;simp
  ·simp[h]
 ·simp
theorem aVy (r:Nat)(h0:r≠0)(h:r<18446744073709551616):∃ m,r=2 ^ (Lib.ctz 64 r+1)*m+2 ^ Lib.ctz 64 r∧Lib.ctz 64 r<64:=by
 obtain⟨m,hm,hk⟩:=Lib.ctzFrom_spec 64 r (by omega) (by simpa using h)
 refine⟨m,?_,?_⟩
 ·simp only[Lib.ctz,if_neg h0]
  rw[Nat.pow_succ]
  rw[Nat.mul_assoc,← Nat.mul_add_one]
  exact hm
 ·simp only[Lib.ctz,if_neg h0];exact hk
theorem yD (k:Nat)(hk:k<64)(p:Nat→Bool):(List.range 64).filter p=(List.range k).filter p++([k].filter p++(List.range' (k+1) (63-k)).filter p):=by
 rw[← List.filter_append,← List.filter_append]
 congr 1
 rw[List.range_eq_range',List.range_eq_range',show [k]=List.range' k 1 from rfl]
 rw[show k+1=k+1*1 from by omega,List.range'_append,show List.range' k (1+(63-k))=List.range' (0+1*k) (1+(63-k)) from by simp,List.range'_append]
 congr 1;omega
theorem aJn (r:Nat)(h0:r≠0)(h:r<18446744073709551616):dI r=Lib.ctz 64 r :: dI (r &&& (r-1)):=by
 obtain⟨m,hm,hk⟩:=aVy r h0 h
 generalize Lib.ctz 64 r=k at *
 have e2:r &&& (r-1)=2 ^ (k+1)*m:=by rw[hm];exact aWp k m
 rw[e2]
 unfold dI
 rw[yD k hk,yD k hk (fun i=>(2 ^ (k+1)*m).testBit i)]
 have a1:(List.range k).filter (fun i=>r.testBit i)=[]:=by
  rw[List.filter_eq_nil_iff];intro j hj;rw[hm,qC];simp at hj;simp[show j<k+1 from by omega];omega
 have a2:(List.range k).filter (fun i=>(2 ^ (k+1)*m).testBit i)=[]:=by
  rw[List.filter_eq_nil_iff];intro j hj;rw[nV];simp at hj;simp[show j<k+1 from by omega]
 have b1:[k].filter (fun i=>r.testBit i)=[k]:=by
  have:r.testBit k=true:=by rw[hm,qC];simp
  simp[this]
 have b2:[k].filter (fun i=>(2 ^ (k+1)*m).testBit i)=[]:=by
  have:(2 ^ (k+1)*m).testBit k=false:=by rw[nV];simp
  simp[this]
 have c:(List.range' (k+1) (63-k)).filter (fun i=>r.testBit i)=(List.range' (k+1) (63-k)).filter (fun i=>(2 ^ (k+1)*m).testBit i):=by
  apply List.filter_congr
  intro j hj
  rw[List.mem_range'_1] at hj
  rw[hm,qC,nV,if_neg (by omega),if_neg (by omega)]
 rw[a1,a2,b1,b2,c]
 simp
theorem aJo (r:Nat)(h:r<18446744073709551616):r &&& (r-1)<18446744073709551616:=Nat.lt_of_le_of_lt Nat.and_le_left h
open Go.RowKit Go.Shelf
attribute [local go_sem] Oper.semAt_some
theorem aXi (x k idx:Nat)(w:World)(hx0:((x:Int)==0)=false)
  (key:IntKind.u64.wrap (bits BinOp.and IntKind.u64 (x:Int) (IntKind.u64.wrap (-(x:Int)))*285870213051353865) / 288230376151711744=(idx:Int))
  (hi:idx<64) (hk:k<64) (hcell:w.cell? ⟨5,idx,none⟩=some (.int .u8 k)) :
  Calls prog 193 #[.int .u64 x] w fun e w'=>e=.returned (.int .i64 k)∧w'=w:=by
 go_enter func193,ntmps193
 go_wp2_with (simp only[key])
 go_ret
 exact⟨rfl,rfl⟩
theorem bAv (x:Nat)(hx0:x≠0)(hx:x<18446744073709551616)(w:World)(hT:Tab w) :
  Calls prog 193 #[.int .u64 x] w fun e w'=>e=.returned (.int .i64 (Lib.ctz 64 x))∧w'=w:=by
 obtain⟨hlow,hk⟩:=Lib.lowest_bit 64 x hx0 hx
 obtain⟨hi,htab⟩:=Lib.deBruijn64_at _ hk
 have hcell:=hT _ hi
 rw[htab] at hcell
 exact aXi x _ _ w (by simp;omega) (tz64_key x _ hx hx0 hlow) hi hk hcell
theorem bDk (n l s:Nat)(hs:s<18446744073709551616)(J:List Nat→World→Prop)(hT:∀ pre W,J pre W→Tab W)
  (hY:∀ pre x rest W,J pre W→dI s=pre++x :: rest→YieldAt Fence.wide (n-1) prog l #[.int .i64 (x:Nat)] W fun e W'=>e=.returned (.bool true)∧J (pre++[x]) W')
  (W:World) (h0:J [] W) :
  CallsIn Fence.wide n prog 203 #[.int .u64 s,.func (.yield l) #[] #[]] W fun e W'=>(∃ v,e=.returned v)∧J (dI s) W':=by
 refine callsIn_of_wp func203 rfl trivial ?_ rfl
 simp only[ntmps203,List.size_toArray,List.length_cons,List.length_nil,Nat.reduceAdd,Nat.reduceSub,Array.replicate_succ,Array.replicate_zero,List.push_toArray,List.append_toArray,List.nil_append,List.cons_append]
 gi_wp2
 gi_loopw [4] (fun p wr=>∃ (pre:List Nat) (r:Nat),p=.int .u64 r∧r<18446744073709551616∧dI s=pre++dI r∧J pre wr)
  (fun p _=>(dI (intOf p).toNat).length)
 case atStart=>
  exact⟨[],s,rfl,hs,rfl,h0⟩
 case round=>
  obtain⟨pre,r,rfl,hr,hx,hJ⟩:=hrel
  by_cases hz:r=0
  ·subst hz
   rw[nJ,List.append_nil] at hx
   gi_wp2
   go_end0
   exact⟨⟨_,rfl⟩,by rw[hx];exact hJ⟩
  ·have hst:=aJn r hz hr
   rw[hst] at hx
   obtain⟨fn,tmps,assign,body,hy,hR⟩:=hY pre _ _ wr hJ hx
   have hne:((r:Int)==0)=false:=by simp;omega
   have hne2:((r:Int)!=0)=true:=by simp;omega
   have hTw:=hT _ _ hJ
   gi_wp2_with fail
   refine⟨trivial,fun h=>(by cases h),?_⟩
   refine (callsIn_wide.2 (bAv r hz hr _ hTw)).mono ?_
   rintro e w' ⟨rfl,rfl⟩
   gi_wp2_with fail
   refine⟨fun h=>(by cases h),?_⟩
   refine hR.mono ?_
   rintro e W3 ⟨rfl,hJ3⟩
   gi_wp2
   have eand:bits BinOp.and IntKind.u64 (r:Int) ((r:Int)-1)=((r &&& (r-1):Nat):Int):=by
    rw[show (r:Int)-1=((r-1:Nat):Int) by omega]
    exact bits_and_u64_nat r (r-1) hr (by omega)
   go_roundw
   case rel=>exact⟨pre++[Lib.ctz 64 r],_,by rw[eand],aJo r hr,by rw[hx];simp,hJ3⟩
   case measure=>rw[eand];simp only[intOf,Int.toNat_natCast];rw[hst];simp
theorem rW {g:Operand}{p:Tmp}{assign body:Code}{Q:Exit→Act→World→Prop}{a:Act}{w:World}{n:Nat} (s:Nat) (hs:s<18446744073709551616)
  (hg:a.eval g=.func (.func 203) #[.int .u64 s] #[])
  (I:List Nat→World→Prop) (hI:OwnFrom w.heap.size I) (hT:∀ pre W,I pre W→Tab W) (h0:I [] w) (a₁:Nat→Act)
  (hassign:∀ (l x:Nat) (W:World) (K:Act→World→Prop),K (a₁ x) W →
   assign.wpIn (Fence.wide.inRound l) (n-1-1) prog (Exit.then K (fun _ _ _=>False)) { tmps:=(#[p].zip #[Value.int .i64 x]).foldl (fun t (p,v)=>t.setIfInBounds p v) a.tmps,defers:=[] } W)
  (hbody:∀ (l:Nat) (pre:List Nat) (x:Nat) (rest:List Nat) (W:World),I pre W→dI s=pre++x :: rest →
   body.wpIn (Fence.wide.inRound l) (n-1-1) prog (ownPostG w.heap.size (fun _ _=>True) I (fun _ _ _=>False) (pre++[x]) W) (a₁ x) W)
  (hdone:∀ (D:Nat) (W:World),w.heap.size≤D→I (dI s) W→W.heap[D]?=some (.deferred (some []))→Q .normal { a with defers:={ target:=.collected D,args:=#[] } :: a.defers } W) :
  (Code.rangeFunc g #[p] assign body).wpIn Fence.wide n prog Q a w:=by
 refine wpIn_rangeFunc ?_
 intro fn hfn
 obtain⟨R,hR⟩:∃ R:LoopState→Loop,R=fun st=>{ state:=st,pending:=none,fn,tmps:=a.tmps,params:=#[p],assign,body,defers:=w.heap.size }:=⟨_,rfl⟩
 obtain⟨W1,hW1⟩:=eX ((w.alloc (.deferred (some []))).alloc (.loop (R .ready)))
 have hsz:W1.heap.size=w.heap.size+2:=by rw[← hW1];simp
 have hl1:W1.heap[w.heap.size+1]?=some (.loop (R .ready)):=by
  rw[← hW1];have:=wan (w.alloc (.deferred (some []))) (.loop (R .ready));rwa [World.size_alloc] at this
 have hd1:W1.heap[w.heap.size]?=some (.deferred (some [])):=by
  rw[← hW1];exact (Below.heap_alloc _ _ _ (by simp)).trans (wan w _)
 have hi1:I [] W1:=by rw[← hW1];exact hI.alloc _ (hI.alloc _ h0)
 refine⟨w.heap.size+1,[{ target:=.collected w.heap.size,args:=#[] }],W1,{ target:=.fn (.func 203) #[],args:=#[.int .u64 s,.func (.yield (w.heap.size+1)) #[] #[]] },W1,203,
  #[.int .u64 s,.func (.yield (w.heap.size+1)) #[] #[]],W1,?_,?_,?_,?_,fun h=>(by cases h),?_⟩
 ·rw[← hW1,hR];exact run_enterLoop_outer _ _ _ _ _
 ·simp only[resolve,hg]
  simp[go_sem]
 ·intro f' _;exact trivial
 ·have eg:=enters_of (P:=prog) func203 (by kernel_rfl) rfl
  simp[invoke,go_sem,eg]
 ·refine (bDk (n-1) (w.heap.size+1) s hs (fun pre W=>I pre W∧W.heap[w.heap.size+1]?=some (.loop (R .ready))∧W.heap[w.heap.size]?=some (.deferred (some [])))
   (fun pre W h=>hT pre W h.1) ?_ W1 ⟨hi1,hl1,hd1⟩).mono ?_
  ·rintro pre x rest W ⟨hi,hl,hd⟩ hbits
   have hlt:w.heap.size+1<W.heap.size:=(Age.1 hl).1
   have hy:=run_yield (P:=prog) (args:=#[.int .i64 x]) hl (by rw[hR];rfl)
   rw[hR] at hy
   refine⟨fn,_,assign,body,hy,roundIn_of_wpIn hfn ?_⟩
   refine hassign _ x W _ ?_
   refine⟨_,run_beginRound hl (by rw[hR]),?_⟩
   have hl2:(W.putObj (w.heap.size+1) (.loop { R .ready with state:=.busy })).heap[w.heap.size+1]?=some (.loop { R .ready with state:=.busy }):=World.putObj_heap_same hlt
   have hd2:(W.putObj (w.heap.size+1) (.loop { R .ready with state:=.busy })).heap[w.heap.size]?=some (.deferred (some [])):=(World.putObj_heap_other (by omega)).trans hd
   refine wpIn_mono (hbody _ pre x rest _ (hI.putObj _ hi (by omega) hl rfl) hbits) ?_
   rintro e a3 W3 hp
   cases e with
   | normal=>
    obtain⟨hk3,_,hi3⟩:=hp
    have hl3:=hk3.same _ _ (by omega) hl2 rfl
    have hd3:=hk3.same _ _ (Nat.le_refl _) hd2 rfl
    have hlt3:=(Age.1 hl3).1
    have hr:=run_endRound (P:=prog) none hl3
    rw[hR] at hr
    refine⟨_,_,hr,rfl,hI.putObj _ hi3 (by omega) hl3 rfl,?_,(World.putObj_heap_other (by omega)).trans hd3⟩
    rw[World.putObj_heap_same hlt3,hR]
    rfl
   | ret=>exact hp.2.elim
   | exit id=>exact hp.2.elim
   | goto t=>exact hp.2.elim
   | panic ch=>exact hp.elim
   | outgrown=>exact hp.elim
  ·rintro e W2 ⟨⟨v,rfl⟩,hi,hl,hd⟩
   have he:=run_endLoop (P:=prog) hl (by rw[hR];simp)
   rw[hR] at he
   exact⟨none,_,he,hdone _ _ (Nat.le_refl _) (hI.putObj _ hi (by omega) hl rfl) ((World.putObj_heap_other (by omega)).trans hd)⟩
attribute [local go_sem] Oper.semAt_some
def Z8 (fo:Nat→Nat→Nat) (sp src dst:Nat):Nat→Nat→Nat:=fun s a=>if s=sp∧src.testBit a=true then fo s a ||| dst else fo s a
def yR (fo:Nat→Nat→Nat) (sp dst:Nat) (pre:List Nat):Nat→Nat→Nat:=fun s a=>if s=sp∧a ∈ pre then fo s a ||| dst else fo s a
theorem aMn {src x k:Nat}(h:src<2 ^ k)(hb:src.testBit x=true):x<k:=by
 apply Nat.lt_of_not_le
 intro hle
 have h1:2 ^ x≤src:=Nat.ge_two_pow_of_testBit hb
 have h2:2 ^ k≤2 ^ x:=Nat.pow_le_pow_right (by decide) hle
 omega
theorem aXj {fo:Nat→Nat→Nat}{sp dst:Nat}{pre:List Nat} (hfo:∀ s a,fo s a<18446744073709551616) (hdst:dst<18446744073709551616) (s a:Nat):yR fo sp dst pre s a<18446744073709551616:=by
 unfold yR
 split
 ·exact Nat.or_lt_two_pow (n:=64) (hfo s a) hdst
 ·exact hfo s a
theorem aOw (fo:Nat→Nat→Nat)(sp dst:Nat)(pre:List Nat)(x:Nat) :
  (fun s' a'=>if s'=sp∧a'=x then yR fo sp dst pre sp x ||| dst else yR fo sp dst pre s' a')=yR fo sp dst (pre++[x]):=by
 funext s a
 by_cases h1:s=sp
 ·subst h1
  by_cases h2:a=x
  ·subst h2
   simp only[and_self,if_true,yR,true_and,List.mem_append,List.mem_singleton,or_true]
   split
   ·rw[Nat.or_assoc,Nat.or_self]
   ·rfl
  ·simp[yR,h2]
 ·simp[yR,h1]
theorem aSz (fo:Nat→Nat→Nat)(sp src dst:Nat)(s a:Nat)(ha:a<50):yR fo sp dst (dI src) s a=Z8 fo sp src dst s a:=by
 simp[yR,Z8,pF,show a<64 by omega]
structure aWu (w:World) (pb sp dst:Nat) (wh:Nat→Value) (tk:Nat→Nat) (fo:Nat→Nat→Nat) (pre:List Nat) (W:World):Prop where
 pat:dS W pb wh tk (yR fo sp dst pre)
 fr:Fr [pb] w W
 tab:Tab W
 b0:W.cell? ⟨w.heap.size,0,none⟩=some (.pointer (some ⟨pb,0,none⟩))
 b1:W.cell? ⟨w.heap.size+1,0,none⟩=some (.int .i64 sp)
 b2:W.cell? ⟨w.heap.size+1+1,0,none⟩=some (.int .u64 dst)
theorem Fr.grown {S:List Nat}{a W W':World}{row:Option Nat} (h:Fr S a W) (hg:W.grownBy W' row) (hr:∀ r,row=some r→a.heap.size≤r):Fr S a W':=
 ⟨hg.os.trans h.os,hg.tape.trans h.tape,hg.output.trans h.output,Nat.le_trans h.size hg.size,fun k hk hn=>
  (hg.block k (Nll hk h.size) (fun e=>by have:=hr k e.symm;omega)).trans (h.block k hk hn)⟩
theorem aWu.own (w:World)(pb sp dst:Nat)(wh:Nat→Value)(tk:Nat→Nat)(fo:Nat→Nat→Nat)(B:Nat)(hB:w.heap.size≤B):OwnFrom B (aWu w pb sp dst wh tk fo):=by
 rintro pre W W' row ⟨h1,h2,h3,h4,h5,h6⟩ hg hr
 have hr':=fun r e=>(hr r e).2
 exact⟨h1.of_block (jF (a:=⟨pb,12,none⟩) (h1.ht 0 (by decide)) hg hr'),h2.grown hg (fun r e=>Nat.le_trans hB (hr r e).1),h3.of_block (jF (a:=⟨5,0,none⟩) (h3 0 (by decide)) hg hr'),
  cell_kept h4 hg hr',cell_kept h5 hg hr',cell_kept h6 hg hr'⟩
theorem qA (pb sp src dst:Nat)(hsp:sp<4)(hsrc:src<1125899906842624)(hdst:dst<18446744073709551616)(w:World)(wh:Nat→Value)(tk:Nat→Nat)(fo:Nat→Nat→Nat)
  (hP:dS w pb wh tk fo) (hfo:∀ s a,fo s a<18446744073709551616) (hT:Tab w) (hpb:pb≠5) :
  Calls prog 196 #[.pointer (some ⟨pb,0,none⟩),.int .i64 sp,.int .u64 src,.int .u64 dst] w fun e w'=>e=.returned (.tuple #[])∧dS w' pb wh tk (Z8 fo sp src dst)∧Fr [pb] w w':=by
 refine (callsIn_wide (n:=4)).1 ?_
 refine callsIn_of_wp_marks func196 rfl trivial ?_ rfl
 simp only[ntmps196,List.size_toArray,List.length_cons,List.length_nil,Nat.reduceAdd,Nat.reduceSub,Array.replicate_succ,Array.replicate_zero,List.push_toArray,List.append_toArray,List.nil_append,List.cons_append]
 gi_wp2
 obtain⟨W0,hW0⟩:=eX ((((w.alloc (Obj.cells #[Value.pointer (some { block:=pb,off:=0 })] 202)).alloc (Obj.cells #[Value.int IntKind.i64 sp] 3)).alloc (Obj.cells #[Value.int IntKind.u64 dst] 213)))
 have hI0:aWu w pb sp dst wh tk fo [] W0:=by
  have hfr:Fr [pb] w W0:=by rw[← hW0];exact (((Fr.refl _ _).alloc _).alloc _).alloc _
  have hfr':Fr [] w W0:=by rw[← hW0];exact (((Fr.refl _ _).alloc _).alloc _).alloc _
  refine⟨(hP.fr hfr' (by simp)).congr (fun _ _=>rfl) (fun s a _ _=>by simp[yR]),hfr,hT.fr hfr' (by simp),?_,?_,?_⟩
  ·rw[← hW0,World.cell?_alloc_past _ _ _ (by simp;omega),World.cell?_alloc_past _ _ _ (by simp)];exact kG _ _ _
  ·rw[← hW0,World.cell?_alloc_past _ _ _ (by simp)]
   have:=kG (w.alloc (Obj.cells #[Value.pointer (some { block:=pb,off:=0 })] 202)) (Value.int IntKind.i64 sp) 3
   rwa [World.size_alloc] at this
  ·rw[← hW0]
   have:=kG ((w.alloc (Obj.cells #[Value.pointer (some { block:=pb,off:=0 })] 202)).alloc (Obj.cells #[Value.int IntKind.i64 sp] 3)) (Value.int IntKind.u64 dst) 213
   rwa [World.size_alloc,World.size_alloc] at this
 have hs0:W0.heap.size=w.heap.size+3:=by rw[← hW0];simp
 rw[hW0]
 clear hW0
 refine rW src (by omega) rfl (aWu w pb sp dst wh tk fo) (aWu.own _ _ _ _ _ _ _ _ (by omega)) (fun pre W h=>h.tab) hI0
  (fun x=>{ tmps:=#[Value.pointer (some { block:=pb,off:=0 }),Value.int IntKind.i64 sp,Value.int IntKind.u64 src,
     Value.int IntKind.u64 dst,Value.pointer (some { block:=w.heap.size,off:=0 }),
     Value.pointer (some { block:=w.heap.size+1,off:=0 }),undef,
     Value.pointer (some { block:=w.heap.size+1+1,off:=0 }),Value.int .i64 x,Value.int IntKind.u64 src,
     Value.func (Fn.func 203) #[Value.int IntKind.u64 src] #[],Value.int .i64 x,undef,undef,undef,undef,undef,undef,
     undef,undef,undef,undef,undef,undef,undef,undef],defers:=[] }) ?assign ?body ?done
 case assign=>
  intro l x W K hK
  gi_wp2
  exact hK
 case body=>
  rintro l pre x rest W hi hbits
  have hx:x<50:=aMn (k:=50) (by simpa using hsrc) (pF.1 (by rw[hbits];simp)).2
  obtain⟨h1,h2,h3,h4,h5,h6⟩:=hi
  have hc:=h1.hf sp x hsp hx
  have hz:=h1.fz (268+sp*50+x) (by omega)
  have g1:(sp:Int)<4:=by omega
  have g2:(x:Int)<50:=by omega
  have hm:prog.follows Departure.mixedOrders=true:=by kernel_rfl
  gi_wp2
  refine gV 14 hm (by kernel_rfl) (by kernel_rfl) (by rintro ⟨a,w,h⟩;exact h) ?_
  simp only[List.take_succ_cons,List.take_zero,List.drop_succ_cons,List.drop_zero]
  repeat still_step
  refine wpStill_nil ?_
  go_wp2
  have hlt:=aXj (sp:=sp) (pre:=pre) hfo hdst sp x
  rw[bits_or_u64_nat _ _ hlt hdst]
  refine⟨KeepsFrom.trans ((KeepsOthers.setCell _ _ _).from _) ((KeepsOthers.drew _).from _),trivial,?_⟩
  have hset:=(h1.setFollow sp x hsp hx (yR fo sp dst pre sp x ||| dst))
  rw[aOw] at hset
  have hlt2:=hP.lt
  exact⟨hset.of_block rfl,(h2.setCell (p:=⟨pb,268+sp*50+x,none⟩) (.inl (by simp)) _).drew,h3.of_block (Below.heap_setCell W ⟨pb,268+sp*50+x,none⟩ _ 5 (fun e=>hpb e.symm)),
   (aQ (by omega)).trans h4,(aQ (by omega)).trans h5,(aQ (by omega)).trans h6⟩
 case done=>
  rintro D W hD hi hK
  gi_wp2
  refine⟨by simp,.inl ⟨_,_,rfl,run_takeDeferred hK,?_⟩⟩
  obtain⟨h1,h2,h3,h4,h5,h6⟩:=hi
  have hD1:pb≠D:=by rintro rfl;have:=h1.lt;have h7:=h1.ht 0 (by decide);unfold World.cell? at h7;rw[hK] at h7;simp at h7
  refine⟨_,results_none rfl _ _ _,rfl,?_,?_⟩
  ·exact (h1.of_block (World.putObj_heap_other hD1)).congr (fun _ _=>rfl) (fun s a _ ha=>aSz fo sp src dst s a ha)
  ·exact h2.grown (grownBy_putObj' W D (.deferred none)) (fun r e=>by cases e;omega)
attribute [local go_sem] Oper.semAt_some
theorem aFi (b:UInt8):wrap64 (b.toNat:Int)=(b.toNat:Int):=by
 have:=b.toNat_lt
 unfold wrap64;omega
structure aJx (w:World) (r:Nat) (text:ByteArray) (at_:Int) (fault:Bool) (atoms:Int) (pb:Nat):Prop where
 c0:w.cell? ⟨r,0,none⟩=some (.string text)
 c1:w.cell? ⟨r,1,none⟩=some (.int .i64 at_)
 c2:w.cell? ⟨r,2,none⟩=some (.bool fault)
 c3:w.cell? ⟨r,3,none⟩=some (.int .i64 atoms)
 c4:w.cell? ⟨r,4,none⟩=some (.pointer (some ⟨pb,0,none⟩))
 f1:w.frozen? ⟨r,1,none⟩=false
 f2:w.frozen? ⟨r,2,none⟩=false
 f3:w.frozen? ⟨r,3,none⟩=false
theorem aVu (r:Nat)(text:ByteArray)(at_:Int)(fault:Bool)(atoms:Int)(pb:Nat)(w:World)(h:aJx w r text at_ fault atoms pb) :
  Calls prog 209 #[.pointer (some ⟨r,0,none⟩)] w fun e w'=>e=.returned (.tuple #[])∧w'=w.setCell ⟨r,2,none⟩ (.bool true):=by
 obtain⟨c0,c1,c2,c3,c4,f1,f2,f3⟩:=h
 go_enter func209,ntmps209
 go_wp2
 go_end0
 exact⟨rfl,rfl⟩
theorem aKw (r:Nat)(text:ByteArray)(at_:Int)(atoms:Int)(pb:Nat)(w:World)(h:aJx w r text at_ true atoms pb) :
  Calls prog 184 #[.pointer (some ⟨r,0,none⟩)] w fun e w'=>e=.returned (.int .i64 (-1))∧∃ n,w'=w.drewN n:=by
 obtain⟨c0,c1,c2,c3,c4,f1,f2,f3⟩:=h
 go_enter func184,ntmps184
 go_wp2
 go_quiet (fail)
 go_wp2
 go_ret
 exact⟨rfl,_,rfl⟩
theorem aUf (r:Nat)(text:ByteArray)(at_:Int)(atoms:Int)(pb:Nat)(w:World)(h:aJx w r text at_ false atoms pb)(hs:text.size≤1000)(ha:(text.size:Int)≤at_) :
  Calls prog 184 #[.pointer (some ⟨r,0,none⟩)] w fun e w'=>e=.returned (.int .i64 (-1))∧∃ n,w'=w.drewN n:=by
 obtain⟨c0,c1,c2,c3,c4,f1,f2,f3⟩:=h
 go_enter func184,ntmps184
 go_wp2
 go_quiet (fail)
 go_wp2
 go_ret
 exact⟨rfl,_,rfl⟩
theorem aPp (r:Nat)(text:ByteArray)(k:Nat)(atoms:Int)(pb:Nat)(w:World)(h:aJx w r text k false atoms pb)(hs:text.size≤1000)(ha:k<text.size) :
  Calls prog 184 #[.pointer (some ⟨r,0,none⟩)] w fun e w'=>e=.returned (.int .i64 (text[k].toNat:Int))∧∃ n,w'=w.drewN n:=by
 obtain⟨c0,c1,c2,c3,c4,f1,f2,f3⟩:=h
 have hd:decide ((text.size:Int)≤(k:Int))=false:=by simp;omega
 have hl:(k:Int)<text.size:=by omega
 go_enter func184,ntmps184
 go_wp2
 go_quiet (fail)
 go_wp2
 go_quiet (fail)
 go_wp2
 go_ret
 exact⟨congrArg (fun x=>Ending.returned (Value.int .i64 x)) (aFi _),_,World.drewN_drewN _ _ _⟩
structure aMy where
 e:Bool
 f:Nat
 l:Nat
abbrev Piece:=Nat→aMy
def aF:Piece:=fun _=>⟨true,0,0⟩
def bIt:Piece:=fun _=>⟨false,0,0⟩
def fZ (mark:Nat):Piece:=fun s=>⟨s &&& mark != 0,0,0⟩
def aK (a b:Piece):Piece:=fun s=>⟨(a s).e || (b s).e,(a s).f ||| (b s).f,(a s).l ||| (b s).l⟩
def aT (a b:aMy):aMy:=⟨a.e && b.e,if a.e then a.f ||| b.f else a.f,if b.e then b.l ||| a.l else b.l⟩
def joinF (a b:Piece):Piece:=fun s=>aT (a s) (b s)
def iJ (fo:Nat→Nat→Nat) (q r:Piece):Nat→Nat→Nat:=fun s a=>if (q s).l.testBit a=true then fo s a ||| (r s).f else fo s a
structure St where
 pos:Nat
 fault:Bool
 atoms:Nat
 tk:Nat→Nat
 fo:Nat→Nat→Nat
def dZ (t:ByteArray) (k:Nat):Int:=if h:k<t.size then (t[k].toNat:Int) else -1
def aB (t:ByteArray) (s:St):Int:=if s.fault then -1 else dZ t s.pos
def aS (s:St):St:={ s with pos:=s.pos+1 }
def pN (s:St):St:={ s with fault:=true }
def aU (t:ByteArray) (s:St) (b:Int):Bool × St:=if aB t s=b then (true,aS s) else (false,s)
def eF (t:ByteArray) (s:St) (b:Int):St:=if aB t s=b then aS s else pN s
def cM (t:ByteArray) (s:St):Int × St:=
 if aB t (aU t s 92).2 = -1 then (0,pN (aU t s 92).2) else (aB t (aU t s 92).2,aS (aU t s 92).2)
def cL (s:St) (P:Nat→Bool):Piece × St:=
 (fun _=>⟨false,2 ^ s.atoms,2 ^ s.atoms⟩,{ s with atoms:=s.atoms+1,tk:=fun b=>if P b=true then s.tk b ||| 2 ^ s.atoms else s.tk b })
def f9 (P:Nat→Bool) (low high:Int):Nat→Bool:=fun b=>P b || (decide (low≤b) && decide ((b:Int)≤high))
def fT (s:St) (low high:Int):Piece × St:=cL s (f9 (fun _=>false) low high)
def aV (t:ByteArray) (s:St) (least:Int):Int × St:=
 if aB t s=93 then (0,pN s)
 else if aB t (aU t s 92).2<least then (0,pN (aU t s 92).2) else (aB t (aU t s 92).2,aS (aU t s 92).2)
def gM (t:ByteArray) (k:Nat):Bool:=decide (dZ t k=93)
def bN (t:ByteArray) (s:St) (P:Nat→Bool):(Nat→Bool) × St:=
 if aB t (aV t s 0).2=45∧gM t ((aV t s 0).2.pos+1)=false then
  (f9 P (aV t s 0).1 (aV t (aS (aV t s 0).2) (aV t s 0).1).1,(aV t (aS (aV t s 0).2) (aV t s 0).1).2)
 else (f9 P (aV t s 0).1 (aV t s 0).1,(aV t s 0).2)
def bM (t:ByteArray):Nat→(Nat→Bool)→St→(Nat→Bool) × St
 | 0,P,s=>(P,s)
 | n+1,P,s=>if s.fault=true∨aB t s=93 then (P,s) else bM t n (bN t s P).1 (bN t s P).2
def iL (t:ByteArray) (n:Nat) (s:St):Piece × St:=
 let a:=aU t s 94
 let i:=bN t a.2 (fun _=>false)
 let c:=bM t n i.1 i.2
 cL (eF t c.2 93) (fun b=>c.1 b == !a.1)
def rdF (t:ByteArray):Nat→Nat→Piece→St→Piece × St
 | 0,_,q,s=>(q,s)
 | n+1,0,_,s=>rdF t n 1 (rdF t n 2 aF s).1 (rdF t n 2 aF s).2
 | n+1,1,q,s=>if aB t s=124 then rdF t n 1 (aK q (rdF t n 2 aF (aS s)).1) (rdF t n 2 aF (aS s)).2 else (q,s)
 | n+1,2,_,s=>rdF t n 3 aF s
 | n+1,3,q,s=>if aB t s = -1∨aB t s=41∨aB t s=124∨aB t s=42∨aB t s=43∨aB t s=63 then (q,s)
  else rdF t n 3 (joinF q (rdF t n 4 aF s).1) { (rdF t n 4 aF s).2 with fo:=iJ (rdF t n 4 aF s).2.fo q (rdF t n 4 aF s).1 }
 | n+1,4,_,s=>rdF t n 5 (rdF t n 6 aF s).1 (rdF t n 6 aF s).2
 | n+1,5,q,s=>
  if aB t s=42 then rdF t n 5 (aK q aF) (aS { s with fo:=iJ s.fo q q })
  else if aB t s=43 then rdF t n 5 q (aS { s with fo:=iJ s.fo q q })
  else if aB t s=63 then rdF t n 5 (aK q aF) (aS s)
  else (q,s)
 | n+1,_,_,s=>
  if aB t s=40 then ((rdF t n 0 aF (aS s)).1,eF t (rdF t n 0 aF (aS s)).2 41)
  else if aB t s=91 then iL t n (aS s)
  else if aB t s=46 then fT (aS s) 0 255
  else if aB t s=94 then (fZ 1,aS s)
  else if aB t s=36 then (fZ 2,aS s)
  else fT (cM t s).2 (cM t s).1 (cM t s).1
def jN (t:ByteArray) (n:Nat) (s:St):Piece × St:=rdF t n 0 aF s
def lT (t:ByteArray) (n:Nat) (q:Piece) (s:St):Piece × St:=rdF t n 1 q s
def nX (t:ByteArray) (n:Nat) (s:St):Piece × St:=rdF t n 2 aF s
def kB (t:ByteArray) (n:Nat) (q:Piece) (s:St):Piece × St:=rdF t n 3 q s
def dK (t:ByteArray) (n:Nat) (s:St):Piece × St:=rdF t n 4 aF s
def gP (t:ByteArray) (n:Nat) (q:Piece) (s:St):Piece × St:=rdF t n 5 q s
def lG (t:ByteArray) (n:Nat) (s:St):Piece × St:=rdF t n 6 aF s
theorem bHq (t:ByteArray)(s:St):jN t 0 s=(aF,s):=rfl
theorem qZ (t:ByteArray)(n:Nat)(s:St):jN t (n+1) s=lT t n (nX t n s).1 (nX t n s).2:=rfl
theorem aZl (t:ByteArray)(q:Piece)(s:St):lT t 0 q s=(q,s):=rfl
theorem lS (t:ByteArray)(n:Nat)(q:Piece)(s:St):lT t (n+1) q s=if aB t s=124 then lT t n (aK q (nX t n (aS s)).1) (nX t n (aS s)).2 else (q,s):=rfl
theorem bGy (t:ByteArray)(s:St):nX t 0 s=(aF,s):=rfl
theorem qQ (t:ByteArray)(n:Nat)(s:St):nX t (n+1) s=kB t n aF s:=rfl
theorem aXo (t:ByteArray)(q:Piece)(s:St):kB t 0 q s=(q,s):=rfl
theorem jJ (t:ByteArray)(n:Nat)(q:Piece)(s:St):kB t (n+1) q s=if aB t s = -1∨aB t s=41∨aB t s=124∨aB t s=42∨aB t s=43∨aB t s=63 then (q,s)
  else kB t n (joinF q (dK t n s).1) { (dK t n s).2 with fo:=iJ (dK t n s).2.fo q (dK t n s).1 }:=rfl
theorem bGp (t:ByteArray)(s:St):dK t 0 s=(aF,s):=rfl
theorem jK (t:ByteArray)(n:Nat)(s:St):dK t (n+1) s=gP t n (lG t n s).1 (lG t n s).2:=rfl
theorem iE (t:ByteArray)(n:Nat)(q:Piece)(s:St):gP t (n+1) q s =
  if aB t s=42 then gP t n (aK q aF) (aS { s with fo:=iJ s.fo q q })
  else if aB t s=43 then gP t n q (aS { s with fo:=iJ s.fo q q })
  else if aB t s=63 then gP t n (aK q aF) (aS s)
  else (q,s):=rfl
theorem jM (t:ByteArray)(n:Nat)(s:St):lG t (n+1) s =
  if aB t s=40 then ((jN t n (aS s)).1,eF t (jN t n (aS s)).2 41)
  else if aB t s=91 then iL t n (aS s)
  else if aB t s=46 then fT (aS s) 0 255
  else if aB t s=94 then (fZ 1,aS s)
  else if aB t s=36 then (fZ 2,aS s)
  else fT (cM t s).2 (cM t s).1 (cM t s).1:=rfl
structure M (w:World) (r pb:Nat) (t:ByteArray) (wh:Nat→Value) (s:St):Prop where
 rd:aJx w r t s.pos s.fault s.atoms pb
 pat:dS w pb wh s.tk s.fo
 tab:Tab w
 n1:r≠pb
 n2:r≠5
 n3:pb≠5
theorem aJx.of_block {w w':World}{r:Nat}{t:ByteArray}{p:Int}{f:Bool}{a:Int}{pb:Nat} (h:aJx w r t p f a pb) (hb:w'.heap[r]?=w.heap[r]?):aJx w' r t p f a pb:=
 ⟨(World.cell?_of_block (w:=w) (a:=⟨r,0,none⟩) hb).trans h.c0,(World.cell?_of_block (w:=w) (a:=⟨r,1,none⟩) hb).trans h.c1,(World.cell?_of_block (w:=w) (a:=⟨r,2,none⟩) hb).trans h.c2,
   (World.cell?_of_block (w:=w) (a:=⟨r,3,none⟩) hb).trans h.c3,(World.cell?_of_block (w:=w) (a:=⟨r,4,none⟩) hb).trans h.c4,(World.frozen?_of_block (w:=w) (a:=⟨r,1,none⟩) hb).trans h.f1,
   (World.frozen?_of_block (w:=w) (a:=⟨r,2,none⟩) hb).trans h.f2,(World.frozen?_of_block (w:=w) (a:=⟨r,3,none⟩) hb).trans h.f3⟩
theorem M.rlt {w:World}{r pb:Nat}{t:ByteArray}{wh:Nat→Value}{s:St} (h:M w r pb t wh s):r<w.heap.size:=aC (a:=⟨r,0,none⟩) h.rd.c0
theorem M.fr {S:List Nat}{w w':World}{r pb:Nat}{t:ByteArray}{wh:Nat→Value}{s:St} (h:M w r pb t wh s) (hf:Fr S w w') (h1:r ∉ S) (h2:pb ∉ S) (h3:5 ∉ S):M w' r pb t wh s:=
 ⟨h.rd.of_block (hf.block r h.rlt h1),h.pat.fr hf h2,h.tab.fr hf h3,h.n1,h.n2,h.n3⟩
theorem M.heap {w w':World}{r pb:Nat}{t:ByteArray}{wh:Nat→Value}{s:St} (h:M w r pb t wh s) (hh:w'.heap=w.heap):M w' r pb t wh s:=
 ⟨h.rd.of_block (by rw[hh]),h.pat.of_block (by rw[hh]),h.tab.of_block (by rw[hh]),h.n1,h.n2,h.n3⟩
theorem M.adv {w:World}{r pb:Nat}{t:ByteArray}{wh:Nat→Value}{s:St} (h:M w r pb t wh s):M (w.setCell ⟨r,1,none⟩ (.int .i64 ((s.pos:Int)+1))) r pb t wh (aS s):=by
 have hb:∀ c,c≠r→(w.setCell ⟨r,1,none⟩ (.int .i64 ((s.pos:Int)+1))).heap[c]?=w.heap[c]?:=fun c hc=>Below.heap_setCell w ⟨r,1,none⟩ _ c hc
 exact⟨⟨(aA (by decide)).trans h.rd.c0,World.cell?_setCell_same' _ _ _ (by rw[h.rd.c1];rfl),(aA (by decide)).trans h.rd.c2,(aA (by decide)).trans h.rd.c3,(aA (by decide)).trans h.rd.c4,
  (wfz _ _ _ _).trans h.rd.f1,(wfz _ _ _ _).trans h.rd.f2,(wfz _ _ _ _).trans h.rd.f3⟩,h.pat.of_block (hb _ (fun e=>h.n1 e.symm)),h.tab.of_block (hb _ (fun e=>h.n2 e.symm)),h.n1,h.n2,h.n3⟩
theorem M.fail {w:World}{r pb:Nat}{t:ByteArray}{wh:Nat→Value}{s:St} (h:M w r pb t wh s):M (w.setCell ⟨r,2,none⟩ (.bool true)) r pb t wh (pN s):=by
 have hb:∀ c,c≠r→(w.setCell ⟨r,2,none⟩ (.bool true)).heap[c]?=w.heap[c]?:=fun c hc=>Below.heap_setCell w ⟨r,2,none⟩ _ c hc
 exact⟨⟨(aA (by decide)).trans h.rd.c0,(aA (by decide)).trans h.rd.c1,World.cell?_setCell_same' _ _ _ (by rw[h.rd.c2];rfl),(aA (by decide)).trans h.rd.c3,(aA (by decide)).trans h.rd.c4,
  (wfz _ _ _ _).trans h.rd.f1,(wfz _ _ _ _).trans h.rd.f2,(wfz _ _ _ _).trans h.rd.f3⟩,h.pat.of_block (hb _ (fun e=>h.n1 e.symm)),h.tab.of_block (hb _ (fun e=>h.n2 e.symm)),h.n1,h.n2,h.n3⟩
variable {w : World} {r pb : Nat} {t : ByteArray} {wh : Nat → Value} {s : St}
theorem dW (h:M w r pb t wh s)(hs:t.size≤50):Calls prog 184 #[.pointer (some ⟨r,0,none⟩)] w fun e w'=>e=.returned (.int .i64 (aB t s))∧∃ n,w'=w.drewN n:=by
 have h1:=h.rd
 unfold aB dZ
 cases hf:s.fault
 ·rw[hf] at h1
  by_cases hk:s.pos<t.size
  ·rw[if_neg (by decide),dif_pos hk]
   exact aPp r t s.pos s.atoms pb w h1 (by omega) hk
  ·rw[if_neg (by decide),dif_neg hk]
   exact aUf r t s.pos s.atoms pb w h1 (by omega) (by omega)
 ·rw[hf] at h1
  rw[if_pos rfl]
  exact aKw r t s.pos s.atoms pb w h1
theorem tG (b:Int)(h:M w r pb t wh s)(hs:t.size≤50)(hp:s.pos≤1000):Calls prog 166 #[.pointer (some ⟨r,0,none⟩),.int .i64 b] w fun e w'=>
  e=.returned (.bool (aU t s b).1)∧M w' r pb t wh (aU t s b).2∧Fr [r] w w':=by
 have c1:=h.rd.c1
 have f1:=h.rd.f1
 unfold aU
 by_cases hb:aB t s=b
 ·have hne:(aB t s != b)=false:=by simp[hb]
  rw[if_pos hb]
  go_enter func166,ntmps166
  go_wp2_with (go_at_call 184;refine (dW h hs).mono ?_;rintro e w' ⟨rfl,n,rfl⟩)
  go_ret
  exact⟨rfl,h.adv.heap rfl,((Fr.refl [r] w).setCell (p:=⟨r,1,none⟩) (.inl (by simp)) _).drewN n⟩
 ·have hne:(aB t s != b)=true:=by simp[hb]
  rw[if_neg hb]
  go_enter func166,ntmps166
  go_wp2_with (go_at_call 184;refine (dW h hs).mono ?_;rintro e w' ⟨rfl,n,rfl⟩)
  go_ret
  exact⟨rfl,h.heap rfl,(Fr.refl [r] w).drewN n⟩
end Go.Proofs.YtgpamchpeamnfaaGreatDoor
