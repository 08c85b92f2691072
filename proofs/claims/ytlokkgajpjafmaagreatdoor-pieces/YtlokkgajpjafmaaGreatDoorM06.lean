import Derived.RangeFuncNested
import Derived.RangeFuncBound
import Derived.Shelf.RegionOpen
import Derived.LoopNIn
import Derived.LoopIn
import Derived.WalkSpells
import Derived.WalkLawsBesides
import Derived.Test.YtlokkgajpjafmaaGreatDoorRows
import Derived.Test.YtlokkgajpjafmaaGreatDoorM02
import Derived.Test.YtlokkgajpjafmaaGreatDoorM00
set_option linter.unusedSimpArgs false
set_option linter.unusedVariables false
set_option maxRecDepth 100000
set_option maxHeartbeats 40000000
open _root_.Go.Proofs.Tryz
namespace Go.Proofs.YtlokkgajpjafmaaGreatDoor
open Go.RowKit Go.Shelf
attribute [local go_sem] Oper.semAt_some
theorem aRx (x k idx:Nat)(w:WL)(hx0:((x:Int)==0)=false)
  (key:IntKind.u64.wrap (bits BinOp.and IntKind.u64 (x:Int) (IntKind.u64.wrap (-(x:Int)))*285870213051353865) / 288230376151711744=(idx:Int))
  (hi:idx<64) (hk:k<64) (hcell:w.cell? (Ad 1 idx)=some (.int .u8 k)) :
  Calls prog 221 #[uA x] w fun e w'=>e=.returned (iA k)∧w'=w:=by
 go_enter func221,ntmps221;go_wp2_with (simp only[key]);go_ret;exact⟨rfl,rfl⟩
theorem aWe (x:Nat)(hx0:x≠0)(hx:x<18446744073709551616)(w:WL)(hT:Tab w) :
  Calls prog 221 #[uA x] w fun e w'=>e=.returned (iA (Lib.ctz 64 x))∧w'=w:=by
 obtain⟨hlow,hk⟩:=Lib.lowest_bit 64 x hx0 hx;obtain⟨hi,htab⟩:=Lib.deBruijn64_at _ hk;have hcell:=hT _ hi;rw[htab] at hcell;exact aRx x _ _ w (by simp;omega) (tz64_key x _ hx hx0 hlow) hi hk hcell
theorem aYh (n l s:Nat)(hs:s<18446744073709551616)(J:LN→WL→Prop)(hT:∀ pre W,J pre W→Tab W)
  (hY:∀ pre x rest W,J pre W→dN s=pre++x :: rest→YieldAt Fence.wide (n-1) prog l #[iA (x:Nat)] W fun e W'=>e=.returned (.bool true)∧J (pre++[x]) W')
  (W:WL) (h0:J [] W) :
  CallsIn Fence.wide n prog 197 #[uA s,.func (.yield l) #[] #[]] W fun e W'=>(∃ v,e=.returned v)∧J (dN s) W':=by
 refine callsIn_of_wp func197 rfl trivial ?_ rfl;simp only[ntmps197,List.size_toArray,List.length_cons,List.length_nil,Nat.reduceAdd,Nat.reduceSub,Array.replicate_succ,Array.replicate_zero,List.push_toArray,List.append_toArray,List.nil_append,List.cons_append]
 gi_wp2
 gi_loopw [4] (fun p wr=>∃ (pre:LN) (r:Nat),p=uA r∧r<18446744073709551616∧dN s=pre++dN r∧J pre wr)
  (fun p _=>(dN (intOf p).toNat).length)
 case atStart=>
  exact⟨[],s,rfl,hs,rfl,h0⟩
 case round=>
  obtain⟨pre,r,rfl,hr,hx,hJ⟩:=hrel;by_cases hz:r=0
  ·subst hz;rw[aDn,List.append_nil] at hx
   gi_wp2
   go_end0;exact⟨⟨_,rfl⟩,by rw[hx];exact hJ⟩
  have hst:=aDo r hz hr;rw[hst] at hx;obtain⟨fn,tmps,assign,body,hy,hR⟩:=hY pre _ _ wr hJ hx;have hne:((r:Int)==0)=false:=by simp;omega
  have hne2:((r:Int)!=0)=true:=by simp;omega
  have hTw:=hT _ _ hJ
  gi_wp2_with fail
  refine⟨trivial,fun h=>(by cases h),?_⟩;refine (callsIn_wide.2 (aWe r hz hr _ hTw)).mono ?_;rintro e w' ⟨rfl,rfl⟩
  gi_wp2_with fail
  refine⟨fun h=>(by cases h),?_⟩;refine hR.mono ?_;rintro e W3 ⟨rfl,hJ3⟩
  gi_wp2
  have eand:bits BinOp.and IntKind.u64 (r:Int) ((r:Int)-1)=((r &&& (r-1):Nat):Int):=by
   rw[show (r:Int)-1=((r-1:Nat):Int) by omega];exact bits_and_u64_nat r (r-1) hr (by omega)
  go_roundw
  case rel=>exact⟨pre++[Lib.ctz 64 r],_,by rw[eand],aDq r hr,by rw[hx];simp,hJ3⟩
  case measure=>rw[eand];simp only[intOf,Int.toNat_natCast];rw[hst];simp
theorem mW {g:Operand}{p:Tmp}{assign body:Code}{Q:Exit→Act→WL→Prop}{a:Act}{w:WL}{n:Nat} (s:Nat) (hs:s<18446744073709551616)
  (hg:a.eval g=.func (.func 197) #[uA s] #[])
  (I:LN→WL→Prop) (hI:OwnFrom w.heap.size I) (hT:∀ pre W,I pre W→Tab W) (h0:I [] w) (a₁:Nat→Act)
  (hassign:∀ (l x:Nat) (W:WL) (K:Act→WL→Prop),K (a₁ x) W →
   assign.wpIn (Fence.wide.inRound l) (n-1-1) prog (Exit.then K (fun _ _ _=>False)) { tmps:=(#[p].zip #[iA x]).foldl (fun t (p,v)=>t.setIfInBounds p v) a.tmps,defers:=[] } W)
  (hbody:∀ (l:Nat) (pre:LN) (x:Nat) (rest:LN) (W:WL),I pre W→dN s=pre++x :: rest →
   body.wpIn (Fence.wide.inRound l) (n-1-1) prog (ownPostG w.heap.size (fun _ _=>True) I (fun _ _ _=>False) (pre++[x]) W) (a₁ x) W)
  (hdone:∀ (D:Nat) (W:WL),w.heap.size≤D→I (dN s) W→W.heap[D]?=some (.deferred (some []))→Q .normal { a with defers:={ target:=.collected D,args:=#[] } :: a.defers } W) :
  (Code.rangeFunc g #[p] assign body).wpIn Fence.wide n prog Q a w:=by
 refine wpIn_rangeFunc ?_;intro fn hfn;obtain⟨R,hR⟩:∃ R:LoopState→Loop,R=fun st=>{ state:=st,pending:=none,fn,tmps:=a.tmps,params:=#[p],assign,body,defers:=w.heap.size }:=⟨_,rfl⟩;obtain⟨W1,hW1⟩:=eXi ((w.alloc (.deferred (some []))).alloc (.loop (R .ready)));have hsz:W1.heap.size=w.heap.size+2:=by rw[← hW1];simp
 have hl1:W1.heap[w.heap.size+1]?=some (.loop (R .ready)):=by
  rw[← hW1];have:=wan (w.alloc (.deferred (some []))) (.loop (R .ready));rwa [World.size_alloc] at this
 have hd1:W1.heap[w.heap.size]?=some (.deferred (some [])):=by
  rw[← hW1];exact (Below.heap_alloc _ _ _ (by simp)).trans (wan w _)
 have hi1:I [] W1:=by rw[← hW1];exact hI.alloc _ (hI.alloc _ h0)
 refine⟨w.heap.size+1,[{ target:=.collected w.heap.size,args:=#[] }],W1,{ target:=.fn (.func 197) #[],args:=#[uA s,.func (.yield (w.heap.size+1)) #[] #[]] },W1,197,
  #[uA s,.func (.yield (w.heap.size+1)) #[] #[]],W1,?_,?_,?_,?_,fun h=>(by cases h),?_⟩
 ·rw[← hW1,hR];exact run_enterLoop_outer _ _ _ _ _
 ·simp only[resolve,hg];simp[go_sem]
 ·intro f' _;exact trivial
 ·have eg:=enters_of (P:=prog) func197 (by kernel_rfl) rfl;simp[invoke,go_sem,eg]
 refine (aYh (n-1) (w.heap.size+1) s hs (fun pre W=>I pre W∧W.heap[w.heap.size+1]?=some (.loop (R .ready))∧W.heap[w.heap.size]?=some (.deferred (some [])))
  (fun pre W h=>hT pre W h.1) ?_ W1 ⟨hi1,hl1,hd1⟩).mono ?_
 ·rintro pre x rest W ⟨hi,hl,hd⟩ hbits;have hlt:w.heap.size+1<W.heap.size:=(Age.1 hl).1;have hy:=run_yield (P:=prog) (args:=#[iA x]) hl (by rw[hR];rfl);rw[hR] at hy;refine⟨fn,_,assign,body,hy,roundIn_of_wpIn hfn ?_⟩;refine hassign _ x W _ ?_;refine⟨_,run_beginRound hl (by rw[hR]),?_⟩;have hl2:(W.putObj (w.heap.size+1) (.loop { R .ready with state:=.busy })).heap[w.heap.size+1]?=some (.loop { R .ready with state:=.busy }):=World.putObj_heap_same hlt;have hd2:(W.putObj (w.heap.size+1) (.loop { R .ready with state:=.busy })).heap[w.heap.size]?=some (.deferred (some [])):=(World.putObj_heap_other (by omega)).trans hd;refine wpIn_mono (hbody _ pre x rest _ (hI.putObj _ hi (by omega) hl rfl) hbits) ?_;rintro e a3 W3 hp;cases e with
  | normal=>
   obtain⟨hk3,_,hi3⟩:=hp;have hl3:=hk3.same _ _ (by omega) hl2 rfl;have hd3:=hk3.same _ _ (Nat.le_refl _) hd2 rfl;have hlt3:=(Age.1 hl3).1;have hr:=run_endRound (P:=prog) none hl3;rw[hR] at hr;refine⟨_,_,hr,rfl,hI.putObj _ hi3 (by omega) hl3 rfl,?_,(World.putObj_heap_other (by omega)).trans hd3⟩;rw[World.putObj_heap_same hlt3,hR];rfl
  | ret=>exact hp.2.elim
  | exit id=>exact hp.2.elim
  | goto t=>exact hp.2.elim
  | panic ch=>exact hp.elim
  | outgrown=>exact hp.elim
 rintro e W2 ⟨⟨v,rfl⟩,hi,hl,hd⟩;have he:=run_endLoop (P:=prog) hl (by rw[hR];simp);rw[hR] at he;exact⟨none,_,he,hdone _ _ (Nat.le_refl _) (hI.putObj _ hi (by omega) hl rfl) ((World.putObj_heap_other (by omega)).trans hd)⟩
attribute [local go_sem] Oper.semAt_some
def zT (fo:Nat→NN) (sp src dst:Nat):Nat→Nat→Nat:=fun s a=>if s=sp∧src.testBit a=true then fo s a ||| dst else fo s a
def tK (fo:Nat→NN) (sp dst:Nat) (pre:LN):Nat→Nat→Nat:=fun s a=>if s=sp∧a ∈ pre then fo s a ||| dst else fo s a
theorem aGp {src x k:Nat}(h:src<2 ^ k)(hb:src.testBit x=true):x<k:=by
 apply Nat.lt_of_not_le;intro hle;have h1:2 ^ x≤src:=Nat.ge_two_pow_of_testBit hb;have h2:2 ^ k≤2 ^ x:=Nat.pow_le_pow_right (by decide) hle;omega
theorem aRy {fo:Nat→NN}{sp dst:Nat}{pre:LN} (hfo:∀ s a,fo s a<18446744073709551616) (hdst:dst<18446744073709551616) (s a:Nat):tK fo sp dst pre s a<18446744073709551616:=by
 unfold tK;split
 ·exact Nat.or_lt_two_pow (n:=64) (hfo s a) hdst
 exact hfo s a
theorem aIp (fo:Nat→NN)(sp dst:Nat)(pre:LN)(x:Nat) :
  (fun s' a'=>if s'=sp∧a'=x then tK fo sp dst pre sp x ||| dst else tK fo sp dst pre s' a')=tK fo sp dst (pre++[x]):=by
 funext s a;by_cases h1:s=sp
 ·subst h1;by_cases h2:a=x
  ·subst h2;simp only[and_self,if_true,tK,true_and,List.mem_append,List.mem_singleton,or_true];split
   ·rw[Nat.or_assoc,Nat.or_self]
   rfl
  simp[tK,h2]
 simp[tK,h1]
theorem aMf (fo:Nat→NN)(sp src dst:Nat)(s a:Nat)(ha:a<50):tK fo sp dst (dN src) s a=zT fo sp src dst s a:=by
 simp[tK,zT,gE,show a<64 by omega]
structure aRm (w:WL) (pb sp dst:Nat) (wh:Nat→Value) (tk:NN) (fo:Nat→NN) (pre:LN) (W:WL):Prop where
 pat:bL W pb wh tk (tK fo sp dst pre)
 fr:Fr [pb] w W
 tab:Tab W
 b0:W.cell? ⟨w.heap.size,0,none⟩=some (.pointer (some ⟨pb,0,none⟩))
 b1:W.cell? ⟨w.heap.size+1,0,none⟩=some (.int .i64 sp)
 b2:W.cell? ⟨w.heap.size+1+1,0,none⟩=some (.int .u64 dst)
theorem Fr.grown {S:LN}{a W W':WL}{row:Option Nat} (h:Fr S a W) (hg:W.grownBy W' row) (hr:∀ r,row=some r→a.heap.size≤r):Fr S a W':=
 ⟨hg.os.trans h.os,hg.tape.trans h.tape,hg.output.trans h.output,Nat.le_trans h.size hg.size,fun k hk hn=>
  (hg.block k (Nll hk h.size) (fun e=>by have:=hr k e.symm;omega)).trans (h.block k hk hn)⟩
theorem aRm.own (w:WL)(pb sp dst:Nat)(wh:Nat→Value)(tk:NN)(fo:Nat→NN)(B:Nat)(hB:w.heap.size≤B):OwnFrom B (aRm w pb sp dst wh tk fo):=by
 rintro pre W W' row ⟨h1,h2,h3,h4,h5,h6⟩ hg hr;have hr':=fun r e=>(hr r e).2;exact⟨h1.of_block (fE (a:=Ad pb 12) (h1.ht 0 (by decide)) hg hr'),h2.grown hg (fun r e=>Nat.le_trans hB (hr r e).1),h3.of_block (fE (a:=Ad 1 0) (h3 0 (by decide)) hg hr'),
  cell_kept h4 hg hr',cell_kept h5 hg hr',cell_kept h6 hg hr'⟩
theorem lK (pb sp src dst:Nat)(hsp:sp<4)(hsrc:src<1125899906842624)(hdst:dst<18446744073709551616)(w:WL)(wh:Nat→Value)(tk:NN)(fo:Nat→NN)
  (hP:bL w pb wh tk fo) (hfo:∀ s a,fo s a<18446744073709551616) (hT:Tab w) (hpb:pb≠1) :
  Calls prog 171 #[.pointer (some (Ad pb 0)),iA sp,uA src,uA dst] w fun e w'=>e=.returned (.tuple #[])∧bL w' pb wh tk (zT fo sp src dst)∧Fr [pb] w w':=by
 refine (callsIn_wide (n:=4)).1 ?_;refine callsIn_of_wp_marks func171 rfl trivial ?_ rfl;simp only[ntmps171,List.size_toArray,List.length_cons,List.length_nil,Nat.reduceAdd,Nat.reduceSub,Array.replicate_succ,Array.replicate_zero,List.push_toArray,List.append_toArray,List.nil_append,List.cons_append]
 gi_wp2
 obtain⟨W0,hW0⟩:=eXi ((((w.alloc (Obj.cells #[Value.pointer (some { block:=pb,off:=0 })] 80)).alloc (Obj.cells #[iA sp] 3)).alloc (Obj.cells #[uA dst] 116)));have hI0:aRm w pb sp dst wh tk fo [] W0:=by
  have hfr:Fr [pb] w W0:=by rw[← hW0];exact (((Fr.refl _ _).alloc _).alloc _).alloc _
  have hfr':Fr [] w W0:=by rw[← hW0];exact (((Fr.refl _ _).alloc _).alloc _).alloc _
  refine⟨(hP.fr hfr' (by simp)).congr (fun _ _=>rfl) (fun s a _ _=>by simp[tK]),hfr,hT.fr hfr' (by simp),?_,?_,?_⟩
  ·rw[← hW0,World.cell?_alloc_past _ _ _ (by simp;omega),World.cell?_alloc_past _ _ _ (by simp)];exact fX _ _ _
  ·rw[← hW0,World.cell?_alloc_past _ _ _ (by simp)];have:=fX (w.alloc (Obj.cells #[Value.pointer (some { block:=pb,off:=0 })] 80)) (iA sp) 3
   rwa [World.size_alloc] at this
  rw[← hW0];have:=fX ((w.alloc (Obj.cells #[Value.pointer (some { block:=pb,off:=0 })] 80)).alloc (Obj.cells #[iA sp] 3)) (uA dst) 116
  rwa [World.size_alloc,World.size_alloc] at this
 have hs0:W0.heap.size=w.heap.size+3:=by rw[← hW0];simp
 rw[hW0];clear hW0;refine mW src (by omega) rfl (aRm w pb sp dst wh tk fo) (aRm.own _ _ _ _ _ _ _ _ (by omega)) (fun pre W h=>h.tab) hI0
  (fun x=>{ tmps:=#[Value.pointer (some { block:=pb,off:=0 }),iA sp,uA src,
     uA dst,Value.pointer (some { block:=w.heap.size,off:=0 }),
     Value.pointer (some { block:=w.heap.size+1,off:=0 }),undef,
     Value.pointer (some { block:=w.heap.size+1+1,off:=0 }),iA x,uA src,
     Value.func (Fn.func 197) #[uA src] #[],iA x,undef,undef,undef,undef,undef,undef,
     undef,undef,undef,undef,undef,undef,undef,undef],defers:=[] }) ?assign ?body ?done
 case assign=>
  intro l x W K hK
  gi_wp2
  exact hK
 case body=>
  rintro l pre x rest W hi hbits;have hx:x<50:=aGp (k:=50) (by simpa using hsrc) (gE.1 (by rw[hbits];simp)).2;obtain⟨h1,h2,h3,h4,h5,h6⟩:=hi;have hc:=h1.hf sp x hsp hx;have hz:=h1.fz (268+sp*50+x) (by omega);have g1:(sp:Int)<4:=by omega
  have g2:(x:Int)<50:=by omega
  have hm:=hmX
  gi_wp2
  refine eF 14 hm (by kernel_rfl) (by kernel_rfl) (by rintro ⟨a,w,h⟩;exact h) ?_;simp only[Zt]
  repeat still_step
  refine wpStill_nil ?_;go_wp2;have hlt:=aRy (sp:=sp) (pre:=pre) hfo hdst sp x;rw[bits_or_u64_nat _ _ hlt hdst];refine⟨KeepsFrom.trans ((KeepsOthers.setCell _ _ _).from _) ((KeepsOthers.drew _).from _),trivial,?_⟩;have hset:=(h1.setFollow sp x hsp hx (tK fo sp dst pre sp x ||| dst));rw[aIp] at hset;have hlt2:=hP.lt;exact⟨hset.of_block rfl,(h2.setCell (p:=⟨pb,268+sp*50+x,none⟩) (.inl (by simp)) _).drew,h3.of_block (Below.heap_setCell W ⟨pb,268+sp*50+x,none⟩ _ 1 (fun e=>hpb e.symm)),
   (aX (by omega)).trans h4,(aX (by omega)).trans h5,(aX (by omega)).trans h6⟩
 case done=>
  rintro D W hD hi hK
  gi_wp2
  refine⟨by simp,.inl ⟨_,_,rfl,run_takeDeferred hK,?_⟩⟩;obtain⟨h1,h2,h3,h4,h5,h6⟩:=hi;have hD1:pb≠D:=by rintro rfl;have:=h1.lt;have h7:=h1.ht 0 (by decide);unfold World.cell? at h7;rw[hK] at h7;simp at h7
  refine⟨_,results_none rfl _ _ _,rfl,?_,?_⟩
  ·exact (h1.of_block (World.putObj_heap_other hD1)).congr (fun _ _=>rfl) (fun s a _ ha=>aMf fo sp src dst s a ha)
  exact h2.grown (grownBy_putObj' W D (.deferred none)) (fun r e=>by cases e;omega)
attribute [local go_sem] Oper.semAt_some
structure cN (w:WL) (rb live:Nat) (reach:Nat→Int):Prop where
 h0:w.cell? ⟨rb,0,none⟩=some (.int .u64 live)
 hr:∀ a,a<50→w.cell? ⟨rb,1+a,none⟩=some (.int .i64 (reach a))
 fz:∀ i,i<51→w.frozen? ⟨rb,i,none⟩=false
theorem cN.lt {w:WL}{rb live:Nat}{reach:Nat→Int} (h:cN w rb live reach):rb<w.heap.size:=aB (a:=Ad rb 0) h.h0
theorem cN.of_block {w w':WL}{rb live:Nat}{reach:Nat→Int} (h:cN w rb live reach) (hb:w'.heap[rb]?=w.heap[rb]?):cN w' rb live reach:=
 ⟨(World.cell?_of_block (w:=w) (a:=Ad rb 0) hb).trans h.h0,fun a ha=>(World.cell?_of_block (w:=w) (a:=Ad rb (1+a)) hb).trans (h.hr a ha),fun i hi=>(World.frozen?_of_block (w:=w) (a:=Ad rb i) hb).trans (h.fz i hi)⟩
theorem cN.fr {S:LN}{w w':WL}{rb live:Nat}{reach:Nat→Int} (h:cN w rb live reach) (hf:Fr S w w') (h0:rb ∉ S):cN w' rb live reach:=h.of_block (hf.block rb h.lt h0)
theorem cN.congr {w:WL}{rb live:Nat}{reach reach':Nat→Int} (h:cN w rb live reach) (hr:∀ a,a<50→reach a=reach' a):cN w rb live reach':=
 ⟨h.h0,fun a ha=>by rw[← hr a ha];exact h.hr a ha,h.fz⟩
def mB (reach:Nat→Int) (least:Int) (l:LN):Int:=l.foldl (fun m a=>max m (reach a)) least
theorem aLf (reach:Nat→Int)(least:Int)(l:LN)(x:Nat):mB reach least (l++[x])=max (mB reach least l) (reach x):=by simp[mB]
structure X3 (w:WL) (rb live:Nat) (reach:Nat→Int) (least:Int) (pre:LN) (W:WL):Prop where
 row:cN W rb live reach
 fr:Fr [] w W
 tab:Tab W
 b0:W.cell? ⟨w.heap.size,0,none⟩=some (.pointer (some ⟨rb,0,none⟩))
 b1:W.cell? ⟨w.heap.size+1,0,none⟩=some (.int .i64 (mB reach least pre))
 f1:W.frozen? ⟨w.heap.size+1,0,none⟩=false
theorem X3.own (w:WL)(rb live:Nat)(reach:Nat→Int)(least:Int)(B:Nat)(hB:w.heap.size≤B):OwnFrom B (X3 w rb live reach least):=by
 rintro pre W W' row ⟨h1,h2,h3,h4,h5,h6⟩ hg hr;have hr':=fun r e=>(hr r e).2;exact⟨h1.of_block (fE (a:=Ad rb 0) h1.h0 hg hr'),h2.grown hg (fun r e=>Nat.le_trans hB (hr r e).1),h3.of_block (fE (a:=Ad 1 0) (h3 0 (by decide)) hg hr'),
  cell_kept h4 hg hr',cell_kept h5 hg hr',(frozen_kept h5 hg hr').trans h6⟩
theorem X3.step {w:WL}{rb live:Nat}{reach:Nat→Int}{least:Int}{pre:LN}{W:WL} (h:X3 w rb live reach least pre W) (hrb:rb<w.heap.size) (hw6:1<w.heap.size) {x:Nat}{v:Int} (hv:v=max (mB reach least pre) (reach x)) :
  X3 w rb live reach least (pre++[x]) (W.setCell ⟨w.heap.size+1,0,none⟩ (.int .i64 v)).drew:=by
 obtain⟨h1,h2,h3,h4,h5,h6⟩:=h;have h0:=h2.size;refine⟨h1.of_block (Below.heap_setCell W ⟨w.heap.size+1,0,none⟩ _ rb (by simp;omega)),(h2.setCell (p:=⟨w.heap.size+1,0,none⟩) (.inr (by simp)) _).drew,
  h3.of_block (Below.heap_setCell W ⟨w.heap.size+1,0,none⟩ _ 1 (by show (1:Nat)≠w.heap.size+1;omega)),(aX (by omega)).trans h4,?_,?_⟩
 ·rw[aLf,← hv];exact World.cell?_setCell_same' _ _ _ (by rw[h5];rfl)
 exact (wfz _ _ _ _).trans h6
theorem sR (rb live atoms:Nat)(reach:Nat→Int)(least:Int)(hlive:live<1125899906842624)(hatoms:atoms<18446744073709551616)(w:WL)
  (hP:cN w rb live reach) (hT:Tab w) :
  Calls prog 183 #[.pointer (some (Ad rb 0)),uA atoms,iA least] w fun e w'=>e=.returned (iA (mB reach least (dN (atoms &&& live))))∧Fr [] w w':=by
 have hand:atoms &&& live<1125899906842624:=Nat.lt_of_le_of_lt Nat.and_le_right hlive;have h0:=hP.h0;have eand:=bits_and_u64_nat atoms live hatoms (by omega);refine (callsIn_wide (n:=4)).1 ?_;refine callsIn_of_wp_marks func183 rfl trivial ?_ rfl;simp only[ntmps183,List.size_toArray,List.length_cons,List.length_nil,Nat.reduceAdd,Nat.reduceSub,Array.replicate_succ,Array.replicate_zero,List.push_toArray,List.append_toArray,List.nil_append,List.cons_append];have hrb:=hP.lt
 gi_wp2
 obtain⟨W0,hW0⟩:=eXi (((w.alloc (Obj.cells #[Value.pointer (some { block:=rb,off:=0 })] 239)).alloc (Obj.cells #[iA least] 3)));have hI0:X3 w rb live reach least [] W0:=by
  have hfr:Fr [] w W0:=by rw[← hW0];exact ((Fr.refl _ _).alloc _).alloc _
  have hc:=fX (w.alloc (Obj.cells #[Value.pointer (some { block:=rb,off:=0 })] 239)) (iA least) 3;have hz:=aFl (w.alloc (Obj.cells #[Value.pointer (some { block:=rb,off:=0 })] 239)) (iA least) 3;rw[World.size_alloc] at hc hz;refine⟨hP.fr hfr (by simp),hfr,hT.fr hfr (by simp),?_,?_,?_⟩
  ·rw[← hW0,World.cell?_alloc_past _ _ _ (by simp)];exact fX _ _ _
  ·rw[← hW0];exact hc
  rw[← hW0];exact hz
 have hs0:W0.heap.size=w.heap.size+2:=by rw[← hW0];simp
 rw[hW0];clear hW0;refine mW (atoms &&& live) (by omega) rfl (X3 w rb live reach least) (X3.own _ _ _ _ _ _ (by omega)) (fun pre W h=>h.tab) hI0
  (fun x=>{ tmps:=#[Value.pointer (some { block:=rb,off:=0 }),uA atoms,iA least,
     Value.pointer (some { block:=w.heap.size,off:=0 }),undef,
     Value.pointer (some { block:=w.heap.size+1,off:=0 }),iA 0,iA x,
     uA atoms,Value.pointer (some { block:=rb,off:=0 }),
     Value.pointer (some { block:=rb,off:=0 }),Value.pointer (some { block:=rb,off:=0 }),uA live,uA (atoms &&& live:Nat),
     Value.func (Fn.func 197) #[uA (atoms &&& live:Nat)] #[],iA x,undef,undef,undef,undef,undef,undef,undef,undef,undef],defers:=[] }) ?assign ?body ?done
 case assign=>
  intro l x W K hK
  gi_wp2
  exact hK
 case body=>
  rintro l pre x rest W hi hbits;have hx:x<50:=aGp (k:=50) (by simpa using hand) (gE.1 (by rw[hbits];simp)).2;obtain⟨h1,h2,h3,h4,h5,h6⟩:=hi;have hc:=h1.hr x hx;have g2:(x:Int)<50:=by omega
  have hm:=hmX
  gi_wp2
  refine eF 8 hm (by kernel_rfl) (by kernel_rfl) (by rintro ⟨a,w,h⟩;exact h) ?_;simp only[Zt]
  repeat still_step
  refine wpStill_nil ?_;go_wp2
  all_goals
   refine⟨KeepsFrom.trans ((KeepsOthers.setCell _ _ _).from _) ((KeepsOthers.drew _).from _),trivial,X3.step ⟨h1,h2,h3,h4,h5,h6⟩ hrb hT.lt ?_⟩;omega
 case done=>
  rintro D W hD hi hK;obtain⟨h1,h2,h3,h4,h5,h6⟩:=hi
  gi_wp2
  refine⟨by simp,.inl ⟨_,_,rfl,run_takeDeferred hK,?_⟩⟩;refine⟨_,results_tmp rfl _ _ _,rfl,?_⟩;exact h2.grown (grownBy_putObj' W D (.deferred none)) (fun r e=>by cases e;omega)
open Go.RowKit
def uH (place length:Int):Int:=(if place=0 then 1 else 0)+(if place=length then 2 else 0)
theorem xL (p l:Int)(w:WL) :
  Calls prog 182 #[iA p,iA l] w fun e w'=>e=.returned (iA (uH p l))∧w'=w:=by
 unfold uH;by_cases h1:p=0
 ·subst h1;by_cases h2:0=l
  ·subst h2;go_enter func182,ntmps182;go_wp2;go_ret;exact⟨rfl,rfl⟩
  have h3:((0:Int)==l)=false:=by simpa using h2
  go_enter func182,ntmps182;go_wp2;go_ret;exact⟨by simp[h2],rfl⟩
 have h3:((p:Int)==0)=false:=by simpa using h1
 by_cases h2:p=l
 ·subst h2;go_enter func182,ntmps182;go_wp2;go_ret;exact⟨by simp[h1],rfl⟩
 have h4:((p:Int)==l)=false:=by simpa using h2
 go_enter func182,ntmps182;go_wp2;go_ret;exact⟨by simp[h1,h2],rfl⟩
theorem X5 (b:UInt8):wrap64 (b.toNat:Int)=(b.toNat:Int):=by
 have:=b.toNat_lt;unfold wrap64;omega
structure aEb (w:WL) (r:Nat) (text:BA) (at_:Int) (fault:Bool) (atoms:Int) (pb:Nat):Prop where
 c0:w.cell? ⟨r,0,none⟩=some (.string text)
 c1:w.cell? ⟨r,1,none⟩=some (.int .i64 at_)
 c2:w.cell? ⟨r,2,none⟩=some (.bool fault)
 c3:w.cell? ⟨r,3,none⟩=some (.int .i64 atoms)
 c4:w.cell? ⟨r,4,none⟩=some (.pointer (some ⟨pb,0,none⟩))
 f1:w.frozen? ⟨r,1,none⟩=false
 f2:w.frozen? ⟨r,2,none⟩=false
 f3:w.frozen? ⟨r,3,none⟩=false
theorem aQd (r:Nat)(text:BA)(at_:Int)(fault:Bool)(atoms:Int)(pb:Nat)(w:WL)(h:aEb w r text at_ fault atoms pb) :
  Calls prog 222 #[.pointer (some (Ad r 0))] w fun e w'=>e=.returned (.tuple #[])∧w'=w.setCell ⟨r,2,none⟩ (.bool true):=by
 obtain⟨c0,c1,c2,c3,c4,f1,f2,f3⟩:=h;go_enter func222,ntmps222;go_wp2;go_end0;exact⟨rfl,rfl⟩
theorem aEr (r:Nat)(text:BA)(at_:Int)(atoms:Int)(pb:Nat)(w:WL)(h:aEb w r text at_ true atoms pb) :
  Calls prog 146 #[.pointer (some (Ad r 0))] w fun e w'=>e=.returned (iA (-1))∧∃ n,w'=w.drewN n:=by
 obtain⟨c0,c1,c2,c3,c4,f1,f2,f3⟩:=h;go_enter func146,ntmps146;go_wp2;go_quiet (fail);go_wp2;go_ret;exact⟨rfl,_,rfl⟩
theorem aNq (r:Nat)(text:BA)(at_:Int)(atoms:Int)(pb:Nat)(w:WL)(h:aEb w r text at_ false atoms pb)(hs:text.size≤1000)(ha:(text.size:Int)≤at_) :
  Calls prog 146 #[.pointer (some (Ad r 0))] w fun e w'=>e=.returned (iA (-1))∧∃ n,w'=w.drewN n:=by
 obtain⟨c0,c1,c2,c3,c4,f1,f2,f3⟩:=h;go_enter func146,ntmps146;go_wp2;go_quiet (fail);go_wp2;go_ret;exact⟨rfl,_,rfl⟩
theorem aJm (r:Nat)(text:BA)(k:Nat)(atoms:Int)(pb:Nat)(w:WL)(h:aEb w r text k false atoms pb)(hs:text.size≤1000)(ha:k<text.size) :
  Calls prog 146 #[.pointer (some (Ad r 0))] w fun e w'=>e=.returned (iA (text[k].toNat:Int))∧∃ n,w'=w.drewN n:=by
 obtain⟨c0,c1,c2,c3,c4,f1,f2,f3⟩:=h;have hd:decide ((text.size:Int)≤(k:Int))=false:=by simp;omega
 have hl:(k:Int)<text.size:=by omega
 go_enter func146,ntmps146;go_wp2;go_quiet (fail);go_wp2;go_quiet (fail);go_wp2;go_ret;exact⟨congrArg (fun x=>Ending.returned (iA x)) (X5 _),_,World.drewN_drewN _ _ _⟩
theorem aXn (s a:Nat)(hs:s<18446744073709551616):(bits BinOp.and IntKind.u64 ((s:Int) / 2 ^ a) 1 != 0)=s.testBit a:=by
 have e:((s:Int) / 2 ^ a)=((s / 2 ^ a:Nat):Int):=by simp
 have h:=bits_and_u64_nat (s / 2 ^ a) 1 (Nat.lt_of_le_of_lt (Nat.div_le_self _ _) hs) (by decide);rw[e];have h':bits BinOp.and IntKind.u64 ((s / 2 ^ a:Nat):Int) 1=((s / 2 ^ a &&& 1:Nat):Int):=h;rw[h'];rw[Nat.testBit,Nat.shiftRight_eq_div_pow,Nat.and_comm];generalize 1 &&& s / 2 ^ a=x;rw[Bool.eq_iff_iff];simp
theorem aUd (s a:Nat)(hs:s<18446744073709551616)(ha:a<64)(w:WL) :
  Calls prog 213 #[uA s,iA a] w fun e w'=>e=.returned (.bool (s.testBit a))∧w'=w:=by
 have g1:(a:Int)<64:=by omega
 go_enter func213,ntmps213;go_wp2;go_ret;exact⟨congrArg (fun x=>Ending.returned (Value.bool x)) (aXn s a hs),rfl⟩
theorem cN.setLive {w:WL}{rb live:Nat}{reach:Nat→Int} (h:cN w rb live reach) (v:Nat):cN (w.setCell ⟨rb,0,none⟩ (.int .u64 v)) rb v reach:=
 ⟨World.cell?_setCell_same' _ _ _ (by rw[h.h0];rfl),fun a ha=>(aA (by omega)).trans (h.hr a ha),fun i hi=>(wfz _ _ _ _).trans (h.fz i hi)⟩
theorem cN.setReach {w:WL}{rb live:Nat}{reach:Nat→Int} (h:cN w rb live reach) (x:Nat) (hx:x<50) (v:Int) :
  cN (w.setCell ⟨rb,1+x,none⟩ (.int .i64 v)) rb live (fun a=>if a=x then v else reach a):=by
 refine⟨(aA (by omega)).trans h.h0,fun a ha=>?_,fun i hi=>(wfz _ _ _ _).trans (h.fz i hi)⟩;by_cases e:a=x
 ·subst e;rw[if_pos rfl];exact World.cell?_setCell_same' _ _ _ (by rw[h.hr a hx];rfl)
 rw[if_neg e];exact (aA (by omega)).trans (h.hr a ha)
attribute [local go_sem] Oper.semAt_some
theorem aPy (pb hb bb:Nat)(text:BA)(w:WL)(live:Nat)(reach:Nat→Int)(hH:cN w hb live reach) :
  Calls prog 181 #[.pointer (some (Ad pb 0)),.pointer (some (Ad hb 0)),.string text,iA text.size,.pointer (some (Ad bb 0))] w fun e w'=>
   e=.returned (.tuple #[])∧cN w' hb 0 reach∧Fr [hb] w w':=by
 have hlt:=hH.lt;have h0:=hH.h0;have hz:=hH.fz 0 (by decide);have l1:hb<w.heap.size+1:=by omega
 have l2:hb<w.heap.size+1+1:=by omega
 have l3:hb<w.heap.size+1+1+1:=by omega
 have l4:hb<w.heap.size+1+1+1+1:=by omega
 go_enter func181,ntmps181;go_wp2;refine bodyPost_ret (results_none rfl _ _ _) rfl ⟨rfl,?_,?_⟩
 ·exact (hH.setLive 0).fr (((((Fr.refl [] _).alloc _).alloc _).alloc _).alloc _) (by simp)
 exact (((((Fr.refl [hb] w).setCell (p:=⟨hb,0,none⟩) (.inl (by simp)) _).alloc _).alloc _).alloc _).alloc _
def aPz (wl:NN) (tkb:Nat) (fo:Nat→NN) (liveB:Nat) (reachB reach:Nat→Int) (sp:Nat) (next:Int):Nat→Int:=fun a=>
 if tkb.testBit a=true then mB reachB (if (wl sp).testBit a=true then next else -1) (dN (fo sp a &&& liveB)) else reach a
structure aIh (w:WL) (pb hb bb:Nat) (wh:Nat→Value) (wl tk:NN) (fo:Nat→NN) (live:Nat) (reach:Nat→Int) (liveB:Nat) (reachB:Nat→Int):Prop where
 pat:bL w pb wh tk fo
 hwl:∀ s,s<4→wh (3*s+2)=.int .u64 (wl s)
 lwl:∀ s,wl s<18446744073709551616
 ltk:∀ b,tk b<1125899906842624
 lfo:∀ s a,fo s a<18446744073709551616
 here:cN w hb live reach
 back:cN w bb liveB reachB
 llb:liveB<1125899906842624
 tab:Tab w
 n1:hb≠bb
 n2:pb≠hb
 n3:pb≠bb
 n4:hb≠1
structure kY (w:WL) (pb hb bb k sp:Nat) (wh:Nat→Value) (wl tk:NN) (fo:Nat→NN) (tkb:Nat) (reach:Nat→Int) (liveB:Nat) (reachB:Nat→Int) (pre:LN) (W:WL):Prop where
 pat:bL W pb wh tk fo
 here:cN W hb tkb (fun a=>if a ∈ pre then mB reachB (if (wl sp).testBit a=true then (k:Int)+1 else -1) (dN (fo sp a &&& liveB)) else reach a)
 back:cN W bb liveB reachB
 fr:Fr [hb] w W
 tab:Tab W
 b0:W.cell? ⟨w.heap.size,0,none⟩=some (.pointer (some ⟨pb,0,none⟩))
 b1:W.cell? ⟨w.heap.size+1,0,none⟩=some (.pointer (some ⟨hb,0,none⟩))
 b2:W.cell? ⟨w.heap.size+1+1,0,none⟩=some (.int .i64 k)
 b3:W.cell? ⟨w.heap.size+1+1+1,0,none⟩=some (.pointer (some ⟨bb,0,none⟩))
 b4:W.cell? ⟨w.heap.size+1+1+1+1,0,none⟩=some (.int .i64 sp)
theorem kY.own {w:WL}{pb hb bb k sp:Nat}{wh:Nat→Value}{wl tk:NN}{fo:Nat→NN}{tkb:Nat}{reach:Nat→Int}{liveB:Nat}{reachB:Nat→Int}{B:Nat} (hB:w.heap.size≤B) :
  OwnFrom B (kY w pb hb bb k sp wh wl tk fo tkb reach liveB reachB):=by
 rintro pre W W' row ⟨h1,h2,h3,h4,h5,c0,c1,c2,c3,c4⟩ hg hr;have hr':=fun r e=>(hr r e).2;exact⟨h1.of_block (fE (a:=Ad pb 12) (h1.ht 0 (by decide)) hg hr'),h2.of_block (fE (a:=Ad hb 0) h2.h0 hg hr'),h3.of_block (fE (a:=Ad bb 0) h3.h0 hg hr'),
  h4.grown hg (fun r e=>Nat.le_trans hB (hr r e).1),h5.of_block (fE (a:=Ad 1 0) (h5 0 (by decide)) hg hr'),
  cell_kept c0 hg hr',cell_kept c1 hg hr',cell_kept c2 hg hr',cell_kept c3 hg hr',cell_kept c4 hg hr'⟩
theorem Fr.keeps {w w':WL}(h:Fr [] w w')(B:Nat):KeepsFrom B w w':=⟨h.size,fun k o _ hk _=>(h.block k (Age.1 hk).1 (by simp)).trans hk⟩
theorem kY.kept {w:WL}{pb hb bb k sp:Nat}{wh:Nat→Value}{wl tk:NN}{fo:Nat→NN}{tkb:Nat}{reach:Nat→Int}{liveB:Nat}{reachB:Nat→Int}{pre:LN}{W W':WL}
  (h:kY w pb hb bb k sp wh wl tk fo tkb reach liveB reachB pre W) (hf:Fr [] W W'):kY w pb hb bb k sp wh wl tk fo tkb reach liveB reachB pre W':=
 ⟨h.pat.fr hf (by simp),h.here.fr hf (by simp),h.back.fr hf (by simp),h.fr.trans (hf.mono (by simp)),h.tab.fr hf (by simp),(hf.cell (aB h.b0) (by simp)).trans h.b0,(hf.cell (aB h.b1) (by simp)).trans h.b1,
  (hf.cell (aB h.b2) (by simp)).trans h.b2,(hf.cell (aB h.b3) (by simp)).trans h.b3,(hf.cell (aB h.b4) (by simp)).trans h.b4⟩
theorem kY.step {w:WL}{pb hb bb k sp:Nat}{wh:Nat→Value}{wl tk:NN}{fo:Nat→NN}{tkb:Nat}{reach:Nat→Int}{liveB:Nat}{reachB:Nat→Int}{pre:LN}{W:WL}
  (h:kY w pb hb bb k sp wh wl tk fo tkb reach liveB reachB pre W) {x:Nat} (hx:x<50) {least:Int} (hl:least=if (wl sp).testBit x=true then (k:Int)+1 else -1) (n1:hb≠bb) (n2:pb≠hb) (n4:hb≠1) (hlt:hb<w.heap.size) :
  kY w pb hb bb k sp wh wl tk fo tkb reach liveB reachB (pre++[x]) (W.setCell ⟨hb,1+x,none⟩ (.int .i64 (mB reachB least (dN (fo sp x &&& liveB))))):=by
 have hs:∀ c,c≠hb→(W.setCell ⟨hb,1+x,none⟩ (.int .i64 (mB reachB least (dN (fo sp x &&& liveB))))).heap[c]?=W.heap[c]?:=fun c hc=>Below.heap_setCell W ⟨hb,1+x,none⟩ _ c hc;refine⟨h.pat.of_block (hs _ n2),?_,h.back.of_block (hs _ (fun e=>n1 e.symm)),h.fr.setCell (p:=⟨hb,1+x,none⟩) (.inl (by simp)) _,h.tab.of_block (hs _ (fun e=>n4 e.symm)),
  (aX (by omega)).trans h.b0,(aX (by omega)).trans h.b1,(aX (by omega)).trans h.b2,(aX (by omega)).trans h.b3,(aX (by omega)).trans h.b4⟩
 refine (h.here.setReach x hx _).congr (fun a _=>?_);by_cases e:a=x
 ·subst e;simp[hl]
 simp[e]
theorem aZ {W:WL}{o:Obj}{b i:Nat}{v:Value} (h:W.cell? (Ad b i)=some v):(W.alloc o).cell? (Ad b i)=some v:=(World.cell?_alloc_past _ _ _ (aB h)).trans h
theorem kY.start {w:WL}{pb hb bb k sp:Nat}{wh:Nat→Value}{wl tk:NN}{fo:Nat→NN}{tkb live:Nat}{reach:Nat→Int}{liveB:Nat}{reachB:Nat→Int}
  (hP:bL w pb wh tk fo) (hH:cN w hb live reach) (hBk:cN w bb liveB reachB) (hT:Tab w) (n1:hb≠bb) (n2:pb≠hb) (n4:hb≠1) :
  kY w pb hb bb k sp wh wl tk fo tkb reach liveB reachB [] (((((((w.setCell { block:=hb,off:=0 } (Value.int IntKind.u64 0)).setCell { block:=hb,off:=0 }
              (uA tkb)).alloc
            (Obj.cells #[Value.pointer (some { block:=pb,off:=0 })] 80)).alloc
          (Obj.cells #[Value.pointer (some { block:=hb,off:=0 })] 239)).alloc
        (Obj.cells #[iA k] 3)).alloc
      (Obj.cells #[Value.pointer (some { block:=bb,off:=0 })] 239)).alloc
    (Obj.cells #[iA sp] 3)).drew:=by
 obtain⟨w2,hw2⟩:=eXi ((w.setCell { block:=hb,off:=0 } (Value.int IntKind.u64 0)).setCell { block:=hb,off:=0 } (Value.int IntKind.u64 tkb));have f2:Fr [hb] w w2:=by rw[← hw2];exact ((Fr.refl [hb] w).setCell (p:=⟨hb,0,none⟩) (.inl (by simp)) _).setCell (p:=⟨hb,0,none⟩) (.inl (by simp)) _
 have sz:w2.heap.size=w.heap.size:=by rw[← hw2];simp[World.setCell]
 have hH2:cN w2 hb tkb reach:=by rw[← hw2];exact (hH.setLive 0).setLive tkb
 rw[hw2];clear hw2;have hf:∀ S,Fr S w2 ((((((w2.alloc (Obj.cells #[Value.pointer (some { block:=pb,off:=0 })] 80)).alloc (Obj.cells #[Value.pointer (some { block:=hb,off:=0 })] 239)).alloc
   (Obj.cells #[iA k] 3)).alloc (Obj.cells #[Value.pointer (some { block:=bb,off:=0 })] 239)).alloc (Obj.cells #[iA sp] 3)).drew):=fun S=>((((((Fr.refl S w2).alloc _).alloc _).alloc _).alloc _).alloc _).drew
 have d0:=fX w2 (Value.pointer (some { block:=pb,off:=0 })) 80;have d1:=fX (w2.alloc (Obj.cells #[Value.pointer (some { block:=pb,off:=0 })] 80)) (Value.pointer (some { block:=hb,off:=0 })) 239;have d2:=fX ((w2.alloc (Obj.cells #[Value.pointer (some { block:=pb,off:=0 })] 80)).alloc (Obj.cells #[Value.pointer (some { block:=hb,off:=0 })] 239)) (iA k) 3;have d3:=fX (((w2.alloc (Obj.cells #[Value.pointer (some { block:=pb,off:=0 })] 80)).alloc (Obj.cells #[Value.pointer (some { block:=hb,off:=0 })] 239)).alloc (Obj.cells #[iA k] 3)) (Value.pointer (some { block:=bb,off:=0 })) 239;have d4:=fX ((((w2.alloc (Obj.cells #[Value.pointer (some { block:=pb,off:=0 })] 80)).alloc (Obj.cells #[Value.pointer (some { block:=hb,off:=0 })] 239)).alloc (Obj.cells #[iA k] 3)).alloc (Obj.cells #[Value.pointer (some { block:=bb,off:=0 })] 239)) (iA sp) 3;simp only[World.size_alloc,sz] at d0 d1 d2 d3 d4;exact⟨(hP.fr f2 (by simpa using n2)).fr (hf []) (by simp),(hH2.fr (hf []) (by simp)).congr (fun _ _=>by simp),(hBk.fr f2 (by simpa using fun e=>n1 e.symm)).fr (hf []) (by simp),f2.trans (hf _),
  (hT.fr f2 (by simpa using fun e=>n4 e.symm)).fr (hf []) (by simp),aZ (aZ (aZ (aZ d0))),aZ (aZ (aZ d1)),aZ (aZ d2),aZ d3,d4⟩
theorem aUu (pb hb bb k:Nat)(text:BA)(w:WL)(wh:Nat→Value)(wl tk:NN)(fo:Nat→NN)(live:Nat)(reach:Nat→Int)(liveB:Nat)(reachB:Nat→Int)
  (H:aIh w pb hb bb wh wl tk fo live reach liveB reachB) (hk:k<text.size) (hsz:text.size≤1000) :
  Calls prog 181 #[.pointer (some (Ad pb 0)),.pointer (some (Ad hb 0)),.string text,iA k,.pointer (some (Ad bb 0))] w fun e w'=>
   e=.returned (.tuple #[])∧cN w' hb (tk text[k].toNat) (aPz wl (tk text[k].toNat) fo liveB reachB reach (uH (k+1) text.size).toNat (k+1))∧Fr [hb] w w':=by
 obtain⟨hP,hwl,lwl,ltk,lfo,hH,hBk,llb,hT,n1,n2,n3,n4⟩:=H;have hlt:=hH.lt;have h0:=hH.h0;have hz:=hH.fz 0 (by decide);have l1:hb<w.heap.size+1:=by omega
 have l2:hb<w.heap.size+1+1:=by omega
 have l3:hb<w.heap.size+1+1+1:=by omega
 have l4:hb<w.heap.size+1+1+1+1:=by omega
 have plt:=hP.lt;have p1:pb<w.heap.size+1:=by omega
 have p2:pb<w.heap.size+1+1:=by omega
 have p3:pb<w.heap.size+1+1+1:=by omega
 have p4:pb<w.heap.size+1+1+1+1:=by omega
 have hbyte:=text[k].toNat_lt;have hcp:=hP.ht text[k].toNat hbyte;have hne:((k:Int)==(text.size:Int))=false:=by simp;omega
 have g1:(k:Int)<text.size:=by omega
 have g2:(text[k].toNat:Int)<256:=by omega
 have n2':hb≠pb:=fun e=>n2 e.symm;have hm:=hmX
 refine (callsIn_wide (n:=6)).1 ?_;refine callsIn_of_wp_marks func181 rfl trivial ?_ rfl;simp only[ntmps181,List.size_toArray,List.length_cons,List.length_nil,Nat.reduceAdd,Nat.reduceSub,Array.replicate_succ,Array.replicate_zero,List.push_toArray,List.append_toArray,List.nil_append,List.cons_append]
 gi_wp2
 refine wpIn_wide.2 ?_;refine aP 11 hm (by kernel_rfl) ?_;simp only[Zt]
 repeat still_step
 refine wpStill_nil ?_;go_wp2;have l5:hb<w.heap.size+1+1+1+1+1:=by omega
 gi_wp2_with (refine⟨trivial,?_⟩;refine (callsIn_wide.2 (xL _ _ _)).mono ?_;rintro e w' ⟨rfl,rfl⟩)
 obtain⟨sp,hsp,sp4⟩:∃ sp:Nat,uH ((k:Int)+1) text.size=sp∧sp<4:=by
  unfold uH;exact⟨((if (k:Int)+1=0 then 1 else 0)+(if (k:Int)+1=text.size then 2 else 0):Int).toNat,by split <;> split <;> rfl,by split <;> split <;> decide⟩
 rw[hsp];obtain⟨W0,hW0⟩:∃ W0,(((((((w.setCell { block:=hb,off:=0 } (Value.int IntKind.u64 0)).setCell { block:=hb,off:=0 }
              (uA (tk text[k].toNat))).alloc
            (Obj.cells #[Value.pointer (some { block:=pb,off:=0 })] 80)).alloc
          (Obj.cells #[Value.pointer (some { block:=hb,off:=0 })] 239)).alloc
        (Obj.cells #[iA k] 3)).alloc
      (Obj.cells #[Value.pointer (some { block:=bb,off:=0 })] 239)).alloc
    (Obj.cells #[iA sp] 3)).drew=W0:=⟨_,rfl⟩
 have hI0:kY w pb hb bb k sp wh wl tk fo (tk text[k].toNat) reach liveB reachB [] W0:=by
  rw[← hW0];exact kY.start hP hH hBk hT n1 n2 n4
 have hs0:W0.heap.size=w.heap.size+5:=by rw[← hW0];simp
 rw[hW0];clear hW0;refine mW (tk text[k].toNat) (by have:=ltk text[k].toNat;omega) rfl (kY w pb hb bb k sp wh wl tk fo (tk text[k].toNat) reach liveB reachB) (kY.own (by omega)) (fun pre W h=>h.tab) hI0
  (fun x=>{ tmps:=#[Value.pointer (some { block:=pb,off:=0 }),Value.pointer (some { block:=hb,off:=0 }),
     Value.string text,iA k,Value.pointer (some { block:=bb,off:=0 }),
     Value.pointer (some { block:=w.heap.size,off:=0 }),
     Value.pointer (some { block:=w.heap.size+1,off:=0 }),undef,
     Value.pointer (some { block:=w.heap.size+1+1,off:=0 }),
     Value.pointer (some { block:=w.heap.size+1+1+1,off:=0 }),
     Value.pointer (some { block:=w.heap.size+1+1+1+1,off:=0 }),iA x,undef,
     Value.pointer (some { block:=hb,off:=0 }),Value.pointer (some { block:=hb,off:=0 }),
     Value.pointer (some { block:=hb,off:=0 }),iA k,Value.string text,
     iA text.size,Value.bool false,Value.pointer (some { block:=hb,off:=0 }),
     Value.pointer (some { block:=pb,off:=0 }),Value.string text,iA k,
     Value.int IntKind.u8 text[k].toNat,Value.pointer (some { block:=pb,off:=0 }),
     Value.pointer (some { block:=pb,off:=12 }),
     Value.pointer (some { block:=pb,off:=12+text[k].toNat }),uA (tk text[k].toNat),
     Value.pointer (some { block:=hb,off:=0 }),Value.pointer (some { block:=hb,off:=0 }),
     iA k,iA (k+1),Value.string text,iA text.size,
     iA sp,Value.pointer (some { block:=hb,off:=0 }),
     Value.pointer (some { block:=hb,off:=0 }),Value.pointer (some { block:=hb,off:=0 }),
     uA (tk text[k].toNat),
     Value.func (Fn.func 197) #[uA (tk text[k].toNat)] #[],iA x,undef,undef,undef,undef,undef,undef,undef,undef,undef,undef,undef,undef,undef,undef,undef,undef,undef,undef,undef,undef,undef,undef,undef,undef,undef,undef,undef],defers:=[] }) ?assign ?body ?done
 case assign=>
  intro l x W K hK
  gi_wp2
  exact hK
 case body=>
  rintro l pre x rest W hi hbits;have hx:x<50:=aGp (k:=50) (by simpa using ltk text[k].toNat) (gE.1 (by rw[hbits];simp)).2;obtain⟨i1,i2,i3,i4,i5,c0,c1,c2,c3,c4⟩:=hi;have hlastc:=i1.hw (3*sp+2) (by omega);rw[hwl sp sp4] at hlastc;have e3:3*sp+2=sp*3+2:=by omega
  rw[e3] at hlastc;have hfc:=i1.hf sp x sp4 hx;have g3:(sp:Int)<4:=by omega
  have g4:(x:Int)<50:=by omega
  gi_wp2
  refine eF 8 hm (by kernel_rfl) (by kernel_rfl) (by rintro ⟨a,w,h⟩;exact h) ?_;simp only[Zt]
  repeat still_step
  refine wpStill_nil ?_;go_wp2_with fail;refine (aUd (wl sp) x (lwl sp) (by omega) _).mono ?_;rintro e w' ⟨rfl,rfl⟩;cases hl:(wl sp).testBit x
  all_goals
   go_wp2
   gi_wp2
   refine mX (fun w1=>w1.cell? (Ad (w.heap.size+1) 0)=some (.pointer (some (Ad hb 0)))∧w1.cell? (Ad (w.heap.size+1+1+1) 0)=some (.pointer (some (Ad bb 0))) ∧
    w1.cell? (Ad w.heap.size 0)=some (.pointer (some (Ad pb 0)))∧w1.cell? (Ad (w.heap.size+1+1+1+1) 0)=some (iA sp)∧w1.cell? (Ad pb (268+sp*50+x))=some (uA (fo sp x))) hm (by kernel_rfl) ?hQ ?_
   case hQ=>rintro ⟨a,w,h⟩;exact h
   have hS:=AI c1 (AI c3 (AI c0 (AI c4 hfc)));refine aK (fun _ _ _ _ _ h=>h) hS [0,1,2,3,4,5,6,7,8,9,10,11,13,14] (by kernel_rfl) ?_
   iterate 14
    refine Yls.cons (v:=?_) rfl (.inl ⟨rfl,fun w1 hS1=>?_⟩) ?_;rotate_left
    ·obtain⟨s1,s2,s3,s4,s5⟩:=hS1;go_simp;rfl
    simp only[Act.put,Zp]
   refine Yls.nil ?_;refine wpAnyH_ready (rs:=[12]) (by kernel_rfl) (by simp) ?_;refine AllReadyH.cons rfl (fun K hK=>?_) ?_
   ·go_simp;refine (sR bb liveB (fo sp x) reachB _ llb (lfo sp x) W.drew.drew (i3.of_block rfl) (i5.of_block rfl)).mono ?_;rintro e w' ⟨rfl,hfr⟩;have hfr:Fr [] W w':=⟨hfr.os,hfr.tape,hfr.output,hfr.size,hfr.block⟩;have j:=kY.kept ⟨i1,i2,i3,i4,i5,c0,c1,c2,c3,c4⟩ hfr;have hS:=AI j.b1 (AI j.b3 (AI j.b0 (AI j.b4 (j.pat.hf sp x sp4 hx))));have kc:=j.here.hr x hx;have kz:=j.here.fz (1+x) (by omega);refine hK _ _ hS ?_;clear hK K;intro _;refine wpAnyH_take (i:=15) (v:=?_) rfl (by kernel_rfl) (by kernel_rfl) (by kernel_rfl) (fun _ _ _ h=>h) (.inl ⟨rfl,fun w1 hS1=>?_⟩) hS ?_;rotate_left
    ·go_simp;rfl
    simp only[Act.put,Zp];refine rd1 (r:=16) (by kernel_rfl) rfl fun K hK=>?_;go_simp;have hend:=j.step hx (least:=_) (by rw[hl]) n1 n2 n4 hlt;refine hK _ _ ⟨hend.b1,hend.b3,hend.b0,hend.b4,hend.pat.hf sp x sp4 hx⟩ ?_;clear hK K;intro _;refine wpAnyH_done (by kernel_rfl) ?_ _;refine⟨KeepsFrom.trans (hfr.keeps _) ((KeepsOthers.setCell _ _ _).from _),trivial,hend⟩
   exact AllReadyH.nil
 case done=>
  rintro D W hD hi hK
  gi_wp2
  refine⟨by simp,.inl ⟨_,_,rfl,run_takeDeferred hK,?_⟩⟩;have hD1:hb≠D:=by rintro rfl;have h7:=hi.here.h0;unfold World.cell? at h7;rw[hK] at h7;simp at h7
  refine⟨_,results_none rfl _ _ _,rfl,?_,?_⟩
  ·exact (hi.here.of_block (World.putObj_heap_other hD1)).congr (fun a ha=>by simp[aPz,gE,show a<64 by omega,hsp])
  exact hi.fr.grown (grownBy_putObj' W D (.deferred none)) (fun r e=>by cases e;omega)
structure aGy where
 e:Bool
 f:Nat
 l:Nat
abbrev Piece:=Nat→aGy
def aQ:Piece:=fun _=>⟨true,0,0⟩
def bCf:Piece:=fun _=>⟨false,0,0⟩
def eV (mark:Nat):Piece:=fun s=>⟨s &&& mark != 0,0,0⟩
def cK (a b:Piece):Piece:=fun s=>⟨(a s).e || (b s).e,(a s).f ||| (b s).f,(a s).l ||| (b s).l⟩
def aL (a b:aGy):aGy:=⟨a.e && b.e,if a.e then a.f ||| b.f else a.f,if b.e then b.l ||| a.l else b.l⟩
def joinF (a b:Piece):Piece:=fun s=>aL (a s) (b s)
def oE (fo:Nat→NN) (q r:Piece):Nat→Nat→Nat:=fun s a=>if (q s).l.testBit a=true then fo s a ||| (r s).f else fo s a
structure St where
 pos:Nat
 fault:Bool
 atoms:Nat
 tk:Nat→Nat
 fo:Nat→Nat→Nat
def pG (t:BA) (k:Nat):Int:=if h:k<t.size then (t[k].toNat:Int) else -1
def aH (t:BA) (s:St):Int:=if s.fault then -1 else pG t s.pos
def aW (s:St):St:={ s with pos:=s.pos+1 }
def qH (s:St):St:={ s with fault:=true }
def cG (t:BA) (s:St) (b:Int):Bool × St:=if aH t s=b then (true,aW s) else (false,s)
def gM (t:BA) (s:St) (b:Int):St:=if aH t s=b then aW s else qH s
def eC (t:BA) (s:St):Int × St:=
 if aH t (cG t s 92).2 = -1 then (0,qH (cG t s 92).2) else (aH t (cG t s 92).2,aW (cG t s 92).2)
def dX (s:St) (P:Nat→Bool):Piece × St:=
 (fun _=>⟨false,2 ^ s.atoms,2 ^ s.atoms⟩,{ s with atoms:=s.atoms+1,tk:=fun b=>if P b=true then s.tk b ||| 2 ^ s.atoms else s.tk b })
def yG (P:Nat→Bool) (low high:Int):Nat→Bool:=fun b=>P b || (decide (low≤b) && decide ((b:Int)≤high))
def iQ (s:St) (low high:Int):Piece × St:=dX s (yG (fun _=>false) low high)
def bQ (t:BA) (s:St) (least:Int):Int × St:=
 if aH t s=93 then (0,qH s)
 else if aH t (cG t s 92).2<least then (0,qH (cG t s 92).2) else (aH t (cG t s 92).2,aW (cG t s 92).2)
def vW (t:BA) (k:Nat):Bool:=decide (pG t k=93)
def fC (t:BA) (s:St) (P:Nat→Bool):(Nat→Bool) × St:=
 if aH t (bQ t s 0).2=45∧vW t ((bQ t s 0).2.pos+1)=false then
  (yG P (bQ t s 0).1 (bQ t (aW (bQ t s 0).2) (bQ t s 0).1).1,(bQ t (aW (bQ t s 0).2) (bQ t s 0).1).2)
 else (yG P (bQ t s 0).1 (bQ t s 0).1,(bQ t s 0).2)
def gB (t:BA):Nat→(Nat→Bool)→St→(Nat→Bool) × St
 | 0,P,s=>(P,s)
 | n+1,P,s=>if s.fault=true∨aH t s=93 then (P,s) else gB t n (fC t s P).1 (fC t s P).2
def rC (t:BA) (n:Nat) (s:St):Piece × St:=
 let a:=cG t s 94
 let i:=fC t a.2 (fun _=>false)
 let c:=gB t n i.1 i.2
 dX (gM t c.2 93) (fun b=>c.1 b == !a.1)
def rdF (t:BA):Nat→Nat→Piece→St→Piece × St
 | 0,_,q,s=>(q,s)
 | n+1,0,_,s=>rdF t n 1 (rdF t n 2 aQ s).1 (rdF t n 2 aQ s).2
 | n+1,1,q,s=>if aH t s=124 then rdF t n 1 (cK q (rdF t n 2 aQ (aW s)).1) (rdF t n 2 aQ (aW s)).2 else (q,s)
 | n+1,2,_,s=>rdF t n 3 aQ s
 | n+1,3,q,s=>if aH t s = -1∨aH t s=41∨aH t s=124∨aH t s=42∨aH t s=43∨aH t s=63 then (q,s)
  else rdF t n 3 (joinF q (rdF t n 4 aQ s).1) { (rdF t n 4 aQ s).2 with fo:=oE (rdF t n 4 aQ s).2.fo q (rdF t n 4 aQ s).1 }
 | n+1,4,_,s=>rdF t n 5 (rdF t n 6 aQ s).1 (rdF t n 6 aQ s).2
 | n+1,5,q,s=>
  if aH t s=42 then rdF t n 5 (cK q aQ) (aW { s with fo:=oE s.fo q q })
  else if aH t s=43 then rdF t n 5 q (aW { s with fo:=oE s.fo q q })
  else if aH t s=63 then rdF t n 5 (cK q aQ) (aW s)
  else (q,s)
 | n+1,_,_,s=>
  if aH t s=40 then ((rdF t n 0 aQ (aW s)).1,gM t (rdF t n 0 aQ (aW s)).2 41)
  else if aH t s=91 then rC t n (aW s)
  else if aH t s=46 then iQ (aW s) 0 255
  else if aH t s=94 then (eV 1,aW s)
  else if aH t s=36 then (eV 2,aW s)
  else iQ (eC t s).2 (eC t s).1 (eC t s).1
def uD (t:BA) (n:Nat) (s:St):Piece × St:=rdF t n 0 aQ s
def sZ (t:BA) (n:Nat) (q:Piece) (s:St):Piece × St:=rdF t n 1 q s
def vE (t:BA) (n:Nat) (s:St):Piece × St:=rdF t n 2 aQ s
def sD (t:BA) (n:Nat) (q:Piece) (s:St):Piece × St:=rdF t n 3 q s
def jH (t:BA) (n:Nat) (s:St):Piece × St:=rdF t n 4 aQ s
def nG (t:BA) (n:Nat) (q:Piece) (s:St):Piece × St:=rdF t n 5 q s
def uZ (t:BA) (n:Nat) (s:St):Piece × St:=rdF t n 6 aQ s
theorem bBy (t:BA)(s:St):uD t 0 s=(aQ,s):=rfl
theorem aRj (t:BA)(n:Nat)(s:St):uD t (n+1) s=sZ t n (vE t n s).1 (vE t n s).2:=rfl
theorem aVh (t:BA)(q:Piece)(s:St):sZ t 0 q s=(q,s):=rfl
theorem U8 (t:BA)(n:Nat)(q:Piece)(s:St):sZ t (n+1) q s=if aH t s=124 then sZ t n (cK q (vE t n (aW s)).1) (vE t n (aW s)).2 else (q,s):=rfl
theorem bAk (t:BA)(s:St):vE t 0 s=(aQ,s):=rfl
theorem aMy (t:BA)(n:Nat)(s:St):vE t (n+1) s=sD t n aQ s:=rfl
theorem aSe (t:BA)(q:Piece)(s:St):sD t 0 q s=(q,s):=rfl
theorem I9 (t:BA)(n:Nat)(q:Piece)(s:St):sD t (n+1) q s=if aH t s = -1∨aH t s=41∨aH t s=124∨aH t s=42∨aH t s=43∨aH t s=63 then (q,s)
  else sD t n (joinF q (jH t n s).1) { (jH t n s).2 with fo:=oE (jH t n s).2.fo q (jH t n s).1 }:=rfl
theorem bAg (t:BA)(s:St):jH t 0 s=(aQ,s):=rfl
theorem N2 (t:BA)(n:Nat)(s:St):jH t (n+1) s=nG t n (uZ t n s).1 (uZ t n s).2:=rfl
theorem aAr (t:BA)(n:Nat)(q:Piece)(s:St):nG t (n+1) q s =
  if aH t s=42 then nG t n (cK q aQ) (aW { s with fo:=oE s.fo q q })
  else if aH t s=43 then nG t n q (aW { s with fo:=oE s.fo q q })
  else if aH t s=63 then nG t n (cK q aQ) (aW s)
  else (q,s):=rfl
theorem U4 (t:BA)(n:Nat)(s:St):uZ t (n+1) s =
  if aH t s=40 then ((uD t n (aW s)).1,gM t (uD t n (aW s)).2 41)
  else if aH t s=91 then rC t n (aW s)
  else if aH t s=46 then iQ (aW s) 0 255
  else if aH t s=94 then (eV 1,aW s)
  else if aH t s=36 then (eV 2,aW s)
  else iQ (eC t s).2 (eC t s).1 (eC t s).1:=rfl
structure M (w:WL) (r pb:Nat) (t:BA) (wh:Nat→Value) (s:St):Prop where
 rd:aEb w r t s.pos s.fault s.atoms pb
 pat:bL w pb wh s.tk s.fo
 tab:Tab w
 n1:r≠pb
 n2:r≠1
 n3:pb≠1
theorem aEb.of_block {w w':WL}{r:Nat}{t:BA}{p:Int}{f:Bool}{a:Int}{pb:Nat} (h:aEb w r t p f a pb) (hb:w'.heap[r]?=w.heap[r]?):aEb w' r t p f a pb:=
 ⟨(World.cell?_of_block (w:=w) (a:=Ad r 0) hb).trans h.c0,(World.cell?_of_block (w:=w) (a:=Ad r 1) hb).trans h.c1,(World.cell?_of_block (w:=w) (a:=Ad r 2) hb).trans h.c2,
   (World.cell?_of_block (w:=w) (a:=Ad r 3) hb).trans h.c3,(World.cell?_of_block (w:=w) (a:=Ad r 4) hb).trans h.c4,(World.frozen?_of_block (w:=w) (a:=Ad r 1) hb).trans h.f1,
   (World.frozen?_of_block (w:=w) (a:=Ad r 2) hb).trans h.f2,(World.frozen?_of_block (w:=w) (a:=Ad r 3) hb).trans h.f3⟩
theorem M.rlt {w:WL}{r pb:Nat}{t:BA}{wh:Nat→Value}{s:St} (h:M w r pb t wh s):r<w.heap.size:=aB (a:=Ad r 0) h.rd.c0
theorem M.fr {S:LN}{w w':WL}{r pb:Nat}{t:BA}{wh:Nat→Value}{s:St} (h:M w r pb t wh s) (hf:Fr S w w') (h1:r ∉ S) (h2:pb ∉ S) (h3:1 ∉ S):M w' r pb t wh s:=
 ⟨h.rd.of_block (hf.block r h.rlt h1),h.pat.fr hf h2,h.tab.fr hf h3,h.n1,h.n2,h.n3⟩
theorem M.heap {w w':WL}{r pb:Nat}{t:BA}{wh:Nat→Value}{s:St} (h:M w r pb t wh s) (hh:w'.heap=w.heap):M w' r pb t wh s:=
 ⟨h.rd.of_block (by rw[hh]),h.pat.of_block (by rw[hh]),h.tab.of_block (by rw[hh]),h.n1,h.n2,h.n3⟩
theorem M.adv {w:WL}{r pb:Nat}{t:BA}{wh:Nat→Value}{s:St} (h:M w r pb t wh s):M (w.setCell ⟨r,1,none⟩ (.int .i64 ((s.pos:Int)+1))) r pb t wh (aW s):=by
 have hb:∀ c,c≠r→(w.setCell ⟨r,1,none⟩ (.int .i64 ((s.pos:Int)+1))).heap[c]?=w.heap[c]?:=fun c hc=>Below.heap_setCell w ⟨r,1,none⟩ _ c hc;exact⟨⟨(aA (by decide)).trans h.rd.c0,World.cell?_setCell_same' _ _ _ (by rw[h.rd.c1];rfl),(aA (by decide)).trans h.rd.c2,(aA (by decide)).trans h.rd.c3,(aA (by decide)).trans h.rd.c4,
  (wfz _ _ _ _).trans h.rd.f1,(wfz _ _ _ _).trans h.rd.f2,(wfz _ _ _ _).trans h.rd.f3⟩,h.pat.of_block (hb _ (fun e=>h.n1 e.symm)),h.tab.of_block (hb _ (fun e=>h.n2 e.symm)),h.n1,h.n2,h.n3⟩
theorem M.fail {w:WL}{r pb:Nat}{t:BA}{wh:Nat→Value}{s:St} (h:M w r pb t wh s):M (w.setCell ⟨r,2,none⟩ (.bool true)) r pb t wh (qH s):=by
 have hb:∀ c,c≠r→(w.setCell ⟨r,2,none⟩ (.bool true)).heap[c]?=w.heap[c]?:=fun c hc=>Below.heap_setCell w ⟨r,2,none⟩ _ c hc;exact⟨⟨(aA (by decide)).trans h.rd.c0,(aA (by decide)).trans h.rd.c1,World.cell?_setCell_same' _ _ _ (by rw[h.rd.c2];rfl),(aA (by decide)).trans h.rd.c3,(aA (by decide)).trans h.rd.c4,
  (wfz _ _ _ _).trans h.rd.f1,(wfz _ _ _ _).trans h.rd.f2,(wfz _ _ _ _).trans h.rd.f3⟩,h.pat.of_block (hb _ (fun e=>h.n1 e.symm)),h.tab.of_block (hb _ (fun e=>h.n2 e.symm)),h.n1,h.n2,h.n3⟩
variable {w:WL}{r pb:Nat}{t:BA}{wh:Nat→Value}{s:St}
theorem cM (h:M w r pb t wh s)(hs:t.size≤50):Calls prog 146 #[.pointer (some (Ad r 0))] w fun e w'=>e=.returned (iA (aH t s))∧∃ n,w'=w.drewN n:=by
 have h1:=h.rd;unfold aH pG;cases hf:s.fault
 ·rw[hf] at h1;by_cases hk:s.pos<t.size
  ·rw[if_neg (by decide),dif_pos hk];exact aJm r t s.pos s.atoms pb w h1 (by omega) hk
  rw[if_neg (by decide),dif_neg hk];exact aNq r t s.pos s.atoms pb w h1 (by omega) (by omega)
 rw[hf] at h1;rw[if_pos rfl];exact aEr r t s.pos s.atoms pb w h1
theorem oO (b:Int)(h:M w r pb t wh s)(hs:t.size≤50)(hp:s.pos≤1000):Calls prog 95 #[.pointer (some (Ad r 0)),iA b] w fun e w'=>
  e=.returned (.bool (cG t s b).1)∧M w' r pb t wh (cG t s b).2∧Fr [r] w w':=by
 have c1:=h.rd.c1;have f1:=h.rd.f1;unfold cG;by_cases hb:aH t s=b
 ·have hne:(aH t s != b)=false:=by simp[hb]
  rw[if_pos hb];go_enter func95,ntmps95;go_wp2_with (go_at_call 146;refine (cM h hs).mono ?_;rintro e w' ⟨rfl,n,rfl⟩);go_ret;exact⟨rfl,h.adv.heap rfl,((Fr.refl [r] w).setCell (p:=⟨r,1,none⟩) (.inl (by simp)) _).drewN n⟩
 have hne:(aH t s != b)=true:=by simp[hb]
 rw[if_neg hb];go_enter func95,ntmps95;go_wp2_with (go_at_call 146;refine (cM h hs).mono ?_;rintro e w' ⟨rfl,n,rfl⟩);go_ret;exact⟨rfl,h.heap rfl,(Fr.refl [r] w).drewN n⟩
variable {w:WL}{r pb:Nat}{t:BA}{wh:Nat→Value}{s:St}
theorem pS (h:M w r pb t wh s):Calls prog 222 #[.pointer (some (Ad r 0))] w fun e w'=>e=.returned (.tuple #[])∧M w' r pb t wh (qH s)∧Fr [r] w w':=by
 refine (aQd r t s.pos s.fault s.atoms pb w h.rd).mono ?_;rintro e w' ⟨rfl,rfl⟩;exact⟨rfl,h.fail,(Fr.refl [r] w).setCell (p:=⟨r,2,none⟩) (.inl (by simp)) _⟩
theorem yE (b:Int)(h:M w r pb t wh s)(hs:t.size≤50)(hp:s.pos≤1000):Calls prog 198 #[.pointer (some (Ad r 0)),iA b] w fun e w'=>
  e=.returned (.tuple #[])∧M w' r pb t wh (gM t s b)∧Fr [r] w w':=by
 have hk:=oO b h hs hp;unfold gM;unfold cG at hk;by_cases hb:aH t s=b
 ·rw[if_pos hb] at hk ⊢;go_enter func198,ntmps198;go_wp2_with fail;refine hk.mono ?_;rintro e w1 ⟨rfl,h1,f1⟩;go_wp2;go_end0;exact⟨rfl,h1,f1⟩
 rw[if_neg hb] at hk ⊢;go_enter func198,ntmps198;go_wp2_with fail;refine hk.mono ?_;rintro e w1 ⟨rfl,h1,f1⟩;go_wp2_with fail;refine (pS h1).mono ?_;rintro e w2 ⟨rfl,h2,f2⟩;go_wp2;go_end0;exact⟨rfl,h2,f1.trans f2⟩
theorem xN (b:Int):s.pos≤(cG t s b).2.pos∧(cG t s b).2.pos≤s.pos+1:=by
 unfold cG;split <;> simp[aW]
theorem aJj (h:M w r pb t wh s)(hs:t.size≤50)(hp:s.pos≤900):Calls prog 202 #[.pointer (some (Ad r 0))] w fun e w'=>
  e=.returned (iA (eC t s).1)∧M w' r pb t wh (eC t s).2∧Fr [r] w w':=by
 have hsp:=xN (t:=t) (s:=s) 92;have hk:=oO 92 h hs (by omega);unfold eC;generalize (cG t s 92).1=b1 at *;generalize (cG t s 92).2=s1 at *;by_cases hb:aH t s1 = -1
 ·have he:(aH t s1 == -1)=true:=by simp[hb]
  rw[if_pos hb];clear hb;go_enter func202,ntmps202;go_wp2_with fail;refine hk.mono ?_;rintro e w1 ⟨rfl,h1,f1⟩;go_wp2_with fail;refine (cM h1 hs).mono ?_;rintro e w2 ⟨rfl,n,rfl⟩;go_wp2_with fail;refine (pS (h1.heap (w':=w1.drewN n) rfl)).mono ?_;rintro e w2 ⟨rfl,h2,f2⟩;go_wp2;go_ret;exact⟨rfl,h2,f1.trans ((f1.drewN n).trans f2 |> fun _=>(((Fr.refl [r] w1).drewN n).trans f2))⟩
 have he:(aH t s1 == -1)=false:=by simpa using hb
 rw[if_neg hb];clear hb;go_enter func202,ntmps202;go_wp2_with fail;refine hk.mono ?_;rintro e w1 ⟨rfl,h1,f1⟩;have c1:=h1.rd.c1;have z1:=h1.rd.f1;go_wp2_with fail;refine (cM h1 hs).mono ?_;rintro e w2 ⟨rfl,n,rfl⟩;go_wp2;go_ret;exact⟨rfl,h1.adv.heap rfl,(f1.setCell (p:=⟨r,1,none⟩) (.inl (by simp)) _).drewN n⟩
theorem aGa (k:Nat)(h:M w r pb t wh s)(hs:t.size≤50)(hk:k≤1000):Calls prog 236 #[.pointer (some (Ad r 0)),iA k] w fun e w'=>
  e=.returned (.bool (vW t k))∧w'=w:=by
 have c0:=h.rd.c0;unfold vW pG;by_cases hlt:k<t.size
 ·have hd:decide ((k:Int)<(t.size:Int))=true:=by simp;omega
  have hl:(k:Int)<t.size:=by omega
  rw[dif_pos hlt];go_enter func236,ntmps236;go_wp2;go_ret;refine⟨congrArg (fun x=>Ending.returned (Value.bool x)) ?_,rfl⟩;rw[Bool.eq_iff_iff];simp
 have hd:decide ((k:Int)<(t.size:Int))=false:=by simp;omega
 rw[dif_neg hlt];go_enter func236,ntmps236;go_wp2;go_ret;exact⟨rfl,rfl⟩
theorem D6 (least:Int)(h:M w r pb t wh s)(hs:t.size≤50)(hp:s.pos≤900):Calls prog 235 #[.pointer (some (Ad r 0)),iA least] w fun e w'=>
  e=.returned (iA (bQ t s least).1)∧M w' r pb t wh (bQ t s least).2∧Fr [r] w w':=by
 unfold bQ;by_cases h93:aH t s=93
 ·have he:(aH t s==93)=true:=by simp[h93]
  have hpk:=cM h hs;rw[if_pos h93];clear h93;go_enter func235,ntmps235;go_wp2_with fail;refine hpk.mono ?_;rintro e w1 ⟨rfl,n,rfl⟩;go_wp2_with fail;refine (pS (h.heap (w':=w.drewN n) rfl)).mono ?_;rintro e w2 ⟨rfl,h2,f2⟩;go_wp2;go_ret;exact⟨rfl,h2,((Fr.refl [r] w).drewN n).trans f2⟩
 have he0:(aH t s==93)=false:=by simpa using h93
 have hpk:=cM h hs;rw[if_neg h93];clear h93;have hsp:=xN (t:=t) (s:=s) 92;have hk:=fun (W:WL) (hW:M W r pb t wh s)=>oO 92 hW hs (by omega);generalize (cG t s 92).1=b1 at *;generalize (cG t s 92).2=s1 at *;have Hk:=(show Hid _ from hk);clear hk;by_cases hb:aH t s1<least
 ·rw[if_pos hb];go_enter func235,ntmps235;go_wp2_with fail;refine hpk.mono ?_;rintro e w1 ⟨rfl,n,rfl⟩;go_wp2_with fail;refine (Hk.out _ (h.heap (w':=w.drewN n) rfl)).mono ?_;rintro e w1 ⟨rfl,h1,f1⟩;go_wp2_with fail;refine (cM h1 hs).mono ?_;rintro e w2 ⟨rfl,m,rfl⟩;go_wp2_with fail;refine (pS (h1.heap (w':=w1.drewN m) rfl)).mono ?_;rintro e w2 ⟨rfl,h2,f2⟩;go_wp2;go_ret;exact⟨rfl,h2,((((Fr.refl [r] w).drewN n).trans f1).drewN m).trans f2⟩
 rw[if_neg hb];go_enter func235,ntmps235;go_wp2_with fail;refine hpk.mono ?_;rintro e w1 ⟨rfl,n,rfl⟩;go_wp2_with fail;refine (Hk.out _ (h.heap (w':=w.drewN n) rfl)).mono ?_;rintro e w1 ⟨rfl,h1,f1⟩;have c1:=h1.rd.c1;have z1:=h1.rd.f1;go_wp2_with fail;refine (cM h1 hs).mono ?_;rintro e w2 ⟨rfl,m,rfl⟩;go_wp2;go_ret;exact⟨rfl,h1.adv.heap rfl,((((Fr.refl [r] w).drewN n).trans f1).setCell (p:=⟨r,1,none⟩) (.inl (by simp)) _).drewN m⟩
def ev (q:aGy):Value:=.agg #[.bool q.e,.int .u64 q.f,.int .u64 q.l]
def pv (q:Piece):Value:=.agg #[.bool (q 0).e,.int .u64 (q 0).f,.int .u64 (q 0).l,.bool (q 1).e,.int .u64 (q 1).f,.int .u64 (q 1).l,.bool (q 2).e,.int .u64 (q 2).f,.int .u64 (q 2).l,.bool (q 3).e,.int .u64 (q 3).f,.int .u64 (q 3).l]
theorem iW (w:WL):Calls prog 145 #[] w fun e w'=>e=.returned (pv aQ)∧Fr [] w w':=by
 go_enter func145,ntmps145;go_wp2;refine wp_loop_rounds 5 ?_
 iterate 5 (rw[rounds_succ];go_wp2)
 refine bodyPost_ret (v:=pv aQ) (by simp[results,results145,go_sem,pv,aQ]) rfl ⟨rfl,?_⟩;exact ((Fr.refl _ _).alloc _).alloc _
theorem U7 (w:WL):Calls prog 201 #[iA 1] w fun e w'=>e=.returned (pv (eV 1))∧Fr [] w w':=by
 go_enter func201,ntmps201;go_wp2;refine wp_loop_rounds 5 ?_
 iterate 5 (rw[rounds_succ];go_wp2)
 refine bodyPost_ret (v:=pv (eV 1)) (by simp[results,results201,go_sem,pv,eV];decide) rfl ⟨rfl,?_⟩;exact ((Fr.refl _ _).alloc _).alloc _
theorem aGv (w:WL):Calls prog 201 #[iA 2] w fun e w'=>e=.returned (pv (eV 2))∧Fr [] w w':=by
 go_enter func201,ntmps201;go_wp2;refine wp_loop_rounds 5 ?_
 iterate 5 (rw[rounds_succ];go_wp2)
 refine bodyPost_ret (v:=pv (eV 2)) (by simp[results,results201,go_sem,pv,eV];decide) rfl ⟨rfl,?_⟩;exact ((Fr.refl _ _).alloc _).alloc _
def aGy.ok (q:aGy):Prop:=q.f<18446744073709551616∧q.l<18446744073709551616
theorem nP (a b:aGy)(ha:a.ok)(hb:b.ok)(w:WL):Calls prog 172 #[ev a,ev b] w fun e w'=>e=.returned (ev (aL a b))∧Fr [] w w':=by
 obtain⟨ae,af,al⟩:=a;obtain⟨be,bf,bl⟩:=b;obtain⟨ha1,ha2⟩:=ha;obtain⟨hb1,hb2⟩:=hb;simp only at ha1 ha2 hb1 hb2;have o1:=bits_or_u64_nat af bf ha1 hb1;have o2:=bits_or_u64_nat bl al hb2 ha2;unfold ev;cases ae <;> cases be
 all_goals
  go_enter func172,ntmps172;go_wp2;refine bodyPost_ret (v:=ev (aL _ _)) (by simp[results,results172,go_sem,ev,aL]) rfl ⟨rfl,?_⟩;exact ((((Fr.refl _ _).alloc _).alloc _).alloc _).alloc _
end Go.Proofs.YtlokkgajpjafmaaGreatDoor
