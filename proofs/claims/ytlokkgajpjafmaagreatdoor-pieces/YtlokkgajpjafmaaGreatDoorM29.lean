import Derived.Test.YtlokkgajpjafmaaGreatDoorM21
import Derived.Test.YtlokkgajpjafmaaGreatDoorM10
import Derived.Test.YtlokkgajpjafmaaGreatDoorM28
import Derived.Test.YtlokkgajpjafmaaGreatDoorM24
set_option linter.unusedSimpArgs false
set_option linter.unusedVariables false
set_option maxRecDepth 100000
set_option maxHeartbeats 40000000
open _root_.Go.Proofs.Tryz
namespace Go.Proofs.YtlokkgajpjafmaaGreatDoor
open Go.RowKit
open Wire Flow
def mQ (t x:BA):Nat→Int:=oI (eT t).1 (eT t).2.tk (eT t).2.fo x
def eE (m:Mo):Mach.Env:=⟨m,fun t x=>fI (mQ t x) (x.size+1) 0,fun t y x=>⟨(rT (mQ t x) y.data.toList x 0 (-1)).toArray⟩,fun t x=>if x.size=0 then [] else fM (mQ t x) x 0 0,pA,fun n=>n⟩
theorem rK.strsV {B:Nat}{W:WL}{v:Value}{L:LY} (h:rK B W v L):aRn B W v L:=by
 rcases h with ⟨rfl,rfl⟩ | ⟨g,cap,rfl,hc,hg,hx⟩
 ·exact⟨_,_,rfl,fun i t hi=>(by simp at hi)⟩
 exact⟨_,_,rfl,fun i t hi=>⟨g,0,rfl,hg.1,by rw[Nat.zero_add];exact hx i t hi⟩⟩
theorem aSq {m:Mo}{W:WL}{pb:Nat}{t:BA} (ht:t.size≤50) (hP:bL W pb (whF (eT t).1) (eT t).2.tk (eT t).2.fo):oK (eE m) W pb t:=by
 obtain⟨b1,b2,b3⟩:=aAc t ht;intro W' hb hT;have hP':bL W' pb (whF (eT t).1) (eT t).2.tk (eT t).2.fo:=hP.of_block hb;refine⟨fun x hx=>?_,fun y x hy hx=>?_,fun x hx=>?_⟩
 ·exact aJl pb _ _ _ x 0 W' hP' hT b1 b2 b3 hx (Nat.zero_le _)
 ·exact aJh pb _ _ _ y x W' hP' hT b1 b2 b3 hx hy
 by_cases h0:x.size=0
 ·have e:x=⟨#[]⟩:=ByteArray.size_eq_zero_iff.1 h0;subst e;have e0:(eE m).spl t ⟨#[]⟩=[]:=by
   show (if (⟨#[]⟩:BA).size=0 then [] else fM (mQ t ⟨#[]⟩) ⟨#[]⟩ 0 0)=[];exact if_pos rfl
  rw[e0];refine (M7 pb W').mono ?_;rintro e V ⟨rfl,rfl⟩;exact⟨_,rfl,⟨none,0,rfl,fun i t hi=>(by simp at hi)⟩,Fr.refl [] _⟩
 refine (aEn pb _ _ _ x W' hP' hT b1 b2 b3 hx (by omega)).mono ?_;rintro e V ⟨v,rfl,hs,F⟩;refine⟨v,rfl,?_,F⟩;show aRn _ V v (if x.size=0 then [] else fM (mQ t x) x 0 0);rw[if_neg h0];exact hs.strsV
theorem aCs {r:Nat→Int}{l:LN}{least p:Int} (h0:least = -1∨p≤least) (h:∀ a,a ∈ l→r a = -1∨p≤r a):mB r least l = -1∨p≤mB r least l:=by
 unfold mB;induction l generalizing least with
 | nil=>exact h0
 | cons a l ih=>
  simp only[List.foldl_cons];refine ih ?_ fun b hb=>h b (by simp[hb]);have:=h a (by simp);omega
theorem aAb (q:Piece)(tk:NN)(fo:Nat→NN)(x:BA):∀ d a,(eM q tk fo x d).2 a = -1∨((x.size-d:Nat):Int)≤(eM q tk fo x d).2 a
 | 0,_=>.inl rfl
 | d+1,a=>by
  simp only[eM]
  refine aCs ?_ fun b _=>?_
  ·split <;> omega
  ·have:=aAb q tk fo x d b
   omega
theorem aQf (q:Piece)(tk:NN)(fo:Nat→NN)(x:BA){k:Nat}(hk:k≤x.size):oI q tk fo x k = -1∨(k:Int)≤oI q tk fo x k:=by
 unfold oI yT;have e:x.size-(x.size-k)=k:=by omega
 refine aCs ?_ fun b _=>?_
 ·rw[e];split <;> omega
 have:=aAb q tk fo x (x.size-k) b;rw[e] at this;exact this
theorem aUt (t x:BA):∀ f k,k+f≤x.size+1→fI (mQ t x) f k=(-1,0)∨(0≤(fI (mQ t x) f k).1∧(fI (mQ t x) f k).1≤x.size∧0≤(fI (mQ t x) f k).2∧(fI (mQ t x) f k).2≤x.size):=by
 intro f;induction f with
 | zero=>intro k _;exact .inl rfl
 | succ f ih=>
  intro k hk;rw[fI];split
  ·exact ih (k+1) (by omega)
  ·rename_i h
   have h1:mQ t x k≤x.size:=(vU _ _ _ x k).1;have h2:mQ t x k = -1∨(k:Int)≤mQ t x k:=aQf _ _ _ x (by omega);refine .inr ⟨?_,?_,?_,?_⟩ <;> simp only <;> omega
theorem aMp (e:Nat→Int)(x:BA):∀ f bg k,∀ t ∈ iB e x f bg k,t.size≤x.size:=by
 intro f;have hx:∀ a b,(x.extract a b).size≤x.size:=fun a b=>by rw[ByteArray.size_extract];omega
 induction f with
 | zero=>
  intro bg k t ht;simp only[iB,List.mem_singleton] at ht;subst ht;exact hx _ _
 | succ f ih=>
  intro bg k t ht;rw[iB] at ht;split at ht
  ·split at ht
   ·exact ih _ _ t ht
   rcases List.mem_cons.1 ht with rfl | ht
   ·exact hx _ _
   exact ih _ _ t ht
  simp only[List.mem_singleton] at ht;subst ht;exact hx _ _
theorem aFh:∀ i<31,∀ j<31,Lib.itoa ((i:Nat):Int)=Lib.itoa ((j:Nat):Int)→i=j:=by
 decide +kernel
theorem aWj {m:Mo}(h:∀ s ∈ m.texts,s.size≤100):Mach.SmE (eE m) where
 texts:=h
 fnd:=fun t x hx=>by
  show -1≤(fI (mQ t x) (x.size+1) 0).1∧(fI (mQ t x) (x.size+1) 0).1≤100∧0≤(fI (mQ t x) (x.size+1) 0).2∧(fI (mQ t x) (x.size+1) 0).2≤100
  rcases aUt t x (x.size+1) 0 (by omega) with e | ⟨a,b,c,d⟩
  ·rw[e];decide
  ·omega
 spl:=fun t x hx s hs=>by
  have hs:s ∈ (if x.size=0 then [] else fM (mQ t x) x 0 0):=hs
  split at hs
  ·simp at hs
  ·exact Nat.le_trans (aMp _ x _ _ _ s hs) hx
 itoa:=fun n h0 h1=>by
  have:=Lib.itoa_length_le n (by omega) (by omega)
  show (Lib.itoa n).toArray.size≤100
  simp
  omega
 inj:=fun i j hi hj h=>by
  have h:pA (i:Int)=pA (j:Int):=h
  unfold pA at h
  refine aFh i (by omega) j (by omega) ?_
  simpa using h
 wr:=fun n _ _=>rfl
theorem aPo {m:Mo}(ht:∀ s ∈ m.texts,s.size≤100)(h1:m.texts.length≤2000000000)(h2:m.globs.toNat≤2000000000)(h3:m.pats.length≤2000000000)(h4:m.arrs.toNat≤1000)(h5:∀ f,f<m.fns.length→Mach.locsOf m f≤16)(hM:Mach.ModOk m):GoE (eE m) where
 env:=⟨rfl,fun _ _ _=>rfl⟩
 sm:=aWj ht
 lim:=⟨h1,h2,h3,h4,h5,fun t x hx=>by
  show (if x.size=0 then [] else fM (mQ t x) x 0 0).length≤_
  split
  ·simp
  ·have:=qP (mQ t x) x (x.size-0) 0 0 (Nat.le_refl _)
   omega⟩
 mod:=hM
theorem S8 {m:Mo}{f locs:Nat}{c:LB}{i e:Nat} (h:bH m f locs c i=.inl e):e≠0:=by
 unfold bH at h;split at h
 ·split at h
  ·cases h
  split at h
  ·cases h;decide
  split at h
  ·split at h
   ·cases h;decide
   cases h
  cases h
 cases h;decide
theorem aUo {m:Mo}{k p:Nat} (h:j8 m k p 0):Mach.FnOk m k:=by
 obtain⟨x,hx,h⟩:=h;have e1:Mach.fnOf m k=x:=by
  unfold Mach.fnOf;rw[List.getD_eq_getElem?_getD,hx];rfl
 rcases h with ⟨l,-,-,h⟩ | ⟨l,h1,h2⟩
 ·exact absurd rfl (S8 h)
 rcases h2 with ⟨q,-,-,h⟩ | ⟨h3,-,⟨h4,-⟩ | ⟨-,h⟩⟩
 ·cases h
 ·refine⟨l,?_,h3,h4⟩;unfold Mach.locsOf Mach.codeOf;rw[e1];exact h1
 cases h
theorem aBe {m:Mo}{f p:Nat} (h3:3≤m.fns.length) (hp:∀ k,k<m.fns.length→Mach.parOf m k≤Mach.locsOf m k) (h:uE m f p 0):Mach.ModOk m where
 three:=h3
 fns:=fun k hk=>by
  rcases h with ⟨-,-,-,h⟩ | ⟨h,-⟩
  ·obtain⟨q,hq⟩:=h k hk
   exact aUo hq
  ·exact absurd rfl h
 par:=hp
theorem aKe (w:WL):(Instr.makeMap 88 none).run prog w=.ok (.map (some w.heap.size)) (w.alloc (.map #[] 0)):=by
 kernel_rfl
theorem aUz (b:Nat)(w:WL):(Instr.build 90 #[(0,.map (some b))]).run prog w=.ok (.agg #[.map (some b),.slice none 0 0]) w:=by
 kernel_rfl
theorem O2 (W:WL):Calls prog 38 #[] W fun e w=>∃ b,e=.returned (.agg #[.map (some b),.slice none 0 0])∧W.heap.size≤b∧dV w b []∧Fr [] W w:=by
 have hm:=aKe (W.alloc (.cells #[.map none,.slice none 0 0] 90));have hb:=aUz;go_enter func38,ntmps38;go_wp2_with fail;have k1:((W.alloc (.cells #[.map (some (W.heap.size+1)),.slice none 0 0] 90)).alloc (.map #[] 0)).heap[W.heap.size]?=some (.cells #[.map (some (W.heap.size+1)),.slice none 0 0] 90):=heap_alloc2_old W _ _;have k2:((W.alloc (.cells #[.map (some (W.heap.size+1)),.slice none 0 0] 90)).alloc (.map #[] 0)).heap[W.heap.size+1]?=some (.map #[] 0):=heap_alloc2_new W _ _;refine bodyPost_ret (results_cell_row rfl _ _ W.heap.size 90 #[.map (some (W.heap.size+1)),.slice none 0 0] (0,0) _ rfl k1 underlying90 rfl (by kernel_rfl)) rfl ?_;exact⟨W.heap.size+1,rfl,by omega,⟨#[],0,k2,rfl⟩,((Fr.refl [] W).alloc _).alloc _⟩
def ms0 (m:Mo) (recs:LY) (draws:List Int):Ms:=oV (Mach.begin_ m recs draws) [] (Mach.enter m 0 [])
section
variable {E:Mach.Env}{X gF:Nat}{W:WL}{tag:NN}{recs:LY}{draws:List Int}
def lv0 (n:Nat) (i:Nat):Bool:=decide (i=10∨i=11∨i=12∨i=13∨i=5000∨(21≤i∧i<21+2*n∧i % 2=1))
def R0 (X:Nat) (x:Mx) (s:Ms) (i:Nat):Rw:=
 if i=10 then ⟨.slice (some ⟨X,0,none⟩) 1 1,79,16,1,xC x s⟩
 else if i=11 then ⟨x.frv,139,51,s.low.length+1,rng (s.low.length+1) fun k=>frC (x.F k) (fAt s k)⟩
 else if i=12 then ⟨x.gv,135,3,s.w.globs.length,rng s.w.globs.length fun i=>vC (s.w.globs.getD i Mach.nothing)⟩
 else if i=13 then ⟨x.av,90,2,s.w.arrs.length,rng s.w.arrs.length fun i=>[.map (some (x.A i).1),(x.A i).2]⟩
 else if i=5000 then ⟨.slice none 0 0,191,4,0,[]⟩
 else ⟨.slice none 0 0,9,1,0,[]⟩
def mp0 (n:Nat) (x:Mx) (i:Nat):Option (Nat × List (Value × Value)):=if 20≤i∧i<20+2*n∧i % 2=0 then some ((x.A ((i-20) / 2)).1,[]) else none
theorem bAi {x:Mx}{s:Ms} (hn:s.w.arrs.length≤1000) (oX:W.ownsRow 0 79 16 (.slice (some (Ad X 0)) 1 1) 1 (xC x s)) (oF:W.ownsRow 0 139 51 x.frv (s.low.length+1) (rng (s.low.length+1) fun k=>frC (x.F k) (fAt s k))) (oG:W.ownsRow 0 135 3 x.gv s.w.globs.length (rng s.w.globs.length fun i=>vC (s.w.globs.getD i Mach.nothing))) (oA:W.ownsRow 0 90 2 x.av s.w.arrs.length (rng s.w.arrs.length fun i=>[.map (some (x.A i).1),(x.A i).2]))
  (tX:tag X=10) (tF:Tg tag x.frv 11) (tG:Tg tag x.gv 12) (tA:Tg tag x.av 13) (hA:∀ i,i<s.w.arrs.length→dV W (x.A i).1 []∧tag (x.A i).1=20+2*i):Sto W tag (lv0 s.w.arrs.length) (R0 X x s) (mp0 s.w.arrs.length x) where
 rows:=fun i hi=>by
  have hi':i=10∨i=11∨i=12∨i=13∨i=5000∨(21≤i∧i<21+2*s.w.arrs.length∧i % 2=1):=by simpa [lv0] using hi
  rcases hi' with rfl | rfl | rfl | rfl | rfl | ⟨h1,h2,h3⟩
  ·exact⟨oX,fun q hq=>by
    have:X=q:=by simpa [R0,Value.ownBlock] using hq
    rw[← this];exact tX⟩
  ·exact⟨oF,tF⟩
  ·exact⟨oG,tG⟩
  ·exact⟨oA,tA⟩
  ·exact⟨⟨rfl,.inl ⟨rfl,rfl⟩⟩,Tg.nil _ _⟩
  ·have e:R0 X x s i=⟨.slice none 0 0,9,1,0,[]⟩:=by
    unfold R0
    rw[if_neg (by omega),if_neg (by omega),if_neg (by omega),if_neg (by omega),if_neg (by omega)]
   rw[e]
   exact⟨⟨rfl,.inl ⟨rfl,rfl⟩⟩,Tg.nil _ _⟩
 maps:=fun i b l h=>by
  unfold mp0 at h
  split at h
  ·rename_i c
   simp only[Option.some.injEq,Prod.mk.injEq] at h
   obtain⟨h1,h2⟩:=h
   obtain⟨a,t⟩:=hA ((i-20) / 2) (by omega)
   rw[← h1,← h2]
   exact⟨a,by rw[t];omega⟩
  ·cases h
 far:=fun i hi=>by
  have hi':i=10∨i=11∨i=12∨i=13∨i=5000∨(21≤i∧i<21+2*s.w.arrs.length∧i % 2=1):=by simpa [lv0] using hi
  unfold mp0
  rw[if_neg (by omega)]
 num:=fun i h=>by
  rcases h with h | h
  ·have hi':i=10∨i=11∨i=12∨i=13∨i=5000∨(21≤i∧i<21+2*s.w.arrs.length∧i % 2=1):=by simpa [lv0] using h
   omega
  ·unfold mp0 at h
   split at h
   ·omega
   ·exact absurd rfl h
end
section
variable {E:Mach.Env}{X gF:Nat}{W:WL}{tag:NN}{recs:LY}{draws:List Int}
theorem aOm {x:Mx}(h6:6≤W.heap.size)(hm:3≤E.mo.fns.length)(hn:E.mo.arrs.toNat≤1000)(hpl:fJ E.mo 0 (x.code 0).2 0 0)
  (sta:Sta E W tag x.tv x.pv x.fv x.code) (e0:x.entry=0)
  (oX:W.ownsRow 0 79 16 (.slice (some (Ad X 0)) 1 1) 1 (xC x (ms0 E.mo recs draws)))
  (vF:x.frv=.slice (some (Ad gF 0)) 1 1) (oF:W.ownsRow 0 139 51 x.frv 1 (frC (x.F 0) (Mach.enter E.mo 0 [])))
  (fF:(x.F 0).cv=(x.code 0).1∧(x.F 0).ix=0∧(x.F 0).sv=.slice none 0 0)
  (oG:W.ownsRow 0 135 3 x.gv E.mo.globs.toNat (rng E.mo.globs.toNat fun _=>vC Mach.nothing))
  (oA:W.ownsRow 0 90 2 x.av E.mo.arrs.toNat (rng E.mo.arrs.toNat fun i=>[.map (some (x.A i).1),.slice none 0 0])) (sA:∀ i,i<E.mo.arrs.toNat→(x.A i).2=.slice none 0 0)
  (tX:tag X=10) (tF:Tg tag x.frv 11) (tG:Tg tag x.gv 12) (tA:Tg tag x.av 13) (hA:∀ i,i<E.mo.arrs.toNat→dV W (x.A i).1 []∧tag (x.A i).1=20+2*i)
  (rcs:RoL W tag x.rv (recs.map .string)) (drw:RoL W tag x.dv (draws.map (.int .i64))) (fl:x.flv=.slice none 0 0) :
  MM E X ⟨gF,x.gv,x.av,0,x.pv,x.code⟩ (ms0 E.mo recs draws) W tag:=by
 have la:(ms0 E.mo recs draws).w.arrs.length=E.mo.arrs.toNat:=by simp[ms0,oV,Mach.begin_]
 have lg:(ms0 E.mo recs draws).w.globs.length=E.mo.globs.toNat:=by simp[ms0,oV,Mach.begin_]
 have hS:=bAi (W:=W) (tag:=tag) (X:=X) (x:=x) (s:=ms0 E.mo recs draws) (by rw[la];exact hn) oX ?_ ?_ ?_ tX tF tG tA (by rw[la];exact hA)
 ·refine⟨h6,lv0 (ms0 E.mo recs draws).w.arrs.length,R0 X x (ms0 E.mo recs draws),mp0 (ms0 E.mo recs draws).w.arrs.length x,x,⟨⟨rfl,e0,rfl,rfl⟩,rfl⟩,?_⟩
  exact {
   S:=hS
   sta:=sta
   lX:=by simp[lv0]
   rX:=rfl
   lF:=by simp[lv0]
   rF:=rfl
   vF:=⟨1,vF⟩
   nF:=Nat.zero_le _
   lG:=by simp[lv0]
   rG:=rfl
   lA:=by simp[lv0]
   rA:=rfl
   nA:=by rw[la];exact hn
   arr:=fun i hi=>by
    rw[la] at hi
    have e:(ms0 E.mo recs draws).w.arrs.getD i []=[]:=by
     simp[ms0,oV,Mach.begin_,List.getElem?_replicate]
     split <;> rfl
    refine⟨?_,?_,?_⟩
    ·rw[e,la]
     unfold mp0
     rw[if_pos (by omega),show (20+2*i-20) / 2=i by omega]
     rfl
    ·rw[la];simp[lv0];omega
    ·rw[e,sA i hi]
     unfold R0
     rw[if_neg (by omega),if_neg (by omega),if_neg (by omega),if_neg (by omega),if_neg (by omega)]
     rfl
   stk:=fun k hk=>by
    have hk0:k=0:=Nat.le_zero.1 hk
    subst hk0
    refine⟨by simp[lv0],?_⟩
    rw[fF.2.2]
    rfl
   wlk:=fun k j c hk hj hc=>by
    have hk0:k=0:=Nat.le_zero.1 hk
    subst hk0
    have:(fAt (ms0 E.mo recs draws) 0).stk=[]:=rfl
    rw[this] at hj
    simp at hj
   fn:=fun k hk=>by
    have hk0:k=0:=Nat.le_zero.1 hk
    subst hk0
    refine⟨by show 0<_;omega,fF.1,?_⟩
    rw[fF.2.1]
    exact hpl
   rcs:=rcs
   drw:=drw
   fld:=⟨none,0,fl,Nat.le_refl _,by decide,fun h=>absurd h (by simp[ms0,oV,Mach.begin_])⟩ }
 ·exact oF
 ·rw[lg]
  refine Eq.mp (congrArg _ (bK fun j hj=>?_)) oG
  congr 1
  simp[ms0,oV,Mach.begin_,List.getElem?_replicate,hj]
 ·rw[la]
  refine Eq.mp (congrArg _ (bK fun j hj=>?_)) oA
  rw[sA j hj]
end
theorem aGc {ds:List Int}{v:Value} (W:WL) (hn:ds.length≤50) (h:iZ W v (ds.map (.int .i64))):Calls prog 34 #[v] W fun e w=>∃ v',e=.returned v'∧w.ownsRow W.heap.size 3 1 v' ds.length (ds.map (.int .i64))∧Fr [] W w:=by
 obtain⟨o,c,rfl,hc,hc2,hx⟩:=h;rw[List.length_map] at hc hx ⊢;rcases o with _ | ⟨g,off,z⟩
 ·have h0:ds.length=0:=by
   rcases Nat.eq_zero_or_pos ds.length with h | h
   ·exact h
   obtain⟨g,off,e,-⟩:=hx h;cases e
  refine (slices_Clone_int_nil ds.length c W).mono ?_;rintro e w ⟨rfl,rfl⟩;have:ds=[]:=List.eq_nil_of_length_eq_zero h0;subst this;exact⟨_,rfl,⟨rfl,.inl ⟨rfl,rfl⟩⟩,Fr.refl [] _⟩
 rcases Nat.eq_zero_or_pos ds.length with h | h
 ·have:ds=[]:=List.eq_nil_of_length_eq_zero h;subst this;refine (slices_Clone_int_zero ⟨g,off,z⟩ c W).mono ?_;rintro e w ⟨v',rfl,ow,-,hB⟩;exact⟨v',rfl,ow,Fr.of_below hB⟩
 obtain⟨g',off',e,-,hcell⟩:=hx h;cases e;refine (slices_Clone_int g off ds.length c ds W (Nat.le_refl _) (by omega) fun j hj=>?_).mono ?_
 ·refine hcell j _ ?_;rw[List.getElem?_map,Lge hj,List.getD_eq_getElem?_getD,Lge hj];rfl
 rintro e w ⟨v',rfl,ow,-,hB⟩;rw[List.take_length] at ow;exact⟨v',rfl,ow,Fr.of_below hB⟩
theorem L7 {P:Program}{fn:Func}{p u v x:Tmp}{ty:TypeId} (h:fn.results=#[.cell p ty,.tmp u,.tmp v,.tmp x]) (tmps:Array Value) (w:WL) (g:Nat) (t:TypeId) (cs:Array Value) (fr:Nat × Nat) (d:TypeDesc)
  (hp:tmps.getD p undef=.pointer (some (Ad g 0))) (hg:w.heap[g]?=some (.cells cs t fr))
  (hu:P.underlying ty=some d) (hd:(match d with | .struct _ | .array _ _=>true | _=>false)=true) (hi:(P.info? ty).map (·.size)=some cs.size) :
  (results fn tmps).run P w=.ok (.tuple #[.agg cs,tmps.getD u undef,tmps.getD v undef,tmps.getD x undef]) w:=by
 have hp':tmps[p]?.getD undef=.pointer (some (Ad g 0)):=by simpa using hp
 simp[results,h,hp',asAddr,run_loadVar_row w g t ty cs fr d hg hu hd hi]
theorem uV (b:BA)(w:WL)(hm:b.size≤40000)(hT:Tab w){m:Mo}(hu:bl b=Wire.written m)(hw:dI ipF m=true) :
  Calls prog 17 #[.string b] w fun e w'=>∃ (a0 a1 a4:OA) (n0 c0 n1 c1 n4 c4 gn an f p x:Nat),e=.returned (.tuple #[.agg #[.slice a0 n0 c0,.slice a1 n1 c1,iA gn,iA an,.slice a4 n4 c4],iA f,iA p,iA x])∧Fr [] w w'∧iL w.heap.size w' (.agg #[.slice a0 n0 c0,.slice a1 n1 c1,iA gn,iA an,.slice a4 n4 c4]) m∧uE m f p x:=by
 obtain⟨hMo,h3⟩:=fB hw;obtain⟨W1,hW1⟩:=eXi (w.alloc (.cells #[.slice none 0 0,.slice none 0 0,iA 0,iA 0,.slice none 0 0] 25));have F1:=frA hW1
 have k1:W1.heap[w.heap.size]?=some (.cells #[.slice none 0 0,.slice none 0 0,iA 0,iA 0,.slice none 0 0] 25):=by rw[← hW1];exact wan w _
 have HU:Hid _:=aRw b W1 hw hu hm (hT.fr F1 (by simp));have HC:Hid (∀ (W:WL) (mv:Value),gY W mv m→Calls prog 29 #[mv] W (aVz m W)):=fun W mv h=>aGd mv m W h hMo h3;have H1:Hid _:=AI F1 k1;clear F1 k1 hu hT hMo h3 hw;go_enter func17,ntmps17;go_wp2_with fail;refine Calls.mono HU.out ?_;rintro e W2 ⟨F2,a0,a1,a4,n0,c0,n1,c1,n4,c4,gn,an,rfl,hF⟩;have H2:Hid _:=AI F2 hF;clear F2 hF HU;obtain⟨W3,hW3⟩:=eXi (W2.alloc (.cells #[.slice a0 n0 c0,.slice a1 n1 c1,iA gn,iA an,.slice a4 n4 c4] 25));have F3:=frA hW3
 have k3:W3.heap[W2.heap.size]?=some (.cells #[.slice a0 n0 c0,.slice a1 n1 c1,iA gn,iA an,.slice a4 n4 c4] 25):=by rw[← hW3];exact wan W2 _
 obtain⟨⟨q0,q1,q2,q3,q4⟩,-⟩:=dY k3;have H3:Hid _:=AI F3 k3;clear F3 k3;go_wp2_with fail;refine Calls.mono (HC.out W3 _ ((H2.out.2.mod).fr H3.out.1)) ?_;rintro e W4 ⟨F4,f,p,x,rfl,hA,-⟩;have l1:w.heap.size<W1.heap.size:=(Age.1 H1.out.2).1;have l2:W1.heap.size≤W2.heap.size:=H2.out.1.size;have l3:W2.heap.size<W3.heap.size:=(Age.1 H3.out.2).1;have FA:Fr [] W1 W4:=(H2.out.1.trans H3.out.1).trans F4;have k4:=(FA.block w.heap.size l1 (by simp)).trans H1.out.2;have k5:=(F4.block W2.heap.size l3 (by simp)).trans H3.out.2;obtain⟨⟨r0,r1,r2,r3,r4⟩,-⟩:=dY k5;obtain⟨⟨s0,s1,s2,s3,s4⟩,fz⟩:=dY k4;have f0:=fz 0;have f1:=fz 1;have f2:=fz 2;have f3:=fz 3;have f4:=fz 4;have HS:Hid _:=kG k4;have HF:Hid _:=AI (H1.out.1.trans FA) (AI (AI (H2.out.2.fr (H3.out.1.trans F4) (by simp)) l1) hA);clear FA k4 k5 q0 q1 q2 q3 q4 F4 hA fz H1 H2 H3 l1 l2 l3 HC;go_wp2_with fail;refine bodyPost_ret (L7 rfl _ _ w.heap.size 25 #[.slice a0 n0 c0,.slice a1 n1 c1,iA gn,iA an,.slice a4 n4 c4] (0,0) _ rfl (HS.out _ _ _ _ _) underlying25 rfl (by kernel_rfl)) rfl ?_;have hl:=Nat.le_refl w.heap.size;have FS:Fr [w.heap.size] W4 (oQ W4 w.heap.size (.slice a0 n0 c0) (.slice a1 n1 c1) (iA gn) (iA an) (.slice a4 n4 c4)):=((((((Fr.refl [w.heap.size] W4).setCell (.inl (by simp)) _).setCell (.inl (by simp)) _).setCell (.inl (by simp)) _).setCell (.inl (by simp)) _).setCell (.inl (by simp)) _);exact⟨a0,a1,a4,n0,c0,n1,c1,n4,c4,gn,an,f,p,x,rfl,((((HF.out.1.setCell (.inr hl) _).setCell (.inr hl) _).setCell (.inr hl) _).setCell (.inr hl) _).setCell (.inr hl) _,(HF.out.2.1.1.fr FS (by simpa using HF.out.2.1.2)).base (Nat.le_of_lt HF.out.2.1.2),HF.out.2.2⟩
theorem aGe (b:BA)(w:WL)(hm:b.size≤40000)(hT:Tab w){m:Mo}(hu:bl b=Wire.written m)(hw:dI ipF m=true) :
  Calls prog 7 #[.string b] w fun e w'=>∃ (f p x:Nat),e=.returned (.tuple #[iA f,iA p,iA x])∧Fr [] w w'∧uE m f p x:=by
 have HU:Hid _:=uV b w hm hT hu hw;clear hu hw hT hm;go_enter func7,ntmps7;go_wp2_with fail;refine Calls.mono HU.out ?_;rintro e W2 ⟨a0,a1,a4,n0,c0,n1,c1,n4,c4,gn,an,f,p,x,rfl,F2,hF,hA⟩;have H2:Hid _:=AI F2 hA;clear F2 hF hA HU;go_wp2_with fail;refine bodyPost_ret (results_tmp3 rfl _ _ _) rfl ?_;exact⟨f,p,x,rfl,H2.out.1.alloc _,H2.out.2⟩
section
variable {W W2:WL}{tag:NN}{lv:Nat→Bool}{R:Nat→Rw}{mp:Nat→Option (Nat × List (Value × Value))}
theorem Sto.mark (h:Sto W tag lv R mp)(F:Fr [] W W2)(t:Nat):Sto W2 (aR tag W.heap.size t) lv R mp∧Kp tag (aR tag W.heap.size t) W W2:=⟨h.frm F t,Kp.of_fr F fun k hk=>cD hk⟩
theorem Sto.app (h:Sto W tag lv R mp){X m j n z bytes T e:Nat}{zv sv:Value}{xs ys news:LV} (hi:(prog.info? e).map (fun i=>(i.zero,i.size,i.bytes))=some (some zv,z,bytes)) (hu:prog.underlying T=some (.slice e)) (hzs:zv.cells.size=z) (hz:0<z)
  (l10:lv 10=true) (r10:R 10=⟨.slice (some (Ad X 0)) 1 1,79,16,1,xs⟩) (hm:m≠10) (lm:lv m=true) (rm:R m=⟨sv,e,z,n,ys⟩) (hx:xs[j]?=some sv) (hj:j<16) (hn:n≤1000) (hb:bytes≤1000) (hnl:news.length=z) (hone:∀ u ∈ news,u.oneCell'=true) (F:Fr [] W W2) :
  ∃ so sc vo vc W4 t4,sv=.slice so n sc∧(Builtin.append_ #[T,T] T #[.slice so n sc,.slice (some (Ad W2.heap.size 0)) 1 1]).run prog (W2.alloc (.cells news.toArray e))=.ok (.slice vo (n+1:Nat) vc) W4∧W2.cell? (Ad X j)=some (.slice so n sc)∧W4.cell? (Ad X j)=some (.slice so n sc)∧W4.frozen? (Ad X j)=false ∧
   Sto (W4.setCell ⟨X,j,none⟩ (.slice vo (n+1:Nat) vc)) t4 lv (up (up R m ⟨.slice vo (n+1:Nat) vc,e,z,n+1,ys++news⟩) 10 ⟨.slice (some (Ad X 0)) 1 1,79,16,1,xs.set j (.slice vo (n+1:Nat) vc)⟩) mp∧Kp tag t4 W (W4.setCell ⟨X,j,none⟩ (.slice vo (n+1:Nat) vc))∧Kp (aR tag W.heap.size 9) t4 W2 (W4.setCell ⟨X,j,none⟩ (.slice vo (n+1:Nat) vc)):=by
 obtain⟨i0,hi,hz0,hz1,hz2⟩:=info_parts hi;have o10:W.ownsRow 0 79 16 (.slice (some (Ad X 0)) 1 1) 1 xs:=by have:=(h.rows 10 l10).1;rw[r10] at this;exact this
 have om:W.ownsRow 0 e z sv n ys:=by have:=(h.rows m lm).1;rw[rm] at this;exact this
 obtain⟨so,sc,rfl⟩:=bF om;have hXl:X<W.heap.size:=(o10.lt X rfl).2;obtain⟨S2,K2⟩:=h.mark F 9;have F3:Fr [] W2 (W2.alloc (.cells news.toArray e)):=(Fr.refl [] W2).alloc _;obtain⟨S3,K3⟩:=S2.mark F3 9;have hc:=mR W2 news.toArray e;generalize W2.alloc (.cells news.toArray e)=W3 at *;have om3:W3.ownsRow 0 e z (.slice so n sc) n ys:=by have:=(S3.rows m lm).1;rw[rm] at this;exact this
 obtain⟨v',W4,hr4,hown',hgrow,-,hwh⟩:=run_append_own_at (P:=prog) (w:=W3) 0 T T e i0 _ z bytes hu hi hz0 hz1 hz2 hzs hz _ _ _ om3 (Ad W2.heap.size 0) 1 1 news (by rw[Nat.one_mul];exact hnl) hc hone (by unfold maxLen;omega) (Nat.le_trans (Nat.mul_le_mul (show n+1≤1001 by omega) hb) (by decide)) (Nat.zero_le _);obtain⟨vo,vc,rfl⟩:=bF hown';obtain⟨S4,K4⟩:=S3.grow (i:=m) lm hown' (by rw[rm];exact hgrow) (by rw[rm];exact hwh);have r10':up R m ⟨.slice vo (n+1) vc,e,z,n+1,ys++news⟩ 10=⟨.slice (some (Ad X 0)) 1 1,79,16,1,xs⟩:=by rw[aE _ _ (by omega)];exact r10
 obtain⟨S5,K5⟩:=S4.put l10 r10' (j:=j) (by omega) (.slice vo (n+1) vc);have o4:W4.ownsRow 0 79 16 (.slice (some (Ad X 0)) 1 1) 1 xs:=by have:=(S4.rows 10 l10).1;rw[r10'] at this;exact this
 exact⟨so,sc,vo,vc,W4,_,rfl,hr4,(F.cell (p:=Ad X j) hXl (by simp)).trans (aF o10 hx),aF o4 hx,bB o4 j,S5,((K2.trans K3).trans K4).trans K5,(K3.trans K4).trans K5⟩
end
structure NwX where
 tv:Value
 pv:Value
 fv:Value
 rv:Value
 dv:Value
 gv:Value
 av:Value
def nwC (x:NwX):LV:=[x.tv,x.pv,x.fv,x.rv,x.dv,.int .i64 0,.string ⟨#[]⟩,.slice none 0 0,x.gv,x.av,.int .i64 0,.slice none 0 0,.int .i64 0,.int .i64 0,.string ⟨#[]⟩,.int .i64 0]
def lvN (i:Nat):Bool:=decide (i=10∨(12≤i∧i≤17))
def avN (ka:Nat) (A:NN) (i:Nat):LV:=[if i<ka then .map (some (A i)) else .map none,.slice none 0 0]
def fvN (E:Mach.Env) (code:Nat→Value × List Stp) (f:Nat):LV:=[.int .i64 (Mach.parOf E.mo f:Nat),(code f).1]
def RN (E:Mach.Env) (X:Nat) (x:NwX) (recs:LY) (draws:List Int) (kr kp kf ka:Nat) (pb A:NN) (code:Nat→Value × List Stp) (i:Nat):Rw:=
 if i=10 then ⟨.slice (some ⟨X,0,none⟩) 1 1,79,16,1,nwC x⟩
 else if i=12 then ⟨x.gv,135,3,E.mo.globs.toNat,rng E.mo.globs.toNat fun _=>vC Mach.nothing⟩
 else if i=13 then ⟨x.av,90,2,E.mo.arrs.toNat,rng E.mo.arrs.toNat (avN ka A)⟩
 else if i=14 then ⟨x.rv,9,1,kr,(recs.take kr).map .string⟩
 else if i=15 then ⟨x.pv,80,1,kp,rng kp fun i=>[ptr (pb i)]⟩
 else if i=16 then ⟨x.fv,87,2,kf,rng kf (fvN E code)⟩
 else ⟨x.dv,3,1,draws.length,draws.map (.int .i64)⟩
def mpN (ka:Nat) (A:NN) (i:Nat):Option (Nat × List (Value × Value)):=if 20≤i∧i<20+2*ka∧i % 2=0 then some (A ((i-20) / 2),[]) else none
structure Nw (E:Mach.Env) (W0:WL) (t0:NN) (X:Nat) (recs:LY) (draws:List Int) (x:NwX) (kr kp kf ka:Nat) (pb A:NN) (code:Nat→Value × List Stp) (w:WL) (tag:NN):Prop where
 S:Sto w tag lvN (RN E X x recs draws kr kp kf ka pb A code) (mpN ka A)
 K:Kp t0 tag W0 w
 pat:∀ i,i<kp→∃ t,E.mo.pats[i]?=some t∧pb i<w.heap.size∧tag (pb i)=9∧oK E w (pb i) t
 cod:∀ f,f<kf→jI E.mo w tag f (code f).1 (code f).2
section
variable {E:Mach.Env}{W0 w w' W2:WL}{t0 tag tag':NN}{X:Nat}{recs:LY}{draws:List Int}{x x':NwX}{kr kr' kp kf ka ka':Nat}{pb A A':NN}{code:Nat→Value × List Stp}
theorem Nw.turn (h:Nw E W0 t0 X recs draws x kr kp kf ka pb A code w tag)(S:Sto w' tag' lvN (RN E X x' recs draws kr' kp kf ka' pb A' code) (mpN ka' A'))(K:Kp tag tag' w w'):Nw E W0 t0 X recs draws x' kr' kp kf ka' pb A' code w' tag' where
 S:=S
 K:=h.K.trans K
 pat:=fun i hi=>by
  obtain⟨t,h1,h2,h3,h4⟩:=h.pat i hi
  exact⟨t,h1,Nll h2 K.size,(K.ret _ h2).trans h3,h4.of_block (K.blk _ h2 (by omega))⟩
 cod:=fun f hf=>(h.cod f hf).kp K
theorem Nw.fr (h:Nw E W0 t0 X recs draws x kr kp kf ka pb A code w tag)(F:Fr [] w w'):Nw E W0 t0 X recs draws x kr kp kf ka pb A code w' (aR tag w.heap.size 9):=h.turn (h.S.mark F 9).1 (h.S.mark F 9).2
theorem aXl:(prog.info? 80).map (fun i=>(i.zero,i.size,i.bytes))=some (some (.pointer none),1,8):=by kernel_rfl
theorem aXk:(prog.info? 87).map (fun i=>(i.zero,i.size,i.bytes))=some (some (.agg #[iA 0,.slice none 0 0]),2,32):=by kernel_rfl
def aRs (X j T e n:Nat) (news:LV) (sv:Value) (W2:WL) (N:Value→WL→Prop):Prop:=
 ∃ so sc vo vc W4,sv=.slice so n sc∧(Builtin.append_ #[T,T] T #[.slice so n sc,.slice (some ⟨W2.heap.size,0,none⟩) 1 1]).run prog (W2.alloc (.cells news.toArray e))=.ok (.slice vo (n+1:Nat) vc) W4∧W2.cell? ⟨X,j,none⟩=some (.slice so n sc)∧W4.cell? ⟨X,j,none⟩=some (.slice so n sc)∧W4.frozen? ⟨X,j,none⟩=false∧N (.slice vo (n+1:Nat) vc) (W4.setCell ⟨X,j,none⟩ (.slice vo (n+1:Nat) vc))
theorem Nw.rec_ (h:Nw E W0 t0 X recs draws x kr kp kf ka pb A code w tag)(F:Fr [] w W2){s:BA}(hs:recs[kr]?=some s)(hk:kr≤1000) :
  aRs X 3 22 9 kr [.string s] x.rv W2 (fun v W5=>∃ t5,Nw E W0 t0 X recs draws { x with rv:=v } (kr+1) kp kf ka pb A code W5 t5):=by
 obtain⟨so,sc,vo,vc,W4,t4,h1,h2,h3,h4,h5,h6,h7,h8⟩:=h.S.app (X:=X) (m:=14) (j:=3) (T:=22) aPl underlying22 rfl (by decide) rfl rfl (by decide) rfl rfl rfl (by decide) hk (by decide) (news:=[.string s]) rfl (by intro u hu;simp at hu;subst hu;rfl) F;refine⟨so,sc,vo,vc,W4,h1,h2,h3,h4,h5,t4,h.turn (h6.same fun i hi=>?_) h7⟩;have hi':i=10∨(12≤i∧i≤17):=by simpa [lvN] using hi
 by_cases e1:i=10
 ·subst e1;rw[aG];rfl
 rw[aE _ _ e1];by_cases e2:i=14
 ·subst e2;rw[aG];show Rw.mk _ 9 1 (kr+1) ((recs.take (kr+1)).map .string)=_;rw[List.take_add_one,hs];simp
 rw[aE _ _ e2];unfold RN;rw[if_neg e1,if_neg e1,if_neg e2,if_neg e2]
theorem Nw.pat_ (h:Nw E W0 t0 X recs draws x kr kp kf ka pb A code w tag)(F:Fr [] w W2){t:BA}{b:Nat} (ht:E.mo.pats[kp]?=some t) (hb:w.heap.size≤b) (hb2:b<W2.heap.size) (hP:oK E W2 b t) (hk:kp≤1000) :
  aRs X 1 73 80 kp [ptr b] x.pv W2 (fun v W5=>∃ t5 pb',Nw E W0 t0 X recs draws { x with pv:=v } kr (kp+1) kf ka pb' A code W5 t5):=by
 obtain⟨so,sc,vo,vc,W4,t4,h1,h2,h3,h4,h5,h6,h7,h8⟩:=h.S.app (X:=X) (m:=15) (j:=1) (T:=73) aXl underlying73 rfl (by decide) rfl rfl (by decide) rfl rfl rfl (by decide) hk (by decide) (news:=[ptr b]) rfl (by intro u hu;simp at hu;subst hu;rfl) F;refine⟨so,sc,vo,vc,W4,h1,h2,h3,h4,h5,t4,up pb kp b,h6.same fun i hi=>?_,h.K.trans h7,fun i hi=>?_,fun f hf=>(h.cod f hf).kp h7⟩
 ·have hi':i=10∨(12≤i∧i≤17):=by simpa [lvN] using hi
  by_cases e1:i=10
  ·subst e1;rw[aG];rfl
  rw[aE _ _ e1];by_cases e2:i=15
  ·subst e2;rw[aG];show Rw.mk _ 80 1 (kp+1) (rng (kp+1) fun i=>[ptr (up pb kp b i)])=_;rw[eN,aG,bK (g:=fun i=>[ptr (pb i)]) fun j hj=>by rw[aE _ _ (by omega)]]
  rw[aE _ _ e2];unfold RN;rw[if_neg e1,if_neg e1,if_neg e2,if_neg e2]
 by_cases e:i=kp
 ·subst e;rw[aG];exact⟨t,ht,Nll hb2 h8.size,(h8.ret _ hb2).trans (dK hb),hP.of_block (h8.blk _ hb2 (by rw[dK hb];decide))⟩
 rw[aE _ _ e];obtain⟨t,g1,g2,g3,g4⟩:=h.pat i (by omega);exact⟨t,g1,Nll g2 h7.size,(h7.ret _ g2).trans g3,g4.of_block (h7.blk _ g2 (by omega))⟩
theorem Nw.cod_ (h:Nw E W0 t0 X recs draws x kr kp kf ka pb A code w tag)(F:Fr [] w W2){c:Value × List Stp}{cg cn cc:Nat} (hc:c.1=.slice (some (Ad cg 0)) cn cc) (hC:jI E.mo W2 (aR tag w.heap.size 9) kf c.1 c.2) (hk:kf≤1000) :
  aRs X 2 74 87 kf [iA (Mach.parOf E.mo kf:Nat),c.1] x.fv W2 (fun v W5=>∃ t5 code',Nw E W0 t0 X recs draws { x with fv:=v } kr kp (kf+1) ka pb A code' W5 t5):=by
 obtain⟨so,sc,vo,vc,W4,t4,h1,h2,h3,h4,h5,h6,h7,h8⟩:=h.S.app (X:=X) (m:=16) (j:=2) (T:=74) aXk underlying74 rfl (by decide) rfl rfl (by decide) rfl rfl rfl (by decide) hk (by decide) (news:=[iA (Mach.parOf E.mo kf:Nat),c.1]) rfl (by intro u hu;simp at hu;rcases hu with rfl | rfl;rfl;rw[hc];rfl) F;refine⟨so,sc,vo,vc,W4,h1,h2,h3,h4,h5,t4,up code kf c,h6.same fun i hi=>?_,h.K.trans h7,fun i hi=>?_,fun f hf=>?_⟩
 ·have hi':i=10∨(12≤i∧i≤17):=by simpa [lvN] using hi
  by_cases e1:i=10
  ·subst e1;rw[aG];rfl
  rw[aE _ _ e1];by_cases e2:i=16
  ·subst e2;rw[aG];show Rw.mk _ 87 2 (kf+1) (rng (kf+1) (fvN E (up code kf c)))=_;rw[eN,bK (g:=fvN E code) fun j hj=>by unfold fvN;rw[aE _ _ (by omega)]];unfold fvN;rw[aG]
  rw[aE _ _ e2];unfold RN;rw[if_neg e1,if_neg e1,if_neg e2,if_neg e2]
 ·obtain⟨t,g1,g2,g3,g4⟩:=h.pat i hi;exact⟨t,g1,Nll g2 h7.size,(h7.ret _ g2).trans g3,g4.of_block (h7.blk _ g2 (by omega))⟩
 by_cases e:f=kf
 ·subst e;rw[aG];exact hC.kp h8
 rw[aE _ _ e];exact (h.cod f (by omega)).kp h7
theorem Nw.arr_ (h:Nw E W0 t0 X recs draws x kr kp kf ka pb A code w tag)(F:Fr [] w W2){b:Nat}(hb:w.heap.size≤b)(hM:dV W2 b []){ga cap:Nat}(hav:x.av=.slice (some (Ad ga 0)) E.mo.arrs.toNat cap)(hk:ka<E.mo.arrs.toNat) :
  ∃ t5 A',Nw E W0 t0 X recs draws x kr kp kf (ka+1) pb A' code ((W2.setCell ⟨ga,ka*2,none⟩ (.map (some b))).setCell ⟨ga,ka*2+1,none⟩ (.slice none 0 0)) t5:=by
 have h1:Sto W2 (aR tag w.heap.size (20+2*ka)) lvN (RN E X x recs draws kr kp kf ka pb A code) (up (mpN ka A) (20+2*ka) (some (b,[]))):=
  h.S.map (i:=20+2*ka) (by simp[lvN];omega) (by omega) (Chg.of_fr F) (fun k hk=>cD hk) hM (dK hb)
 have K1:Kp tag (aR tag w.heap.size (20+2*ka)) w W2:=Kp.of_fr F fun k hk=>cD hk;obtain⟨h2,K2⟩:=h1.put (i:=13) (g:=ga) (n:=E.mo.arrs.toNat) (cap:=cap) (z:=2) (e:=90) (xs:=rng E.mo.arrs.toNat (avN ka A)) rfl (by rw[← hav];rfl) (j:=ka*2) (by omega) (.map (some b));obtain⟨h3,K3⟩:=h2.put (i:=13) rfl (aG _ _ _) (j:=ka*2+1) (by omega) (.slice none 0 0);rw[xF] at h3;have em:up (mpN ka A) (20+2*ka) (some (b,[]))=mpN (ka+1) (up A ka b):=by
  funext i;unfold mpN;by_cases e:i=20+2*ka
  ·subst e;rw[aG,if_pos (by omega),show (20+2*ka-20) / 2=ka by omega,aG]
  rw[aE _ _ e];by_cases c:20≤i∧i<20+2*ka∧i % 2=0
  ·rw[if_pos c,if_pos (by omega),aE _ _ (by omega)]
  rw[if_neg c,if_neg (by omega)]
 refine⟨_,up A ka b,h.turn ?_ ((K1.trans K2).trans K3)⟩;rw[em] at h3;refine h3.same fun i hi=>?_;have hi':i=10∨(12≤i∧i≤17):=by simpa [lvN] using hi
 by_cases e1:i=13
 ·subst e1;rw[aG];show Rw.mk x.av 90 2 E.mo.arrs.toNat (rng E.mo.arrs.toNat (avN (ka+1) (up A ka b)))=_;rw[hav];congr 1;have e0:(rng E.mo.arrs.toNat (avN ka A)).set (ka*2) (.map (some b))=rng E.mo.arrs.toNat (up (avN ka A) ka ((avN ka A ka).set 0 (.map (some b)))):=jM (z:=2) (t:=0) (fun _ _=>rfl) hk (by decide) _;rw[e0,jM (z:=2) (t:=1) (fun j _=>by by_cases c:j=ka;subst c;rw[aG];rfl;rw[aE _ _ c];rfl) hk (by decide),aG,xF];refine bK fun j hj=>?_;by_cases e:j=ka
  ·subst e;rw[aG];unfold avN;rw[if_pos (by omega),aG];rfl
  rw[aE _ _ e];unfold avN;by_cases c:j<ka
  ·rw[if_pos c,if_pos (by omega),aE _ _ e]
  rw[if_neg c,if_neg (by omega)]
 rw[aE _ _ e1];unfold RN;split
 ·rfl
 split
 ·rfl
 rfl
end
theorem aOp (z:Array Value)(hz:0<z.size)(n:Nat):(madeCells z (n*z.size)).toList=rng n (fun _=>z.toList):=by
 have hl:(rng n (fun _=>z.toList)).length=n*z.size:=jO (fun _ _=>by simp);apply List.ext_getElem?;intro k;rcases Nat.lt_or_ge k (n*z.size) with hk | hk
 ·have h1:k / z.size<n:=Nat.div_lt_of_lt_mul (by rw[Nat.mul_comm];exact hk);have h2:k % z.size<z.size:=Nat.mod_lt _ hz;have h3:(rng n (fun _=>z.toList))[k / z.size*z.size+k % z.size]?=z.toList[k % z.size]?:=dC (fun _ _=>by simp) h1 h2;rw[Nat.div_add_mod'] at h3;rw[h3,Array.getElem?_toList,Array.getElem?_toList];unfold madeCells;rw[Array.getElem?_map,Array.getElem?_range,if_pos hk,Array.getElem?_eq_getElem h2];simp only[Option.map_some];rw[getElem!_pos z _ h2]
 rw[List.getElem?_eq_none (by rw[Array.length_toList,size_madeCells];exact hk),List.getElem?_eq_none (by rw[hl];exact hk)]
theorem s7 {w:WL}{g:Nat}{e:TypeId}{z:Array Value} (hz:0<z.size) {n:Nat} (hn:n≤100000) (h:w.heap[g]?=some (.cells (madeCells z (n*z.size)) e)):w.ownsRow 0 e z.size (.slice (some (Ad g 0)) n n) n (rng n fun _=>z.toList):=by
 refine⟨jO (fun _ _=>by simp),.inr ⟨g,n,_,rfl,Nat.zero_le _,h,Nat.le_refl _,by unfold maxLen;omega,size_madeCells _ _,?_⟩⟩;rw[aOp z hz];exact List.take_of_length_le (by rw[jO (z:=z.size) (fun _ _=>by simp)];exact Nat.le_refl _)
theorem aPh:(prog.info? 135).map (fun i=>(i.zero,i.size,i.bytes))=some (some (.agg #[.int .u8 0,iA 0,.string ⟨#[]⟩]),3,32):=by kernel_rfl
theorem aTx:(prog.info? 90).map (fun i=>(i.zero,i.size,i.bytes))=some (some (.agg #[.map none,.slice none 0 0]),2,32):=by kernel_rfl
theorem aSz (n:Nat)(hn:n≤100000)(W:WL):(Instr.makeSlice 71 (iA (n:Int)) (iA (n:Int))).run prog W=.ok (.slice (some (Ad W.heap.size 0)) n n) (W.alloc (.cells (madeCells #[.int .u8 0,iA 0,.string ⟨#[]⟩] (n*3)) 135)):=by
 obtain⟨i0,hi,hz0,hz1,hz2⟩:=info_parts aPh;have:=run_make (P:=prog) W 71 135 i0 _ underlying71 hi hz0 .i64 .i64 n n (by omega) (by omega) (by rw[hz2];omega) (by omega);simp only[Int.toNat_natCast,hz1] at this;exact this
theorem aWv (n:Nat)(hn:n≤100000)(W:WL):(Instr.makeSlice 72 (iA (n:Int)) (iA (n:Int))).run prog W=.ok (.slice (some (Ad W.heap.size 0)) n n) (W.alloc (.cells (madeCells #[.map none,.slice none 0 0] (n*2)) 90)):=by
 obtain⟨i0,hi,hz0,hz1,hz2⟩:=info_parts aTx;have:=run_make (P:=prog) W 72 90 i0 _ underlying72 hi hz0 .i64 .i64 n n (by omega) (by omega) (by rw[hz2];omega) (by omega);simp only[Int.toNat_natCast,hz1] at this;exact this
def aIt (t0:NN) (B X gg ga:Nat) (dv:Value) (k:Nat):Nat:=
 if k<B then t0 k else if k=X then 10 else if k=gg then 12 else if k=ga then 13 else if dv.ownBlock=some k then 17 else 9
section
variable {E:Mach.Env}{W0 w:WL}{t0:NN}{X gg ga:Nat}{recs:LY}{draws:List Int}
theorem aOf {tv dv:Value}{G A:Nat} (eG:E.mo.globs.toNat=G) (eA:E.mo.arrs.toNat=A) (F:Fr [] W0 w) (hG:G≤1000) (hA:A≤1000)
  (kX:w.heap[X]?=some (.cells (nwC ⟨tv,.slice none 0 0,.slice none 0 0,.slice none 0 0,dv,.slice (some (Ad gg 0)) G G,.slice (some (Ad ga 0)) A A⟩).toArray 79))
  (kg:w.heap[gg]?=some (.cells (madeCells #[.int .u8 0,iA 0,.string ⟨#[]⟩] (G*3)) 135)) (ka:w.heap[ga]?=some (.cells (madeCells #[.map none,.slice none 0 0] (A*2)) 90))
  (od:w.ownsRow W0.heap.size 3 1 dv draws.length (draws.map (.int .i64))) (bX:W0.heap.size≤X) (bg:W0.heap.size≤gg) (ba:W0.heap.size≤ga) (n1:X≠gg) (n2:X≠ga) (n3:gg≠ga) (nd:∀ g,dv.ownBlock=some g→g≠X∧g≠gg∧g≠ga) :
  Nw E W0 t0 X recs draws ⟨tv,.slice none 0 0,.slice none 0 0,.slice none 0 0,dv,.slice (some (Ad gg 0)) G G,.slice (some (Ad ga 0)) A A⟩ 0 0 0 0 (fun _=>0) (fun _=>0) (fun _=>(.slice none 0 0,[])) w (aIt t0 W0.heap.size X gg ga dv):=by
 subst eG eA
 exact {
 S:={
  rows:=fun i hi=>by
   have hi':i=10∨i=12∨i=13∨i=14∨i=15∨i=16∨i=17:=by
    have:i=10∨(12≤i∧i≤17):=by simpa [lvN] using hi
    omega
   have hnil:∀ (e:TypeId) (z:Nat),w.ownsRow 0 e z (.slice none 0 0) 0 []:=fun e z=>⟨by simp,.inl ⟨rfl,rfl⟩⟩
   rcases hi' with rfl | rfl | rfl | rfl | rfl | rfl | rfl
   ·exact⟨pL kX rfl,fun q hq=>by
     have:X=q:=by simpa [RN,Value.ownBlock] using hq
     subst this
     unfold aIt
     rw[if_neg (by omega),if_pos rfl]⟩
   ·exact⟨s7 (z:=#[.int .u8 0,iA 0,.string ⟨#[]⟩]) (by decide) (by omega) kg,fun q hq=>by
     have:gg=q:=by simpa [RN,Value.ownBlock] using hq
     subst this
     unfold aIt
     rw[if_neg (by omega),if_neg (by omega),if_pos rfl]⟩
   ·refine⟨?_,fun q hq=>by
     have:ga=q:=by simpa [RN,Value.ownBlock] using hq
     subst this
     unfold aIt
     rw[if_neg (by omega),if_neg (by omega),if_neg (by omega),if_pos rfl]⟩
    exact s7 (z:=#[.map none,.slice none 0 0]) (by decide) (by omega) ka
   ·exact⟨hnil _ _,Tg.nil _ _⟩
   ·exact⟨hnil _ _,Tg.nil _ _⟩
   ·exact⟨hnil _ _,Tg.nil _ _⟩
   ·refine⟨⟨od.1,od.2.imp id ?_⟩,fun q hq=>?_⟩
    ·rintro ⟨g,cap,cur,e1,e2,e3⟩
     exact⟨g,cap,cur,e1,Nat.zero_le _,e3⟩
    ·have hq:dv.ownBlock=some q:=hq
     obtain⟨a1,a2,a3⟩:=nd q hq
     have:=(od.lt q hq).1
     unfold aIt
     rw[if_neg (by omega),if_neg a1,if_neg a2,if_neg a3,if_pos hq]
  maps:=fun i b l h=>by
   unfold mpN at h
   rw[if_neg (by omega)] at h
   cases h
  far:=fun i hi=>by
   unfold mpN
   rw[if_neg (by omega)]
  num:=fun i h=>by
   rcases h with h | h
   ·have:i=10∨(12≤i∧i≤17):=by simpa [lvN] using h
    omega
   ·unfold mpN at h
    rw[if_neg (by omega)] at h
    exact absurd rfl h }
 K:=Kp.of_fr F fun k hk=>by unfold aIt;rw[if_pos hk]
 pat:=fun i hi=>absurd hi (by omega)
 cod:=fun i hi=>absurd hi (by omega) }
end
def rt (tag:NN) (k:Nat):Nat:=if 14≤tag k∧tag k≤17 then 9 else tag k
theorem aHh {tag:NN}{k:Nat} (h:tag k=9):rt tag k=9:=by unfold rt;rw[if_neg (by omega)];exact h
theorem aEl {tag:NN}{k:Nat} (h:14≤tag k) (h2:tag k≤17):rt tag k=9:=by unfold rt;rw[if_pos ⟨h,h2⟩]
theorem aEk {tag:NN}{k i:Nat} (h:tag k=i) (h2:i<14∨17<i):rt tag k=i:=by unfold rt;rw[if_neg (by omega)];exact h
section
variable {E:Mach.Env}{W W0 w:WL}{t0 tag:NN}{X:Nat}{recs:LY}{draws:List Int}{x:NwX}{pb A:NN}{code:Nat→Value × List Stp}
theorem aHj {e:TypeId}{v:Value}{n i:Nat}{xs:LV} (h:W.ownsRow 0 e 1 v n xs) (t:Tg tag v i) (h1:14≤i) (h2:i≤17):RoL W (rt tag) v xs:=by
 have hl:=h.1;rw[Nat.mul_one] at hl;subst hl;have h':=h;rcases h.2 with ⟨rfl,h0⟩ | ⟨g,cap,cur,rfl,hb,hg,hnc,hcm,r⟩
 ·exact⟨none,0,by rw[h0],by omega,by omega,fun h=>absurd h (by omega)⟩
 refine⟨_,cap,rfl,hnc,by unfold maxLen at hcm;omega,fun h0=>⟨g,0,rfl,(Age.1 hg).1,?_,fun j u hu=>?_⟩⟩
 ·have:=t g rfl;exact aEl (by omega) (by omega)
 rw[Nat.zero_add];exact aF h' hu
theorem jI.rt {m:Mo}{f:Nat}{cv:Value}{L:List Stp} (h:jI m W tag f cv L):jI m W (rt tag) f cv L:=by
 obtain⟨g,cap,T,h1,h2,h3,h4,h5⟩:=h.at_;exact⟨⟨g,cap,T,h1,h2,h3,aHh h4,h5⟩,h.reads,h.jump,h.len⟩
theorem Tg.rt {v:Value}{i:Nat} (h:Tg tag v i) (h2:i<14∨17<i):Tg (rt tag) v i:=fun g hg=>aEk (h g hg) h2
structure uG (W:WL):Prop where
 six:6≤W.heap.size
 pow:eL W
 mxl:∃ m:Int,W.cell? ⟨0,0,none⟩=some (.int .i64 m)
 tab:Tab W
theorem uG.fr {W W':WL}(h:uG W)(F:Fr [] W W'):uG W':=by
 obtain⟨m,hm⟩:=h.mxl;have:=h.six;exact⟨Nat.le_trans h.six F.size,h.pow.fr F,⟨m,(F.cell (p:=Ad 0 0) (by show 0<_;omega) (by simp)).trans hm⟩,h.tab.fr F (by simp)⟩
theorem Nw.begin_ (h:Nw E W0 t0 X recs draws x recs.length E.mo.pats.length E.mo.fns.length E.mo.arrs.toNat pb A code w tag)(hb:uG W0)(ht0:∀ k,k<W0.heap.size→t0 k<10)(htv:RoL W0 t0 x.tv (E.mo.texts.map .string))(h3:3≤E.mo.fns.length)(hf:E.mo.fns.length≤1000)(hp:E.mo.pats.length≤1000)(hA:E.mo.arrs.toNat≤1000) :
  Calls prog 39 #[ptr X,iA (0:Nat)] w fun e w'=>e=.returned cR∧∃ g tag',MM E X g (ms0 E.mo recs draws) w' tag'∧g.en=0∧Kp t0 tag' W0 w':=by
 have S:=h.S
 obtain⟨o16,t16⟩:=S.rows 16 rfl
 have o16:w.ownsRow 0 87 2 x.fv E.mo.fns.length (rng E.mo.fns.length (fvN E code)):=o16
 have t16:Tg tag x.fv 16:=t16
 obtain⟨gf,fc,hfv,hfc,hgf⟩:=fR o16 (by omega)
 obtain⟨o10,t10⟩:=S.rows 10 rfl
 have o10:w.ownsRow 0 79 16 (.slice (some (Ad X 0)) 1 1) 1 (nwC x):=o10
 have t10:tag X=10:=t10 X rfl
 have hgft:tag gf=16:=t16 gf (by rw[hfv];rfl)
 have hXgf:X≠gf:=by rintro rfl;omega
 have C:=h.cod 0 (by omega)
 obtain⟨gc,cc,T,v1,v2,v3,v4,v5,v6⟩:=C.at_
 have hcell:∀ f,f<E.mo.fns.length→w.cell? (Ad gf (f*2))=some (iA (Mach.parOf E.mo f:Nat))∧w.cell? (Ad gf (f*2+1))=some (code f).1:=fun f hf=>by
  rw[hfv] at o16
  have g0:=dC (n:=E.mo.fns.length) (z:=2) (f:=fvN E code) (fun _ _=>rfl) hf (t:=0) (by decide)
  have g1:=dC (n:=E.mo.fns.length) (z:=2) (f:=fvN E code) (fun _ _=>rfl) hf (t:=1) (by decide)
  exact⟨aF o16 (g0.trans rfl),aF o16 (g1.trans rfl)⟩
 refine (D8 X gf E.mo.fns.length fc 0 (code 0).2.length cc (some (Ad gc 0)) w hXgf (by rw[← hfv];exact aF o10 rfl) (by omega) hf (by rw[← v1];exact (hcell 0 (by omega)).2) (u10:=iA 0) (u11:=.slice none 0 0) (aF o10 rfl) (aF o10 rfl) (bB o10 _) (bB o10 _)).mono ?_
 rintro e w' ⟨he,hw'⟩
 refine⟨he,?_⟩
 rw[← v1] at hw'
 obtain⟨S1,K1⟩:=S.put (i:=10) rfl rfl (j:=10) (by omega) (iA ((0:Nat):Int))
 have hsz:(w.setCell ⟨X,10,none⟩ (.int .i64 ((0:Nat):Int))).heap.size=w.heap.size:=by simp[World.setCell]
 generalize w.setCell ⟨X,10,none⟩ (.int .i64 ((0:Nat):Int))=W1 at hw' S1 K1 hsz
 have hnew:=wan W1 (.cells (frZ (code 0).1).toArray 139)
 have F2:Fr [] W1 (W1.alloc (.cells (frZ (code 0).1).toArray 139)):=(Fr.refl [] W1).alloc _
 generalize W1.alloc (.cells (frZ (code 0).1).toArray 139)=W2 at hw' hnew F2
 rw[hsz] at hnew
 obtain⟨S2,K2⟩:=S1.new (i:=11) (r:=⟨.slice (some (Ad w.heap.size 0)) 1 1,139,51,1,frZ (code 0).1⟩) (by unfold mpN;rw[if_neg (by omega)]) (by omega) F2 (pL hnew (sO _)) (fun q hq=>by
  have:w.heap.size=q:=by simpa [Value.ownBlock] using hq
  omega)
 obtain⟨S4,K4⟩:=S2.put (i:=10) (by rw[aE _ _ (by decide)];rfl) (by rw[aE _ _ (by decide),aG]) (j:=11) (by omega) (.slice (some (Ad w.heap.size 0)) 1 1)
 rw[← hw'] at S4 K4
 have K:=(K1.trans K2).trans K4
 generalize aR tag W1.heap.size 11=tg at S4 K K4
 have K0:=h.K.trans K
 have KR:Kp t0 (rt tg) W0 w':=⟨K0.os,K0.tape,K0.output,K0.size,fun k hk=>by
  have e:=K0.ret k hk
  have:=ht0 k hk
  unfold rt
  rw[if_neg (by omega)]
  exact e,K0.blk⟩
 have F0:Fr [] W0 w':=⟨K0.os,K0.tape,K0.output,K0.size,fun k hk _=>K0.blk k hk (ht0 k hk)⟩
 have B:=hb.fr F0
 obtain⟨q10,r10⟩:=S4.rows 10 (by rw[aE _ _ (by decide)];rfl)
 obtain⟨q11,r11⟩:=S4.rows 11 (by rw[aG])
 obtain⟨q12,r12⟩:=S4.rows 12 (by rw[aE _ _ (by decide)];rfl)
 obtain⟨q13,r13⟩:=S4.rows 13 (by rw[aE _ _ (by decide)];rfl)
 obtain⟨q14,r14⟩:=S4.rows 14 (by rw[aE _ _ (by decide)];rfl)
 obtain⟨q15,r15⟩:=S4.rows 15 (by rw[aE _ _ (by decide)];rfl)
 obtain⟨q16,r16⟩:=S4.rows 16 (by rw[aE _ _ (by decide)];rfl)
 obtain⟨q17,r17⟩:=S4.rows 17 (by rw[aE _ _ (by decide)];rfl)
 rw[aG] at q10 r10
 rw[aE _ _ (by decide),aG] at q11 r11
 rw[aE _ _ (by decide),aE _ _ (by decide),aE _ _ (by decide)] at q12 r12 q13 r13 q14 r14 q15 r15 q16 r16 q17 r17
 have q16:w'.ownsRow 0 87 2 x.fv E.mo.fns.length (rng E.mo.fns.length (fvN E code)):=q16
 have r16:Tg tg x.fv 16:=r16
 have q15:w'.ownsRow 0 80 1 x.pv E.mo.pats.length (rng E.mo.pats.length fun i=>[ptr (pb i)]):=q15
 have r15:Tg tg x.pv 15:=r15
 have hmaps:∀ i,i<E.mo.arrs.toNat→dV w' (A i) []∧rt tg (A i)=20+2*i:=fun i hi=>by
  obtain⟨m1,m2⟩:=S4.maps (20+2*i) (A i) [] (by unfold mpN;rw[if_pos (by omega),show (20+2*i-20) / 2=i by omega])
  exact⟨m1,aEk m2 (by omega)⟩
 have hgf':gf<w'.heap.size:=Nll hgf K.size
 have htgf:tg gf=16:=r16 gf (by rw[hfv];rfl)
 let mx:Mx:={ tv:=x.tv,pv:=x.pv,fv:=x.fv,rv:=x.rv,dv:=x.dv,flv:=.slice none 0 0,gv:=x.gv,av:=x.av,frv:=.slice (some (Ad w.heap.size 0)) 1 1,entry:=0,F:=fun _=>⟨(code 0).1,0,.slice none 0 0,fun _=>0⟩,A:=fun i=>(A i,.slice none 0 0),code:=code }
 have sta:Sta E w' (rt tg) x.tv x.pv x.fv code:={
  pow:=B.pow
  low:=fun k hk=>by
   have h6:=hb.six
   have hk':k<W0.heap.size:=by omega
   rw[KR.ret k hk']
   exact ht0 k hk'
  mxl:=B.mxl
  tab:=B.tab
  txt:=htv.kp KR
  fns:=⟨gf,fc,hfv,hgf',aEl (by omega) (by omega),hf,fun f hf=>by
   rw[hfv] at q16
   have g0:=dC (n:=E.mo.fns.length) (z:=2) (f:=fvN E code) (fun _ _=>rfl) hf (t:=0) (by decide)
   have g1:=dC (n:=E.mo.fns.length) (z:=2) (f:=fvN E code) (fun _ _=>rfl) hf (t:=1) (by decide)
   exact⟨aF q16 (g0.trans rfl),aF q16 (g1.trans rfl)⟩⟩
  code:=fun f hf=>((h.cod f hf).kp K).rt
  pat:=by
   obtain⟨o,c,hpv⟩:=bF q15
   refine⟨o,c,hpv,hp,fun i t hi=>?_⟩
   have hin:=(Lgs.1 hi).1
   obtain⟨t',p1,p2,p3,p4⟩:=h.pat i hin
   rw[hi] at p1
   cases p1
   obtain⟨gp,cap,e1,-,e3⟩:=fR q15 (by omega)
   rw[e1] at hpv q15
   cases hpv
   have g0:=dC (n:=E.mo.pats.length) (z:=1) (f:=fun i=>[ptr (pb i)]) (fun _ _=>rfl) hin (t:=0) (by decide)
   rw[Nat.mul_one,Nat.add_zero] at g0
   have:=r15 gp (by rw[e1];rfl)
   exact⟨gp,pb i,rfl,e3,aEl (by omega) (by omega),aF q15 (g0.trans rfl),Nll p2 K.size,aHh ((K.ret _ p2).trans p3),p4.of_block (K.blk _ p2 (by omega))⟩ }
 refine⟨⟨w.heap.size,x.gv,x.av,0,x.pv,code⟩,rt tg,?_,rfl,KR⟩
 refine aOm (x:=mx) (gF:=w.heap.size) B.six h3 hA (xW C.reads) sta rfl q10 rfl ?_ ⟨rfl,rfl,rfl⟩ q12 ?_ (fun _ _=>rfl) (aEk (r10 X rfl) (by omega)) (r11.rt (by omega)) (r12.rt (by omega)) (r13.rt (by omega)) hmaps ?_ (aHj q17 r17 (by omega) (by omega)) rfl
 ·have e:frC (mx.F 0) (Mach.enter E.mo 0 [])=frZ (code 0).1:=by
   unfold frZ frC Mach.enter
   simp only[List.nil_append,List.length_nil,Nat.sub_zero,nM]
   rfl
  rw[e]
  exact q11
 ·refine Eq.mp (congrArg _ (bK fun j hj=>?_)) q13
  show avN _ A j=_
  unfold avN
  rw[if_pos hj]
 ·have:RoL w' (rt tg) x.rv ((recs.take recs.length).map .string):=aHj q14 r14 (by omega) (by omega)
  rw[List.take_length] at this
  exact this
end
theorem aAg (m:Mo)(t:BA)(W:WL)(ht:t.size≤50)(hok:nE t=true)(hT:Tab W) :
  Calls prog 36 #[.string t] W fun e w=>∃ b,e=.returned (.tuple #[ptr b,iA 0,iA 0])∧Fr [] W w∧W.heap.size≤b∧b<w.heap.size∧oK (eE m) w b t:=by
 refine (aAd t W ht hT).mono ?_;rintro e w ⟨F,h⟩;rw[if_pos hok] at h;obtain⟨b,hb,he,hP⟩:=h;exact⟨b,he,F,hb,hP.lt,aSq ht hP⟩
theorem aAf (mv:Value)(m:Mo)(w:WL)(f:Nat)(hM:gY w mv m)(hMo:zH m)(hf:f<m.fns.length)(hF:Mach.FnOk m f) :
  Calls prog 37 #[mv,iA f] w fun e w'=>∃ g cap l,e=.returned (.tuple #[.slice (some (Ad g 0)) (l:List Stp).length cap,iA 0,iA 0])∧Fr [] w w'∧w.heap.size≤g∧∀ tag:NN,tag g=9→jI m w' tag f (.slice (some (Ad g 0)) l.length cap) l:=by
 obtain⟨x,hx⟩:∃ x,m.fns[f]?=some x:=⟨_,Lge hf⟩;have e1:Mach.fnOf m f=x:=by
  unfold Mach.fnOf;rw[List.getD_eq_getElem?_getD,hx];rfl
 obtain⟨l0,h1,h2,h3⟩:=hF;have hr:eO m f x.locs.toNat (bl x.code) l0:=by
  unfold Mach.locsOf Mach.codeOf at h1;rw[e1] at h1;exact h1
 refine (p9 mv m w f x hM hMo hx).mono ?_;rintro e w' ⟨F,⟨j,y,rfl,hy,-,-,h⟩ | ⟨a0,cap,g,l,T,rfl,hl,hj,hc,hg⟩⟩
 ·rcases h with h | ⟨l,hl,hb,-⟩
  ·exact (iE hr h).elim
  have:=jT hr hl;subst this;rw[h2] at hb;cases hb
 have:=jT hr hl;subst this;have hne:0<l0.length:=by
  rcases Nat.eq_zero_or_pos l0.length with h0 | h0
  ·exfalso;obtain⟨G,hG⟩:=h3;have hn:l0=[]:=List.eq_nil_of_length_eq_zero h0;subst hn;have h1:=hG.first;have h2:=hG.size;rw[List.eq_nil_of_length_eq_zero h2] at h1;cases h1
  exact h0
 obtain⟨rfl,q1,q2,q3,q4⟩:=hg hne;refine⟨g,cap,l0,rfl,F,q2,fun tag ht=>⟨⟨g,cap,T,rfl,hc,q1,ht,⟨q3.len,q3.cell⟩,q4⟩,h1,h2,?_⟩⟩;have hs:=(hMo.f.p x (List.mem_of_getElem? hx)).2.2.2.2;have:=cF.le hl (by omega);rw[aO] at this;omega
def NwP (E:Mach.Env) (W0:WL) (t0:NN) (X:Nat) (recs:LY) (draws:List Int) (tv av:Value) (kr kp kf ka:Nat) (w:WL):Prop:=
 ∃ x pb A code tag,x.tv=tv∧x.av=av∧Nw E W0 t0 X recs draws x kr kp kf ka pb A code w tag
def aRr (X j T e n:Nat) (news:LV) (so:OA) (sc:Nat) (W2:WL) (N:WL→Prop):Prop:=
 ∃ vo vc W4,(Builtin.append_ #[T,T] T #[.slice so n sc,.slice (some ⟨W2.heap.size,0,none⟩) 1 1]).run prog (W2.alloc (.cells news.toArray e))=.ok (.slice vo (n+1:Nat) vc) W4∧W4.cell? ⟨X,j,none⟩=some (.slice so n sc)∧W4.frozen? ⟨X,j,none⟩=false∧N (W4.setCell ⟨X,j,none⟩ (.slice vo (n+1:Nat) vc))
section
variable {E:Mach.Env}{W0 w w' W2:WL}{t0 tag tag':NN}{X:Nat}{recs:LY}{draws:List Int}{x:NwX}{tv av:Value}{kr kp kf ka:Nat}{pb A:NN}{code:Nat→Value × List Stp}
theorem aRs.q {j T e n:Nat}{news:LV}{so:OA}{sc:Nat}{N:Value→WL→Prop}{M:WL→Prop} (h:aRs X j T e n news (.slice so n sc) W2 N) (hN:∀ v W5,N v W5→M W5):aRr X j T e n news so sc W2 M:=by
 obtain⟨so',sc',vo,vc,W4,h1,h2,h3,h4,h5,h6⟩:=h;cases h1;exact⟨vo,vc,W4,h2,h4,h5,hN _ _ h6⟩
theorem Nw.row (h:Nw E W0 t0 X recs draws x kr kp kf ka pb A code w tag):w.ownsRow 0 79 16 (.slice (some (Ad X 0)) 1 1) 1 (nwC x):=(h.S.rows 10 rfl).1
theorem NwP.old (h:NwP E W0 t0 X recs draws tv av kr kp kf ka w)(ht:∀ k,k<W0.heap.size→t0 k<10):Fr [] W0 w:=by
 obtain⟨x,pb,A,code,tag,-,-,h⟩:=h;exact⟨h.K.os,h.K.tape,h.K.output,h.K.size,fun k hk _=>h.K.blk k hk (ht k hk)⟩
theorem NwP.rec_ (h:NwP E W0 t0 X recs draws tv av kr kp kf ka w){s:BA}(hs:recs[kr]?=some s)(hk:kr≤1000) :
  ∃ so sc,w.cell? (Ad X 3)=some (.slice so kr sc)∧X<w.heap.size∧∀ W2,Fr [] w W2→aRr X 3 22 9 kr [.string s] so sc W2 (NwP E W0 t0 X recs draws tv av (kr+1) kp kf ka):=by
 obtain⟨x,pb,A,code,tag,e1,e2,h⟩:=h;have o:=h.row;obtain⟨so,sc,hv⟩:=bF (show w.ownsRow 0 9 1 x.rv kr _ from (h.S.rows 14 rfl).1);refine⟨so,sc,by rw[← hv];exact aF o rfl,(o.lt X rfl).2,fun W2 F=>?_⟩;have:=h.rec_ F hs hk;rw[hv] at this;exact this.q fun v W5 ⟨t5,h5⟩=>⟨{ x with rv:=v },_,_,_,t5,e1,e2,h5⟩
theorem NwP.pat_ (h:NwP E W0 t0 X recs draws tv av kr kp kf ka w){t:BA}(ht:E.mo.pats[kp]?=some t)(hk:kp≤1000) :
  ∃ so sc,w.cell? (Ad X 1)=some (.slice so kp sc)∧X<w.heap.size∧∀ W2 b,Fr [] w W2→w.heap.size≤b→b<W2.heap.size→oK E W2 b t→aRr X 1 73 80 kp [ptr b] so sc W2 (NwP E W0 t0 X recs draws tv av kr (kp+1) kf ka):=by
 obtain⟨x,pb,A,code,tag,e1,e2,h⟩:=h;have o:=h.row;obtain⟨so,sc,hv⟩:=bF (show w.ownsRow 0 80 1 x.pv kp _ from (h.S.rows 15 rfl).1);refine⟨so,sc,by rw[← hv];exact aF o rfl,(o.lt X rfl).2,fun W2 b F h1 h2 h3=>?_⟩;have:=h.pat_ F ht h1 h2 h3 hk;rw[hv] at this;exact this.q fun v W5 ⟨t5,pb',h5⟩=>⟨{ x with pv:=v },_,_,_,t5,e1,e2,h5⟩
theorem NwP.cod_ (h:NwP E W0 t0 X recs draws tv av kr kp kf ka w)(hk:kf≤1000) :
  ∃ so sc,w.cell? (Ad X 2)=some (.slice so kf sc)∧X<w.heap.size∧∀ W2 (l:List Stp) (g cap:Nat),Fr [] w W2→w.heap.size≤g→(∀ tag:NN,tag g=9→jI E.mo W2 tag kf (.slice (some (Ad g 0)) l.length cap) l)→aRr X 2 74 87 kf [iA (Mach.parOf E.mo kf:Nat),.slice (some (Ad g 0)) l.length cap] so sc W2 (NwP E W0 t0 X recs draws tv av kr kp (kf+1) ka):=by
 obtain⟨x,pb,A,code,tag,e1,e2,h⟩:=h;have o:=h.row;obtain⟨so,sc,hv⟩:=bF (show w.ownsRow 0 87 2 x.fv kf _ from (h.S.rows 16 rfl).1);refine⟨so,sc,by rw[← hv];exact aF o rfl,(o.lt X rfl).2,fun W2 l g cap F h1 h2=>?_⟩;have:=h.cod_ F (c:=(.slice (some (Ad g 0)) l.length cap,l)) rfl (h2 _ (dK h1)) hk;rw[hv] at this;exact this.q fun v W5 ⟨t5,c',h5⟩=>⟨{ x with fv:=v },_,_,_,t5,e1,e2,h5⟩
theorem NwP.av9 (h:NwP E W0 t0 X recs draws tv av kr kp kf ka w):∃ o cap,av=.slice o E.mo.arrs.toNat cap∧w.cell? (Ad X 9)=some av∧X<w.heap.size∧(0<E.mo.arrs.toNat→∃ ga,o=some (Ad ga 0)∧X≠ga∧ga<w.heap.size∧∀ i,i<E.mo.arrs.toNat*2→(∃ u,w.cell? (Ad ga i)=some u)∧w.frozen? (Ad ga i)=false):=by
 obtain⟨x,pb,A,code,tag,e1,rfl,h⟩:=h;have o:=h.row;obtain⟨o13,t13⟩:=h.S.rows 13 rfl;have o13:w.ownsRow 0 90 2 x.av E.mo.arrs.toNat (rng E.mo.arrs.toNat (avN ka A)):=o13;have t13:Tg tag x.av 13:=t13;obtain⟨so,sc,hv⟩:=bF o13;refine⟨so,sc,hv,aF o rfl,(o.lt X rfl).2,fun h0=>?_⟩;obtain⟨ga,cap,e,-,hg⟩:=fR o13 h0;rw[e] at hv o13;cases hv;refine⟨ga,rfl,?_,hg,fun i hi=>⟨?_,bB o13 i⟩⟩
 ·rintro rfl;have h1:=t13 X (by rw[e];rfl);have h2:tag X=10:=(h.S.rows 10 rfl).2 X rfl;omega
 have hl:=o13.1;exact⟨_,aF o13 (Lge (show i<_ by rw[hl];exact hi))⟩
theorem NwP.arr_ (h:NwP E W0 t0 X recs draws tv av kr kp kf ka w){ga cap b:Nat}(F:Fr [] w W2)(hb:w.heap.size≤b)(hM:dV W2 b [])(hav:av=.slice (some (Ad ga 0)) E.mo.arrs.toNat cap)(hk:ka<E.mo.arrs.toNat) :
  NwP E W0 t0 X recs draws tv av kr kp kf (ka+1) ((W2.setCell ⟨ga,ka*2,none⟩ (.map (some b))).setCell ⟨ga,ka*2+1,none⟩ (.slice none 0 0)):=by
 obtain⟨x,pb,A,code,tag,e1,rfl,h⟩:=h;obtain⟨t5,A',h5⟩:=h.arr_ F hb hM hav hk;exact⟨_,_,_,_,t5,e1,rfl,h5⟩
end
end Go.Proofs.YtlokkgajpjafmaaGreatDoor
