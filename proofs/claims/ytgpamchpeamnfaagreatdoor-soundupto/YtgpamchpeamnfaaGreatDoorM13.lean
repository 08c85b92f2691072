/-
  Texts Nh Ni Nm No Nj Nk Nl Np Im.
-/
import Derived.Deep.CutRange
import Derived.Deep.RegionHeld
import Derived.Test.YtgpamchpeamnfaaGreatDoorMA
import Derived.Test.YtgpamchpeamnfaaGreatDoorM12
import Derived.Test.YtgpamchpeamnfaaGreatDoorM05
import Derived.Test.YtgpamchpeamnfaaGreatDoorM06
import Derived.Test.YtgpamchpeamnfaaGreatDoorM04
set_option linter.unusedSimpArgs false
set_option linter.unusedVariables false
set_option maxRecDepth 100000
set_option maxHeartbeats 40000000
open _root_.Go.Proofs.Tryz
namespace Go.Proofs.YtgpamchpeamnfaaGreatDoor
open Go.RowKit
open Wire
theorem aOd:(prog.info? 47).map (fun i=>(i.zero,i.size,i.bytes))=some (some (.agg #[.int .i64 0,.int .i64 0,.string ⟨#[]⟩]),3,32):=by kernel_rfl
def sX (n:Nat) (l:List UInt8) (R:Sta × List Wire.Fn) (acc:List Wire.Fn):Sta→Prop
 | .inl f=>R.1=.inl f
 | .inr p=>aIv acc p.2 (vO p.2 (n-acc.length) acc.length (seg l p.1 p.2))=R
theorem sX.stop {n:Nat}{b:ByteArray}{R:Sta × List Wire.Fn}{acc:List Wire.Fn}{s:Sta} (h:sX n (bl b) R acc s) (hok:cJ (bl b) s) (hd:acc.length=n∨∃ f,s=.inl f) :
  s=R.1∧((∃ p,R.1=.inr p)→acc=R.2):=by
 rcases s with f | ⟨a,e⟩
 ·simp only[sX] at h
  exact⟨h.symm,fun ⟨p,hp⟩=>by rw[h] at hp;cases hp⟩
 ·obtain⟨o1,o2⟩:=hok
  rcases hd with hd | ⟨f,hf⟩
  ·simp only[sX,hd,Nat.sub_self,vO,aIv] at h
   rw[bS o2] at h
   rw[← h]
   refine⟨?_,fun _=>by simp⟩
   simp only
   congr 2
   omega
  ·cases hf
def fnC (f:Wire.Fn):List Value:=[.int .i64 f.params,.int .i64 f.locs,.string f.code]
theorem bCr (L:List Wire.Fn)(i t:Nat)(f:Wire.Fn)(hi:L[i]?=some f)(ht:t<3):(L.flatMap fnC)[i*3+t]?=(fnC f)[t]?:=by
 induction L generalizing i with
 | nil=>cases hi
 | cons a L ih=>
  rw[List.flatMap_cons]
  cases i with
  | zero=>
   simp at hi
   subst hi
   rw[List.getElem?_append_left (by simp[fnC];omega)]
   simp
  | succ i=>
   rw[List.getElem?_append_right (by simp[fnC];omega)]
   have e:(i+1)*3+t-(fnC a).length=i*3+t:=by simp[fnC];omega
   rw[e]
   exact ih i (by simpa using hi)
theorem bGs (L:List Wire.Fn):(L.flatMap fnC).length=L.length*3:=by
 induction L with
 | nil=>rfl
 | cons a L ih=>rw[List.flatMap_cons,Lla,ih,List.length_cons];simp[fnC];omega
structure rU (r:Nat) (w0:World) (L:List Wire.Fn) (v:Value) (W:World):Prop where
 own:W.ownsRow w0.heap.size 47 3 v L.length (L.flatMap fnC)
 fr:Fr [r] w0 W
theorem rU.start {r:Nat}{w0 w1:World} (hf:Fr [r] w0 w1):rU r w0 [] (.slice none 0 0) w1:=⟨World.ownsRow_nil _ _ _ _,hf⟩
theorem rU.kept {r:Nat}{w0:World}{L:List Wire.Fn}{v:Value}{W W':World} (h:rU r w0 L v W) (hr:r<w0.heap.size) (hf:Fr [r] W W'):rU r w0 L v W':=⟨aHa h.own hr hf,h.fr.trans hf⟩
theorem rU.grown {r:Nat}{w0:World}{L:List Wire.Fn}{v v':Value}{W W':World}{s:Wire.Fn} (h:rU r w0 L v W) (hown:W'.ownsRow w0.heap.size 47 3 v' (L.length+1) (L.flatMap fnC++fnC s)) (hg:W.grownBy W' v.ownBlock):rU r w0 (L++[s]) v' W':=
 ⟨by rw[Lla,List.flatMap_append];simpa using hown,aIq h.own h.fr hg⟩
theorem rU.form {r:Nat}{w0:World}{L:List Wire.Fn}{v:Value}{W:World} (h:rU r w0 L v W):∃ a0 cap,v=.slice a0 L.length cap:=by
 rcases h.own.2 with ⟨hv,h0⟩ | ⟨g,cap,cur,hv,_⟩
 ·exact⟨none,0,by rw[hv,h0]⟩
 ·exact⟨_,cap,hv⟩
def eN (B:Nat) (W:World) (v:Value) (L:List Wire.Fn):Prop:=
 ∃ (a0:Option Addr) (cap g off:Nat),v=.slice a0 L.length cap∧L.length≤cap∧(0<L.length→a0=some ⟨g,off,none⟩∧g<W.heap.size∧B≤g) ∧
  (∀ (i:Nat) (x:Wire.Fn),L[i]?=some x→W.cell? ⟨g,off+i*3,none⟩=some (.int .i64 x.params)∧W.cell? ⟨g,off+i*3+1,none⟩=some (.int .i64 x.locs)∧W.cell? ⟨g,off+i*3+2,none⟩=some (.string x.code))∧W.ownsRow B 47 3 v L.length (L.flatMap fnC)
theorem eN.fns {B:Nat}{W:World}{v:Value}{L:List Wire.Fn} (h:eN B W v L):r9 W v L:=by
 obtain⟨a0,cap,g,off,h1,h2,h3,h4,h5⟩:=h
 exact⟨a0,cap,g,off,h1,h2,fun h=>⟨(h3 h).1,(h3 h).2.1⟩,h4⟩
theorem eN.fr {B:Nat}{S:List Nat}{W W':World}{v:Value}{L:List Wire.Fn} (h:eN B W v L) (hf:Fr S W W') (hS:∀ x,x ∈ S→x<B):eN B W' v L:=by
 obtain⟨a0,cap,g,off,h1,h2,h3,h4,h5⟩:=h
 refine⟨a0,cap,g,off,h1,h2,fun h=>⟨(h3 h).1,Nll (h3 h).2.1 hf.size,(h3 h).2.2⟩,fun i x hi=>?_,vK h5 hf hS⟩
 have h0:0<L.length:=by have:=(Lgs.1 hi).1;omega
 have hn:g ∉ S:=fun hm=>by have:=hS g hm;have:=(h3 h0).2.2;omega
 obtain⟨x0,x1,x2⟩:=h4 i x hi
 exact⟨(hf.cell (p:=⟨g,off+i*3,none⟩) (h3 h0).2.1 hn).trans x0,(hf.cell (p:=⟨g,off+i*3+1,none⟩) (h3 h0).2.1 hn).trans x1,(hf.cell (p:=⟨g,off+i*3+2,none⟩) (h3 h0).2.1 hn).trans x2⟩
theorem iB (g j:Nat):(⟨g,0,none⟩:Addr).add j=⟨g,j,none⟩:=by cases j <;> simp[Addr.add]
theorem rU.far {r:Nat}{w0:World}{L:List Wire.Fn}{v:Value}{W:World} (h:rU r w0 L v W):eN w0.heap.size W v L:=by
 rcases h.own.2 with ⟨hv,h0⟩ | ⟨g,cap,cur,hv,hb,hg,hn,_⟩
 ·have hL:=List.eq_nil_of_length_eq_zero h0
  subst hL
  exact⟨none,0,0,0,hv,Nat.le_refl _,fun h=>absurd h (Nat.lt_irrefl _),(fun i x hx=>by cases hx),h.own⟩
 ·refine⟨some ⟨g,0,none⟩,cap,g,0,hv,hn,fun _=>⟨rfl,(Age.1 hg).1,hb⟩,fun i x hx=>?_,h.own⟩
  have hc:=fun t ht u hu=>h.own.cells (g:=g) (by rw[hv];rfl) (i*3+t) u ((bCr L i t x hx ht).trans hu)
  simp only[iB] at hc
  simp only[Nat.zero_add]
  exact⟨hc 0 (by omega) _ rfl,hc 1 (by omega) _ rfl,hc 2 (by omega) _ rfl⟩
theorem yA (f:Wire.Fn):∀ u ∈ fnC f,u.oneCell'=true:=by
 intro u hu
 simp only[fnC,List.mem_cons,List.not_mem_nil,or_false] at hu
 rcases hu with rfl | rfl | rfl <;> rfl
theorem yB (w:World)(p l:Int)(c:ByteArray):∀ j u,[Value.int .i64 p,Value.int .i64 l,Value.string c][j]?=some u→(w.alloc (.cells #[.int .i64 p,.int .i64 l,.string c] 47)).cell? ((⟨w.heap.size,0,none⟩:Addr).add j)=some u:=by
 intro j u hj
 have hm:=wan w (.cells #[.int .i64 p,.int .i64 l,.string c] 47)
 rw[iB]
 unfold World.cell?
 rw[hm]
 simpa using hj
structure fF (B:Nat) (r rb mb:Nat) (o0 o1:Option (List ByteArray)) (o2 o3:Option Nat) (o4:Option (List Wire.Fn)) (W:World):Prop where
 tab:Tab W
 rc:W.cell? ⟨rb,0,none⟩=some (.pointer (some ⟨r,0,none⟩))
 m0:∃ v L,W.cell? ⟨mb,0,none⟩=some v∧bW B W v L∧∀ X,o0=some X→L=X
 m1:∃ v L,W.cell? ⟨mb,1,none⟩=some v∧bW B W v L∧∀ X,o1=some X→L=X
 m2:∃ n:Nat,W.cell? ⟨mb,2,none⟩=some (.int .i64 n)∧∀ X,o2=some X→n=X
 m3:∃ n:Nat,W.cell? ⟨mb,3,none⟩=some (.int .i64 n)∧∀ X,o3=some X→n=X
 m4:∃ v L,W.cell? ⟨mb,4,none⟩=some v∧eN B W v L∧∀ X,o4=some X→L=X
 fz:∀ i,W.frozen? ⟨mb,i,none⟩=false
 dis:∀ v0 v1 g,W.cell? ⟨mb,0,none⟩=some v0→W.cell? ⟨mb,1,none⟩=some v1→v0.ownBlock=some g→v1.ownBlock=some g→False
 n0:r≠5
 n1:mb≠6
 n2:r≠mb
 n3:r≠rb
 n4:mb≠rb
 lr:r<B
 lm:mb<B
 lB:B≤W.heap.size
variable {B r rb mb : Nat} {o0 o1 : Option (List ByteArray)} {o2 o3 : Option Nat} {o4 : Option (List Wire.Fn)} {W W' : World}
theorem fF.ltm (h:fF B r rb mb o0 o1 o2 o3 o4 W):mb<W.heap.size:=Nll h.lm h.lB
theorem fF.ltr (h:fF B r rb mb o0 o1 o2 o3 o4 W):rb<W.heap.size:=aC (a:=⟨rb,0,none⟩) h.rc
theorem fF.fr (h:fF B r rb mb o0 o1 o2 o3 o4 W)(hf:Fr [r] W W'):fF B r rb mb o0 o1 o2 o3 o4 W':=by
 have hS:∀ x,x ∈ [r]→x<B:=fun x hx=>by have:=h.lr;simp at hx;omega
 have cm:∀ i,W'.cell? ⟨mb,i,none⟩=W.cell? ⟨mb,i,none⟩:=fun i=>hf.cell (p:=⟨mb,i,none⟩) h.ltm (by simpa using fun e=>h.n2 e.symm)
 obtain⟨v0,L0,a0,b0,c0⟩:=h.m0
 obtain⟨v1,L1,a1,b1,c1⟩:=h.m1
 obtain⟨n2,a2,c2⟩:=h.m2
 obtain⟨n3,a3,c3⟩:=h.m3
 obtain⟨v4,L4,a4,b4,c4⟩:=h.m4
 refine⟨h.tab.fr hf (by simpa using fun e=>h.n0 e.symm),(hf.cell (p:=⟨rb,0,none⟩) h.ltr (by simpa using fun e=>h.n3 e.symm)).trans h.rc,⟨v0,L0,(cm 0).trans a0,b0.fr hf hS,c0⟩,⟨v1,L1,(cm 1).trans a1,b1.fr hf hS,c1⟩,
  ⟨n2,(cm 2).trans a2,c2⟩,⟨n3,(cm 3).trans a3,c3⟩,⟨v4,L4,(cm 4).trans a4,b4.fr hf hS,c4⟩,fun i=>(hf.frozen (p:=⟨mb,i,none⟩) h.ltm (by simpa using fun e=>h.n2 e.symm)).trans (h.fz i),fun w0 w1 g j0 j1=>h.dis w0 w1 g ((cm 0).symm.trans j0) ((cm 1).symm.trans j1),h.n0,h.n1,h.n2,h.n3,h.n4,h.lr,h.lm,Nat.le_trans h.lB hf.size⟩
theorem cG (W:World)(mb i:Nat)(v:Value):Fr [mb] W (W.setCell ⟨mb,i,none⟩ v):=(Fr.refl [mb] W).setCell (p:=⟨mb,i,none⟩) (.inl (by simp)) _
theorem bW.base {B B':Nat}{W:World}{v:Value}{L:List ByteArray} (h:bW B W v L) (hb:B'≤B):bW B' W v L:=by
 obtain⟨a0,cap,g,off,h1,h2,h3,h4,h5⟩:=h
 exact⟨a0,cap,g,off,h1,h2,fun h=>⟨(h3 h).1,(h3 h).2.1,Nat.le_trans hb (h3 h).2.2⟩,h4,D1 h5 hb⟩
theorem eN.base {B B':Nat}{W:World}{v:Value}{L:List Wire.Fn} (h:eN B W v L) (hb:B'≤B):eN B' W v L:=by
 obtain⟨a0,cap,g,off,h1,h2,h3,h4,h5⟩:=h
 exact⟨a0,cap,g,off,h1,h2,fun h=>⟨(h3 h).1,(h3 h).2.1,Nat.le_trans hb (h3 h).2.2⟩,h4,D1 h5 hb⟩
theorem uT (a b:ByteArray):(a.toList==b.toList)=decide (a=b):=by
 rw[ByteArray.toList_eq,ByteArray.toList_eq,Bool.eq_iff_iff]
 simp only[beq_iff_eq,decide_eq_true_eq]
 exact⟨fun h=>ByteArray.ext (Array.toList_inj.1 h),fun h=>by rw[h]⟩
def cK (W:World) (g:Nat) (v0 v1 v2 v3 v4:Value):World:=((((W.setCell ⟨g,0,none⟩ v0).setCell ⟨g,1,none⟩ v1).setCell ⟨g,2,none⟩ v2).setCell ⟨g,3,none⟩ v3).setCell ⟨g,4,none⟩ v4
theorem cV (W:World)(g:Nat)(v0 v1 v2 v3 v4:Value):Fr [g] W (cK W g v0 v1 v2 v3 v4):=
 (((((Fr.refl [g] W).setCell (p:=⟨g,0,none⟩) (.inl (by simp)) _).setCell (p:=⟨g,1,none⟩) (.inl (by simp)) _).setCell (p:=⟨g,2,none⟩) (.inl (by simp)) _).setCell (p:=⟨g,3,none⟩) (.inl (by simp)) _).setCell (p:=⟨g,4,none⟩) (.inl (by simp)) _
theorem bQ {W:World}{g:Nat}{u0 u1 u2 u3 u4:Value} (v0 v1 v2 v3 v4:Value) (e0:W.cell? ⟨g,0,none⟩=some u0) (e1:W.cell? ⟨g,1,none⟩=some u1) (e2:W.cell? ⟨g,2,none⟩=some u2) (e3:W.cell? ⟨g,3,none⟩=some u3) (e4:W.cell? ⟨g,4,none⟩=some u4) :
  (cK W g v0 v1 v2 v3 v4).cell? ⟨g,0,none⟩=some v0∧(cK W g v0 v1 v2 v3 v4).cell? ⟨g,1,none⟩=some v1∧(cK W g v0 v1 v2 v3 v4).cell? ⟨g,2,none⟩=some v2∧(cK W g v0 v1 v2 v3 v4).cell? ⟨g,3,none⟩=some v3∧(cK W g v0 v1 v2 v3 v4).cell? ⟨g,4,none⟩=some v4:=by
 unfold cK
 refine⟨?_,?_,?_,?_,?_⟩
 ·exact (aA (by decide)).trans ((aA (by decide)).trans ((aA (by decide)).trans ((aA (by decide)).trans (aP e0))))
 ·exact (aA (by decide)).trans ((aA (by decide)).trans ((aA (by decide)).trans (aP ((aA (by decide)).trans e1))))
 ·exact (aA (by decide)).trans ((aA (by decide)).trans (aP ((aA (by decide)).trans ((aA (by decide)).trans e2))))
 ·exact (aA (by decide)).trans (aP ((aA (by decide)).trans ((aA (by decide)).trans ((aA (by decide)).trans e3))))
 ·exact aP ((aA (by decide)).trans ((aA (by decide)).trans ((aA (by decide)).trans ((aA (by decide)).trans e4))))
def lU (B:Nat) (W:World) (v:Value) (m:Mo):Prop:=
 ∃ tv pv fv,v=.agg #[tv,pv,.int .i64 m.globs,.int .i64 m.arrs,fv]∧bW B W tv m.texts∧bW B W pv m.pats∧eN B W fv m.fns∧∀ g,tv.ownBlock=some g→pv.ownBlock=some g→False
theorem lU.mod {B:Nat}{W:World}{v:Value}{m:Mo} (h:lU B W v m):eR W v m:=by
 obtain⟨tv,pv,fv,h1,h2,h3,h4,h5⟩:=h
 exact⟨tv,pv,fv,h1,h2.strs,h3.strs,h4.fns⟩
theorem lU.fr {B:Nat}{S:List Nat}{W W':World}{v:Value}{m:Mo} (h:lU B W v m) (hf:Fr S W W') (hS:∀ x,x ∈ S→x<B):lU B W' v m:=by
 obtain⟨tv,pv,fv,h1,h2,h3,h4,h5⟩:=h
 exact⟨tv,pv,fv,h1,h2.fr hf hS,h3.fr hf hS,h4.fr hf hS,h5⟩
theorem lU.base {B B':Nat}{W:World}{v:Value}{m:Mo} (h:lU B W v m) (hb:B'≤B):lU B' W v m:=by
 obtain⟨tv,pv,fv,h1,h2,h3,h4,h5⟩:=h
 exact⟨tv,pv,fv,h1,h2.base hb,h3.base hb,h4.base hb,h5⟩
open Wire Flow Mach
structure pY (w:World):Prop where
 so:∀ i,i<54→w.cell? ⟨0,i,none⟩=some (.int .i64 ((dH.getD i 0:Nat):Int))
theorem pY.lt {w:World}(h:pY w):0<w.heap.size:=aC (h.so 0 (by decide))
theorem pY.fr {w w':World}(h:pY w)(hf:Fr [] w w'):pY w':=by
 have hl:=h.lt
 exact⟨fun i hi=>(hf.cell (p:=⟨0,i,none⟩) (by simp only;omega) (by simp)).trans (h.so i hi)⟩
structure A9 (m:Mo):Prop where
 f:aOs m
 t:m.texts.length≤1000
 p:m.pats.length≤1000
 g:0≤m.globs∧m.globs≤1000
 a:0≤m.arrs∧m.arrs≤1000
def C8 (m:Mo) (f L:Nat) (c:ByteArray) (i:Nat) (w:World) (e:Ending) (w':World):Prop:=
 Fr [] w w'∧∃ (s:Stp) (x:Nat),e=.returned (.tuple #[.agg #[.int .i64 (s.pl:Nat),.int .i64 (s.nx:Nat),.int .i64 (s.op:Nat),.int .i64 (s.a:Nat),.int .i64 (s.b:Nat)],.int .i64 x])∧((x≠0∧x≤20∧bH m f L (bl c) i=.inl x)∨(x=0∧bH m f L (bl c) i=.inr s))
theorem yG {m:Mo}{f L:Nat}{c:ByteArray}{i:Nat}{w w':World} (s:Stp) (hf:Fr [] w w') (x:Nat) (hx:x≠0∧x≤20) (h:bH m f L (bl c) i=.inl x) :
  C8 m f L c i w (.returned (.tuple #[.agg #[.int .i64 (s.pl:Nat),.int .i64 (s.nx:Nat),.int .i64 (s.op:Nat),.int .i64 (s.a:Nat),.int .i64 (s.b:Nat)],.int .i64 x])) w':=⟨hf,s,x,rfl,.inl ⟨hx.1,hx.2,h⟩⟩
theorem aMd {m:Mo}{f L:Nat}{c:ByteArray}{i:Nat}{w w':World} (s:Stp) (hf:Fr [] w w') (h:bH m f L (bl c) i=.inr s) :
  C8 m f L c i w (.returned (.tuple #[.agg #[.int .i64 (s.pl:Nat),.int .i64 (s.nx:Nat),.int .i64 (s.op:Nat),.int .i64 (s.a:Nat),.int .i64 (s.b:Nat)],.int .i64 (0:Nat)])) w':=⟨hf,s,0,rfl,.inr ⟨rfl,h⟩⟩
theorem yK {c:ByteArray}{i:Nat} (h:i<c.size):(bl c).getD i 0=c[i]:=by
 have hL:=aD c
 rw[List.getD_eq_getElem?_getD,Lge (by omega),Option.getD_some]
 simp only[bl,Array.getElem_toList]
 rfl
theorem iW {w:World}{g i:Nat}{cs:Array Value}{t:TypeId}{fr:Nat × Nat}{v:Value} (hg:w.heap[g]?=some (.cells cs t fr)) (hv:cs[i]?=some v):w.setCell ⟨g,i,none⟩ v=w:=by
 have hlt:g<w.heap.size:=(Age.1 hg).1
 have hv1:w.heap[g]=.cells cs t fr:=(Age.1 hg).2
 have hi:i<cs.size:=(Age.1 hv).1
 have hc:cs.setIfInBounds i v=cs:=by
  apply Array.ext
  ·simp
  ·intro k h1 h2
   rw[Array.getElem_setIfInBounds]
   split
   ·rename_i e
    subst e
    exact ((Age.1 hv).2).symm
   ·rfl
 have hh:(w.heap.modify g fun | .cells c elem frozen=>.cells (if (none:Option Nat).isSome then c else c.setIfInBounds i v) elem frozen | o=>o)=w.heap:=by
  apply Array.ext
  ·simp
  ·intro k h1 h2
   rw[Array.getElem_modify]
   split
   ·rename_i e
    subst e
    rw[hv1]
    simp[hc]
   ·rfl
 exact congrArg (fun h=>({ w with heap:=h }:World)) hh
-- CUT
structure cO (w W:World) (x y z:Nat) (mc:Array Value) (v0 v1 v2 v3 v4:Value):Prop where
 fr:Fr [] w W
 mo:W.heap[x]?=some (.cells mc 25)
 re:W.heap[y]?=some (.cells #[.int .i64 0,.int .i64 0,.int .i64 0,.int .i64 0,.int .i64 0] 84)
 sp:W.heap[z]?=some (.cells #[v0,v1,v2,v3,v4] 84)
 lx:w.heap.size≤x
 ly:w.heap.size≤y
 lz:w.heap.size≤z
 ne:x≠z∧y≠z
theorem cO.st {w W:World}{x y z:Nat}{mc:Array Value}{v0 v1 v2 v3 v4:Value} (h:cO w W x y z mc v0 v1 v2 v3 v4) :
  W.cell? ⟨z,0,none⟩=some v0∧W.cell? ⟨z,1,none⟩=some v1∧W.cell? ⟨z,2,none⟩=some v2∧W.cell? ⟨z,3,none⟩=some v3∧W.cell? ⟨z,4,none⟩=some v4:=by
 unfold World.cell?
 rw[h.sp]
 exact⟨rfl,rfl,rfl,rfl,rfl⟩
theorem cO.rs {w W:World}{x y z:Nat}{mc:Array Value}{v0 v1 v2 v3 v4:Value} (h:cO w W x y z mc v0 v1 v2 v3 v4) :
  W.cell? ⟨y,0,none⟩=some (.int .i64 0)∧W.cell? ⟨y,1,none⟩=some (.int .i64 0)∧W.cell? ⟨y,2,none⟩=some (.int .i64 0)∧W.cell? ⟨y,3,none⟩=some (.int .i64 0)∧W.cell? ⟨y,4,none⟩=some (.int .i64 0):=by
 unfold World.cell?
 rw[h.re]
 exact⟨rfl,rfl,rfl,rfl,rfl⟩
theorem cO.fz {w W:World}{x y z:Nat}{mc:Array Value}{v0 v1 v2 v3 v4:Value} (h:cO w W x y z mc v0 v1 v2 v3 v4) :
  W.frozen? ⟨y,0,none⟩=false∧W.frozen? ⟨y,1,none⟩=false∧W.frozen? ⟨y,2,none⟩=false∧W.frozen? ⟨y,3,none⟩=false∧W.frozen? ⟨y,4,none⟩=false:=by
 unfold World.frozen?
 rw[h.re]
 simp
theorem cO.sz {w W:World}{x y z:Nat}{mc:Array Value}{v0 v1 v2 v3 v4:Value} (h:cO w W x y z mc v0 v1 v2 v3 v4) :
  W.frozen? ⟨z,1,none⟩=false∧W.frozen? ⟨z,3,none⟩=false∧W.frozen? ⟨z,4,none⟩=false:=by
 unfold World.frozen?
 rw[h.sp]
 simp
theorem cO.put {w W:World}{x y z:Nat}{mc:Array Value}{v0 v1 v2 v3 v4:Value} (h:cO w W x y z mc v0 v1 v2 v3 v4) (u0 u1 u2 u3 u4:Value):Fr [] w (cK W y u0 u1 u2 u3 u4):=
 h.fr.trans' (cV W y u0 u1 u2 u3 u4) (fun q hq=>.inr (by have:=h.ly;simp at hq;omega))
theorem cO.to {w W W':World}{x y z:Nat}{mc:Array Value}{v0 v1 v2 v3 v4:Value} (h:cO w W x y z mc v0 v1 v2 v3 v4) (hf:Fr [] W W'):cO w W' x y z mc v0 v1 v2 v3 v4:=
 ⟨h.fr.trans hf,(hf.block _ (Age.1 h.mo).1 (by simp)).trans h.mo,(hf.block _ (Age.1 h.re).1 (by simp)).trans h.re,(hf.block _ (Age.1 h.sp).1 (by simp)).trans h.sp,h.lx,h.ly,h.lz,h.ne⟩
theorem aMb (tv pv fv:Value)(m:Mo)(w:World)(f L i:Nat)(c:ByteArray)(hi:i<c.size)(hs:c.size≤20000)(fg fo nf cap:Nat)(hf:f<nf)(hn:nf≤1000)(hv:fv=.slice (some ⟨fg,fo,none⟩) nf cap)(hfg:fg<w.heap.size)
  (hc:w.cell? ⟨fg,fo+f*3+2,none⟩=some (.string c)) (hl:w.cell? ⟨fg,fo+f*3+1,none⟩=some (.int .i64 (L:Nat))) (hL:L≤1000) (hT:pY w) (hcase:54≤c[i].toNat∨c[i].toNat=51∧f<3∨c[i].toNat=52∧3≤f∨dH.getD c[i].toNat 0=0∧(c[i].toNat<54∧c[i].toNat≠51∧c[i].toNat≠52∨c[i].toNat=51∧3≤f∨c[i].toNat=52∧f<3)) :
  Calls prog 37 #[.agg #[tv,pv,.int .i64 m.globs,.int .i64 m.arrs,fv],.int .i64 f,.int .i64 i] w (C8 m f L c i w):=by
 subst hv
 have g0:(i:Int)<c.size:=by omega
 have gx:c[i].toNat<256:=c[i].toNat_lt
 have g2:(f:Int)<(nf:Int):=by omega
 obtain⟨i1,hi1⟩:∃ i1:Nat,i+1=i1:=⟨_,rfl⟩
 have hI:(i:Int)+1=(i1:Int):=by omega
 obtain⟨W1,hW1⟩:=eX (w.alloc (.cells #[tv,pv,.int .i64 m.globs,.int .i64 m.arrs,.slice (some ⟨fg,fo,none⟩) nf cap] 25))
 obtain⟨W2,hW2⟩:=eX (W1.alloc (.cells #[.int .i64 0,.int .i64 0,.int .i64 0,.int .i64 0,.int .i64 0] 84))
 obtain⟨W3,hW3⟩:=eX (W2.alloc (.cells #[.int .i64 (i:Nat),.int .i64 (i1:Nat),.int .i64 (c[i].toNat:Nat),.int .i64 0,.int .i64 0] 84))
 have FA:Fr [] w W1:=by rw[← hW1];exact (Fr.refl [] w).alloc _
 have FB1:Fr [] W1 W2:=by rw[← hW2];exact (Fr.refl [] W1).alloc _
 have FC2:Fr [] W2 W3:=by rw[← hW3];exact (Fr.refl [] W2).alloc _
 have FB:Fr [] w W2:=FA.trans FB1
 have FC:Fr [] w W3:=FB.trans FC2
 have z1:W1.heap.size=w.heap.size+1:=by rw[← hW1];simp
 have z2:W2.heap.size=w.heap.size+2:=by rw[← hW2];simp[z1]
 have k1:=wan w (.cells #[tv,pv,.int .i64 m.globs,.int .i64 m.arrs,.slice (some ⟨fg,fo,none⟩) nf cap] 25)
 have k2:=wan W1 (.cells #[.int .i64 0,.int .i64 0,.int .i64 0,.int .i64 0,.int .i64 0] 84)
 have k3:=wan W2 (.cells #[.int .i64 (i:Nat),.int .i64 (i1:Nat),.int .i64 (c[i].toNat:Nat),.int .i64 0,.int .i64 0] 84)
 rw[hW1] at k1
 rw[hW2] at k2
 rw[hW3] at k3
 have hc2:=(FB.cell (p:=⟨fg,fo+f*3+2,none⟩) hfg (by simp)).trans hc
 have hm2:W2.cell? ⟨w.heap.size,4,none⟩=some (.slice (some ⟨fg,fo,none⟩) nf cap):=by
  refine (FB1.cell (p:=⟨w.heap.size,4,none⟩) (by simp only;omega) (by simp)).trans ?_
  unfold World.cell?
  rw[k1]
  rfl
 have s3:W3.setCell ⟨W2.heap.size,3,none⟩ (.int .i64 0)=W3:=iW k3 rfl
 have s4:W3.setCell ⟨W2.heap.size,4,none⟩ (.int .i64 0)=W3:=iW k3 rfl
 have DM:cO w W3 w.heap.size W1.heap.size W2.heap.size #[tv,pv,.int .i64 m.globs,.int .i64 m.arrs,.slice (some ⟨fg,fo,none⟩) nf cap] (.int .i64 (i:Nat)) (.int .i64 (i1:Nat)) (.int .i64 (c[i].toNat:Nat)) (.int .i64 0) (.int .i64 0):=
  ⟨FC,((FB1.trans FC2).block _ (by omega) (by simp)).trans k1,(FC2.block _ (by omega) (by simp)).trans k2,k3,by omega,by omega,by omega,by omega⟩
 have fz3:W3.frozen? ⟨W2.heap.size,3,none⟩=false:=by unfold World.frozen?;rw[k3];simp
 have fz4:W3.frozen? ⟨W2.heap.size,4,none⟩=false:=by unfold World.frozen?;rw[k3];simp
 clear FA FB1 FC2 FB FC k1 k2 k3 z1 z2
 obtain⟨a0,a1,a2,a3,a4⟩:=cO.st DM
 obtain⟨r0,r1,r2,r3,r4⟩:=cO.rs DM
 obtain⟨rz0,rz1,rz2,rz3,rz4⟩:=cO.fz DM
 have hTT:=hT.fr DM.fr
 have HDM:Hid _:=DM
 clear DM hl hT hc
 rcases hcase with h | ⟨h,h3⟩ | ⟨h,h3⟩ | ⟨hz,h | ⟨h,h3⟩ | ⟨h,h3⟩⟩
 all_goals
  first
   | have HD:Hid (bH m f L (bl c) i=.inl 9):=by unfold bH;rw[yK hi];exact if_neg (by simp[jC];omega)
   | have HD:Hid (bH m f L (bl c) i=.inr ⟨i,i+1,c[i].toNat,0,0⟩):=by unfold bH;rw[yK hi];exact (if_pos (by simp[jC];omega)).trans (if_pos hz)
  first | have q54:decide ((54:Int)≤(c[i].toNat:Int))=true:=decide_eq_true (by omega) | have q54:decide ((54:Int)≤(c[i].toNat:Int))=false:=decide_eq_false (by omega)
  first | have q51:((c[i].toNat:Int)==51)=true:=by simp;omega | have q51:((c[i].toNat:Int)==51)=false:=by simp;omega
  first | have q52:((c[i].toNat:Int)==52)=true:=by simp;omega | have q52:((c[i].toNat:Int)==52)=false:=by simp;omega
  first | have g1:((c[i].toNat:Int) ≥ 54):=by omega | have g1:((c[i].toNat:Int)<54):=by omega
  try first | have qf:decide ((f:Int)<3)=true:=decide_eq_true (by omega) | have qf:decide ((f:Int)<3)=false:=decide_eq_false (by omega)
  try first | have qf2:decide ((3:Int)≤(f:Int))=true:=decide_eq_true (by omega) | have qf2:decide ((3:Int)≤(f:Int))=false:=decide_eq_false (by omega)
  try
   have hso:=hTT.so c[i].toNat (by omega)
   rw[hz] at hso
   clear hz
  clear h hTT
  go_enter func37,ntmps37
  go_wp2
  have DM:=HDM.out
  change bodyPost prog f37 (C8 m f L c i w) Exit.ret _ (cK W3 W1.heap.size (.int .i64 (i:Nat)) (.int .i64 (i1:Nat)) (.int .i64 (c[i].toNat:Nat)) (.int .i64 0) (.int .i64 0))
  obtain⟨y0,y1,y2,y3,y4⟩:=bQ (W:=W3) (g:=W1.heap.size) (.int .i64 (i:Nat)) (.int .i64 (i1:Nat)) (.int .i64 (c[i].toNat:Nat)) (.int .i64 0) (.int .i64 0) r0 r1 r2 r3 r4
  have FZ:=cO.put DM (.int .i64 (i:Nat)) (.int .i64 (i1:Nat)) (.int .i64 (c[i].toNat:Nat)) (.int .i64 0) (.int .i64 0)
  generalize cK W3 W1.heap.size (.int .i64 (i:Nat)) (.int .i64 (i1:Nat)) (.int .i64 (c[i].toNat:Nat)) (.int .i64 0) (.int .i64 0)=Z at *
  first
   | (refine bodyPost_ret (v:=.tuple #[.agg #[.int .i64 (i:Nat),.int .i64 (i1:Nat),.int .i64 (c[i].toNat:Nat),.int .i64 0,.int .i64 0],.int .i64 9]) (by simp[results,results37,go_sem,y0,y1,y2,y3,y4]) rfl ?_
      subst hi1
      exact yG ⟨i,i+1,c[i].toNat,0,0⟩ FZ 9 (by omega) HD.out)
   | (refine bodyPost_ret (v:=.tuple #[.agg #[.int .i64 (i:Nat),.int .i64 (i1:Nat),.int .i64 (c[i].toNat:Nat),.int .i64 0,.int .i64 0],.int .i64 0]) (by simp[results,results37,go_sem,y0,y1,y2,y3,y4]) rfl ?_
      subst hi1
      exact aMd ⟨i,i+1,c[i].toNat,0,0⟩ FZ HD.out)
end Go.Proofs.YtgpamchpeamnfaaGreatDoor
