import Derived.Test.YtlokkgajpjafmaaGreatDoorM06
set_option linter.unusedSimpArgs false
set_option linter.unusedVariables false
set_option maxRecDepth 100000
set_option maxHeartbeats 40000000
open _root_.Go.Proofs.Tryz
namespace Go.Proofs.YtlokkgajpjafmaaGreatDoor
open Go.RowKit
theorem lL {fo:Nat→NN}{sp src dst:Nat} (hfo:∀ s a,fo s a<18446744073709551616) (hdst:dst<18446744073709551616) (s a:Nat):zT fo sp src dst s a<18446744073709551616:=by
 unfold zT;split
 ·exact Nat.or_lt_two_pow (n:=64) (hfo s a) hdst
 exact hfo s a
theorem m7 (fo:Nat→NN)(q r:Piece)(s a:Nat)(hs:s<4) :
  zT (zT (zT (zT fo 0 (q 0).l (r 0).f) 1 (q 1).l (r 1).f) 2 (q 2).l (r 2).f) 3 (q 3).l (r 3).f s a=oE fo q r s a:=by
 obtain rfl | rfl | rfl | rfl:s=0∨s=1∨s=2∨s=3:=by omega
 all_goals simp[zT,oE]
def fY (W:WL) (b:Nat) (l:LV):Prop:=∀ i,W.cell? ⟨b,i,none⟩=l[i]?
theorem fY.fr {S:LN}{w w':WL}{b:Nat}{l:LV} (h:fY w b l) (hf:Fr S w w') (hb:b ∉ S) (hlt:b<w.heap.size):fY w' b l:=fun i=>(hf.cell (p:=Ad b i) hlt hb).trans (h i)
theorem fY.set {w:WL}{b:Nat}{l:LV} (h:fY w b l) (k:Nat) (hk:k<l.length) (v:Value):fY (w.setCell ⟨b,k,none⟩ v) b (l.set k v):=fun i=>by
 by_cases e:k=i
 ·subst e
  rw[List.getElem?_set_self hk]
  exact World.cell?_setCell_same' _ _ _ (by rw[h k,Lge hk];rfl)
 ·rw[List.getElem?_set_ne e];exact (aA e).trans (h i)
theorem bW (W:WL)(l:LV)(t:TypeId):fY (W.alloc (.cells l.toArray t)) W.heap.size l:=fun i=>by
 have h:=wan W (.cells l.toArray t)
 unfold World.cell?;rw[h];simp
theorem xT (pb:Nat)(q:Piece)(w:WL)(wh:Nat→Value)(tk:NN)(fo:Nat→NN)
  (hl:∀ s,(q s).l<1125899906842624) (hf:∀ s,(q s).f<18446744073709551616) (hP:bL w pb wh tk fo) (hfo:∀ s a,fo s a<18446744073709551616) (hT:Tab w) (hpb:pb≠1) :
  Calls prog 174 #[.pointer (some (Ad pb 0)),pv q] w fun e w'=>e=.returned (.tuple #[])∧bL w' pb wh tk (oE fo q q)∧Fr [pb] w w':=by
 have hm:=hmX
 have hlt:=hP.lt;obtain⟨W0,hW0⟩:=eXi (w.alloc (Obj.cells #[.bool (q 0).e,uA (q 0).f,uA (q 0).l,.bool (q 1).e,uA (q 1).f,uA (q 1).l,.bool (q 2).e,uA (q 2).f,uA (q 2).l,.bool (q 3).e,uA (q 3).f,uA (q 3).l] 120));have f0:Fr [pb] w W0:=by rw[← hW0];exact (Fr.refl _ _).alloc _
 have g0:Fr [] w W0:=by rw[← hW0];exact (Fr.refl _ _).alloc _
 have r0:fY W0 w.heap.size [.bool (q 0).e,uA (q 0).f,uA (q 0).l,.bool (q 1).e,uA (q 1).f,uA (q 1).l,.bool (q 2).e,uA (q 2).f,uA (q 2).l,.bool (q 3).e,uA (q 3).f,uA (q 3).l]:=by rw[← hW0];exact bW w _ 120
 have z0:W0.heap.size=w.heap.size+1:=by rw[← hW0];simp
 have P0:=hP.fr g0 (by simp);have T0:=hT.fr g0 (by simp);have b0:=hfo;unfold pv;go_enter func174,ntmps174;go_wp2;clear hW0;refine wp_loop_rounds 5 ?_;rw[rounds_succ];have c0a:W0.cell? (Ad w.heap.size 2)=some (uA (q 0).l):=r0 2;have c0b:W0.cell? (Ad w.heap.size 1)=some (uA (q 0).f):=r0 1;go_wp2;refine aP 10 hm (by kernel_rfl) ?_;simp only[Zt]
 repeat still_step
 refine wpStill_nil ?_;go_wp2_with fail;refine (lK pb 0 (q 0).l (q 0).f (by decide) (hl 0) (hf 0) W0.drew wh tk _ (P0.of_block rfl) b0 (T0.of_block rfl) hpb).mono ?_;rintro e W1 ⟨rfl,P1,f1'⟩;have f1':Fr [pb] W0 W1:=⟨f1'.os,f1'.tape,f1'.output,f1'.size,f1'.block⟩;have f1:=f0.trans f1';have r1:=r0.fr f1' (by simp;omega) (aB c0a);have T1:=T0.fr f1' (by simpa using fun e=>hpb e.symm);have b1:=lL (sp:=0) (src:=(q 0).l) b0 (hf 0);go_wp2;rw[rounds_succ];have c1a:W1.cell? (Ad w.heap.size 5)=some (uA (q 1).l):=r1 5;have c1b:W1.cell? (Ad w.heap.size 4)=some (uA (q 1).f):=r1 4;go_wp2;refine aP 10 hm (by kernel_rfl) ?_;simp only[Zt]
 repeat still_step
 refine wpStill_nil ?_;go_wp2_with fail;refine (lK pb 1 (q 1).l (q 1).f (by decide) (hl 1) (hf 1) W1.drew wh tk _ (P1.of_block rfl) b1 (T1.of_block rfl) hpb).mono ?_;rintro e W2 ⟨rfl,P2,f2'⟩;have f2':Fr [pb] W1 W2:=⟨f2'.os,f2'.tape,f2'.output,f2'.size,f2'.block⟩;have f2:=f1.trans f2';have r2:=r1.fr f2' (by simp;omega) (aB c1a);have T2:=T1.fr f2' (by simpa using fun e=>hpb e.symm);have b2:=lL (sp:=1) (src:=(q 1).l) b1 (hf 1);go_wp2;rw[rounds_succ];have c2a:W2.cell? (Ad w.heap.size 8)=some (uA (q 2).l):=r2 8;have c2b:W2.cell? (Ad w.heap.size 7)=some (uA (q 2).f):=r2 7;go_wp2;refine aP 10 hm (by kernel_rfl) ?_;simp only[Zt]
 repeat still_step
 refine wpStill_nil ?_;go_wp2_with fail;refine (lK pb 2 (q 2).l (q 2).f (by decide) (hl 2) (hf 2) W2.drew wh tk _ (P2.of_block rfl) b2 (T2.of_block rfl) hpb).mono ?_;rintro e W3 ⟨rfl,P3,f3'⟩;have f3':Fr [pb] W2 W3:=⟨f3'.os,f3'.tape,f3'.output,f3'.size,f3'.block⟩;have f3:=f2.trans f3';have r3:=r2.fr f3' (by simp;omega) (aB c2a);have T3:=T2.fr f3' (by simpa using fun e=>hpb e.symm);have b3:=lL (sp:=2) (src:=(q 2).l) b2 (hf 2);go_wp2;rw[rounds_succ];have c3a:W3.cell? (Ad w.heap.size 11)=some (uA (q 3).l):=r3 11;have c3b:W3.cell? (Ad w.heap.size 10)=some (uA (q 3).f):=r3 10;go_wp2;refine aP 10 hm (by kernel_rfl) ?_;simp only[Zt]
 repeat still_step
 refine wpStill_nil ?_;go_wp2_with fail;refine (lK pb 3 (q 3).l (q 3).f (by decide) (hl 3) (hf 3) W3.drew wh tk _ (P3.of_block rfl) b3 (T3.of_block rfl) hpb).mono ?_;rintro e W4 ⟨rfl,P4,f4'⟩;have f4':Fr [pb] W3 W4:=⟨f4'.os,f4'.tape,f4'.output,f4'.size,f4'.block⟩;have f4:=f3.trans f4';have r4:=r3.fr f4' (by simp;omega) (aB c3a);have T4:=T3.fr f4' (by simpa using fun e=>hpb e.symm);have b4:=lL (sp:=3) (src:=(q 3).l) b3 (hf 3);go_wp2;rw[rounds_succ];go_wp2;go_end0;exact⟨rfl,P4.congr (fun _ _=>rfl) (fun s a hs _=>m7 fo q q s a hs),f4⟩
theorem bT (W:WL)(l:LV)(t:TypeId)(i:Nat):(W.alloc (.cells l.toArray t)).frozen? (Ad W.heap.size i)=false:=by
 have h:=wan W (.cells l.toArray t);unfold World.frozen?;rw[h];simp
theorem dM (W:WL)(b:Nat)(v0 v1 v2 v3 v4 v5 v6 v7 v8 v9 v10 v11:Value):Fr [b] W ((((((((((((W.setCell { block:=b,off:=0 } v0).setCell { block:=b,off:=1 } v1).setCell { block:=b,off:=2 } v2).setCell { block:=b,off:=3 } v3).setCell { block:=b,off:=4 } v4).setCell { block:=b,off:=5 } v5).setCell { block:=b,off:=6 } v6).setCell { block:=b,off:=7 } v7).setCell { block:=b,off:=8 } v8).setCell { block:=b,off:=9 } v9).setCell { block:=b,off:=10 } v10).setCell { block:=b,off:=11 } v11):=
 (((((((((((((Fr.refl [b] W).setCell (p:=⟨b,0,none⟩) (.inl (by simp)) v0).setCell (p:=⟨b,1,none⟩) (.inl (by simp)) v1).setCell (p:=⟨b,2,none⟩) (.inl (by simp)) v2).setCell (p:=⟨b,3,none⟩) (.inl (by simp)) v3).setCell (p:=⟨b,4,none⟩) (.inl (by simp)) v4).setCell (p:=⟨b,5,none⟩) (.inl (by simp)) v5).setCell (p:=⟨b,6,none⟩) (.inl (by simp)) v6).setCell (p:=⟨b,7,none⟩) (.inl (by simp)) v7).setCell (p:=⟨b,8,none⟩) (.inl (by simp)) v8).setCell (p:=⟨b,9,none⟩) (.inl (by simp)) v9).setCell (p:=⟨b,10,none⟩) (.inl (by simp)) v10).setCell (p:=⟨b,11,none⟩) (.inl (by simp)) v11)
structure zI (w:WL) (pb:Nat) (a b:Piece) (o:LV) (wh:Nat→Value) (tk:NN) (fo:Nat→NN) (W:WL):Prop where
 fr:Fr [pb] w W
 sz:w.heap.size+1+1+1+1≤W.heap.size
 ra:fY W w.heap.size [.bool (a 0).e,.int .u64 (a 0).f,.int .u64 (a 0).l,.bool (a 1).e,.int .u64 (a 1).f,.int .u64 (a 1).l,.bool (a 2).e,.int .u64 (a 2).f,.int .u64 (a 2).l,.bool (a 3).e,.int .u64 (a 3).f,.int .u64 (a 3).l]
 rb:fY W (w.heap.size+1) [.bool (b 0).e,.int .u64 (b 0).f,.int .u64 (b 0).l,.bool (b 1).e,.int .u64 (b 1).f,.int .u64 (b 1).l,.bool (b 2).e,.int .u64 (b 2).f,.int .u64 (b 2).l,.bool (b 3).e,.int .u64 (b 3).f,.int .u64 (b 3).l]
 rr:fY W (w.heap.size+1+1) [.bool false,.int .u64 0,.int .u64 0,.bool false,.int .u64 0,.int .u64 0,.bool false,.int .u64 0,.int .u64 0,.bool false,.int .u64 0,.int .u64 0]
 ro:fY W (w.heap.size+1+1+1) o
 zr:∀ i,W.frozen? ⟨w.heap.size+1+1,i,none⟩=false
 zo:∀ i,W.frozen? ⟨w.heap.size+1+1+1,i,none⟩=false
 pat:bL W pb wh tk fo
 tab:Tab W
 h6:1<w.heap.size
theorem zI.kept {w:WL}{pb:Nat}{a b:Piece}{o:LV}{wh:Nat→Value}{tk:NN}{fo fo':Nat→NN}{W W':WL} (h:zI w pb a b o wh tk fo W) (hf:Fr [pb] W W') (hP:bL W' pb wh tk fo') (hlt:pb<w.heap.size) (hpb:pb≠1):zI w pb a b o wh tk fo' W':=by
 have hs:=h.sz;exact⟨h.fr.trans hf,Nat.le_trans hs hf.size,h.ra.fr hf (by simp;omega) (by omega),h.rb.fr hf (by simp;omega) (by omega),h.rr.fr hf (by simp;omega) (by omega),h.ro.fr hf (by simp;omega) (by omega),
   fun i=>(hf.frozen (p:=Ad (w.heap.size+1+1) i) (by simp;omega) (by simp;omega)).trans (h.zr i),fun i=>(hf.frozen (p:=Ad (w.heap.size+1+1+1) i) (by simp;omega) (by simp;omega)).trans (h.zo i),hP,h.tab.fr hf (by simpa using fun e=>hpb e.symm),h.h6⟩
theorem zI.set {w:WL}{pb:Nat}{a b:Piece}{o:LV}{wh:Nat→Value}{tk:NN}{fo:Nat→NN}{W:WL} (h:zI w pb a b o wh tk fo W) (hlt:pb<w.heap.size) (k:Nat) (hk:k<o.length) (v:Value) :
  zI w pb a b (o.set k v) wh tk fo (W.setCell ⟨w.heap.size+1+1+1,k,none⟩ v):=by
 have hb:∀ c,c≠w.heap.size+1+1+1→(W.setCell ⟨w.heap.size+1+1+1,k,none⟩ v).heap[c]?=W.heap[c]?:=fun c hc=>Below.heap_setCell W ⟨w.heap.size+1+1+1,k,none⟩ _ c hc;exact⟨h.fr.setCell (p:=⟨w.heap.size+1+1+1,k,none⟩) (.inr (by simp;omega)) _,by simpa [World.setCell] using h.sz,fun i=>(aX (by omega)).trans (h.ra i),fun i=>(aX (by omega)).trans (h.rb i),fun i=>(aX (by omega)).trans (h.rr i),
  h.ro.set k hk v,fun i=>(wfz _ _ _ _).trans (h.zr i),fun i=>(wfz _ _ _ _).trans (h.zo i),h.pat.of_block (hb _ (by omega)),h.tab.of_block (hb _ (by have:=h.h6;omega)),h.h6⟩
theorem aCa (pb:Nat)(a b:Piece)(w:WL)(wh:Nat→Value)(tk:NN)(fo:Nat→NN)
  (hl:∀ s,(a s).l<1125899906842624) (hok:∀ s,(a s).ok) (hbk:∀ s,(b s).ok) (hP:bL w pb wh tk fo) (hfo:∀ s c,fo s c<18446744073709551616) (hT:Tab w) (hpb:pb≠1) :
  Calls prog 147 #[.pointer (some (Ad pb 0)),pv a,pv b] w fun e w'=>e=.returned (pv (joinF a b))∧bL w' pb wh tk (oE fo a b)∧Fr [pb] w w':=by
 have hm:=hmX
 have hlt:=hP.lt;obtain⟨W0,hW0⟩:=eXi ((((w.alloc (Obj.cells #[.bool (a 0).e,uA (a 0).f,uA (a 0).l,.bool (a 1).e,uA (a 1).f,uA (a 1).l,.bool (a 2).e,uA (a 2).f,uA (a 2).l,.bool (a 3).e,uA (a 3).f,uA (a 3).l] 120)).alloc (Obj.cells #[.bool (b 0).e,uA (b 0).f,uA (b 0).l,.bool (b 1).e,uA (b 1).f,uA (b 1).l,.bool (b 2).e,uA (b 2).f,uA (b 2).l,.bool (b 3).e,uA (b 3).f,uA (b 3).l] 120)).alloc (Obj.cells #[.bool false,uA 0,uA 0,.bool false,uA 0,uA 0,.bool false,uA 0,uA 0,.bool false,uA 0,uA 0] 120)).alloc (Obj.cells #[.bool false,uA 0,uA 0,.bool false,uA 0,uA 0,.bool false,uA 0,uA 0,.bool false,uA 0,uA 0] 120));have J0:zI w pb a b [.bool false,uA 0,uA 0,.bool false,uA 0,uA 0,.bool false,uA 0,uA 0,.bool false,uA 0,uA 0] wh tk fo W0:=by
  rw[← hW0];have g0:∀ S,Fr S w ((((w.alloc (Obj.cells #[.bool (a 0).e,uA (a 0).f,uA (a 0).l,.bool (a 1).e,uA (a 1).f,uA (a 1).l,.bool (a 2).e,uA (a 2).f,uA (a 2).l,.bool (a 3).e,uA (a 3).f,uA (a 3).l] 120)).alloc (Obj.cells #[.bool (b 0).e,uA (b 0).f,uA (b 0).l,.bool (b 1).e,uA (b 1).f,uA (b 1).l,.bool (b 2).e,uA (b 2).f,uA (b 2).l,.bool (b 3).e,uA (b 3).f,uA (b 3).l] 120)).alloc (Obj.cells #[.bool false,uA 0,uA 0,.bool false,uA 0,uA 0,.bool false,uA 0,uA 0,.bool false,uA 0,uA 0] 120)).alloc (Obj.cells #[.bool false,uA 0,uA 0,.bool false,uA 0,uA 0,.bool false,uA 0,uA 0,.bool false,uA 0,uA 0] 120)):=fun S=>((((Fr.refl S _).alloc _).alloc _).alloc _).alloc _;refine⟨g0 _,by simp,?_,?_,?_,?_,?_,?_,hP.fr (g0 []) (by simp),hT.fr (g0 []) (by simp),hT.lt⟩
  ·exact ((bW w [.bool (a 0).e,uA (a 0).f,uA (a 0).l,.bool (a 1).e,uA (a 1).f,uA (a 1).l,.bool (a 2).e,uA (a 2).f,uA (a 2).l,.bool (a 3).e,uA (a 3).f,uA (a 3).l] 120).fr ((((Fr.refl [] _).alloc _).alloc _).alloc _) (by simp) (by simp))
  ·have:=(bW (w.alloc (Obj.cells #[.bool (a 0).e,uA (a 0).f,uA (a 0).l,.bool (a 1).e,uA (a 1).f,uA (a 1).l,.bool (a 2).e,uA (a 2).f,uA (a 2).l,.bool (a 3).e,uA (a 3).f,uA (a 3).l] 120)) [.bool (b 0).e,uA (b 0).f,uA (b 0).l,.bool (b 1).e,uA (b 1).f,uA (b 1).l,.bool (b 2).e,uA (b 2).f,uA (b 2).l,.bool (b 3).e,uA (b 3).f,uA (b 3).l] 120).fr (((Fr.refl [] _).alloc (Obj.cells #[.bool false,uA 0,uA 0,.bool false,uA 0,uA 0,.bool false,uA 0,uA 0,.bool false,uA 0,uA 0] 120)).alloc (Obj.cells #[.bool false,uA 0,uA 0,.bool false,uA 0,uA 0,.bool false,uA 0,uA 0,.bool false,uA 0,uA 0] 120)) (by simp) (by simp)
   rwa [World.size_alloc] at this
  ·have:=(bW ((w.alloc (Obj.cells #[.bool (a 0).e,uA (a 0).f,uA (a 0).l,.bool (a 1).e,uA (a 1).f,uA (a 1).l,.bool (a 2).e,uA (a 2).f,uA (a 2).l,.bool (a 3).e,uA (a 3).f,uA (a 3).l] 120)).alloc (Obj.cells #[.bool (b 0).e,uA (b 0).f,uA (b 0).l,.bool (b 1).e,uA (b 1).f,uA (b 1).l,.bool (b 2).e,uA (b 2).f,uA (b 2).l,.bool (b 3).e,uA (b 3).f,uA (b 3).l] 120)) [.bool false,uA 0,uA 0,.bool false,uA 0,uA 0,.bool false,uA 0,uA 0,.bool false,uA 0,uA 0] 120).fr ((Fr.refl [] _).alloc (Obj.cells #[.bool false,uA 0,uA 0,.bool false,uA 0,uA 0,.bool false,uA 0,uA 0,.bool false,uA 0,uA 0] 120)) (by simp) (by simp)
   rwa [World.size_alloc,World.size_alloc] at this
  ·have:=(bW (((w.alloc (Obj.cells #[.bool (a 0).e,uA (a 0).f,uA (a 0).l,.bool (a 1).e,uA (a 1).f,uA (a 1).l,.bool (a 2).e,uA (a 2).f,uA (a 2).l,.bool (a 3).e,uA (a 3).f,uA (a 3).l] 120)).alloc (Obj.cells #[.bool (b 0).e,uA (b 0).f,uA (b 0).l,.bool (b 1).e,uA (b 1).f,uA (b 1).l,.bool (b 2).e,uA (b 2).f,uA (b 2).l,.bool (b 3).e,uA (b 3).f,uA (b 3).l] 120)).alloc (Obj.cells #[.bool false,uA 0,uA 0,.bool false,uA 0,uA 0,.bool false,uA 0,uA 0,.bool false,uA 0,uA 0] 120)) [.bool false,uA 0,uA 0,.bool false,uA 0,uA 0,.bool false,uA 0,uA 0,.bool false,uA 0,uA 0] 120)
   rwa [World.size_alloc,World.size_alloc,World.size_alloc] at this
  ·intro i;have:=bT ((w.alloc (Obj.cells #[.bool (a 0).e,uA (a 0).f,uA (a 0).l,.bool (a 1).e,uA (a 1).f,uA (a 1).l,.bool (a 2).e,uA (a 2).f,uA (a 2).l,.bool (a 3).e,uA (a 3).f,uA (a 3).l] 120)).alloc (Obj.cells #[.bool (b 0).e,uA (b 0).f,uA (b 0).l,.bool (b 1).e,uA (b 1).f,uA (b 1).l,.bool (b 2).e,uA (b 2).f,uA (b 2).l,.bool (b 3).e,uA (b 3).f,uA (b 3).l] 120)) [.bool false,uA 0,uA 0,.bool false,uA 0,uA 0,.bool false,uA 0,uA 0,.bool false,uA 0,uA 0] 120 i;rw[World.size_alloc,World.size_alloc] at this;exact (World.frozen?_alloc_past _ _ _ (by simp)).trans this
  intro i;have:=bT (((w.alloc (Obj.cells #[.bool (a 0).e,uA (a 0).f,uA (a 0).l,.bool (a 1).e,uA (a 1).f,uA (a 1).l,.bool (a 2).e,uA (a 2).f,uA (a 2).l,.bool (a 3).e,uA (a 3).f,uA (a 3).l] 120)).alloc (Obj.cells #[.bool (b 0).e,uA (b 0).f,uA (b 0).l,.bool (b 1).e,uA (b 1).f,uA (b 1).l,.bool (b 2).e,uA (b 2).f,uA (b 2).l,.bool (b 3).e,uA (b 3).f,uA (b 3).l] 120)).alloc (Obj.cells #[.bool false,uA 0,uA 0,.bool false,uA 0,uA 0,.bool false,uA 0,uA 0,.bool false,uA 0,uA 0] 120)) [.bool false,uA 0,uA 0,.bool false,uA 0,uA 0,.bool false,uA 0,uA 0,.bool false,uA 0,uA 0] 120 i
  rwa [World.size_alloc,World.size_alloc,World.size_alloc] at this
 have b0:=hfo;unfold pv;go_enter func147,ntmps147;go_wp2;clear hW0;refine wp_loop_rounds 5 ?_;rw[rounds_succ];have c0a:W0.cell? (Ad w.heap.size 2)=some (uA (a 0).l):=J0.ra 2;have c0b:W0.cell? (Ad (w.heap.size+1) 1)=some (uA (b 0).f):=J0.rb 1;go_wp2;refine aP 10 hm (by kernel_rfl) ?_;simp only[Zt]
 repeat still_step
 refine wpStill_nil ?_;go_wp2_with fail;refine (lK pb 0 (a 0).l (b 0).f (by decide) (hl 0) (hbk 0).1 W0.drew wh tk _ (J0.pat.of_block rfl) b0 (J0.tab.of_block rfl) hpb).mono ?_;rintro e V0 ⟨rfl,P0,f0⟩;have f0:Fr [pb] W0 V0:=⟨f0.os,f0.tape,f0.output,f0.size,f0.block⟩;have K0:=J0.kept f0 P0 hlt hpb;have b1:=lL (sp:=0) (src:=(a 0).l) b0 (hbk 0).1;clear c0a c0b;go_wp2;refine aI (fun w1=>w1.cell? (Ad w.heap.size 0)=some (.bool (a 0).e)∧w1.cell? (Ad w.heap.size 1)=some (uA (a 0).f)∧w1.cell? (Ad w.heap.size 2)=some (uA (a 0).l) ∧
  w1.cell? (Ad (w.heap.size+1) 0)=some (.bool (b 0).e)∧w1.cell? (Ad (w.heap.size+1) 1)=some (uA (b 0).f)∧w1.cell? (Ad (w.heap.size+1) 2)=some (uA (b 0).l)) hm ?_
 have hS:=AI (K0.ra 0) (AI (K0.ra 1) (AI (K0.ra 2) (AI (K0.rb 0) (AI (K0.rb 1) (K0.rb 2)))));refine aK (fun _ _ _ _ _ h=>h) hS [0,1,2,3,4,5,6] (by kernel_rfl) ?_
 iterate 7
  refine Yls.cons (v:=?_) rfl (.inl ⟨rfl,fun w1 hS1=>?_⟩) ?_;rotate_left
  ·obtain⟨s1,s2,s3,s4,s5,s6⟩:=hS1;go_simp;rfl
  simp only[Act.put,Zp]
 refine Yls.nil ?_;refine rd1 (r:=7) (by kernel_rfl) rfl fun K hK=>?_;go_simp;have hj:=nP (a 0) (b 0) (hok 0) (hbk 0) V0.drew;unfold ev at hj;refine hj.mono ?_;rintro e U0 ⟨rfl,g0⟩;have g0:Fr [] V0 U0:=⟨g0.os,g0.tape,g0.output,g0.size,g0.block⟩;have L0:=K0.kept (g0.mono (by simp)) (K0.pat.fr g0 (by simp)) hlt hpb;clear hj hS;have hS:=AI (L0.ra 0) (AI (L0.ra 1) (AI (L0.ra 2) (AI (L0.rb 0) (AI (L0.rb 1) (L0.rb 2)))));refine hK _ _ hS ?_;clear hK K;intro _;refine wpAnyH_take (i:=8) (v:=?_) rfl (by kernel_rfl) (by kernel_rfl) (by kernel_rfl) (fun _ _ _ h=>h) (.inl ⟨rfl,fun w1 hS1=>?_⟩) hS ?_;rotate_left
 ·go_simp;rfl
 simp only[Act.put,Zp];have e0:U0.cell? (Ad (w.heap.size+1+1+1) 0)=some (.bool false):=L0.ro 0;have e1:U0.cell? (Ad (w.heap.size+1+1+1) 1)=some (uA 0):=L0.ro 1;have e2:U0.cell? (Ad (w.heap.size+1+1+1) 2)=some (uA 0):=L0.ro 2;have e3:=L0.zo 0;have e4:=L0.zo 1;have e5:=L0.zo 2;refine rd1 (r:=9) (by kernel_rfl) rfl fun K hK=>?_;go_simp;clear hS e0 e1 e2 e3 e4 e5;have J1:=((L0.set hlt 0 (by simp) (.bool (aL (a 0) (b 0)).e)).set hlt 1 (by simp) (uA (aL (a 0) (b 0)).f)).set hlt 2 (by simp) (uA (aL (a 0) (b 0)).l);clear J0 K0 L0;generalize ((U0.setCell { block:=w.heap.size+1+1+1,off:=0 } (Value.bool (aL (a 0) (b 0)).e)).setCell
     { block:=w.heap.size+1+1+1,off:=1 } (uA ↑(aL (a 0) (b 0)).f)).setCell
   { block:=w.heap.size+1+1+1,off:=2 } (uA ↑(aL (a 0) (b 0)).l)=W1 at *
 refine hK _ _ ⟨J1.ra 0,J1.ra 1,J1.ra 2,J1.rb 0,J1.rb 1,J1.rb 2⟩ ?_;clear hK K;intro _;refine wpAnyH_done (by kernel_rfl) ?_ _;go_wp2;rw[rounds_succ];have c1a:W1.cell? (Ad w.heap.size 5)=some (uA (a 1).l):=J1.ra 5;have c1b:W1.cell? (Ad (w.heap.size+1) 4)=some (uA (b 1).f):=J1.rb 4;go_wp2;refine aP 10 hm (by kernel_rfl) ?_;simp only[Zt]
 repeat still_step
 refine wpStill_nil ?_;go_wp2_with fail;refine (lK pb 1 (a 1).l (b 1).f (by decide) (hl 1) (hbk 1).1 W1.drew wh tk _ (J1.pat.of_block rfl) b1 (J1.tab.of_block rfl) hpb).mono ?_;rintro e V1 ⟨rfl,P1,f1⟩;have f1:Fr [pb] W1 V1:=⟨f1.os,f1.tape,f1.output,f1.size,f1.block⟩;have K1:=J1.kept f1 P1 hlt hpb;have b2:=lL (sp:=1) (src:=(a 1).l) b1 (hbk 1).1;clear c1a c1b;go_wp2;refine aI (fun w1=>w1.cell? (Ad w.heap.size 3)=some (.bool (a 1).e)∧w1.cell? (Ad w.heap.size 4)=some (uA (a 1).f)∧w1.cell? (Ad w.heap.size 5)=some (uA (a 1).l) ∧
  w1.cell? (Ad (w.heap.size+1) 3)=some (.bool (b 1).e)∧w1.cell? (Ad (w.heap.size+1) 4)=some (uA (b 1).f)∧w1.cell? (Ad (w.heap.size+1) 5)=some (uA (b 1).l)) hm ?_
 have hS:=AI (K1.ra 3) (AI (K1.ra 4) (AI (K1.ra 5) (AI (K1.rb 3) (AI (K1.rb 4) (K1.rb 5)))));refine aK (fun _ _ _ _ _ h=>h) hS [0,1,2,3,4,5,6] (by kernel_rfl) ?_
 iterate 7
  refine Yls.cons (v:=?_) rfl (.inl ⟨rfl,fun w1 hS1=>?_⟩) ?_;rotate_left
  ·obtain⟨s1,s2,s3,s4,s5,s6⟩:=hS1;go_simp;rfl
  simp only[Act.put,Zp]
 refine Yls.nil ?_;refine rd1 (r:=7) (by kernel_rfl) rfl fun K hK=>?_;go_simp;have hj:=nP (a 1) (b 1) (hok 1) (hbk 1) V1.drew;unfold ev at hj;refine hj.mono ?_;rintro e U1 ⟨rfl,g1⟩;have g1:Fr [] V1 U1:=⟨g1.os,g1.tape,g1.output,g1.size,g1.block⟩;have L1:=K1.kept (g1.mono (by simp)) (K1.pat.fr g1 (by simp)) hlt hpb;clear hj hS;have hS:=AI (L1.ra 3) (AI (L1.ra 4) (AI (L1.ra 5) (AI (L1.rb 3) (AI (L1.rb 4) (L1.rb 5)))));refine hK _ _ hS ?_;clear hK K;intro _;refine wpAnyH_take (i:=8) (v:=?_) rfl (by kernel_rfl) (by kernel_rfl) (by kernel_rfl) (fun _ _ _ h=>h) (.inl ⟨rfl,fun w1 hS1=>?_⟩) hS ?_;rotate_left
 ·go_simp;rfl
 simp only[Act.put,Zp];have e0:U1.cell? (Ad (w.heap.size+1+1+1) 3)=some (.bool false):=L1.ro 3;have e1:U1.cell? (Ad (w.heap.size+1+1+1) 4)=some (uA 0):=L1.ro 4;have e2:U1.cell? (Ad (w.heap.size+1+1+1) 5)=some (uA 0):=L1.ro 5;have e3:=L1.zo 3;have e4:=L1.zo 4;have e5:=L1.zo 5;refine rd1 (r:=9) (by kernel_rfl) rfl fun K hK=>?_;go_simp;clear hS e0 e1 e2 e3 e4 e5;have J2:=((L1.set hlt 3 (by simp) (.bool (aL (a 1) (b 1)).e)).set hlt 4 (by simp) (uA (aL (a 1) (b 1)).f)).set hlt 5 (by simp) (uA (aL (a 1) (b 1)).l);clear J1 K1 L1;generalize ((U1.setCell { block:=w.heap.size+1+1+1,off:=3 } (Value.bool (aL (a 1) (b 1)).e)).setCell
     { block:=w.heap.size+1+1+1,off:=4 } (uA ↑(aL (a 1) (b 1)).f)).setCell
   { block:=w.heap.size+1+1+1,off:=5 } (uA ↑(aL (a 1) (b 1)).l)=W2 at *
 refine hK _ _ ⟨J2.ra 3,J2.ra 4,J2.ra 5,J2.rb 3,J2.rb 4,J2.rb 5⟩ ?_;clear hK K;intro _;refine wpAnyH_done (by kernel_rfl) ?_ _;go_wp2;rw[rounds_succ];have c2a:W2.cell? (Ad w.heap.size 8)=some (uA (a 2).l):=J2.ra 8;have c2b:W2.cell? (Ad (w.heap.size+1) 7)=some (uA (b 2).f):=J2.rb 7;go_wp2;refine aP 10 hm (by kernel_rfl) ?_;simp only[Zt]
 repeat still_step
 refine wpStill_nil ?_;go_wp2_with fail;refine (lK pb 2 (a 2).l (b 2).f (by decide) (hl 2) (hbk 2).1 W2.drew wh tk _ (J2.pat.of_block rfl) b2 (J2.tab.of_block rfl) hpb).mono ?_;rintro e V2 ⟨rfl,P2,f2⟩;have f2:Fr [pb] W2 V2:=⟨f2.os,f2.tape,f2.output,f2.size,f2.block⟩;have K2:=J2.kept f2 P2 hlt hpb;have b3:=lL (sp:=2) (src:=(a 2).l) b2 (hbk 2).1;clear c2a c2b;go_wp2;refine aI (fun w1=>w1.cell? (Ad w.heap.size 6)=some (.bool (a 2).e)∧w1.cell? (Ad w.heap.size 7)=some (uA (a 2).f)∧w1.cell? (Ad w.heap.size 8)=some (uA (a 2).l) ∧
  w1.cell? (Ad (w.heap.size+1) 6)=some (.bool (b 2).e)∧w1.cell? (Ad (w.heap.size+1) 7)=some (uA (b 2).f)∧w1.cell? (Ad (w.heap.size+1) 8)=some (uA (b 2).l)) hm ?_
 have hS:=AI (K2.ra 6) (AI (K2.ra 7) (AI (K2.ra 8) (AI (K2.rb 6) (AI (K2.rb 7) (K2.rb 8)))));refine aK (fun _ _ _ _ _ h=>h) hS [0,1,2,3,4,5,6] (by kernel_rfl) ?_
 iterate 7
  refine Yls.cons (v:=?_) rfl (.inl ⟨rfl,fun w1 hS1=>?_⟩) ?_;rotate_left
  ·obtain⟨s1,s2,s3,s4,s5,s6⟩:=hS1;go_simp;rfl
  simp only[Act.put,Zp]
 refine Yls.nil ?_;refine rd1 (r:=7) (by kernel_rfl) rfl fun K hK=>?_;go_simp;have hj:=nP (a 2) (b 2) (hok 2) (hbk 2) V2.drew;unfold ev at hj;refine hj.mono ?_;rintro e U2 ⟨rfl,g2⟩;have g2:Fr [] V2 U2:=⟨g2.os,g2.tape,g2.output,g2.size,g2.block⟩;have L2:=K2.kept (g2.mono (by simp)) (K2.pat.fr g2 (by simp)) hlt hpb;clear hj hS;have hS:=AI (L2.ra 6) (AI (L2.ra 7) (AI (L2.ra 8) (AI (L2.rb 6) (AI (L2.rb 7) (L2.rb 8)))));refine hK _ _ hS ?_;clear hK K;intro _;refine wpAnyH_take (i:=8) (v:=?_) rfl (by kernel_rfl) (by kernel_rfl) (by kernel_rfl) (fun _ _ _ h=>h) (.inl ⟨rfl,fun w1 hS1=>?_⟩) hS ?_;rotate_left
 ·go_simp;rfl
 simp only[Act.put,Zp];have e0:U2.cell? (Ad (w.heap.size+1+1+1) 6)=some (.bool false):=L2.ro 6;have e1:U2.cell? (Ad (w.heap.size+1+1+1) 7)=some (uA 0):=L2.ro 7;have e2:U2.cell? (Ad (w.heap.size+1+1+1) 8)=some (uA 0):=L2.ro 8;have e3:=L2.zo 6;have e4:=L2.zo 7;have e5:=L2.zo 8;refine rd1 (r:=9) (by kernel_rfl) rfl fun K hK=>?_;go_simp;clear hS e0 e1 e2 e3 e4 e5;have J3:=((L2.set hlt 6 (by simp) (.bool (aL (a 2) (b 2)).e)).set hlt 7 (by simp) (uA (aL (a 2) (b 2)).f)).set hlt 8 (by simp) (uA (aL (a 2) (b 2)).l);clear J2 K2 L2;generalize ((U2.setCell { block:=w.heap.size+1+1+1,off:=6 } (Value.bool (aL (a 2) (b 2)).e)).setCell
     { block:=w.heap.size+1+1+1,off:=7 } (uA ↑(aL (a 2) (b 2)).f)).setCell
   { block:=w.heap.size+1+1+1,off:=8 } (uA ↑(aL (a 2) (b 2)).l)=W3 at *
 refine hK _ _ ⟨J3.ra 6,J3.ra 7,J3.ra 8,J3.rb 6,J3.rb 7,J3.rb 8⟩ ?_;clear hK K;intro _;refine wpAnyH_done (by kernel_rfl) ?_ _;go_wp2;rw[rounds_succ];have c3a:W3.cell? (Ad w.heap.size 11)=some (uA (a 3).l):=J3.ra 11;have c3b:W3.cell? (Ad (w.heap.size+1) 10)=some (uA (b 3).f):=J3.rb 10;go_wp2;refine aP 10 hm (by kernel_rfl) ?_;simp only[Zt]
 repeat still_step
 refine wpStill_nil ?_;go_wp2_with fail;refine (lK pb 3 (a 3).l (b 3).f (by decide) (hl 3) (hbk 3).1 W3.drew wh tk _ (J3.pat.of_block rfl) b3 (J3.tab.of_block rfl) hpb).mono ?_;rintro e V3 ⟨rfl,P3,f3⟩;have f3:Fr [pb] W3 V3:=⟨f3.os,f3.tape,f3.output,f3.size,f3.block⟩;have K3:=J3.kept f3 P3 hlt hpb;have b4:=lL (sp:=3) (src:=(a 3).l) b3 (hbk 3).1;clear c3a c3b;go_wp2;refine aI (fun w1=>w1.cell? (Ad w.heap.size 9)=some (.bool (a 3).e)∧w1.cell? (Ad w.heap.size 10)=some (uA (a 3).f)∧w1.cell? (Ad w.heap.size 11)=some (uA (a 3).l) ∧
  w1.cell? (Ad (w.heap.size+1) 9)=some (.bool (b 3).e)∧w1.cell? (Ad (w.heap.size+1) 10)=some (uA (b 3).f)∧w1.cell? (Ad (w.heap.size+1) 11)=some (uA (b 3).l)) hm ?_
 have hS:=AI (K3.ra 9) (AI (K3.ra 10) (AI (K3.ra 11) (AI (K3.rb 9) (AI (K3.rb 10) (K3.rb 11)))));refine aK (fun _ _ _ _ _ h=>h) hS [0,1,2,3,4,5,6] (by kernel_rfl) ?_
 iterate 7
  refine Yls.cons (v:=?_) rfl (.inl ⟨rfl,fun w1 hS1=>?_⟩) ?_;rotate_left
  ·obtain⟨s1,s2,s3,s4,s5,s6⟩:=hS1;go_simp;rfl
  simp only[Act.put,Zp]
 refine Yls.nil ?_;refine rd1 (r:=7) (by kernel_rfl) rfl fun K hK=>?_;go_simp;have hj:=nP (a 3) (b 3) (hok 3) (hbk 3) V3.drew;unfold ev at hj;refine hj.mono ?_;rintro e U3 ⟨rfl,g3⟩;have g3:Fr [] V3 U3:=⟨g3.os,g3.tape,g3.output,g3.size,g3.block⟩;have L3:=K3.kept (g3.mono (by simp)) (K3.pat.fr g3 (by simp)) hlt hpb;clear hj hS;have hS:=AI (L3.ra 9) (AI (L3.ra 10) (AI (L3.ra 11) (AI (L3.rb 9) (AI (L3.rb 10) (L3.rb 11)))));refine hK _ _ hS ?_;clear hK K;intro _;refine wpAnyH_take (i:=8) (v:=?_) rfl (by kernel_rfl) (by kernel_rfl) (by kernel_rfl) (fun _ _ _ h=>h) (.inl ⟨rfl,fun w1 hS1=>?_⟩) hS ?_;rotate_left
 ·go_simp;rfl
 simp only[Act.put,Zp];have e0:U3.cell? (Ad (w.heap.size+1+1+1) 9)=some (.bool false):=L3.ro 9;have e1:U3.cell? (Ad (w.heap.size+1+1+1) 10)=some (uA 0):=L3.ro 10;have e2:U3.cell? (Ad (w.heap.size+1+1+1) 11)=some (uA 0):=L3.ro 11;have e3:=L3.zo 9;have e4:=L3.zo 10;have e5:=L3.zo 11;refine rd1 (r:=9) (by kernel_rfl) rfl fun K hK=>?_;go_simp;clear hS e0 e1 e2 e3 e4 e5;have J4:=((L3.set hlt 9 (by simp) (.bool (aL (a 3) (b 3)).e)).set hlt 10 (by simp) (uA (aL (a 3) (b 3)).f)).set hlt 11 (by simp) (uA (aL (a 3) (b 3)).l);clear J3 K3 L3;generalize ((U3.setCell { block:=w.heap.size+1+1+1,off:=9 } (Value.bool (aL (a 3) (b 3)).e)).setCell
     { block:=w.heap.size+1+1+1,off:=10 } (uA ↑(aL (a 3) (b 3)).f)).setCell
   { block:=w.heap.size+1+1+1,off:=11 } (uA ↑(aL (a 3) (b 3)).l)=W4 at *
 refine hK _ _ ⟨J4.ra 9,J4.ra 10,J4.ra 11,J4.rb 9,J4.rb 10,J4.rb 11⟩ ?_;clear hK K;intro _;refine wpAnyH_done (by kernel_rfl) ?_ _;go_wp2;rw[rounds_succ];have x0:W4.cell? (Ad (w.heap.size+1+1+1) 0)=some (.bool (aL (a 0) (b 0)).e):=J4.ro 0;have y0:W4.cell? (Ad (w.heap.size+1+1) 0)=some (.bool false):=J4.rr 0;have z0:=J4.zr 0;have x1:W4.cell? (Ad (w.heap.size+1+1+1) 1)=some (uA (aL (a 0) (b 0)).f):=J4.ro 1;have y1:W4.cell? (Ad (w.heap.size+1+1) 1)=some (uA 0):=J4.rr 1;have z1:=J4.zr 1;have x2:W4.cell? (Ad (w.heap.size+1+1+1) 2)=some (uA (aL (a 0) (b 0)).l):=J4.ro 2;have y2:W4.cell? (Ad (w.heap.size+1+1) 2)=some (uA 0):=J4.rr 2;have z2:=J4.zr 2;have x3:W4.cell? (Ad (w.heap.size+1+1+1) 3)=some (.bool (aL (a 1) (b 1)).e):=J4.ro 3;have y3:W4.cell? (Ad (w.heap.size+1+1) 3)=some (.bool false):=J4.rr 3;have z3:=J4.zr 3;have x4:W4.cell? (Ad (w.heap.size+1+1+1) 4)=some (uA (aL (a 1) (b 1)).f):=J4.ro 4;have y4:W4.cell? (Ad (w.heap.size+1+1) 4)=some (uA 0):=J4.rr 4;have z4:=J4.zr 4;have x5:W4.cell? (Ad (w.heap.size+1+1+1) 5)=some (uA (aL (a 1) (b 1)).l):=J4.ro 5;have y5:W4.cell? (Ad (w.heap.size+1+1) 5)=some (uA 0):=J4.rr 5;have z5:=J4.zr 5;have x6:W4.cell? (Ad (w.heap.size+1+1+1) 6)=some (.bool (aL (a 2) (b 2)).e):=J4.ro 6;have y6:W4.cell? (Ad (w.heap.size+1+1) 6)=some (.bool false):=J4.rr 6;have z6:=J4.zr 6;have x7:W4.cell? (Ad (w.heap.size+1+1+1) 7)=some (uA (aL (a 2) (b 2)).f):=J4.ro 7;have y7:W4.cell? (Ad (w.heap.size+1+1) 7)=some (uA 0):=J4.rr 7;have z7:=J4.zr 7;have x8:W4.cell? (Ad (w.heap.size+1+1+1) 8)=some (uA (aL (a 2) (b 2)).l):=J4.ro 8;have y8:W4.cell? (Ad (w.heap.size+1+1) 8)=some (uA 0):=J4.rr 8;have z8:=J4.zr 8;have x9:W4.cell? (Ad (w.heap.size+1+1+1) 9)=some (.bool (aL (a 3) (b 3)).e):=J4.ro 9;have y9:W4.cell? (Ad (w.heap.size+1+1) 9)=some (.bool false):=J4.rr 9;have z9:=J4.zr 9;have x10:W4.cell? (Ad (w.heap.size+1+1+1) 10)=some (uA (aL (a 3) (b 3)).f):=J4.ro 10;have y10:W4.cell? (Ad (w.heap.size+1+1) 10)=some (uA 0):=J4.rr 10;have z10:=J4.zr 10;have x11:W4.cell? (Ad (w.heap.size+1+1+1) 11)=some (uA (aL (a 3) (b 3)).l):=J4.ro 11;have y11:W4.cell? (Ad (w.heap.size+1+1) 11)=some (uA 0):=J4.rr 11;have z11:=J4.zr 11;go_wp2;refine bodyPost_ret (v:=pv (joinF a b)) (by simp[results,results147,go_sem,pv,joinF,x0,x1,x2,x3,x4,x5,x6,x7,x8,x9,x10,x11,y0,y1,y2,y3,y4,y5,y6,y7,y8,y9,y10,y11]) rfl ⟨rfl,?_,?_⟩
 ·have hfr:=dM W4 (w.heap.size+1+1) (.bool (aL (a 0) (b 0)).e) (uA (aL (a 0) (b 0)).f) (uA (aL (a 0) (b 0)).l) (.bool (aL (a 1) (b 1)).e) (uA (aL (a 1) (b 1)).f) (uA (aL (a 1) (b 1)).l) (.bool (aL (a 2) (b 2)).e) (uA (aL (a 2) (b 2)).f) (uA (aL (a 2) (b 2)).l) (.bool (aL (a 3) (b 3)).e) (uA (aL (a 3) (b 3)).f) (uA (aL (a 3) (b 3)).l);exact (J4.pat.fr hfr (by simp;omega)).congr (fun _ _=>rfl) (fun s c hs _=>m7 fo a b s c hs)
 have hfr:=dM W4 (w.heap.size+1+1) (.bool (aL (a 0) (b 0)).e) (uA (aL (a 0) (b 0)).f) (uA (aL (a 0) (b 0)).l) (.bool (aL (a 1) (b 1)).e) (uA (aL (a 1) (b 1)).f) (uA (aL (a 1) (b 1)).l) (.bool (aL (a 2) (b 2)).e) (uA (aL (a 2) (b 2)).f) (uA (aL (a 2) (b 2)).l) (.bool (aL (a 3) (b 3)).e) (uA (aL (a 3) (b 3)).f) (uA (aL (a 3) (b 3)).l);exact J4.fr.trans' hfr (by simp;omega)
structure dB (w:WL) (ab:Nat) (P:Nat→Bool):Prop where
 c:∀ b,b<256→w.cell? ⟨ab,b,none⟩=some (.bool (P b))
 z:∀ b,b<256→w.frozen? ⟨ab,b,none⟩=false
theorem dB.lt {w:WL}{ab:Nat}{P:Nat→Bool} (h:dB w ab P):ab<w.heap.size:=aB (a:=Ad ab 0) (h.c 0 (by decide))
theorem dB.fr {S:LN}{w w':WL}{ab:Nat}{P:Nat→Bool} (h:dB w ab P) (hf:Fr S w w') (hn:ab ∉ S):dB w' ab P:=
 ⟨fun b hb=>(hf.cell (p:=Ad ab b) h.lt hn).trans (h.c b hb),fun b hb=>(hf.frozen (p:=Ad ab b) h.lt hn).trans (h.z b hb)⟩
theorem bL.setTake {w:WL}{pb:Nat}{wh:Nat→Value}{tk:NN}{fo:Nat→NN} (h:bL w pb wh tk fo) (b:Nat) (hb:b<256) (v:Nat) :
  bL (w.setCell ⟨pb,12+b,none⟩ (.int .u64 v)) pb wh (fun b'=>if b'=b then v else tk b') fo:=by
 refine⟨fun i hi=>(aA (by omega)).trans (h.hw i hi),fun b' hb'=>?_,fun s a hs ha=>(aA (by omega)).trans (h.hf s a hs ha),fun i hi=>(wfz _ _ _ _).trans (h.fz i hi)⟩;by_cases e:b'=b
 ·subst e;rw[if_pos rfl];exact World.cell?_setCell_same' _ _ _ (by rw[h.ht b' hb];rfl)
 rw[if_neg e];exact (aA (by omega)).trans (h.ht b' hb')
def tkK (tk:NN) (P:Nat→Bool) (v k:Nat):Nat→Nat:=fun b=>if b<k∧P b=true then tk b ||| v else tk b
structure mT (w:WL) (r pb ab:Nat) (t:BA) (wh:Nat→Value) (s:St) (P:Nat→Bool) (wanted:Bool) (v k:Nat) (W:WL):Prop where
 m:M W r pb t wh { s with atoms:=s.atoms+1,tk:=tkK s.tk (fun b=>P b==wanted) v k }
 by_:dB W ab P
 rr:fY W w.heap.size [.bool false,.int .u64 0,.int .u64 0,.bool false,.int .u64 0,.int .u64 0,.bool false,.int .u64 0,.int .u64 0,.bool false,.int .u64 0,.int .u64 0]
 zr:∀ i,W.frozen? ⟨w.heap.size,i,none⟩=false
 fr:Fr [r,pb] w W
theorem aMa (a:Nat)(h:a<50):IntKind.u64.wrap (2 ^ a)=((2 ^ a:Nat):Int):=by
 have h1:2 ^ a<2 ^ 50:=Nat.pow_lt_pow_right (by decide) h;have h2:((2:Int) ^ a)=((2 ^ a:Nat):Int):=by simp
 rw[IntKind.wrap_u64,h2];clear h2;generalize (2 ^ a:Nat)=x at h1 ⊢;omega
theorem M.setAtoms {w:WL}{r pb:Nat}{t:BA}{wh:Nat→Value}{s:St} (h:M w r pb t wh s):M (w.setCell ⟨r,3,none⟩ (.int .i64 ((s.atoms:Int)+1))) r pb t wh { s with atoms:=s.atoms+1 }:=by
 have hb:∀ c,c≠r→(w.setCell ⟨r,3,none⟩ (.int .i64 ((s.atoms:Int)+1))).heap[c]?=w.heap[c]?:=fun c hc=>Below.heap_setCell w ⟨r,3,none⟩ _ c hc;exact⟨⟨(aA (by decide)).trans h.rd.c0,(aA (by decide)).trans h.rd.c1,(aA (by decide)).trans h.rd.c2,World.cell?_setCell_same' _ _ _ (by rw[h.rd.c3];rfl),(aA (by decide)).trans h.rd.c4,
  (wfz _ _ _ _).trans h.rd.f1,(wfz _ _ _ _).trans h.rd.f2,(wfz _ _ _ _).trans h.rd.f3⟩,h.pat.of_block (hb _ (fun e=>h.n1 e.symm)),h.tab.of_block (hb _ (fun e=>h.n2 e.symm)),h.n1,h.n2,h.n3⟩
theorem mT.start {w:WL}{r pb ab:Nat}{t:BA}{wh:Nat→Value}{s:St}{P:Nat→Bool}{wanted:Bool}{v:Nat} (h:M w r pb t wh s) (hB:dB w ab P) (n1:ab≠r) :
  mT w r pb ab t wh s P wanted v 0 ((w.setCell ⟨r,3,none⟩ (.int .i64 ((s.atoms:Int)+1))).alloc (Obj.cells #[.bool false,uA 0,uA 0,.bool false,uA 0,uA 0,.bool false,uA 0,uA 0,.bool false,uA 0,uA 0] 120)):=by
 have hr:=h.rlt;have f1:Fr [r] w (w.setCell ⟨r,3,none⟩ (.int .i64 ((s.atoms:Int)+1))):=(Fr.refl [r] w).setCell (p:=⟨r,3,none⟩) (.inl (by simp)) _;have f2:Fr [] (w.setCell ⟨r,3,none⟩ (.int .i64 ((s.atoms:Int)+1))) ((w.setCell ⟨r,3,none⟩ (.int .i64 ((s.atoms:Int)+1))).alloc (Obj.cells #[.bool false,uA 0,uA 0,.bool false,uA 0,uA 0,.bool false,uA 0,uA 0,.bool false,uA 0,uA 0] 120)):=(Fr.refl [] _).alloc _;have m2:=h.setAtoms.fr f2 (by simp) (by simp) (by simp);have rw0:=bW (w.setCell ⟨r,3,none⟩ (.int .i64 ((s.atoms:Int)+1))) [.bool false,uA 0,uA 0,.bool false,uA 0,uA 0,.bool false,uA 0,uA 0,.bool false,uA 0,uA 0] 120;have sz:(w.setCell ⟨r,3,none⟩ (.int .i64 ((s.atoms:Int)+1))).heap.size=w.heap.size:=by simp[World.setCell]
 have fz:=bT (w.setCell ⟨r,3,none⟩ (.int .i64 ((s.atoms:Int)+1))) [.bool false,uA 0,uA 0,.bool false,uA 0,uA 0,.bool false,uA 0,uA 0,.bool false,uA 0,uA 0] 120;rw[sz] at rw0 fz;refine⟨⟨m2.rd,m2.pat.congr (fun b _=>by simp[tkK]) (fun _ _ _ _=>rfl),m2.tab,m2.n1,m2.n2,m2.n3⟩,(hB.fr f1 (by simpa using n1)).fr f2 (by simp),rw0,fz,(f1.mono (by simp)).trans (f2.mono (by simp))⟩
theorem mT.drew {w:WL}{r pb ab:Nat}{t:BA}{wh:Nat→Value}{s:St}{P:Nat→Bool}{wanted:Bool}{v k:Nat}{W:WL} (h:mT w r pb ab t wh s P wanted v k W):mT w r pb ab t wh s P wanted v k W.drew:=
 ⟨h.m.heap rfl,⟨h.by_.c,h.by_.z⟩,h.rr,h.zr,h.fr.drew⟩
theorem mT.miss {w:WL}{r pb ab:Nat}{t:BA}{wh:Nat→Value}{s:St}{P:Nat→Bool}{wanted:Bool}{v k:Nat}{W:WL} (h:mT w r pb ab t wh s P wanted v k W) (hk:(P k==wanted)=false):mT w r pb ab t wh s P wanted v (k+1) W:=by
 refine⟨⟨h.m.rd,h.m.pat.congr (fun b _=>?_) (fun _ _ _ _=>rfl),h.m.tab,h.m.n1,h.m.n2,h.m.n3⟩,h.by_,h.rr,h.zr,h.fr⟩;simp only[tkK];by_cases e:b=k
 ·subst e;simp[hk]
 have:b<k+1↔b<k:=by omega
 simp[this]
theorem mT.hit {w:WL}{r pb ab:Nat}{t:BA}{wh:Nat→Value}{s:St}{P:Nat→Bool}{wanted:Bool}{v k:Nat}{W:WL} (h:mT w r pb ab t wh s P wanted v k W) (hk:(P k==wanted)=true) (hk2:k<256) (n2:ab≠pb) (hpl:pb<w.heap.size) :
  mT w r pb ab t wh s P wanted v (k+1) (W.setCell ⟨pb,12+k,none⟩ (.int .u64 (s.tk k ||| v:Nat))):=by
 have hb:∀ c,c≠pb→(W.setCell ⟨pb,12+k,none⟩ (.int .u64 (s.tk k ||| v:Nat))).heap[c]?=W.heap[c]?:=fun c hc=>Below.heap_setCell W ⟨pb,12+k,none⟩ _ c hc;have hf:Fr [pb] W (W.setCell ⟨pb,12+k,none⟩ (.int .u64 (s.tk k ||| v:Nat))):=(Fr.refl [pb] W).setCell (p:=⟨pb,12+k,none⟩) (.inl (by simp)) _;refine⟨⟨h.m.rd.of_block (hb _ h.m.n1),(h.m.pat.setTake k hk2 _).congr (fun b _=>?_) (fun _ _ _ _=>rfl),h.m.tab.of_block (hb _ (fun e=>h.m.n3 e.symm)),h.m.n1,h.m.n2,h.m.n3⟩,h.by_.fr hf (by simpa using n2),fun i=>(aX (by omega)).trans (h.rr i),
  fun i=>(wfz _ _ _ _).trans (h.zr i),h.fr.trans (hf.mono (by simp))⟩
 simp only[tkK];by_cases e:b=k
 ·subst e;simp[hk]
 have:b<k+1↔b<k:=by omega
 simp[this,e]
theorem aWf (tk:NN)(P:Nat→Bool)(v k:Nat):tkK tk P v k k=tk k:=by simp[tkK]
theorem qN {w:WL}{r pb:Nat}{t:BA}{wh:Nat→Value}{s:St} (ab:Nat) (P:Nat→Bool) (wanted:Bool) (h:M w r pb t wh s) (hB:dB w ab P) (n1:ab≠r) (n2:ab≠pb) (ha:s.atoms<50) (htk:∀ b,s.tk b<18446744073709551616) :
  Calls prog 224 #[.pointer (some (Ad r 0)),.pointer (some (Ad ab 0)),.bool wanted] w fun e w'=>
   e=.returned (pv (dX s (fun b=>P b==wanted)).1)∧M w' r pb t wh (dX s (fun b=>P b==wanted)).2∧Fr [r,pb] w w':=by
 have hm:=hmX
 have c3:=h.rd.c3;have z3:=h.rd.f3;have hlt:=h.rlt;have plt:=h.pat.lt;have t6:=h.tab.lt;have l1:r<w.heap.size+1:=by omega
 have hself:=aMa s.atoms ha;have hv64:2 ^ s.atoms<18446744073709551616:=Nat.lt_trans (Nat.pow_lt_pow_right (a:=2) (by decide) ha) (by decide);have hgoal:(dX s (fun b=>P b==wanted))=(fun _=>⟨false,2 ^ s.atoms,2 ^ s.atoms⟩,{ s with atoms:=s.atoms+1,tk:=fun b=>if (P b==wanted)=true then s.tk b ||| 2 ^ s.atoms else s.tk b }):=rfl;rw[hgoal];clear hgoal;have hself':∀ v:Nat,2 ^ s.atoms=v→IntKind.u64.wrap (2 ^ s.atoms)=(v:Int):=fun v e=>by rw[hself,e]
 clear hself;obtain⟨v,hv⟩:∃ v:Nat,2 ^ s.atoms=v:=⟨_,rfl⟩;have hw:=hself' v hv;clear hself';rw[hv] at hv64 ⊢;clear hv;have J0:=mT.start (wanted:=wanted) (v:=v) h hB n1;go_enter func224,ntmps224;go_wp2
 go_loopw [8,9,25] (fun _ _ i wr=>∃ k:Nat,k≤256∧i=iA k∧mT w r pb ab t wh s P wanted v k wr) (fun _ _ i _=>256-(intOf i).toNat)
 case atStart=>exact⟨0,by decide,rfl,J0⟩
 case round=>
  obtain⟨k,hk,rfl,J⟩:=hrel;by_cases hlt:k<256
  ·have g1:(k:Int)<256:=by omega
   have b1:=J.by_.c k hlt;have c4:=J.m.rd.c4;have p1:wr.cell? (Ad pb (12+k))=some (uA (s.tk k:Nat)):=by rw[J.m.pat.ht k hlt];simp only[aWf]
   have p2:=J.m.pat.fz (12+k) (by omega);have o1:=bits_or_u64_nat (s.tk k) v (htk k) hv64;go_wp2;refine aY hm (by kernel_rfl) ?_
   repeat still_step
   refine wpStill_nil ?_;cases hw2:(P k==wanted)
   ·go_wp2;exact⟨⟨k+1,by omega,by go_num,J.drew.miss hw2⟩,by simp[intOf];omega⟩
   go_wp2;refine aP 14 hm (by kernel_rfl) ?_;simp only[Zt]
   repeat still_step
   refine wpStill_nil ?_;go_wp2;exact⟨⟨k+1,by omega,by go_num,(J.hit hw2 hlt n2 plt).drew.drew⟩,by simp[intOf];omega⟩
  obtain rfl:k=256:=by omega
  have q1:w.heap.size<wr.heap.size:=aB (a:=Ad w.heap.size 0) (J.rr 0);have q2:w.heap.size<wr.heap.size+1:=by omega
  have y0:wr.cell? (Ad w.heap.size 0)=some (.bool false):=J.rr 0;have y1:wr.cell? (Ad w.heap.size 1)=some (uA 0):=J.rr 1;have y2:wr.cell? (Ad w.heap.size 2)=some (uA 0):=J.rr 2;have y3:wr.cell? (Ad w.heap.size 3)=some (.bool false):=J.rr 3;have y4:wr.cell? (Ad w.heap.size 4)=some (uA 0):=J.rr 4;have y5:wr.cell? (Ad w.heap.size 5)=some (uA 0):=J.rr 5;have y6:wr.cell? (Ad w.heap.size 6)=some (.bool false):=J.rr 6;have y7:wr.cell? (Ad w.heap.size 7)=some (uA 0):=J.rr 7;have y8:wr.cell? (Ad w.heap.size 8)=some (uA 0):=J.rr 8;have y9:wr.cell? (Ad w.heap.size 9)=some (.bool false):=J.rr 9;have y10:wr.cell? (Ad w.heap.size 10)=some (uA 0):=J.rr 10;have y11:wr.cell? (Ad w.heap.size 11)=some (uA 0):=J.rr 11;have z0:=J.zr 0;have z1:=J.zr 1;have z2:=J.zr 2;have z3:=J.zr 3;have z4:=J.zr 4;have z5:=J.zr 5;have z6:=J.zr 6;have z7:=J.zr 7;have z8:=J.zr 8;have z9:=J.zr 9;have z10:=J.zr 10;have z11:=J.zr 11;go_wp2;refine wp_loop_rounds 5 ?_
  iterate 5 (rw[rounds_succ];go_wp2)
  have hfr:=(dM wr w.heap.size (.bool false) (uA v) (uA v) (.bool false) (uA v) (uA v) (.bool false) (uA v) (uA v) (.bool false) (uA v) (uA v)).alloc (Obj.cells #[.bool false,uA v,uA v,.bool false,uA v,uA v,.bool false,uA v,uA v,.bool false,uA v,uA v] 120);refine bodyPost_ret (v:=pv (fun _=>⟨false,v,v⟩)) (by simp[results,results224,go_sem,pv,q1,y0,y1,y2,y3,y4,y5,y6,y7,y8,y9,y10,y11]) rfl ⟨rfl,?_,?_⟩
  ·have m2:=J.m.fr hfr (by simp;omega) (by simp;omega) (by simp only[List.mem_cons,List.not_mem_nil,or_false];omega);exact⟨m2.rd,m2.pat.congr (fun b hb=>by simp[tkK,hb]) (fun _ _ _ _=>rfl),m2.tab,m2.n1,m2.n2,m2.n3⟩
  exact J.fr.trans' hfr (by simp)
theorem dB.set {w:WL}{ab:Nat}{P:Nat→Bool} (h:dB w ab P) (k:Nat) (hk:k<256):dB (w.setCell ⟨ab,k,none⟩ (.bool true)) ab (fun b=>P b || decide (b=k)):=by
 refine⟨fun b hb=>?_,fun b hb=>(wfz _ _ _ _).trans (h.z b hb)⟩;by_cases e:b=k
 ·subst e;simp;exact World.cell?_setCell_same' _ _ _ (by rw[h.c b hk];rfl)
 simp[e];exact (aA (fun e'=>e e'.symm)).trans (h.c b hb)
theorem dB.congr {w:WL}{ab:Nat}{P P':Nat→Bool} (h:dB w ab P) (hp:∀ b,b<256→P b=P' b):dB w ab P':=⟨fun b hb=>by rw[← hp b hb];exact h.c b hb,h.z⟩
theorem aRt:zeroCells256=Array.replicate 256 (Value.bool false):=by kernel_rfl
theorem dB.new (W:WL):dB (W.alloc (.cells zeroCells256 256)) W.heap.size (fun _=>false):=by
 have h:=wan W (.cells zeroCells256 256);rw[aRt] at h ⊢;refine⟨fun b hb=>?_,fun b hb=>?_⟩
 ·unfold World.cell?;rw[h];simp[hb]
 unfold World.frozen?;rw[h];simp
structure TkI (w:WL) (r pb:Nat) (t:BA) (wh:Nat→Value) (s:St) (P:Nat→Bool) (W:WL):Prop where
 m:M W r pb t wh s
 by_:dB W (w.heap.size+1) P
 rr:fY W w.heap.size [.bool false,.int .u64 0,.int .u64 0,.bool false,.int .u64 0,.int .u64 0,.bool false,.int .u64 0,.int .u64 0,.bool false,.int .u64 0,.int .u64 0]
 zr:∀ i,W.frozen? ⟨w.heap.size,i,none⟩=false
 fr:Fr [] w W
theorem Y1 {w:WL}{r pb:Nat}{t:BA}{wh:Nat→Value}{s:St} (lo hi:Nat) (hlo:lo≤hi) (hhi:hi<256) (h:M w r pb t wh s) (ha:s.atoms<50) (htk:∀ b,s.tk b<18446744073709551616) :
  Calls prog 200 #[.pointer (some (Ad r 0)),iA lo,iA hi] w fun e w'=>e=.returned (pv (iQ s lo hi).1)∧M w' r pb t wh (iQ s lo hi).2∧Fr [r,pb] w w':=by
 have hrl:=h.rlt;have hpl:=h.pat.lt;have t6:=h.tab.lt;have J0:TkI w r pb t wh s (fun _=>false) ((w.alloc (Obj.cells #[.bool false,uA 0,uA 0,.bool false,uA 0,uA 0,.bool false,uA 0,uA 0,.bool false,uA 0,uA 0] 120)).alloc (Obj.cells zeroCells256 256)):=by
  have f0:Fr [] w ((w.alloc (Obj.cells #[.bool false,uA 0,uA 0,.bool false,uA 0,uA 0,.bool false,uA 0,uA 0,.bool false,uA 0,uA 0] 120)).alloc (Obj.cells zeroCells256 256)):=((Fr.refl [] _).alloc _).alloc _;have b0:=dB.new (w.alloc (Obj.cells #[.bool false,uA 0,uA 0,.bool false,uA 0,uA 0,.bool false,uA 0,uA 0,.bool false,uA 0,uA 0] 120));rw[World.size_alloc] at b0;refine⟨h.fr f0 (by simp) (by simp) (by simp),b0,(bW w [.bool false,uA 0,uA 0,.bool false,uA 0,uA 0,.bool false,uA 0,uA 0,.bool false,uA 0,uA 0] 120).fr ((Fr.refl [] _).alloc _) (by simp) (by simp),fun i=>?_,f0⟩;exact (World.frozen?_alloc_past _ _ _ (by simp)).trans (bT w [.bool false,uA 0,uA 0,.bool false,uA 0,uA 0,.bool false,uA 0,uA 0,.bool false,uA 0,uA 0] 120 i)
 go_enter func200,ntmps200;go_wp2
 go_loopw [8] (fun i wr=>∃ k:Nat,lo≤k∧k≤hi+1∧i=iA k∧TkI w r pb t wh s (fun b=>decide (lo≤b) && decide (b<k)) wr) (fun i _=>256-(intOf i).toNat)
 case atStart=>exact⟨lo,Nat.le_refl _,by omega,rfl,⟨J0.m,J0.by_.congr (fun b _=>by simp),J0.rr,J0.zr,J0.fr⟩⟩
 case round=>
  obtain⟨k,hk1,hk2,rfl,J⟩:=hrel;by_cases hlt:k≤hi
  ·have g1:(k:Int)≤hi:=by omega
   have g2:(k:Int)<256:=by omega
   have c1:=J.by_.c k (by omega);have z1:=J.by_.z k (by omega);go_wp2;have hf:Fr [w.heap.size+1] wr (wr.setCell ⟨w.heap.size+1,k,none⟩ (.bool true)):=(Fr.refl _ wr).setCell (p:=⟨w.heap.size+1,k,none⟩) (.inl (by simp)) _;refine⟨⟨k+1,by omega,by omega,by go_num,⟨J.m.fr hf (by simp;omega) (by simp;omega) (by simp only[List.mem_cons,List.not_mem_nil,or_false];omega),(J.by_.set k (by omega)).congr (fun b _=>?_),fun i=>(aX (by omega)).trans (J.rr i),fun i=>(wfz _ _ _ _).trans (J.zr i),J.fr.trans' hf (by simp)⟩⟩,by simp[intOf];omega⟩;by_cases e:b=k
   ·subst e;simp;omega
   have e2:b<k+1↔b<k:=by omega
   simp[e,e2]
  have g1:¬ ((k:Int)≤hi):=by omega
  obtain rfl:k=hi+1:=by omega
  have hto:=qN (w.heap.size+1) (fun b=>decide (lo≤b) && decide (b<hi+1)) true J.m J.by_ (by omega) (by omega) ha htk;have hsame:dX s (fun b=>(decide (lo≤b) && decide (b<hi+1))==true)=iQ s lo hi:=by
   unfold iQ;congr 1;funext b;simp only[yG,Bool.false_or,beq_true];congr 1
   ·rw[Bool.eq_iff_iff];simp
   rw[Bool.eq_iff_iff];simp;omega
  rw[hsame] at hto;clear hsame;obtain⟨q,hq⟩:=eXi ((iQ s lo hi).1);obtain⟨s2,hs2⟩:=eXi ((iQ s lo hi).2);rw[hq,hs2] at hto;have Hq:Hid (_=q):=hq;have Hs:Hid (_=s2):=hs2;clear hq hs2;go_wp2_with fail;refine hto.mono ?_;rintro e w1 ⟨rfl,m1,f1⟩;have q1:w.heap.size<wr.heap.size:=aB (a:=Ad w.heap.size 0) (J.rr 0);have rr1:=J.rr.fr f1 (by simp;omega) q1;have zr1:=fun i=>(f1.frozen (p:=Ad w.heap.size i) q1 (by simp;omega)).trans (J.zr i);have y0:w1.cell? (Ad w.heap.size 0)=some (.bool false):=rr1 0;have z0:=zr1 0;have y1:w1.cell? (Ad w.heap.size 1)=some (uA 0):=rr1 1;have z1:=zr1 1;have y2:w1.cell? (Ad w.heap.size 2)=some (uA 0):=rr1 2;have z2:=zr1 2;have y3:w1.cell? (Ad w.heap.size 3)=some (.bool false):=rr1 3;have z3:=zr1 3;have y4:w1.cell? (Ad w.heap.size 4)=some (uA 0):=rr1 4;have z4:=zr1 4;have y5:w1.cell? (Ad w.heap.size 5)=some (uA 0):=rr1 5;have z5:=zr1 5;have y6:w1.cell? (Ad w.heap.size 6)=some (.bool false):=rr1 6;have z6:=zr1 6;have y7:w1.cell? (Ad w.heap.size 7)=some (uA 0):=rr1 7;have z7:=zr1 7;have y8:w1.cell? (Ad w.heap.size 8)=some (uA 0):=rr1 8;have z8:=zr1 8;have y9:w1.cell? (Ad w.heap.size 9)=some (.bool false):=rr1 9;have z9:=zr1 9;have y10:w1.cell? (Ad w.heap.size 10)=some (uA 0):=rr1 10;have z10:=zr1 10;have y11:w1.cell? (Ad w.heap.size 11)=some (uA 0):=rr1 11;have z11:=zr1 11;clear rr1 zr1;unfold pv;go_wp2;have hfr:=dM w1 w.heap.size (.bool (q 0).e) (uA (q 0).f) (uA (q 0).l) (.bool (q 1).e) (uA (q 1).f) (uA (q 1).l) (.bool (q 2).e) (uA (q 2).f) (uA (q 2).l) (.bool (q 3).e) (uA (q 3).f) (uA (q 3).l);refine bodyPost_ret (v:=pv q) (by simp[results,results200,go_sem,pv,y0,y1,y2,y3,y4,y5,y6,y7,y8,y9,y10,y11]) rfl ⟨by rw[Hq.out],?_,?_⟩
  ·rw[Hs.out];exact m1.fr hfr (by simp;omega) (by simp;omega) (by simp only[List.mem_cons,List.not_mem_nil,or_false];omega)
  exact ((J.fr.mono (by simp)).trans f1).trans' hfr (by simp)
theorem aLs {t:BA}{s:St} (least:Int):s.pos≤(bQ t s least).2.pos∧(bQ t s least).2.pos≤s.pos+2:=by
 have h:=xN (t:=t) (s:=s) 92;unfold bQ;split
 ·simp[qH]
 split
 ·simp[qH];omega
 simp[aW];omega
theorem aLq (t:BA)(k:Nat):-1≤pG t k∧pG t k<256:=by
 unfold pG;split
 ·rename_i h;have:=t[k].toNat_lt;omega
 omega
theorem aHm (t:BA)(s:St):-1≤aH t s∧aH t s<256:=by
 unfold aH;split
 ·omega
 exact aLq _ _
theorem aDg {t:BA}{s:St} (least:Int) (hl:0≤least):0≤(bQ t s least).1∧(bQ t s least).1<256:=by
 have h:=aHm t (cG t s 92).2;unfold bQ;split
 ·simp
 split
 ·simp
 simp only;omega
theorem qV (P:Nat→Bool)(l b:Nat):P b=(P b || (decide (l≤b) && decide (b<l))):=by
 have:(decide (l≤b) && decide (b<l))=false:=by simp
 rw[this,Bool.or_false]
theorem tQ (P:Nat→Bool)(l k b:Nat)(h:l≤k):((P b || (decide (l≤b) && decide (b<k))) || decide (b=k))=(P b || (decide (l≤b) && decide (b<k+1))):=by
 by_cases e:b=k
 ·subst e;simp[h]
 have e2:b<k+1↔b<k:=by omega
 simp[e,e2]
theorem yF (P:Nat→Bool)(l u k b:Nat)(h1:l≤k)(h2:k=l∨k≤u+1)(h3:¬ k≤u):(P b || (decide (l≤b) && decide (b<k)))=yG P l u b:=by
 unfold yG;congr 1;rw[Bool.eq_iff_iff];simp;omega
theorem aCd {w:WL}{r pb:Nat}{t:BA}{wh:Nat→Value}{s:St} (ab:Nat) (P:Nat→Bool) (h:M w r pb t wh s) (hB:dB w ab P) (n1:ab≠r) (n2:ab≠pb) (n3:ab≠1) (hs:t.size≤50) (hp:s.pos≤800) :
  Calls prog 223 #[.pointer (some (Ad r 0)),.pointer (some (Ad ab 0))] w fun e w'=>e=.returned (.tuple #[])∧M w' r pb t wh (fC t s P).2∧dB w' ab (fC t s P).1∧Fr [r,ab] w w':=by
 have hbd:=D6 0 h hs (by omega);have hps:=aLs (t:=t) (s:=s) 0;have hlo:=aDg (t:=t) (s:=s) 0 (Int.le_refl 0);unfold fC;obtain⟨lo,hq⟩:∃ q,(bQ t s 0).1=q:=⟨_,rfl⟩;obtain⟨s1,hs1⟩:=eXi ((bQ t s 0).2);rw[hq] at hbd hlo ⊢;rw[hs1] at hbd hps ⊢;clear hq hs1;obtain⟨l,rfl⟩:=Int.eq_ofNat_of_zero_le hlo.1;by_cases h45:aH t s1=45
 ·have he:(aH t s1==45)=true:=by simp[h45]
  have hcl:=fun (W:WL) (hW:M W r pb t wh s1)=>aGa (s1.pos+1) hW hs (by omega);cases hc:vW t (s1.pos+1)
  ·rw[if_pos ⟨h45,rfl⟩];rw[hc] at hcl;have hb2:=fun (W:WL) (hW:M W r pb t wh (aW s1))=>D6 (l:Int) hW hs (by simp[aW];omega);have hhi:=aDg (t:=t) (s:=aW s1) (l:Int) (by omega);obtain⟨u',hq⟩:∃ q,(bQ t (aW s1) l).1=q:=⟨_,rfl⟩;obtain⟨s2,hs2⟩:=eXi ((bQ t (aW s1) l).2);simp only[hq,hs2] at hb2 hhi ⊢;clear hq hs2 h45 hc;obtain⟨u,rfl⟩:=Int.eq_ofNat_of_zero_le hhi.1;have Hb2:=(show Hid _ from hb2);have Hcl:=(show Hid _ from hcl);clear hb2 hcl;go_enter func223,ntmps223;go_wp2_with fail;refine hbd.mono ?_;rintro e w1 ⟨rfl,m1,f1⟩;have c1:=m1.rd.c1;have z1:=m1.rd.f1;go_wp2_with fail;refine (cM m1 hs).mono ?_;rintro e w2 ⟨rfl,n,rfl⟩;go_wp2_with fail;have hcl2:=Hcl.out (w1.drewN n) (m1.heap rfl);rw[show (((s1.pos+1:Nat)):Int)=(s1.pos:Int)+1 from by omega] at hcl2;refine hcl2.mono ?_;rintro e w3 ⟨rfl,rfl⟩;go_wp2_with fail;refine (Hb2.out _ (m1.heap (w':=w1.drewN n) rfl).adv).mono ?_;rintro e w4 ⟨rfl,m2,f2⟩;have f3:Fr [r] w1 w4:=((((Fr.refl [r] w1).drewN n).setCell (p:=⟨r,1,none⟩) (.inl (by simp)) _)).trans f2;clear c1 z1;go_wp2;have b1:=(hB.fr f1 (by simpa using n1)).fr f3 (by simpa using n1)
   go_loopw [6] (fun i wr=>∃ k:Nat,l≤k∧(k=l∨k≤u+1)∧i=iA k∧M wr r pb t wh s2∧dB wr ab (fun b=>P b || (decide (l≤b) && decide (b<k)))∧Fr [r,ab] w wr) (fun i _=>257-(intOf i).toNat)
   case atStart=>exact⟨l,Nat.le_refl _,.inl rfl,rfl,m2,(b1).congr (fun b _=>qV P l b),(f1.mono (by simp)).trans (f3.mono (by simp))⟩
   case round=>
    obtain⟨k,hk1,hk2,rfl,m,bl,fr⟩:=hrel;by_cases hlt:k≤u
    ·have g1:(k:Int)≤u:=by omega
     have g2:(k:Int)<256:=by omega
     have c1:=bl.c k (by omega);have z1:=bl.z k (by omega);go_wp2;have hf:Fr [ab] wr (wr.setCell ⟨ab,k,none⟩ (.bool true)):=(Fr.refl _ wr).setCell (p:=⟨ab,k,none⟩) (.inl (by simp)) _;refine⟨⟨k+1,by omega,.inr (by omega),by go_num,m.fr hf (by simpa using fun e=>n1 e.symm) (by simpa using fun e=>n2 e.symm) (by simpa using fun e=>n3 e.symm),(bl.set k (by omega)).congr (fun b _=>?_),fr.trans (hf.mono (by simp))⟩,by simp[intOf];omega⟩;exact tQ P l k b hk1
    have g1:¬ ((k:Int)≤u):=by omega
    go_wp2;go_end0;exact⟨rfl,m,bl.congr (fun b _=>yF P l u k b hk1 hk2 (by omega)),fr⟩
  rw[if_neg (fun h=>by cases h.2)];rw[hc] at hcl;clear h45 hc;have Hcl:=(show Hid _ from hcl);clear hcl;go_enter func223,ntmps223;go_wp2_with fail;refine hbd.mono ?_;rintro e w1 ⟨rfl,m1,f1⟩;have c1:=m1.rd.c1;go_wp2_with fail;refine (cM m1 hs).mono ?_;rintro e w2 ⟨rfl,n,rfl⟩;go_wp2_with fail;have hcl2:=Hcl.out (w1.drewN n) (m1.heap rfl);rw[show (((s1.pos+1:Nat)):Int)=(s1.pos:Int)+1 from by omega] at hcl2;refine hcl2.mono ?_;rintro e w3 ⟨rfl,rfl⟩;go_wp2;have b1:=(hB.fr f1 (by simpa using n1))
  go_loopw [6] (fun i wr=>∃ k:Nat,l≤k∧(k=l∨k≤l+1)∧i=iA k∧M wr r pb t wh s1∧dB wr ab (fun b=>P b || (decide (l≤b) && decide (b<k)))∧Fr [r,ab] w wr) (fun i _=>257-(intOf i).toNat)
  case atStart=>exact⟨l,Nat.le_refl _,.inl rfl,rfl,m1.heap rfl,((⟨b1.c,b1.z⟩:dB (w1.drewN n) ab P)).congr (fun b _=>qV P l b),(f1.mono (by simp)).drewN n⟩
  case round=>
   obtain⟨k,hk1,hk2,rfl,m,bl,fr⟩:=hrel;by_cases hlt:k≤l
   ·have g1:(k:Int)≤l:=by omega
    have g2:(k:Int)<256:=by omega
    have c1:=bl.c k (by omega);have z1:=bl.z k (by omega);go_wp2;have hf:Fr [ab] wr (wr.setCell ⟨ab,k,none⟩ (.bool true)):=(Fr.refl _ wr).setCell (p:=⟨ab,k,none⟩) (.inl (by simp)) _;refine⟨⟨k+1,by omega,.inr (by omega),by go_num,m.fr hf (by simpa using fun e=>n1 e.symm) (by simpa using fun e=>n2 e.symm) (by simpa using fun e=>n3 e.symm),(bl.set k (by omega)).congr (fun b _=>?_),fr.trans (hf.mono (by simp))⟩,by simp[intOf];omega⟩;exact tQ P l k b hk1
   have g1:¬ ((k:Int)≤l):=by omega
   go_wp2;go_end0;exact⟨rfl,m,bl.congr (fun b _=>yF P l l k b hk1 hk2 (by omega)),fr⟩
 have he:(aH t s1==45)=false:=by simpa using h45
 rw[if_neg (fun h=>h45 h.1)];clear h45;go_enter func223,ntmps223;go_wp2_with fail;refine hbd.mono ?_;rintro e w1 ⟨rfl,m1,f1⟩;go_wp2_with fail;refine (cM m1 hs).mono ?_;rintro e w2 ⟨rfl,n,rfl⟩;go_wp2;have b1:=(hB.fr f1 (by simpa using n1))
 go_loopw [6] (fun i wr=>∃ k:Nat,l≤k∧(k=l∨k≤l+1)∧i=iA k∧M wr r pb t wh s1∧dB wr ab (fun b=>P b || (decide (l≤b) && decide (b<k)))∧Fr [r,ab] w wr) (fun i _=>257-(intOf i).toNat)
 case atStart=>exact⟨l,Nat.le_refl _,.inl rfl,rfl,m1.heap rfl,((⟨b1.c,b1.z⟩:dB (w1.drewN n) ab P)).congr (fun b _=>qV P l b),(f1.mono (by simp)).drewN n⟩
 case round=>
  obtain⟨k,hk1,hk2,rfl,m,bl,fr⟩:=hrel;by_cases hlt:k≤l
  ·have g1:(k:Int)≤l:=by omega
   have g2:(k:Int)<256:=by omega
   have c1:=bl.c k (by omega);have z1:=bl.z k (by omega);go_wp2;have hf:Fr [ab] wr (wr.setCell ⟨ab,k,none⟩ (.bool true)):=(Fr.refl _ wr).setCell (p:=⟨ab,k,none⟩) (.inl (by simp)) _;refine⟨⟨k+1,by omega,.inr (by omega),by go_num,m.fr hf (by simpa using fun e=>n1 e.symm) (by simpa using fun e=>n2 e.symm) (by simpa using fun e=>n3 e.symm),(bl.set k (by omega)).congr (fun b _=>?_),fr.trans (hf.mono (by simp))⟩,by simp[intOf];omega⟩;exact tQ P l k b hk1
  have g1:¬ ((k:Int)≤l):=by omega
  go_wp2;go_end0;exact⟨rfl,m,bl.congr (fun b _=>yF P l l k b hk1 hk2 (by omega)),fr⟩
variable {t:BA}
structure Inv (t:BA) (s:St):Prop where
 pos:s.pos≤t.size
 at_:s.atoms≤s.pos
 tk:∀ b,s.tk b<2 ^ s.atoms
 fo:∀ x a,s.fo x a<2 ^ s.atoms
def PB (n:Nat) (q:Piece):Prop:=∀ x,(q x).f<2 ^ n∧(q x).l<2 ^ n
theorem PB.mono {n m:Nat}{q:Piece} (h:PB n q) (hm:n≤m):PB m q:=fun x=>
 ⟨Nll (h x).1 (Nat.pow_le_pow_right (by decide) hm),Nll (h x).2 (Nat.pow_le_pow_right (by decide) hm)⟩
theorem PB.nothing (n:Nat):PB n aQ:=fun _=>⟨Nat.two_pow_pos _,Nat.two_pow_pos _⟩
theorem PB.anchor (n m:Nat):PB n (eV m):=fun _=>⟨Nat.two_pow_pos _,Nat.two_pow_pos _⟩
theorem PB.either {n:Nat}{a b:Piece} (ha:PB n a) (hb:PB n b):PB n (cK a b):=fun x=>⟨Nat.or_lt_two_pow (ha x).1 (hb x).1,Nat.or_lt_two_pow (ha x).2 (hb x).2⟩
theorem PB.join {n:Nat}{a b:Piece} (ha:PB n a) (hb:PB n b):PB n (joinF a b):=fun x=>by
 simp only[joinF,aL]
 refine⟨?_,?_⟩
 ·split
  ·exact Nat.or_lt_two_pow (ha x).1 (hb x).1
  ·exact (ha x).1
 ·split
  ·exact Nat.or_lt_two_pow (hb x).2 (ha x).2
  ·exact (hb x).2
theorem Inv.tie {s:St}(h:Inv t s){q r:Piece}(hr:PB s.atoms r):Inv t { s with fo:=oE s.fo q r }:=
 ⟨h.pos,h.at_,h.tk,fun x a=>by
  simp only[oE]
  split
  ·exact Nat.or_lt_two_pow (h.fo x a) (hr x).1
  ·exact h.fo x a⟩
theorem iO {s:St}(h:aH t s≠-1):s.fault=false∧s.pos<t.size:=by
 unfold aH pG at h;cases hf:s.fault
 ·rw[hf] at h;simp at h;by_cases hk:s.pos<t.size
  ·exact⟨rfl,hk⟩
  simp[hk] at h
 rw[hf] at h;simp at h
theorem Inv.adv {s:St}(h:Inv t s)(hp:aH t s≠-1):Inv t (aW s):=by
 have:=(iO hp).2;exact⟨by simp[aW];omega,by have:=h.at_;simp[aW];omega,h.tk,h.fo⟩
structure mE (t:BA) (s s':St):Prop where
 atoms:s'.atoms=s.atoms
 tk:s'.tk=s.tk
 fo:s'.fo=s.fo
 le:s.pos≤s'.pos
 pos:s.pos≤t.size→s'.pos≤t.size
theorem mE.refl (s:St):mE t s s:=⟨rfl,rfl,rfl,Nat.le_refl _,id⟩
theorem mE.trans {a b c:St}(h:mE t a b)(k:mE t b c):mE t a c:=⟨k.atoms.trans h.atoms,k.tk.trans h.tk,k.fo.trans h.fo,Nat.le_trans h.le k.le,fun x=>k.pos (h.pos x)⟩
theorem mE.inv {s s':St}(h:mE t s s')(hi:Inv t s):Inv t s':=⟨h.pos hi.pos,by rw[h.atoms];exact Nat.le_trans hi.at_ h.le,by rw[h.tk,h.atoms];exact hi.tk,by rw[h.fo,h.atoms];exact hi.fo⟩
theorem oU {s:St}(hp:aH t s≠-1):mE t s (aW s):=⟨rfl,rfl,rfl,by simp[aW],fun _=>by have:=(iO hp).2;simp[aW];omega⟩
theorem pN (s:St):mE t s (qH s):=⟨rfl,rfl,rfl,Nat.le_refl _,id⟩
theorem mH (s:St)(b:Int)(hb:b≠-1):mE t s (cG t s b).2:=by
 unfold cG;split
 ·rename_i h;exact oU (by rw[h];exact hb)
 exact mE.refl s
theorem mM (s:St)(b:Int)(hb:b≠-1):mE t s (gM t s b):=by
 unfold gM;split
 ·rename_i h;exact oU (by rw[h];exact hb)
 exact pN s
theorem nS (s:St)(least:Int)(hl:0≤least):mE t s (bQ t s least).2:=by
 have h:=mH (t:=t) s 92 (by decide);unfold bQ;split
 ·exact pN s
 split
 ·exact h.trans (pN _)
 exact h.trans (oU (by omega))
theorem aGm (s:St)(least:Int)(hl:0≤least):(bQ t s least).2.fault=true∨s.pos<(bQ t s least).2.pos:=by
 have h:=(mH (t:=t) s 92 (by decide)).le;unfold bQ;split
 ·exact .inl rfl
 split
 ·exact .inl rfl
 exact .inr (by simp[aW];omega)
theorem aDh (s:St)(least:Int)(hl:0≤least):0≤(bQ t s least).1:=by
 unfold bQ;split
 ·simp
 split
 ·simp
 simp only;omega
theorem pQ (s:St)(P:Nat→Bool):mE t s (fC t s P).2:=by
 have h:=nS (t:=t) s 0 (Int.le_refl 0);have hg:=aDh (t:=t) s 0 (Int.le_refl 0);unfold fC;split
 ·rename_i hc
  exact (h.trans (oU (by rw[hc.1];decide))).trans (nS _ _ hg)
 exact h
theorem C6 (s:St)(P:Nat→Bool):(fC t s P).2.fault=true∨s.pos<(fC t s P).2.pos:=by
 have h:=aGm (t:=t) s 0 (Int.le_refl 0);have hg:=aDh (t:=t) s 0 (Int.le_refl 0);unfold fC;split
 ·rename_i hc
  have h2:=(nS (t:=t) (aW (bQ t s 0).2) _ hg).le;have h3:=(nS (t:=t) s 0 (Int.le_refl 0)).le;exact .inr (by simp only[aW] at h2 ⊢;omega)
 exact h
theorem pF:∀ (n:Nat)(P:Nat→Bool)(s:St),mE t s (gB t n P s).2
 | 0,_,s=>mE.refl s
 | n+1,P,s=>by
  unfold gB
  split
  ·exact mE.refl s
  ·exact (pQ s P).trans (pF n _ _)
theorem xJ {s:St}(P:Nat→Bool)(h:Inv t s)(ha:s.atoms<s.pos):Inv t (dX s P).2∧PB (dX s P).2.atoms (dX s P).1:=by
 have hp:2 ^ s.atoms<2 ^ (s.atoms+1):=Nat.pow_lt_pow_right (by decide) (by omega);refine⟨⟨h.pos,by simp[dX];omega,fun b=>?_,fun x a=>Nat.lt_trans (h.fo x a) hp⟩,fun x=>⟨hp,hp⟩⟩;simp only[dX];split
 ·exact Nat.or_lt_two_pow (Nat.lt_trans (h.tk b) hp) hp
 exact Nat.lt_trans (h.tk b) hp
structure oD (t:BA) (s:St) (x:Piece × St):Prop where
 inv:Inv t x.2
 pb:PB x.2.atoms x.1
 le:s.pos≤x.2.pos
 al:s.atoms≤x.2.atoms
theorem uU (n:Nat)(s:St)(h:Inv t s)(ha:s.atoms<s.pos):oD t s (rC t n s):=by
 have n1:=mH (t:=t) s 94 (by decide);have n2:=pQ (t:=t) (cG t s 94).2 (fun _=>false);have n3:=pF (t:=t) n (fC t (cG t s 94).2 (fun _=>false)).1 (fC t (cG t s 94).2 (fun _=>false)).2;have n4:=mM (t:=t) (gB t n (fC t (cG t s 94).2 (fun _=>false)).1 (fC t (cG t s 94).2 (fun _=>false)).2).2 93 (by decide);have n5:=((n1.trans n2).trans n3).trans n4;have hi:=n5.inv h;have hlt:=Nll ha n5.le;rw[← n5.atoms] at hlt;obtain⟨i1,p1⟩:=xJ (fun b=>(gB t n (fC t (cG t s 94).2 (fun _=>false)).1 (fC t (cG t s 94).2 (fun _=>false)).2).1 b == !(cG t s 94).1) hi hlt;have ea:=n5.atoms;refine⟨i1,p1,n5.le,?_⟩;show s.atoms≤(gM t (gB t n (fC t (cG t s 94).2 (fun _=>false)).1 (fC t (cG t s 94).2 (fun _=>false)).2).2 93).atoms+1;omega
theorem xI {s:St}(s0:St)(lo hi:Int)(h:Inv t s)(ha:s.atoms<s.pos)(h0:s0.pos≤s.pos)(h1:s0.atoms≤s.atoms):oD t s0 (iQ s lo hi):=by
 obtain⟨i1,p1⟩:=xJ (yG (fun _=>false) lo hi) h ha;exact⟨i1,p1,h0,Nat.le_trans h1 (by simp[iQ,dX])⟩
theorem qS (s:St)(hp:aH t s≠-1):mE t s (eC t s).2∧s.pos<(eC t s).2.pos:=by
 have h:=mH (t:=t) s 92 (by decide);unfold eC;split
 ·rename_i hc
  refine⟨h.trans (pN _),?_⟩;unfold cG at hc ⊢;split at hc
  ·rename_i h92;rw[if_pos h92];simp[qH,aW]
  exact absurd hc hp
 ·rename_i hc
  exact⟨h.trans (oU hc),by simp only[aW];have:=h.le;omega⟩
end Go.Proofs.YtlokkgajpjafmaaGreatDoor
