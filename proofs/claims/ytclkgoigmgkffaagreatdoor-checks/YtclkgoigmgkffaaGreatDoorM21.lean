/-
  Texts Im.
-/
import Derived.Deep.CutRange
import Derived.Deep.RegionHeld
import Derived.Test.YtclkgoigmgkffaaGreatDoorMA
import Derived.Test.YtclkgoigmgkffaaGreatDoorM07
import Derived.Test.YtclkgoigmgkffaaGreatDoorM20
import Derived.Test.YtclkgoigmgkffaaGreatDoorM04
set_option linter.unusedSimpArgs false
set_option linter.unusedVariables false
set_option maxRecDepth 100000
set_option maxHeartbeats 40000000
namespace Go.Proofs.YtclkgoigmgkffaaGreatDoor
open Go.RowKit
open Wire Flow Mach
structure DocS (w:World):Prop where
 so:∀ i,i<54→w.cell? ⟨0,i,none⟩=some (.int .i64 ((sortsT.getD i 0:Nat):Int))
theorem DocS.lt {w:World}(h:DocS w):0<w.heap.size:=lt_of_cell (h.so 0 (by decide))
theorem DocS.fr {w w':World}(h:DocS w)(hf:Fr [] w w'):DocS w':=by
 have hl:=h.lt
 exact⟨fun i hi=>(hf.cell (p:=⟨0,i,none⟩) (by simp only;omega) (by simp)).trans (h.so i hi)⟩
structure MoOk (m:Mo):Prop where
 f:FnsOk m
 t:m.texts.length≤1000
 p:m.pats.length≤1000
 g:0≤m.globs∧m.globs≤1000
 a:0≤m.arrs∧m.arrs≤1000
def DecP (m:Mo) (f L:Nat) (c:ByteArray) (i:Nat) (w:World) (e:Ending) (w':World):Prop:=
 Fr [] w w'∧∃ (s:Stp) (x:Nat),e=.returned (.tuple #[.agg #[.int .i64 (s.pl:Nat),.int .i64 (s.nx:Nat),.int .i64 (s.op:Nat),.int .i64 (s.a:Nat),.int .i64 (s.b:Nat)],.int .i64 x])∧((x≠0∧x≤20∧decodeL m f L (bl c) i=.inl x)∨(x=0∧decodeL m f L (bl c) i=.inr s))
theorem dec_bad {m:Mo}{f L:Nat}{c:ByteArray}{i:Nat}{w w':World} (s:Stp) (hf:Fr [] w w') (x:Nat) (hx:x≠0∧x≤20) (h:decodeL m f L (bl c) i=.inl x) :
  DecP m f L c i w (.returned (.tuple #[.agg #[.int .i64 (s.pl:Nat),.int .i64 (s.nx:Nat),.int .i64 (s.op:Nat),.int .i64 (s.a:Nat),.int .i64 (s.b:Nat)],.int .i64 x])) w':=⟨hf,s,x,rfl,.inl ⟨hx.1,hx.2,h⟩⟩
theorem dec_ok {m:Mo}{f L:Nat}{c:ByteArray}{i:Nat}{w w':World} (s:Stp) (hf:Fr [] w w') (h:decodeL m f L (bl c) i=.inr s) :
  DecP m f L c i w (.returned (.tuple #[.agg #[.int .i64 (s.pl:Nat),.int .i64 (s.nx:Nat),.int .i64 (s.op:Nat),.int .i64 (s.a:Nat),.int .i64 (s.b:Nat)],.int .i64 (0:Nat)])) w':=⟨hf,s,0,rfl,.inr ⟨rfl,h⟩⟩
theorem bl_getD {c:ByteArray}{i:Nat} (h:i<c.size):(bl c).getD i 0=c[i]:=by
 have hL:=bl_length c
 rw[List.getD_eq_getElem?_getD,Lge (by omega),Option.getD_some]
 simp only[bl,Array.getElem_toList]
 rfl
theorem setCell_id {w:World}{g i:Nat}{cs:Array Value}{t:TypeId}{fr:Nat × Nat}{v:Value} (hg:w.heap[g]?=some (.cells cs t fr)) (hv:cs[i]?=some v):w.setCell ⟨g,i,none⟩ v=w:=by
 have hlt:g<w.heap.size:=(Age.1 hg).1
 have hv1:w.heap[g]=.cells cs t fr:=(Age.1 hg).2
 have hi:i<cs.size:=(Age.1 hv).1
 have hc:cs.setIfInBounds i v=cs:=by
  apply Array.ext
  ·simp
  ·intro k h1 h2
   rw[Array.getElem_setIfInBounds]
   split
   ·rename_i e
    subst e
    exact ((Age.1 hv).2).symm
   ·rfl
 have hh:(w.heap.modify g fun | .cells c elem frozen=>.cells (if (none:Option Nat).isSome then c else c.setIfInBounds i v) elem frozen | o=>o)=w.heap:=by
  apply Array.ext
  ·simp
  ·intro k h1 h2
   rw[Array.getElem_modify]
   split
   ·rename_i e
    subst e
    rw[hv1]
    simp[hc]
   ·rfl
 exact congrArg (fun h=>({ w with heap:=h }:World)) hh
-- CUT
structure DMem (w W:World) (x y z:Nat) (mc:Array Value) (v0 v1 v2 v3 v4:Value):Prop where
 fr:Fr [] w W
 mo:W.heap[x]?=some (.cells mc 30)
 re:W.heap[y]?=some (.cells #[.int .i64 0,.int .i64 0,.int .i64 0,.int .i64 0,.int .i64 0] 119)
 sp:W.heap[z]?=some (.cells #[v0,v1,v2,v3,v4] 119)
 lx:w.heap.size≤x
 ly:w.heap.size≤y
 lz:w.heap.size≤z
 ne:x≠z∧y≠z
theorem DMem.st {w W:World}{x y z:Nat}{mc:Array Value}{v0 v1 v2 v3 v4:Value} (h:DMem w W x y z mc v0 v1 v2 v3 v4) :
  W.cell? ⟨z,0,none⟩=some v0∧W.cell? ⟨z,1,none⟩=some v1∧W.cell? ⟨z,2,none⟩=some v2∧W.cell? ⟨z,3,none⟩=some v3∧W.cell? ⟨z,4,none⟩=some v4:=by
 unfold World.cell?
 rw[h.sp]
 exact⟨rfl,rfl,rfl,rfl,rfl⟩
theorem DMem.rs {w W:World}{x y z:Nat}{mc:Array Value}{v0 v1 v2 v3 v4:Value} (h:DMem w W x y z mc v0 v1 v2 v3 v4) :
  W.cell? ⟨y,0,none⟩=some (.int .i64 0)∧W.cell? ⟨y,1,none⟩=some (.int .i64 0)∧W.cell? ⟨y,2,none⟩=some (.int .i64 0)∧W.cell? ⟨y,3,none⟩=some (.int .i64 0)∧W.cell? ⟨y,4,none⟩=some (.int .i64 0):=by
 unfold World.cell?
 rw[h.re]
 exact⟨rfl,rfl,rfl,rfl,rfl⟩
theorem DMem.fz {w W:World}{x y z:Nat}{mc:Array Value}{v0 v1 v2 v3 v4:Value} (h:DMem w W x y z mc v0 v1 v2 v3 v4) :
  W.frozen? ⟨y,0,none⟩=false∧W.frozen? ⟨y,1,none⟩=false∧W.frozen? ⟨y,2,none⟩=false∧W.frozen? ⟨y,3,none⟩=false∧W.frozen? ⟨y,4,none⟩=false:=by
 unfold World.frozen?
 rw[h.re]
 simp
theorem DMem.sz {w W:World}{x y z:Nat}{mc:Array Value}{v0 v1 v2 v3 v4:Value} (h:DMem w W x y z mc v0 v1 v2 v3 v4) :
  W.frozen? ⟨z,1,none⟩=false∧W.frozen? ⟨z,3,none⟩=false∧W.frozen? ⟨z,4,none⟩=false:=by
 unfold World.frozen?
 rw[h.sp]
 simp
theorem DMem.put {w W:World}{x y z:Nat}{mc:Array Value}{v0 v1 v2 v3 v4:Value} (h:DMem w W x y z mc v0 v1 v2 v3 v4) (u0 u1 u2 u3 u4:Value):Fr [] w (put5 W y u0 u1 u2 u3 u4):=
 h.fr.trans' (put5_fr W y u0 u1 u2 u3 u4) (fun q hq=>.inr (by have:=h.ly;simp at hq;omega))
theorem DMem.to {w W W':World}{x y z:Nat}{mc:Array Value}{v0 v1 v2 v3 v4:Value} (h:DMem w W x y z mc v0 v1 v2 v3 v4) (hf:Fr [] W W'):DMem w W' x y z mc v0 v1 v2 v3 v4:=
 ⟨h.fr.trans hf,(hf.block _ (Age.1 h.mo).1 (by simp)).trans h.mo,(hf.block _ (Age.1 h.re).1 (by simp)).trans h.re,(hf.block _ (Age.1 h.sp).1 (by simp)).trans h.sp,h.lx,h.ly,h.lz,h.ne⟩
theorem decodeR_a1 (tv pv fv:Value)(m:Mo)(w:World)(f L i:Nat)(c:ByteArray)(hi:i<c.size)(hs:c.size≤20000)(fg fo nf cap:Nat)(hf:f<nf)(hn:nf≤1000)(hv:fv=.slice (some ⟨fg,fo,none⟩) nf cap)(hfg:fg<w.heap.size)
  (hc:w.cell? ⟨fg,fo+f*3+2,none⟩=some (.string c)) (hl:w.cell? ⟨fg,fo+f*3+1,none⟩=some (.int .i64 (L:Nat))) (hL:L≤1000) (hT:DocS w) (h54:54≤c[i].toNat) :
  Calls Tryz.prog 59 #[.agg #[tv,pv,.int .i64 m.globs,.int .i64 m.arrs,fv],.int .i64 f,.int .i64 i] w (DecP m f L c i w):=by
 subst hv
 have hd:decodeL m f L (bl c) i=.inl 9:=by
  have e:mayOp f c[i].toNat=false:=by unfold mayOp;rw[decide_eq_false (by omega)];rfl
  unfold decodeL
  rw[bl_getD hi,if_neg (by rw[e];decide)]
 have HD:Hid _:=hd
 clear hd
 have q54:decide ((54:Int)≤(c[i].toNat:Int))=true:=decide_eq_true (by omega)
 have q51:((c[i].toNat:Int)==51)=false:=by simp;omega
 have q52:((c[i].toNat:Int)==52)=false:=by simp;omega
 have g1:((c[i].toNat:Int) ≥ 54):=by omega
 have g0:(i:Int)<c.size:=by omega
 have gx:c[i].toNat<256:=c[i].toNat_lt
 have g2:(f:Int)<(nf:Int):=by omega
 obtain⟨i1,hi1⟩:∃ i1:Nat,i+1=i1:=⟨_,rfl⟩
 have hI:(i:Int)+1=(i1:Int):=by omega
 obtain⟨W1,hW1⟩:∃ W1,w.alloc (.cells #[tv,pv,.int .i64 m.globs,.int .i64 m.arrs,.slice (some ⟨fg,fo,none⟩) nf cap] 30)=W1:=⟨_,rfl⟩
 obtain⟨W2,hW2⟩:∃ W2,W1.alloc (.cells #[.int .i64 0,.int .i64 0,.int .i64 0,.int .i64 0,.int .i64 0] 119)=W2:=⟨_,rfl⟩
 obtain⟨W3,hW3⟩:∃ W3,W2.alloc (.cells #[.int .i64 (i:Nat),.int .i64 (i1:Nat),.int .i64 (c[i].toNat:Nat),.int .i64 0,.int .i64 0] 119)=W3:=⟨_,rfl⟩
 have FA:Fr [] w W1:=by rw[← hW1];exact (Fr.refl [] w).alloc _
 have FB1:Fr [] W1 W2:=by rw[← hW2];exact (Fr.refl [] W1).alloc _
 have FC2:Fr [] W2 W3:=by rw[← hW3];exact (Fr.refl [] W2).alloc _
 have FB:Fr [] w W2:=FA.trans FB1
 have FC:Fr [] w W3:=FB.trans FC2
 have z1:W1.heap.size=w.heap.size+1:=by rw[← hW1];simp
 have z2:W2.heap.size=w.heap.size+2:=by rw[← hW2];simp[z1]
 have k1:=wan w (.cells #[tv,pv,.int .i64 m.globs,.int .i64 m.arrs,.slice (some ⟨fg,fo,none⟩) nf cap] 30)
 have k2:=wan W1 (.cells #[.int .i64 0,.int .i64 0,.int .i64 0,.int .i64 0,.int .i64 0] 119)
 have k3:=wan W2 (.cells #[.int .i64 (i:Nat),.int .i64 (i1:Nat),.int .i64 (c[i].toNat:Nat),.int .i64 0,.int .i64 0] 119)
 rw[hW1] at k1
 rw[hW2] at k2
 rw[hW3] at k3
 have hc2:=(FB.cell (p:=⟨fg,fo+f*3+2,none⟩) hfg (by simp)).trans hc
 have hm2:W2.cell? ⟨w.heap.size,4,none⟩=some (.slice (some ⟨fg,fo,none⟩) nf cap):=by
  refine (FB1.cell (p:=⟨w.heap.size,4,none⟩) (by simp only;omega) (by simp)).trans ?_
  unfold World.cell?
  rw[k1]
  rfl
 have s3:W3.setCell ⟨W2.heap.size,3,none⟩ (.int .i64 0)=W3:=setCell_id k3 rfl
 have s4:W3.setCell ⟨W2.heap.size,4,none⟩ (.int .i64 0)=W3:=setCell_id k3 rfl
 have DM:DMem w W3 w.heap.size W1.heap.size W2.heap.size #[tv,pv,.int .i64 m.globs,.int .i64 m.arrs,.slice (some ⟨fg,fo,none⟩) nf cap] (.int .i64 (i:Nat)) (.int .i64 (i1:Nat)) (.int .i64 (c[i].toNat:Nat)) (.int .i64 0) (.int .i64 0):=
  ⟨FC,((FB1.trans FC2).block _ (by omega) (by simp)).trans k1,(FC2.block _ (by omega) (by simp)).trans k2,k3,by omega,by omega,by omega,by omega⟩
 have fz3:W3.frozen? ⟨W2.heap.size,3,none⟩=false:=by unfold World.frozen?;rw[k3];simp
 have fz4:W3.frozen? ⟨W2.heap.size,4,none⟩=false:=by unfold World.frozen?;rw[k3];simp
 clear FA FB1 FC2 FB FC k1 k2 k3 z1 z2
 obtain⟨a0,a1,a2,a3,a4⟩:=DMem.st DM
 obtain⟨r0,r1,r2,r3,r4⟩:=DMem.rs DM
 obtain⟨rz0,rz1,rz2,rz3,rz4⟩:=DMem.fz DM
 have HDM:Hid _:=DM
 clear DM hl hT hc
 go_enter Tryz.func59,Tryz.ntmps59
 go_wp2
 have DM:=HDM.out
 change bodyPost Tryz.prog Tryz.f59 (DecP m f L c i w) Exit.ret _ (put5 W3 W1.heap.size (.int .i64 (i:Nat)) (.int .i64 (i1:Nat)) (.int .i64 (c[i].toNat:Nat)) (.int .i64 0) (.int .i64 0))
 obtain⟨y0,y1,y2,y3,y4⟩:=put5_cells (W:=W3) (g:=W1.heap.size) (.int .i64 (i:Nat)) (.int .i64 (i1:Nat)) (.int .i64 (c[i].toNat:Nat)) (.int .i64 0) (.int .i64 0) r0 r1 r2 r3 r4
 have FZ:=DMem.put DM (.int .i64 (i:Nat)) (.int .i64 (i1:Nat)) (.int .i64 (c[i].toNat:Nat)) (.int .i64 0) (.int .i64 0)
 generalize put5 W3 W1.heap.size (.int .i64 (i:Nat)) (.int .i64 (i1:Nat)) (.int .i64 (c[i].toNat:Nat)) (.int .i64 0) (.int .i64 0)=Z at *
 refine bodyPost_ret (v:=.tuple #[.agg #[.int .i64 (i:Nat),.int .i64 (i1:Nat),.int .i64 (c[i].toNat:Nat),.int .i64 0,.int .i64 0],.int .i64 9]) (by simp[results,Tryz.results59,go_sem,y0,y1,y2,y3,y4]) rfl ?_
 subst hi1
 exact dec_bad ⟨i,i+1,c[i].toNat,0,0⟩ FZ 9 (by omega) HD.out
theorem decodeR_a2 (tv pv fv:Value)(m:Mo)(w:World)(f L i:Nat)(c:ByteArray)(hi:i<c.size)(hs:c.size≤20000)(fg fo nf cap:Nat)(hf:f<nf)(hn:nf≤1000)(hv:fv=.slice (some ⟨fg,fo,none⟩) nf cap)(hfg:fg<w.heap.size)
  (hc:w.cell? ⟨fg,fo+f*3+2,none⟩=some (.string c)) (hl:w.cell? ⟨fg,fo+f*3+1,none⟩=some (.int .i64 (L:Nat))) (hL:L≤1000) (hT:DocS w) (h51:c[i].toNat=51) (h3:f<3) :
  Calls Tryz.prog 59 #[.agg #[tv,pv,.int .i64 m.globs,.int .i64 m.arrs,fv],.int .i64 f,.int .i64 i] w (DecP m f L c i w):=by
 subst hv
 have hd:decodeL m f L (bl c) i=.inl 9:=by
  have e:mayOp f c[i].toNat=false:=by unfold mayOp;rw[h51,decide_eq_true h3];rfl
  unfold decodeL
  rw[bl_getD hi,if_neg (by rw[e];decide)]
 have HD:Hid _:=hd
 clear hd
 have q54:decide ((54:Int)≤(c[i].toNat:Int))=false:=decide_eq_false (by omega)
 have q51:((c[i].toNat:Int)==51)=true:=by simp;omega
 have q52:((c[i].toNat:Int)==52)=false:=by simp;omega
 have g1:((c[i].toNat:Int)<54):=by omega
 have qf:decide ((f:Int)<3)=true:=decide_eq_true (by omega)
 have qf2:decide ((3:Int)≤(f:Int))=false:=decide_eq_false (by omega)
 clear h51
 have g0:(i:Int)<c.size:=by omega
 have gx:c[i].toNat<256:=c[i].toNat_lt
 have g2:(f:Int)<(nf:Int):=by omega
 obtain⟨i1,hi1⟩:∃ i1:Nat,i+1=i1:=⟨_,rfl⟩
 have hI:(i:Int)+1=(i1:Int):=by omega
 obtain⟨W1,hW1⟩:∃ W1,w.alloc (.cells #[tv,pv,.int .i64 m.globs,.int .i64 m.arrs,.slice (some ⟨fg,fo,none⟩) nf cap] 30)=W1:=⟨_,rfl⟩
 obtain⟨W2,hW2⟩:∃ W2,W1.alloc (.cells #[.int .i64 0,.int .i64 0,.int .i64 0,.int .i64 0,.int .i64 0] 119)=W2:=⟨_,rfl⟩
 obtain⟨W3,hW3⟩:∃ W3,W2.alloc (.cells #[.int .i64 (i:Nat),.int .i64 (i1:Nat),.int .i64 (c[i].toNat:Nat),.int .i64 0,.int .i64 0] 119)=W3:=⟨_,rfl⟩
 have FA:Fr [] w W1:=by rw[← hW1];exact (Fr.refl [] w).alloc _
 have FB1:Fr [] W1 W2:=by rw[← hW2];exact (Fr.refl [] W1).alloc _
 have FC2:Fr [] W2 W3:=by rw[← hW3];exact (Fr.refl [] W2).alloc _
 have FB:Fr [] w W2:=FA.trans FB1
 have FC:Fr [] w W3:=FB.trans FC2
 have z1:W1.heap.size=w.heap.size+1:=by rw[← hW1];simp
 have z2:W2.heap.size=w.heap.size+2:=by rw[← hW2];simp[z1]
 have k1:=wan w (.cells #[tv,pv,.int .i64 m.globs,.int .i64 m.arrs,.slice (some ⟨fg,fo,none⟩) nf cap] 30)
 have k2:=wan W1 (.cells #[.int .i64 0,.int .i64 0,.int .i64 0,.int .i64 0,.int .i64 0] 119)
 have k3:=wan W2 (.cells #[.int .i64 (i:Nat),.int .i64 (i1:Nat),.int .i64 (c[i].toNat:Nat),.int .i64 0,.int .i64 0] 119)
 rw[hW1] at k1
 rw[hW2] at k2
 rw[hW3] at k3
 have hc2:=(FB.cell (p:=⟨fg,fo+f*3+2,none⟩) hfg (by simp)).trans hc
 have hm2:W2.cell? ⟨w.heap.size,4,none⟩=some (.slice (some ⟨fg,fo,none⟩) nf cap):=by
  refine (FB1.cell (p:=⟨w.heap.size,4,none⟩) (by simp only;omega) (by simp)).trans ?_
  unfold World.cell?
  rw[k1]
  rfl
 have s3:W3.setCell ⟨W2.heap.size,3,none⟩ (.int .i64 0)=W3:=setCell_id k3 rfl
 have s4:W3.setCell ⟨W2.heap.size,4,none⟩ (.int .i64 0)=W3:=setCell_id k3 rfl
 have DM:DMem w W3 w.heap.size W1.heap.size W2.heap.size #[tv,pv,.int .i64 m.globs,.int .i64 m.arrs,.slice (some ⟨fg,fo,none⟩) nf cap] (.int .i64 (i:Nat)) (.int .i64 (i1:Nat)) (.int .i64 (c[i].toNat:Nat)) (.int .i64 0) (.int .i64 0):=
  ⟨FC,((FB1.trans FC2).block _ (by omega) (by simp)).trans k1,(FC2.block _ (by omega) (by simp)).trans k2,k3,by omega,by omega,by omega,by omega⟩
 have fz3:W3.frozen? ⟨W2.heap.size,3,none⟩=false:=by unfold World.frozen?;rw[k3];simp
 have fz4:W3.frozen? ⟨W2.heap.size,4,none⟩=false:=by unfold World.frozen?;rw[k3];simp
 clear FA FB1 FC2 FB FC k1 k2 k3 z1 z2
 obtain⟨a0,a1,a2,a3,a4⟩:=DMem.st DM
 obtain⟨r0,r1,r2,r3,r4⟩:=DMem.rs DM
 obtain⟨rz0,rz1,rz2,rz3,rz4⟩:=DMem.fz DM
 have HDM:Hid _:=DM
 clear DM hl hT hc
 go_enter Tryz.func59,Tryz.ntmps59
 go_wp2
 have DM:=HDM.out
 change bodyPost Tryz.prog Tryz.f59 (DecP m f L c i w) Exit.ret _ (put5 W3 W1.heap.size (.int .i64 (i:Nat)) (.int .i64 (i1:Nat)) (.int .i64 (c[i].toNat:Nat)) (.int .i64 0) (.int .i64 0))
 obtain⟨y0,y1,y2,y3,y4⟩:=put5_cells (W:=W3) (g:=W1.heap.size) (.int .i64 (i:Nat)) (.int .i64 (i1:Nat)) (.int .i64 (c[i].toNat:Nat)) (.int .i64 0) (.int .i64 0) r0 r1 r2 r3 r4
 have FZ:=DMem.put DM (.int .i64 (i:Nat)) (.int .i64 (i1:Nat)) (.int .i64 (c[i].toNat:Nat)) (.int .i64 0) (.int .i64 0)
 generalize put5 W3 W1.heap.size (.int .i64 (i:Nat)) (.int .i64 (i1:Nat)) (.int .i64 (c[i].toNat:Nat)) (.int .i64 0) (.int .i64 0)=Z at *
 refine bodyPost_ret (v:=.tuple #[.agg #[.int .i64 (i:Nat),.int .i64 (i1:Nat),.int .i64 (c[i].toNat:Nat),.int .i64 0,.int .i64 0],.int .i64 9]) (by simp[results,Tryz.results59,go_sem,y0,y1,y2,y3,y4]) rfl ?_
 subst hi1
 exact dec_bad ⟨i,i+1,c[i].toNat,0,0⟩ FZ 9 (by omega) HD.out
theorem decodeR_a3 (tv pv fv:Value)(m:Mo)(w:World)(f L i:Nat)(c:ByteArray)(hi:i<c.size)(hs:c.size≤20000)(fg fo nf cap:Nat)(hf:f<nf)(hn:nf≤1000)(hv:fv=.slice (some ⟨fg,fo,none⟩) nf cap)(hfg:fg<w.heap.size)
  (hc:w.cell? ⟨fg,fo+f*3+2,none⟩=some (.string c)) (hl:w.cell? ⟨fg,fo+f*3+1,none⟩=some (.int .i64 (L:Nat))) (hL:L≤1000) (hT:DocS w) (h52:c[i].toNat=52) (h3:3≤f) :
  Calls Tryz.prog 59 #[.agg #[tv,pv,.int .i64 m.globs,.int .i64 m.arrs,fv],.int .i64 f,.int .i64 i] w (DecP m f L c i w):=by
 subst hv
 have hd:decodeL m f L (bl c) i=.inl 9:=by
  have e:mayOp f c[i].toNat=false:=by unfold mayOp;rw[h52,decide_eq_true h3];rfl
  unfold decodeL
  rw[bl_getD hi,if_neg (by rw[e];decide)]
 have HD:Hid _:=hd
 clear hd
 have q54:decide ((54:Int)≤(c[i].toNat:Int))=false:=decide_eq_false (by omega)
 have q51:((c[i].toNat:Int)==51)=false:=by simp;omega
 have q52:((c[i].toNat:Int)==52)=true:=by simp;omega
 have g1:((c[i].toNat:Int)<54):=by omega
 have qf:decide ((f:Int)<3)=false:=decide_eq_false (by omega)
 have qf2:decide ((3:Int)≤(f:Int))=true:=decide_eq_true (by omega)
 clear h52
 have g0:(i:Int)<c.size:=by omega
 have gx:c[i].toNat<256:=c[i].toNat_lt
 have g2:(f:Int)<(nf:Int):=by omega
 obtain⟨i1,hi1⟩:∃ i1:Nat,i+1=i1:=⟨_,rfl⟩
 have hI:(i:Int)+1=(i1:Int):=by omega
 obtain⟨W1,hW1⟩:∃ W1,w.alloc (.cells #[tv,pv,.int .i64 m.globs,.int .i64 m.arrs,.slice (some ⟨fg,fo,none⟩) nf cap] 30)=W1:=⟨_,rfl⟩
 obtain⟨W2,hW2⟩:∃ W2,W1.alloc (.cells #[.int .i64 0,.int .i64 0,.int .i64 0,.int .i64 0,.int .i64 0] 119)=W2:=⟨_,rfl⟩
 obtain⟨W3,hW3⟩:∃ W3,W2.alloc (.cells #[.int .i64 (i:Nat),.int .i64 (i1:Nat),.int .i64 (c[i].toNat:Nat),.int .i64 0,.int .i64 0] 119)=W3:=⟨_,rfl⟩
 have FA:Fr [] w W1:=by rw[← hW1];exact (Fr.refl [] w).alloc _
 have FB1:Fr [] W1 W2:=by rw[← hW2];exact (Fr.refl [] W1).alloc _
 have FC2:Fr [] W2 W3:=by rw[← hW3];exact (Fr.refl [] W2).alloc _
 have FB:Fr [] w W2:=FA.trans FB1
 have FC:Fr [] w W3:=FB.trans FC2
 have z1:W1.heap.size=w.heap.size+1:=by rw[← hW1];simp
 have z2:W2.heap.size=w.heap.size+2:=by rw[← hW2];simp[z1]
 have k1:=wan w (.cells #[tv,pv,.int .i64 m.globs,.int .i64 m.arrs,.slice (some ⟨fg,fo,none⟩) nf cap] 30)
 have k2:=wan W1 (.cells #[.int .i64 0,.int .i64 0,.int .i64 0,.int .i64 0,.int .i64 0] 119)
 have k3:=wan W2 (.cells #[.int .i64 (i:Nat),.int .i64 (i1:Nat),.int .i64 (c[i].toNat:Nat),.int .i64 0,.int .i64 0] 119)
 rw[hW1] at k1
 rw[hW2] at k2
 rw[hW3] at k3
 have hc2:=(FB.cell (p:=⟨fg,fo+f*3+2,none⟩) hfg (by simp)).trans hc
 have hm2:W2.cell? ⟨w.heap.size,4,none⟩=some (.slice (some ⟨fg,fo,none⟩) nf cap):=by
  refine (FB1.cell (p:=⟨w.heap.size,4,none⟩) (by simp only;omega) (by simp)).trans ?_
  unfold World.cell?
  rw[k1]
  rfl
 have s3:W3.setCell ⟨W2.heap.size,3,none⟩ (.int .i64 0)=W3:=setCell_id k3 rfl
 have s4:W3.setCell ⟨W2.heap.size,4,none⟩ (.int .i64 0)=W3:=setCell_id k3 rfl
 have DM:DMem w W3 w.heap.size W1.heap.size W2.heap.size #[tv,pv,.int .i64 m.globs,.int .i64 m.arrs,.slice (some ⟨fg,fo,none⟩) nf cap] (.int .i64 (i:Nat)) (.int .i64 (i1:Nat)) (.int .i64 (c[i].toNat:Nat)) (.int .i64 0) (.int .i64 0):=
  ⟨FC,((FB1.trans FC2).block _ (by omega) (by simp)).trans k1,(FC2.block _ (by omega) (by simp)).trans k2,k3,by omega,by omega,by omega,by omega⟩
 have fz3:W3.frozen? ⟨W2.heap.size,3,none⟩=false:=by unfold World.frozen?;rw[k3];simp
 have fz4:W3.frozen? ⟨W2.heap.size,4,none⟩=false:=by unfold World.frozen?;rw[k3];simp
 clear FA FB1 FC2 FB FC k1 k2 k3 z1 z2
 obtain⟨a0,a1,a2,a3,a4⟩:=DMem.st DM
 obtain⟨r0,r1,r2,r3,r4⟩:=DMem.rs DM
 obtain⟨rz0,rz1,rz2,rz3,rz4⟩:=DMem.fz DM
 have HDM:Hid _:=DM
 clear DM hl hT hc
 go_enter Tryz.func59,Tryz.ntmps59
 go_wp2
 have DM:=HDM.out
 change bodyPost Tryz.prog Tryz.f59 (DecP m f L c i w) Exit.ret _ (put5 W3 W1.heap.size (.int .i64 (i:Nat)) (.int .i64 (i1:Nat)) (.int .i64 (c[i].toNat:Nat)) (.int .i64 0) (.int .i64 0))
 obtain⟨y0,y1,y2,y3,y4⟩:=put5_cells (W:=W3) (g:=W1.heap.size) (.int .i64 (i:Nat)) (.int .i64 (i1:Nat)) (.int .i64 (c[i].toNat:Nat)) (.int .i64 0) (.int .i64 0) r0 r1 r2 r3 r4
 have FZ:=DMem.put DM (.int .i64 (i:Nat)) (.int .i64 (i1:Nat)) (.int .i64 (c[i].toNat:Nat)) (.int .i64 0) (.int .i64 0)
 generalize put5 W3 W1.heap.size (.int .i64 (i:Nat)) (.int .i64 (i1:Nat)) (.int .i64 (c[i].toNat:Nat)) (.int .i64 0) (.int .i64 0)=Z at *
 refine bodyPost_ret (v:=.tuple #[.agg #[.int .i64 (i:Nat),.int .i64 (i1:Nat),.int .i64 (c[i].toNat:Nat),.int .i64 0,.int .i64 0],.int .i64 9]) (by simp[results,Tryz.results59,go_sem,y0,y1,y2,y3,y4]) rfl ?_
 subst hi1
 exact dec_bad ⟨i,i+1,c[i].toNat,0,0⟩ FZ 9 (by omega) HD.out
theorem decodeR_b1 (tv pv fv:Value)(m:Mo)(w:World)(f L i:Nat)(c:ByteArray)(hi:i<c.size)(hs:c.size≤20000)(fg fo nf cap:Nat)(hf:f<nf)(hn:nf≤1000)(hv:fv=.slice (some ⟨fg,fo,none⟩) nf cap)(hfg:fg<w.heap.size)
  (hc:w.cell? ⟨fg,fo+f*3+2,none⟩=some (.string c)) (hl:w.cell? ⟨fg,fo+f*3+1,none⟩=some (.int .i64 (L:Nat))) (hL:L≤1000) (hT:DocS w) (h54:c[i].toNat<54) (h51:c[i].toNat≠51) (h52:c[i].toNat≠52) (hz:sortsT.getD c[i].toNat 0=0) :
  Calls Tryz.prog 59 #[.agg #[tv,pv,.int .i64 m.globs,.int .i64 m.arrs,fv],.int .i64 f,.int .i64 i] w (DecP m f L c i w):=by
 subst hv
 have hd:decodeL m f L (bl c) i=.inr ⟨i,i+1,c[i].toNat,0,0⟩:=by
  have e:mayOp f c[i].toNat=true:=by unfold mayOp;rw[decide_eq_true h54,decide_eq_false h51,decide_eq_false h52];rfl
  unfold decodeL
  rw[bl_getD hi,if_pos e,if_pos hz]
 have HD:Hid _:=hd
 clear hd
 have q54:decide ((54:Int)≤(c[i].toNat:Int))=false:=decide_eq_false (by omega)
 have q51:((c[i].toNat:Int)==51)=false:=by simp;omega
 have q52:((c[i].toNat:Int)==52)=false:=by simp;omega
 have g1:((c[i].toNat:Int)<54):=by omega
 have g0:(i:Int)<c.size:=by omega
 have gx:c[i].toNat<256:=c[i].toNat_lt
 have g2:(f:Int)<(nf:Int):=by omega
 obtain⟨i1,hi1⟩:∃ i1:Nat,i+1=i1:=⟨_,rfl⟩
 have hI:(i:Int)+1=(i1:Int):=by omega
 obtain⟨W1,hW1⟩:∃ W1,w.alloc (.cells #[tv,pv,.int .i64 m.globs,.int .i64 m.arrs,.slice (some ⟨fg,fo,none⟩) nf cap] 30)=W1:=⟨_,rfl⟩
 obtain⟨W2,hW2⟩:∃ W2,W1.alloc (.cells #[.int .i64 0,.int .i64 0,.int .i64 0,.int .i64 0,.int .i64 0] 119)=W2:=⟨_,rfl⟩
 obtain⟨W3,hW3⟩:∃ W3,W2.alloc (.cells #[.int .i64 (i:Nat),.int .i64 (i1:Nat),.int .i64 (c[i].toNat:Nat),.int .i64 0,.int .i64 0] 119)=W3:=⟨_,rfl⟩
 have FA:Fr [] w W1:=by rw[← hW1];exact (Fr.refl [] w).alloc _
 have FB1:Fr [] W1 W2:=by rw[← hW2];exact (Fr.refl [] W1).alloc _
 have FC2:Fr [] W2 W3:=by rw[← hW3];exact (Fr.refl [] W2).alloc _
 have FB:Fr [] w W2:=FA.trans FB1
 have FC:Fr [] w W3:=FB.trans FC2
 have z1:W1.heap.size=w.heap.size+1:=by rw[← hW1];simp
 have z2:W2.heap.size=w.heap.size+2:=by rw[← hW2];simp[z1]
 have k1:=wan w (.cells #[tv,pv,.int .i64 m.globs,.int .i64 m.arrs,.slice (some ⟨fg,fo,none⟩) nf cap] 30)
 have k2:=wan W1 (.cells #[.int .i64 0,.int .i64 0,.int .i64 0,.int .i64 0,.int .i64 0] 119)
 have k3:=wan W2 (.cells #[.int .i64 (i:Nat),.int .i64 (i1:Nat),.int .i64 (c[i].toNat:Nat),.int .i64 0,.int .i64 0] 119)
 rw[hW1] at k1
 rw[hW2] at k2
 rw[hW3] at k3
 have hc2:=(FB.cell (p:=⟨fg,fo+f*3+2,none⟩) hfg (by simp)).trans hc
 have hm2:W2.cell? ⟨w.heap.size,4,none⟩=some (.slice (some ⟨fg,fo,none⟩) nf cap):=by
  refine (FB1.cell (p:=⟨w.heap.size,4,none⟩) (by simp only;omega) (by simp)).trans ?_
  unfold World.cell?
  rw[k1]
  rfl
 have s3:W3.setCell ⟨W2.heap.size,3,none⟩ (.int .i64 0)=W3:=setCell_id k3 rfl
 have s4:W3.setCell ⟨W2.heap.size,4,none⟩ (.int .i64 0)=W3:=setCell_id k3 rfl
 have DM:DMem w W3 w.heap.size W1.heap.size W2.heap.size #[tv,pv,.int .i64 m.globs,.int .i64 m.arrs,.slice (some ⟨fg,fo,none⟩) nf cap] (.int .i64 (i:Nat)) (.int .i64 (i1:Nat)) (.int .i64 (c[i].toNat:Nat)) (.int .i64 0) (.int .i64 0):=
  ⟨FC,((FB1.trans FC2).block _ (by omega) (by simp)).trans k1,(FC2.block _ (by omega) (by simp)).trans k2,k3,by omega,by omega,by omega,by omega⟩
 have fz3:W3.frozen? ⟨W2.heap.size,3,none⟩=false:=by unfold World.frozen?;rw[k3];simp
 have fz4:W3.frozen? ⟨W2.heap.size,4,none⟩=false:=by unfold World.frozen?;rw[k3];simp
 clear FA FB1 FC2 FB FC k1 k2 k3 z1 z2
 have hso:=(hT.fr DM.fr).so c[i].toNat (by omega)
 rw[hz] at hso
 clear hz
 obtain⟨a0,a1,a2,a3,a4⟩:=DMem.st DM
 obtain⟨r0,r1,r2,r3,r4⟩:=DMem.rs DM
 obtain⟨rz0,rz1,rz2,rz3,rz4⟩:=DMem.fz DM
 have HDM:Hid _:=DM
 clear DM hl hT hc
 go_enter Tryz.func59,Tryz.ntmps59
 go_wp2
 have DM:=HDM.out
 change bodyPost Tryz.prog Tryz.f59 (DecP m f L c i w) Exit.ret _ (put5 W3 W1.heap.size (.int .i64 (i:Nat)) (.int .i64 (i1:Nat)) (.int .i64 (c[i].toNat:Nat)) (.int .i64 0) (.int .i64 0))
 obtain⟨y0,y1,y2,y3,y4⟩:=put5_cells (W:=W3) (g:=W1.heap.size) (.int .i64 (i:Nat)) (.int .i64 (i1:Nat)) (.int .i64 (c[i].toNat:Nat)) (.int .i64 0) (.int .i64 0) r0 r1 r2 r3 r4
 have FZ:=DMem.put DM (.int .i64 (i:Nat)) (.int .i64 (i1:Nat)) (.int .i64 (c[i].toNat:Nat)) (.int .i64 0) (.int .i64 0)
 generalize put5 W3 W1.heap.size (.int .i64 (i:Nat)) (.int .i64 (i1:Nat)) (.int .i64 (c[i].toNat:Nat)) (.int .i64 0) (.int .i64 0)=Z at *
 refine bodyPost_ret (v:=.tuple #[.agg #[.int .i64 (i:Nat),.int .i64 (i1:Nat),.int .i64 (c[i].toNat:Nat),.int .i64 0,.int .i64 0],.int .i64 0]) (by simp[results,Tryz.results59,go_sem,y0,y1,y2,y3,y4]) rfl ?_
 subst hi1
 exact dec_ok ⟨i,i+1,c[i].toNat,0,0⟩ FZ HD.out
theorem decodeR_b2 (tv pv fv:Value)(m:Mo)(w:World)(f L i:Nat)(c:ByteArray)(hi:i<c.size)(hs:c.size≤20000)(fg fo nf cap:Nat)(hf:f<nf)(hn:nf≤1000)(hv:fv=.slice (some ⟨fg,fo,none⟩) nf cap)(hfg:fg<w.heap.size)
  (hc:w.cell? ⟨fg,fo+f*3+2,none⟩=some (.string c)) (hl:w.cell? ⟨fg,fo+f*3+1,none⟩=some (.int .i64 (L:Nat))) (hL:L≤1000) (hT:DocS w) (h51:c[i].toNat=51) (h3:3≤f) :
  Calls Tryz.prog 59 #[.agg #[tv,pv,.int .i64 m.globs,.int .i64 m.arrs,fv],.int .i64 f,.int .i64 i] w (DecP m f L c i w):=by
 subst hv
 have hz:sortsT.getD c[i].toNat 0=0:=by rw[h51];rfl
 have hd:decodeL m f L (bl c) i=.inr ⟨i,i+1,c[i].toNat,0,0⟩:=by
  have e:mayOp f c[i].toNat=true:=by unfold mayOp;rw[h51,decide_eq_false (show ¬ f<3 by omega)];rfl
  unfold decodeL
  rw[bl_getD hi,if_pos e,if_pos hz]
 have HD:Hid _:=hd
 clear hd
 have q54:decide ((54:Int)≤(c[i].toNat:Int))=false:=decide_eq_false (by omega)
 have q51:((c[i].toNat:Int)==51)=true:=by simp;omega
 have q52:((c[i].toNat:Int)==52)=false:=by simp;omega
 have g1:((c[i].toNat:Int)<54):=by omega
 have qf:decide ((f:Int)<3)=false:=decide_eq_false (by omega)
 have qf2:decide ((3:Int)≤(f:Int))=true:=decide_eq_true (by omega)
 clear h51
 have g0:(i:Int)<c.size:=by omega
 have gx:c[i].toNat<256:=c[i].toNat_lt
 have g2:(f:Int)<(nf:Int):=by omega
 obtain⟨i1,hi1⟩:∃ i1:Nat,i+1=i1:=⟨_,rfl⟩
 have hI:(i:Int)+1=(i1:Int):=by omega
 obtain⟨W1,hW1⟩:∃ W1,w.alloc (.cells #[tv,pv,.int .i64 m.globs,.int .i64 m.arrs,.slice (some ⟨fg,fo,none⟩) nf cap] 30)=W1:=⟨_,rfl⟩
 obtain⟨W2,hW2⟩:∃ W2,W1.alloc (.cells #[.int .i64 0,.int .i64 0,.int .i64 0,.int .i64 0,.int .i64 0] 119)=W2:=⟨_,rfl⟩
 obtain⟨W3,hW3⟩:∃ W3,W2.alloc (.cells #[.int .i64 (i:Nat),.int .i64 (i1:Nat),.int .i64 (c[i].toNat:Nat),.int .i64 0,.int .i64 0] 119)=W3:=⟨_,rfl⟩
 have FA:Fr [] w W1:=by rw[← hW1];exact (Fr.refl [] w).alloc _
 have FB1:Fr [] W1 W2:=by rw[← hW2];exact (Fr.refl [] W1).alloc _
 have FC2:Fr [] W2 W3:=by rw[← hW3];exact (Fr.refl [] W2).alloc _
 have FB:Fr [] w W2:=FA.trans FB1
 have FC:Fr [] w W3:=FB.trans FC2
 have z1:W1.heap.size=w.heap.size+1:=by rw[← hW1];simp
 have z2:W2.heap.size=w.heap.size+2:=by rw[← hW2];simp[z1]
 have k1:=wan w (.cells #[tv,pv,.int .i64 m.globs,.int .i64 m.arrs,.slice (some ⟨fg,fo,none⟩) nf cap] 30)
 have k2:=wan W1 (.cells #[.int .i64 0,.int .i64 0,.int .i64 0,.int .i64 0,.int .i64 0] 119)
 have k3:=wan W2 (.cells #[.int .i64 (i:Nat),.int .i64 (i1:Nat),.int .i64 (c[i].toNat:Nat),.int .i64 0,.int .i64 0] 119)
 rw[hW1] at k1
 rw[hW2] at k2
 rw[hW3] at k3
 have hc2:=(FB.cell (p:=⟨fg,fo+f*3+2,none⟩) hfg (by simp)).trans hc
 have hm2:W2.cell? ⟨w.heap.size,4,none⟩=some (.slice (some ⟨fg,fo,none⟩) nf cap):=by
  refine (FB1.cell (p:=⟨w.heap.size,4,none⟩) (by simp only;omega) (by simp)).trans ?_
  unfold World.cell?
  rw[k1]
  rfl
 have s3:W3.setCell ⟨W2.heap.size,3,none⟩ (.int .i64 0)=W3:=setCell_id k3 rfl
 have s4:W3.setCell ⟨W2.heap.size,4,none⟩ (.int .i64 0)=W3:=setCell_id k3 rfl
 have DM:DMem w W3 w.heap.size W1.heap.size W2.heap.size #[tv,pv,.int .i64 m.globs,.int .i64 m.arrs,.slice (some ⟨fg,fo,none⟩) nf cap] (.int .i64 (i:Nat)) (.int .i64 (i1:Nat)) (.int .i64 (c[i].toNat:Nat)) (.int .i64 0) (.int .i64 0):=
  ⟨FC,((FB1.trans FC2).block _ (by omega) (by simp)).trans k1,(FC2.block _ (by omega) (by simp)).trans k2,k3,by omega,by omega,by omega,by omega⟩
 have fz3:W3.frozen? ⟨W2.heap.size,3,none⟩=false:=by unfold World.frozen?;rw[k3];simp
 have fz4:W3.frozen? ⟨W2.heap.size,4,none⟩=false:=by unfold World.frozen?;rw[k3];simp
 clear FA FB1 FC2 FB FC k1 k2 k3 z1 z2
 have hso:=(hT.fr DM.fr).so c[i].toNat (by omega)
 rw[hz] at hso
 clear hz
 obtain⟨a0,a1,a2,a3,a4⟩:=DMem.st DM
 obtain⟨r0,r1,r2,r3,r4⟩:=DMem.rs DM
 obtain⟨rz0,rz1,rz2,rz3,rz4⟩:=DMem.fz DM
 have HDM:Hid _:=DM
 clear DM hl hT hc
 go_enter Tryz.func59,Tryz.ntmps59
 go_wp2
 have DM:=HDM.out
 change bodyPost Tryz.prog Tryz.f59 (DecP m f L c i w) Exit.ret _ (put5 W3 W1.heap.size (.int .i64 (i:Nat)) (.int .i64 (i1:Nat)) (.int .i64 (c[i].toNat:Nat)) (.int .i64 0) (.int .i64 0))
 obtain⟨y0,y1,y2,y3,y4⟩:=put5_cells (W:=W3) (g:=W1.heap.size) (.int .i64 (i:Nat)) (.int .i64 (i1:Nat)) (.int .i64 (c[i].toNat:Nat)) (.int .i64 0) (.int .i64 0) r0 r1 r2 r3 r4
 have FZ:=DMem.put DM (.int .i64 (i:Nat)) (.int .i64 (i1:Nat)) (.int .i64 (c[i].toNat:Nat)) (.int .i64 0) (.int .i64 0)
 generalize put5 W3 W1.heap.size (.int .i64 (i:Nat)) (.int .i64 (i1:Nat)) (.int .i64 (c[i].toNat:Nat)) (.int .i64 0) (.int .i64 0)=Z at *
 refine bodyPost_ret (v:=.tuple #[.agg #[.int .i64 (i:Nat),.int .i64 (i1:Nat),.int .i64 (c[i].toNat:Nat),.int .i64 0,.int .i64 0],.int .i64 0]) (by simp[results,Tryz.results59,go_sem,y0,y1,y2,y3,y4]) rfl ?_
 subst hi1
 exact dec_ok ⟨i,i+1,c[i].toNat,0,0⟩ FZ HD.out
theorem decodeR_b3 (tv pv fv:Value)(m:Mo)(w:World)(f L i:Nat)(c:ByteArray)(hi:i<c.size)(hs:c.size≤20000)(fg fo nf cap:Nat)(hf:f<nf)(hn:nf≤1000)(hv:fv=.slice (some ⟨fg,fo,none⟩) nf cap)(hfg:fg<w.heap.size)
  (hc:w.cell? ⟨fg,fo+f*3+2,none⟩=some (.string c)) (hl:w.cell? ⟨fg,fo+f*3+1,none⟩=some (.int .i64 (L:Nat))) (hL:L≤1000) (hT:DocS w) (h52:c[i].toNat=52) (h3:f<3) :
  Calls Tryz.prog 59 #[.agg #[tv,pv,.int .i64 m.globs,.int .i64 m.arrs,fv],.int .i64 f,.int .i64 i] w (DecP m f L c i w):=by
 subst hv
 have hz:sortsT.getD c[i].toNat 0=0:=by rw[h52];rfl
 have hd:decodeL m f L (bl c) i=.inr ⟨i,i+1,c[i].toNat,0,0⟩:=by
  have e:mayOp f c[i].toNat=true:=by unfold mayOp;rw[h52,decide_eq_false (show ¬ 3≤f by omega)];rfl
  unfold decodeL
  rw[bl_getD hi,if_pos e,if_pos hz]
 have HD:Hid _:=hd
 clear hd
 have q54:decide ((54:Int)≤(c[i].toNat:Int))=false:=decide_eq_false (by omega)
 have q51:((c[i].toNat:Int)==51)=false:=by simp;omega
 have q52:((c[i].toNat:Int)==52)=true:=by simp;omega
 have g1:((c[i].toNat:Int)<54):=by omega
 have qf:decide ((f:Int)<3)=true:=decide_eq_true (by omega)
 have qf2:decide ((3:Int)≤(f:Int))=false:=decide_eq_false (by omega)
 clear h52
 have g0:(i:Int)<c.size:=by omega
 have gx:c[i].toNat<256:=c[i].toNat_lt
 have g2:(f:Int)<(nf:Int):=by omega
 obtain⟨i1,hi1⟩:∃ i1:Nat,i+1=i1:=⟨_,rfl⟩
 have hI:(i:Int)+1=(i1:Int):=by omega
 obtain⟨W1,hW1⟩:∃ W1,w.alloc (.cells #[tv,pv,.int .i64 m.globs,.int .i64 m.arrs,.slice (some ⟨fg,fo,none⟩) nf cap] 30)=W1:=⟨_,rfl⟩
 obtain⟨W2,hW2⟩:∃ W2,W1.alloc (.cells #[.int .i64 0,.int .i64 0,.int .i64 0,.int .i64 0,.int .i64 0] 119)=W2:=⟨_,rfl⟩
 obtain⟨W3,hW3⟩:∃ W3,W2.alloc (.cells #[.int .i64 (i:Nat),.int .i64 (i1:Nat),.int .i64 (c[i].toNat:Nat),.int .i64 0,.int .i64 0] 119)=W3:=⟨_,rfl⟩
 have FA:Fr [] w W1:=by rw[← hW1];exact (Fr.refl [] w).alloc _
 have FB1:Fr [] W1 W2:=by rw[← hW2];exact (Fr.refl [] W1).alloc _
 have FC2:Fr [] W2 W3:=by rw[← hW3];exact (Fr.refl [] W2).alloc _
 have FB:Fr [] w W2:=FA.trans FB1
 have FC:Fr [] w W3:=FB.trans FC2
 have z1:W1.heap.size=w.heap.size+1:=by rw[← hW1];simp
 have z2:W2.heap.size=w.heap.size+2:=by rw[← hW2];simp[z1]
 have k1:=wan w (.cells #[tv,pv,.int .i64 m.globs,.int .i64 m.arrs,.slice (some ⟨fg,fo,none⟩) nf cap] 30)
 have k2:=wan W1 (.cells #[.int .i64 0,.int .i64 0,.int .i64 0,.int .i64 0,.int .i64 0] 119)
 have k3:=wan W2 (.cells #[.int .i64 (i:Nat),.int .i64 (i1:Nat),.int .i64 (c[i].toNat:Nat),.int .i64 0,.int .i64 0] 119)
 rw[hW1] at k1
 rw[hW2] at k2
 rw[hW3] at k3
 have hc2:=(FB.cell (p:=⟨fg,fo+f*3+2,none⟩) hfg (by simp)).trans hc
 have hm2:W2.cell? ⟨w.heap.size,4,none⟩=some (.slice (some ⟨fg,fo,none⟩) nf cap):=by
  refine (FB1.cell (p:=⟨w.heap.size,4,none⟩) (by simp only;omega) (by simp)).trans ?_
  unfold World.cell?
  rw[k1]
  rfl
 have s3:W3.setCell ⟨W2.heap.size,3,none⟩ (.int .i64 0)=W3:=setCell_id k3 rfl
 have s4:W3.setCell ⟨W2.heap.size,4,none⟩ (.int .i64 0)=W3:=setCell_id k3 rfl
 have DM:DMem w W3 w.heap.size W1.heap.size W2.heap.size #[tv,pv,.int .i64 m.globs,.int .i64 m.arrs,.slice (some ⟨fg,fo,none⟩) nf cap] (.int .i64 (i:Nat)) (.int .i64 (i1:Nat)) (.int .i64 (c[i].toNat:Nat)) (.int .i64 0) (.int .i64 0):=
  ⟨FC,((FB1.trans FC2).block _ (by omega) (by simp)).trans k1,(FC2.block _ (by omega) (by simp)).trans k2,k3,by omega,by omega,by omega,by omega⟩
 have fz3:W3.frozen? ⟨W2.heap.size,3,none⟩=false:=by unfold World.frozen?;rw[k3];simp
 have fz4:W3.frozen? ⟨W2.heap.size,4,none⟩=false:=by unfold World.frozen?;rw[k3];simp
 clear FA FB1 FC2 FB FC k1 k2 k3 z1 z2
 have hso:=(hT.fr DM.fr).so c[i].toNat (by omega)
 rw[hz] at hso
 clear hz
 obtain⟨a0,a1,a2,a3,a4⟩:=DMem.st DM
 obtain⟨r0,r1,r2,r3,r4⟩:=DMem.rs DM
 obtain⟨rz0,rz1,rz2,rz3,rz4⟩:=DMem.fz DM
 have HDM:Hid _:=DM
 clear DM hl hT hc
 go_enter Tryz.func59,Tryz.ntmps59
 go_wp2
 have DM:=HDM.out
 change bodyPost Tryz.prog Tryz.f59 (DecP m f L c i w) Exit.ret _ (put5 W3 W1.heap.size (.int .i64 (i:Nat)) (.int .i64 (i1:Nat)) (.int .i64 (c[i].toNat:Nat)) (.int .i64 0) (.int .i64 0))
 obtain⟨y0,y1,y2,y3,y4⟩:=put5_cells (W:=W3) (g:=W1.heap.size) (.int .i64 (i:Nat)) (.int .i64 (i1:Nat)) (.int .i64 (c[i].toNat:Nat)) (.int .i64 0) (.int .i64 0) r0 r1 r2 r3 r4
 have FZ:=DMem.put DM (.int .i64 (i:Nat)) (.int .i64 (i1:Nat)) (.int .i64 (c[i].toNat:Nat)) (.int .i64 0) (.int .i64 0)
 generalize put5 W3 W1.heap.size (.int .i64 (i:Nat)) (.int .i64 (i1:Nat)) (.int .i64 (c[i].toNat:Nat)) (.int .i64 0) (.int .i64 0)=Z at *
 refine bodyPost_ret (v:=.tuple #[.agg #[.int .i64 (i:Nat),.int .i64 (i1:Nat),.int .i64 (c[i].toNat:Nat),.int .i64 0,.int .i64 0],.int .i64 0]) (by simp[results,Tryz.results59,go_sem,y0,y1,y2,y3,y4]) rfl ?_
 subst hi1
 exact dec_ok ⟨i,i+1,c[i].toNat,0,0⟩ FZ HD.out
end Go.Proofs.YtclkgoigmgkffaaGreatDoor
