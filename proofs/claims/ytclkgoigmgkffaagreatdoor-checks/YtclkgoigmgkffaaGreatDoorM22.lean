/-
  Texts In.
-/
import Derived.Test.YtclkgoigmgkffaaGreatDoorMA
import Derived.Test.YtclkgoigmgkffaaGreatDoorM21
set_option linter.unusedSimpArgs false
set_option linter.unusedVariables false
set_option maxRecDepth 100000
set_option maxHeartbeats 40000000
namespace Go.Proofs.YtclkgoigmgkffaaGreatDoor
open Go.RowKit
open Wire Flow Mach
theorem setCell_block {W:World}{x z i:Nat}{v:Value} (h:x≠z):(W.setCell ⟨z,i,none⟩ v).heap[x]?=W.heap[x]?:=by
 unfold World.setCell
 simp only[Array.getElem?_modify]
 rw[if_neg (fun e=>h e.symm)]
theorem setCell_at {W:World}{z i:Nat}{cs:Array Value}{t:TypeId}{v:Value} (h:W.heap[z]?=some (.cells cs t)):(W.setCell ⟨z,i,none⟩ v).heap[z]?=some (.cells (cs.setIfInBounds i v) t):=by
 unfold World.setCell
 simp only[Array.getElem?_modify]
 rw[if_pos trivial,h]
 rfl
theorem sortsT_le:∀ i,i<54→sortsT.getD i 0≤9:=by decide
theorem DMem.set1 {w W:World}{x y z:Nat}{mc:Array Value}{v0 v1 v2 v3 v4:Value} (h:DMem w W x y z mc v0 v1 v2 v3 v4) (u:Value):DMem w (W.setCell ⟨z,1,none⟩ u) x y z mc v0 u v2 v3 v4:=
 ⟨h.fr.setCell (p:=⟨z,1,none⟩) (.inr h.lz) u,(setCell_block h.ne.1).trans h.mo,(setCell_block h.ne.2).trans h.re,setCell_at h.sp,h.lx,h.ly,h.lz,h.ne⟩
theorem DMem.set3 {w W:World}{x y z:Nat}{mc:Array Value}{v0 v1 v2 v3 v4:Value} (h:DMem w W x y z mc v0 v1 v2 v3 v4) (u:Value):DMem w (W.setCell ⟨z,3,none⟩ u) x y z mc v0 v1 v2 u v4:=
 ⟨h.fr.setCell (p:=⟨z,3,none⟩) (.inr h.lz) u,(setCell_block h.ne.1).trans h.mo,(setCell_block h.ne.2).trans h.re,setCell_at h.sp,h.lx,h.ly,h.lz,h.ne⟩
theorem DMem.set4 {w W:World}{x y z:Nat}{mc:Array Value}{v0 v1 v2 v3 v4:Value} (h:DMem w W x y z mc v0 v1 v2 v3 v4) (u:Value):DMem w (W.setCell ⟨z,4,none⟩ u) x y z mc v0 v1 v2 v3 u:=
 ⟨h.fr.setCell (p:=⟨z,4,none⟩) (.inr h.lz) u,(setCell_block h.ne.1).trans h.mo,(setCell_block h.ne.2).trans h.re,setCell_at h.sp,h.lx,h.ly,h.lz,h.ne⟩
theorem numXY {c:ByteArray}{j:Nat}:(num ((bl c).drop j)=none→numXi c j c.size = -1)∧∀ n r,num ((bl c).drop j)=some (n,r)→numXi c j c.size=(n:Int)∧numYi c j c.size=c.size-r.length:=by
 have e:seg (bl c) j c.size=(bl c).drop j:=by rw[← bl_length c];exact seg_all _ _
 unfold numXi numYi
 rw[e]
 refine⟨fun h=>by rw[h],fun n r h=>?_⟩
 rw[h]
 exact⟨rfl,rfl⟩
theorem decodeR_c (tv pv fv:Value)(m:Mo)(w:World)(f L i:Nat)(c:ByteArray)(hi:i<c.size)(hs:c.size≤20000)(fg fo nf cap:Nat)(hf:f<nf)(hn:nf≤1000)(hv:fv=.slice (some ⟨fg,fo,none⟩) nf cap)(hfg:fg<w.heap.size)
  (hc:w.cell? ⟨fg,fo+f*3+2,none⟩=some (.string c)) (hl:w.cell? ⟨fg,fo+f*3+1,none⟩=some (.int .i64 (L:Nat))) (hL:L≤1000) (hT:DocS w) (hMo:MoOk m) (hM:ModIn w (.agg #[tv,pv,.int .i64 m.globs,.int .i64 m.arrs,fv]) m) (h54:c[i].toNat<54) (h51:c[i].toNat≠51) (h52:c[i].toNat≠52) (so:Nat) (hso:sortsT.getD c[i].toNat 0=so) (hz:so≠0) :
  Calls Tryz.prog 59 #[.agg #[tv,pv,.int .i64 m.globs,.int .i64 m.arrs,fv],.int .i64 f,.int .i64 i] w (DecP m f L c i w):=by
 subst hv
 have hm:Tryz.prog.follows Departure.mixedOrders=true:=by kernel_rfl
 have e:mayOp f c[i].toNat=true:=by unfold mayOp;rw[decide_eq_true h54,decide_eq_false h51,decide_eq_false h52];rfl
 have hd0:decodeL m f L (bl c) i=(match operandL m L (bl c) so (i+1) with
   | none=>.inl 10
   | some (n,j)=>
    if c[i].toNat=38 then
     match operandL m L (bl c) 6 j with
     | none=>.inl 10
     | some (n2,k)=>.inr ⟨i,k,c[i].toNat,n,n2⟩
    else .inr ⟨i,j,c[i].toNat,n,0⟩):=by
  unfold decodeL
  rw[bl_getD hi,if_pos e,hso,if_neg hz]
  rfl
 have hs9:so≤9:=by rw[← hso];exact sortsT_le _ h54
 have q54:decide ((54:Int)≤(c[i].toNat:Int))=false:=decide_eq_false (by omega)
 have q51:((c[i].toNat:Int)==51)=false:=by simp;omega
 have q52:((c[i].toNat:Int)==52)=false:=by simp;omega
 have g1:((c[i].toNat:Int)<54):=by omega
 have g0:(i:Int)<c.size:=by omega
 have gx:c[i].toNat<256:=c[i].toNat_lt
 have g2:(f:Int)<(nf:Int):=by omega
 obtain⟨i1,hi1⟩:∃ i1:Nat,i+1=i1:=⟨_,rfl⟩
 have hI:(i:Int)+1=(i1:Int):=by omega
 obtain⟨W1,hW1⟩:∃ W1,w.alloc (.cells #[tv,pv,.int .i64 m.globs,.int .i64 m.arrs,.slice (some ⟨fg,fo,none⟩) nf cap] 30)=W1:=⟨_,rfl⟩
 obtain⟨W2,hW2⟩:∃ W2,W1.alloc (.cells #[.int .i64 0,.int .i64 0,.int .i64 0,.int .i64 0,.int .i64 0] 119)=W2:=⟨_,rfl⟩
 obtain⟨W3,hW3⟩:∃ W3,W2.alloc (.cells #[.int .i64 (i:Nat),.int .i64 (i1:Nat),.int .i64 (c[i].toNat:Nat),.int .i64 0,.int .i64 0] 119)=W3:=⟨_,rfl⟩
 have FA:Fr [] w W1:=by rw[← hW1];exact (Fr.refl [] w).alloc _
 have FB1:Fr [] W1 W2:=by rw[← hW2];exact (Fr.refl [] W1).alloc _
 have FC2:Fr [] W2 W3:=by rw[← hW3];exact (Fr.refl [] W2).alloc _
 have FB:Fr [] w W2:=FA.trans FB1
 have FC:Fr [] w W3:=FB.trans FC2
 have z1:W1.heap.size=w.heap.size+1:=by rw[← hW1];simp
 have z2:W2.heap.size=w.heap.size+2:=by rw[← hW2];simp[z1]
 have k1:=wan w (.cells #[tv,pv,.int .i64 m.globs,.int .i64 m.arrs,.slice (some ⟨fg,fo,none⟩) nf cap] 30)
 have k2:=wan W1 (.cells #[.int .i64 0,.int .i64 0,.int .i64 0,.int .i64 0,.int .i64 0] 119)
 have k3:=wan W2 (.cells #[.int .i64 (i:Nat),.int .i64 (i1:Nat),.int .i64 (c[i].toNat:Nat),.int .i64 0,.int .i64 0] 119)
 rw[hW1] at k1
 rw[hW2] at k2
 rw[hW3] at k3
 have hc2:=(FB.cell (p:=⟨fg,fo+f*3+2,none⟩) hfg (by simp)).trans hc
 have hm2:W2.cell? ⟨w.heap.size,4,none⟩=some (.slice (some ⟨fg,fo,none⟩) nf cap):=by
  refine (FB1.cell (p:=⟨w.heap.size,4,none⟩) (by simp only;omega) (by simp)).trans ?_
  unfold World.cell?
  rw[k1]
  rfl
 have s3:W3.setCell ⟨W2.heap.size,3,none⟩ (.int .i64 0)=W3:=setCell_id k3 rfl
 have s4:W3.setCell ⟨W2.heap.size,4,none⟩ (.int .i64 0)=W3:=setCell_id k3 rfl
 have DM:DMem w W3 w.heap.size W1.heap.size W2.heap.size #[tv,pv,.int .i64 m.globs,.int .i64 m.arrs,.slice (some ⟨fg,fo,none⟩) nf cap] (.int .i64 (i:Nat)) (.int .i64 (i1:Nat)) (.int .i64 (c[i].toNat:Nat)) (.int .i64 0) (.int .i64 0):=
  ⟨FC,((FB1.trans FC2).block _ (by omega) (by simp)).trans k1,(FC2.block _ (by omega) (by simp)).trans k2,k3,by omega,by omega,by omega,by omega⟩
 have fz3:W3.frozen? ⟨W2.heap.size,3,none⟩=false:=by unfold World.frozen?;rw[k3];simp
 have fz4:W3.frozen? ⟨W2.heap.size,4,none⟩=false:=by unfold World.frozen?;rw[k3];simp
 clear FA FB1 FC2 FB FC k1 k2 k3 z1 z2
 have hSt:∀ (v0 v1 v3 v4:Value) (W:World),DMem w W w.heap.size W1.heap.size W2.heap.size #[tv,pv,.int .i64 m.globs,.int .i64 m.arrs,.slice (some ⟨fg,fo,none⟩) nf cap] v0 v1 (.int .i64 (c[i].toNat:Nat)) v3 v4→(fun w1:World=>(w1.cell? ⟨w.heap.size,0,none⟩=some tv∧w1.cell? ⟨w.heap.size,1,none⟩=some pv∧w1.cell? ⟨w.heap.size,2,none⟩=some (.int .i64 m.globs)∧w1.cell? ⟨w.heap.size,3,none⟩=some (.int .i64 m.arrs)∧w1.cell? ⟨w.heap.size,4,none⟩=some (.slice (some ⟨fg,fo,none⟩) nf cap))∧w1.cell? ⟨fg,fo+f*3+1,none⟩=some (.int .i64 (L:Nat))∧w1.cell? ⟨W2.heap.size,2,none⟩=some (.int .i64 (c[i].toNat:Nat))∧w1.cell? ⟨0,c[i].toNat,none⟩=some (.int .i64 (so:Nat))) W:=fun v0 v1 v3 v4 W h=>by
  obtain⟨-,-,q2,-,-⟩:=h.st
  have q5:=(h.fr.cell (p:=⟨fg,fo+f*3+1,none⟩) hfg (by simp)).trans hl
  have q7:=(hT.fr h.fr).so c[i].toNat h54
  rw[hso] at q7
  have e1:∀ j v,(#[tv,pv,.int .i64 m.globs,.int .i64 m.arrs,.slice (some ⟨fg,fo,none⟩) nf cap]:Array Value)[j]?=some v→W.cell? ⟨w.heap.size,j,none⟩=some v:=fun j v hv=>by
   unfold World.cell?
   rw[h.mo]
   exact hv
  exact⟨⟨e1 0 _ rfl,e1 1 _ rfl,e1 2 _ rfl,e1 3 _ rfl,e1 4 _ rfl⟩,q5,q2,q7⟩
 have HSt:Hid _:=hSt
 clear hSt
 have hNum:=fun W:World=>NumberR_any c i1 c.size (by omega) (Nat.le_refl _) (by omega) W
 have hFit:∀ n:Nat,n<34359738368→∀ W,Fr [] w W→Calls Tryz.prog 119 #[.agg #[tv,pv,.int .i64 m.globs,.int .i64 m.arrs,.slice (some ⟨fg,fo,none⟩) nf cap],.int .i64 L,.int .i64 so,.int .i64 n] W fun e w'=>e=.returned (.bool (fitN m L so n))∧Fr [] W w':=fun n hn W hW=>fitsR_any _ m W L so n (hM.fr hW) (by omega) hn (by omega) (by have:=hMo.t;omega) (by have:=hMo.p;omega) (by have:=hMo.f.n;omega) (by have:=hMo.g;omega) (by have:=hMo.a;omega)
 have hFit6:∀ n:Nat,n<34359738368→∀ W,Fr [] w W→Calls Tryz.prog 119 #[.agg #[tv,pv,.int .i64 m.globs,.int .i64 m.arrs,.slice (some ⟨fg,fo,none⟩) nf cap],.int .i64 L,.int .i64 6,.int .i64 n] W fun e w'=>e=.returned (.bool (fitN m L 6 n))∧Fr [] W w':=fun n hn W hW=>fitsR_any _ m W L 6 n (hM.fr hW) (by omega) hn (by omega) (by have:=hMo.t;omega) (by have:=hMo.p;omega) (by have:=hMo.f.n;omega) (by have:=hMo.g;omega) (by have:=hMo.a;omega)
 have qso:((so:Int)==0)=false:=by simp;omega
 have hsW:=(hT.fr DM.fr).so c[i].toNat (by omega)
 rw[hso] at hsW
 have hcl:(bl c).length=c.size:=bl_length c
 obtain⟨a0,a1,a2,a3,a4⟩:=DMem.st DM
 obtain⟨r0,r1,r2,r3,r4⟩:=DMem.rs DM
 obtain⟨rz0,rz1,rz2,rz3,rz4⟩:=DMem.fz DM
 have HDM:Hid _:=DM
 have HH:Hid _:=AI hi1 hcl
 have HD0:Hid _:=hd0
 have HF6:Hid _:=fun (_:Unit)=>hFit6
 have hir:i1≤c.size:=by omega
 clear hd0 hcl e hFit6
 cases hN:num ((bl c).drop (i+1)) with
 | none=>
  have hX:=numXY.1 hN
  rw[hi1] at hX
  have hd:decodeL m f L (bl c) i=.inl 10:=by rw[HD0.out];unfold operandL;rw[hN]
  have HD:Hid _:=hd
  generalize numYi c i1 c.size=Y at hNum
  rw[hX] at hNum
  have HNum:Hid _:=hNum
  clear hd hN HD0 hNum hX hFit HSt DM hl hT hc hM hMo h51 h52 hso hz
  clear hi1
  go_enter Tryz.func59,Tryz.ntmps59
  go_wp2_with fail
  refine (HNum.out _).mono ?_
  rintro e w1 ⟨rfl,hw⟩
  replace hw:=hw.symm
  subst hw
  go_wp2
  have DM:=HDM.out
  have hi1:=HH.out.1
  change bodyPost Tryz.prog Tryz.f59 (DecP m f L c i w) Exit.ret _ (put5 W3 W1.heap.size (.int .i64 (i:Nat)) (.int .i64 (i1:Nat)) (.int .i64 (c[i].toNat:Nat)) (.int .i64 0) (.int .i64 0))
  obtain⟨y0,y1,y2,y3,y4⟩:=put5_cells (W:=W3) (g:=W1.heap.size) (.int .i64 (i:Nat)) (.int .i64 (i1:Nat)) (.int .i64 (c[i].toNat:Nat)) (.int .i64 0) (.int .i64 0) r0 r1 r2 r3 r4
  have FZ:=DMem.put DM (.int .i64 (i:Nat)) (.int .i64 (i1:Nat)) (.int .i64 (c[i].toNat:Nat)) (.int .i64 0) (.int .i64 0)
  generalize put5 W3 W1.heap.size (.int .i64 (i:Nat)) (.int .i64 (i1:Nat)) (.int .i64 (c[i].toNat:Nat)) (.int .i64 0) (.int .i64 0)=Z at *
  refine bodyPost_ret (v:=.tuple #[.agg #[.int .i64 (i:Nat),.int .i64 (i1:Nat),.int .i64 (c[i].toNat:Nat),.int .i64 0,.int .i64 0],.int .i64 10]) (by simp[results,Tryz.results59,go_sem,y0,y1,y2,y3,y4]) rfl ?_
  subst hi1
  exact dec_bad ⟨i,i+1,c[i].toNat,0,0⟩ FZ 10 (by omega) HD.out
 | some nr=>
  obtain⟨n,r⟩:=nr
  obtain⟨hX,hY⟩:=numXY.2 n r hN
  have hn36:=(num_some hN).2
  have hop:operandL m L (bl c) so (i+1)=if fitN m L so n=true then some (n,c.size-r.length) else none:=by unfold operandL;rw[hN,HH.out.2]
  rw[hi1] at hX hY
  rw[hX,hY] at hNum
  obtain⟨y,hy⟩:∃ y,c.size-r.length=y:=⟨_,rfl⟩
  rw[hy] at hop hNum
  have hyc:y≤c.size:=by omega
  have HNum:Hid _:=hNum
  have HFit:Hid _:=fun (_:Unit)=>hFit n hn36
  have HF6':Hid _:=HF6
  clear hNum hX hY hy hFit hN HF6 DM hl hT hc hM hMo h51 h52 hso hz hi1
  have DM:=HDM.out
  go_enter Tryz.func59,Tryz.ntmps59
  go_wp2_with fail
  refine (HNum.out _).mono ?_
  rintro e w1 ⟨rfl,hw⟩
  replace hw:=hw.symm
  subst hw
  go_wp2_with fail
  refine wp_region_heldD (fun w1:World=>(w1.cell? ⟨w.heap.size,0,none⟩=some tv∧w1.cell? ⟨w.heap.size,1,none⟩=some pv∧w1.cell? ⟨w.heap.size,2,none⟩=some (.int .i64 m.globs)∧w1.cell? ⟨w.heap.size,3,none⟩=some (.int .i64 m.arrs)∧w1.cell? ⟨w.heap.size,4,none⟩=some (.slice (some ⟨fg,fo,none⟩) nf cap))∧w1.cell? ⟨fg,fo+f*3+1,none⟩=some (.int .i64 (L:Nat))∧w1.cell? ⟨W2.heap.size,2,none⟩=some (.int .i64 (c[i].toNat:Nat))∧w1.cell? ⟨0,c[i].toNat,none⟩=some (.int .i64 (so:Nat))) hm ?_
  have hS:(fun w1:World=>(w1.cell? ⟨w.heap.size,0,none⟩=some tv∧w1.cell? ⟨w.heap.size,1,none⟩=some pv∧w1.cell? ⟨w.heap.size,2,none⟩=some (.int .i64 m.globs)∧w1.cell? ⟨w.heap.size,3,none⟩=some (.int .i64 m.arrs)∧w1.cell? ⟨w.heap.size,4,none⟩=some (.slice (some ⟨fg,fo,none⟩) nf cap))∧w1.cell? ⟨fg,fo+f*3+1,none⟩=some (.int .i64 (L:Nat))∧w1.cell? ⟨W2.heap.size,2,none⟩=some (.int .i64 (c[i].toNat:Nat))∧w1.cell? ⟨0,c[i].toNat,none⟩=some (.int .i64 (so:Nat))) W3.drew:=HSt.out _ _ _ _ W3 DM
  refine wpAnyH_take (i:=0) (v:=.agg #[tv,pv,.int .i64 m.globs,.int .i64 m.arrs,.slice (some ⟨fg,fo,none⟩) nf cap]) rfl (by kernel_rfl) (by kernel_rfl) (by kernel_rfl) (fun _ _ _ h=>h) (.inl ⟨rfl,fun w1 hS1=>?_⟩) hS ?_
  ·obtain⟨⟨p0,p1,p2,p3,p4⟩,p5,p6,p7⟩:=hS1
   go_simp
   (try rfl)
  simp only[Act.put,Z1,Z2,Z3,Z4,Z5,Z6]
  refine tkH (i:=1) (v:=?_) rfl (.inl ⟨rfl,fun w1 hS1=>?_⟩) hS ?_
  rotate_left
  ·obtain⟨⟨p0,p1,p2,p3,p4⟩,p5,p6,p7⟩:=hS1
   go_simp
   first | rfl | (refine (if_neg (by omega)).trans ?_;rfl)
  simp only[Act.put,Z1,Z2,Z3,Z4,Z5,Z6]
  refine tkH (i:=2) (v:=?_) rfl (.inl ⟨rfl,fun w1 hS1=>?_⟩) hS ?_
  rotate_left
  ·obtain⟨⟨p0,p1,p2,p3,p4⟩,p5,p6,p7⟩:=hS1
   go_simp
   first | rfl | (refine (if_neg (by omega)).trans ?_;rfl)
  simp only[Act.put,Z1,Z2,Z3,Z4,Z5,Z6]
  refine tkH (i:=3) (v:=?_) rfl (.inl ⟨rfl,fun w1 hS1=>?_⟩) hS ?_
  rotate_left
  ·obtain⟨⟨p0,p1,p2,p3,p4⟩,p5,p6,p7⟩:=hS1
   go_simp
   first | rfl | (refine (if_neg (by omega)).trans ?_;rfl)
  simp only[Act.put,Z1,Z2,Z3,Z4,Z5,Z6]
  refine tkH (i:=4) (v:=?_) rfl (.inl ⟨rfl,fun w1 hS1=>?_⟩) hS ?_
  rotate_left
  ·obtain⟨⟨p0,p1,p2,p3,p4⟩,p5,p6,p7⟩:=hS1
   go_simp
   first | rfl | (refine (if_neg (by omega)).trans ?_;rfl)
  simp only[Act.put,Z1,Z2,Z3,Z4,Z5,Z6]
  refine tkH (i:=5) (v:=?_) rfl (.inl ⟨rfl,fun w1 hS1=>?_⟩) hS ?_
  rotate_left
  ·obtain⟨⟨p0,p1,p2,p3,p4⟩,p5,p6,p7⟩:=hS1
   go_simp
   first | rfl | (refine (if_neg (by omega)).trans ?_;rfl)
  simp only[Act.put,Z1,Z2,Z3,Z4,Z5,Z6]
  refine tkH (i:=6) (v:=?_) rfl (.inl ⟨rfl,fun w1 hS1=>?_⟩) hS ?_
  rotate_left
  ·obtain⟨⟨p0,p1,p2,p3,p4⟩,p5,p6,p7⟩:=hS1
   go_simp
   first | rfl | (refine (if_neg (by omega)).trans ?_;rfl)
  simp only[Act.put,Z1,Z2,Z3,Z4,Z5,Z6]
  refine tkH (i:=7) (v:=?_) rfl (.inl ⟨rfl,fun w1 hS1=>?_⟩) hS ?_
  rotate_left
  ·obtain⟨⟨p0,p1,p2,p3,p4⟩,p5,p6,p7⟩:=hS1
   go_simp
   first | rfl | (refine (if_neg (by omega)).trans ?_;rfl)
  simp only[Act.put,Z1,Z2,Z3,Z4,Z5,Z6]
  refine tkH (i:=8) (v:=?_) rfl (.inl ⟨rfl,fun w1 hS1=>?_⟩) hS ?_
  rotate_left
  ·obtain⟨⟨p0,p1,p2,p3,p4⟩,p5,p6,p7⟩:=hS1
   go_simp
   first | rfl | (refine (if_neg (by omega)).trans ?_;rfl)
  simp only[Act.put,Z1,Z2,Z3,Z4,Z5,Z6]
  refine tkH (i:=9) (v:=?_) rfl (.inl ⟨rfl,fun w1 hS1=>?_⟩) hS ?_
  rotate_left
  ·obtain⟨⟨p0,p1,p2,p3,p4⟩,p5,p6,p7⟩:=hS1
   go_simp
   first | rfl | (refine (if_neg (by omega)).trans ?_;rfl)
  simp only[Act.put,Z1,Z2,Z3,Z4,Z5,Z6]
  refine tkH (i:=10) (v:=?_) rfl (.inl ⟨rfl,fun w1 hS1=>?_⟩) hS ?_
  rotate_left
  ·obtain⟨⟨p0,p1,p2,p3,p4⟩,p5,p6,p7⟩:=hS1
   go_simp
   first | rfl | (refine (if_neg (by omega)).trans ?_;rfl)
  simp only[Act.put,Z1,Z2,Z3,Z4,Z5,Z6]
  refine tkH (i:=11) (v:=?_) rfl (.inl ⟨rfl,fun w1 hS1=>?_⟩) hS ?_
  rotate_left
  ·obtain⟨⟨p0,p1,p2,p3,p4⟩,p5,p6,p7⟩:=hS1
   go_simp
   first | rfl | (refine (if_neg (by omega)).trans ?_;rfl)
  simp only[Act.put,Z1,Z2,Z3,Z4,Z5,Z6]
  refine rdH (r:=12) ?_
  refine AllReadyH.cons rfl (fun K hK=>?_) AllReadyH.nil
  go_simp
  refine ((HFit.out ()) _ (DMem.fr DM).drew).mono ?_
  rintro e W4 ⟨rfl,F4'⟩
  have DM4:=DMem.to DM ((Fr.refl [] W3).drew.trans F4')
  have hSb:(fun w1:World=>(w1.cell? ⟨w.heap.size,0,none⟩=some tv∧w1.cell? ⟨w.heap.size,1,none⟩=some pv∧w1.cell? ⟨w.heap.size,2,none⟩=some (.int .i64 m.globs)∧w1.cell? ⟨w.heap.size,3,none⟩=some (.int .i64 m.arrs)∧w1.cell? ⟨w.heap.size,4,none⟩=some (.slice (some ⟨fg,fo,none⟩) nf cap))∧w1.cell? ⟨fg,fo+f*3+1,none⟩=some (.int .i64 (L:Nat))∧w1.cell? ⟨W2.heap.size,2,none⟩=some (.int .i64 (c[i].toNat:Nat))∧w1.cell? ⟨0,c[i].toNat,none⟩=some (.int .i64 (so:Nat))) W4:=HSt.out _ _ _ _ W4 DM4
  clear F4' hS
  refine hK _ _ hSb ?_
  clear hK K
  intro _
  refine rdH (r:=13) ?_
  refine AllReadyH.cons rfl (fun K hK=>?_) AllReadyH.nil
  go_simp
  refine hK _ _ hSb ?_
  clear hK K
  intro _
  refine wpAnyH_done (by kernel_rfl) ?_ _
  clear hSb
  clear a0 a1 a2 a3 a4 r0 r1 r2 r3 r4 rz0 rz1 rz2 rz3 rz4 s3 s4 fz3 fz4 DM HDM hsW HNum HFit hW1 hW2 hW3 hc2 hm2
  generalize hb:fitN m L so n=b at *
  cases b with
  | false=>
   have hd:decodeL m f L (bl c) i=.inl 10:=by rw[HD0.out,hop,if_neg (by decide)]
   have HD:Hid _:=hd
   have HDM:Hid _:=DM4
   clear hd HD0 hop hb HSt
   obtain⟨a0,a1,a2,a3,a4⟩:=DMem.st DM4
   obtain⟨r0,r1,r2,r3,r4⟩:=DMem.rs DM4
   obtain⟨rz0,rz1,rz2,rz3,rz4⟩:=DMem.fz DM4
   clear DM4
   go_wp2
   have DM4:=HDM.out
   have hi1:=HH.out.1
   change bodyPost Tryz.prog Tryz.f59 (DecP m f L c i w) Exit.ret _ (put5 W4 W1.heap.size (.int .i64 (i:Nat)) (.int .i64 (i1:Nat)) (.int .i64 (c[i].toNat:Nat)) (.int .i64 0) (.int .i64 0))
   obtain⟨y0,y1,y2,y3,y4⟩:=put5_cells (W:=W4) (g:=W1.heap.size) (.int .i64 (i:Nat)) (.int .i64 (i1:Nat)) (.int .i64 (c[i].toNat:Nat)) (.int .i64 0) (.int .i64 0) r0 r1 r2 r3 r4
   have FZ:=DMem.put DM4 (.int .i64 (i:Nat)) (.int .i64 (i1:Nat)) (.int .i64 (c[i].toNat:Nat)) (.int .i64 0) (.int .i64 0)
   generalize put5 W4 W1.heap.size (.int .i64 (i:Nat)) (.int .i64 (i1:Nat)) (.int .i64 (c[i].toNat:Nat)) (.int .i64 0) (.int .i64 0)=Z at *
   refine bodyPost_ret (v:=.tuple #[.agg #[.int .i64 (i:Nat),.int .i64 (i1:Nat),.int .i64 (c[i].toNat:Nat),.int .i64 0,.int .i64 0],.int .i64 10]) (by simp[results,Tryz.results59,go_sem,y0,y1,y2,y3,y4]) rfl ?_
   subst hi1
   exact dec_bad ⟨i,i+1,c[i].toNat,0,0⟩ FZ 10 (by omega) HD.out
  | true=>
   obtain⟨-,b1,b2⟩:=DMem.sz DM4
   obtain⟨-,-,-,a3,-⟩:=DMem.st DM4
   have DM5a:=DMem.set3 DM4 (.int .i64 (n:Nat))
   generalize hW5a:W4.setCell ⟨W2.heap.size,3,none⟩ (.int .i64 (n:Nat))=W5a at DM5a
   obtain⟨b3,-,-⟩:=DMem.sz DM5a
   obtain⟨-,b4,-,-,-⟩:=DMem.st DM5a
   have DM5:=DMem.set1 DM5a (.int .i64 (y:Nat))
   generalize hW5:W5a.setCell ⟨W2.heap.size,1,none⟩ (.int .i64 (y:Nat))=W5 at DM5
   rw[if_pos rfl] at hop
   have hd1:=HD0.out
   rw[hop] at hd1
   simp only at hd1
   clear HD0 hop hb DM4 DM5a
   by_cases h38:c[i].toNat=38
   ·have q38:((c[i].toNat:Int)==38)=true:=by simp;omega
    have q38n:((c[i].toNat:Int)!=38)=false:=by simp;omega
    rw[if_pos h38] at hd1
    have HD1:Hid _:=hd1
    clear hd1 h38
    obtain⟨a0,a1,a2,a3,a4⟩:=DMem.st DM5
    obtain⟨r0,r1,r2,r3,r4⟩:=DMem.rs DM5
    obtain⟨rz0,rz1,rz2,rz3,rz4⟩:=DMem.fz DM5
    have HDM:Hid _:=DM5
    have hNum:=fun W:World=>NumberR_any c y c.size hyc (Nat.le_refl _) (by omega) W
    cases hN:num ((bl c).drop y) with
    | none=>
     have hX:=numXY.1 hN
     have hd:decodeL m f L (bl c) i=.inl 10:=by rw[HD1.out];unfold operandL;rw[hN]
     have HD:Hid _:=hd
     generalize numYi c y c.size=Y at hNum
     rw[hX] at hNum
     have HNum:Hid _:=hNum
     clear hd hN HD1 hNum hX HSt DM5
     go_wp2_with fail
     refine (HNum.out _).mono ?_
     rintro e w1 ⟨rfl,hw⟩
     replace hw:=hw.symm
     subst hw
     go_wp2
     have DM5:=HDM.out
     have hi1:=HH.out.1
     change bodyPost Tryz.prog Tryz.f59 (DecP m f L c i w) Exit.ret _ (put5 W5 W1.heap.size (.int .i64 (i:Nat)) (.int .i64 (y:Nat)) (.int .i64 (c[i].toNat:Nat)) (.int .i64 (n:Nat)) (.int .i64 0))
     obtain⟨y0,y1,y2,y3,y4⟩:=put5_cells (W:=W5) (g:=W1.heap.size) (.int .i64 (i:Nat)) (.int .i64 (y:Nat)) (.int .i64 (c[i].toNat:Nat)) (.int .i64 (n:Nat)) (.int .i64 0) r0 r1 r2 r3 r4
     have FZ:=DMem.put DM5 (.int .i64 (i:Nat)) (.int .i64 (y:Nat)) (.int .i64 (c[i].toNat:Nat)) (.int .i64 (n:Nat)) (.int .i64 0)
     generalize put5 W5 W1.heap.size (.int .i64 (i:Nat)) (.int .i64 (y:Nat)) (.int .i64 (c[i].toNat:Nat)) (.int .i64 (n:Nat)) (.int .i64 0)=Z at *
     refine bodyPost_ret (v:=.tuple #[.agg #[.int .i64 (i:Nat),.int .i64 (y:Nat),.int .i64 (c[i].toNat:Nat),.int .i64 (n:Nat),.int .i64 0],.int .i64 10]) (by simp[results,Tryz.results59,go_sem,y0,y1,y2,y3,y4]) rfl ?_
     subst hi1
     exact dec_bad ⟨i,y,c[i].toNat,n,0⟩ FZ 10 (by omega) HD.out
    | some nr2=>
     obtain⟨n2,r2'⟩:=nr2
     obtain⟨hX,hY⟩:=numXY.2 n2 r2' hN
     have hn37:=(num_some hN).2
     have hop:operandL m L (bl c) 6 y=if fitN m L 6 n2=true then some (n2,c.size-r2'.length) else none:=by unfold operandL;rw[hN,HH.out.2]
     rw[hX,hY] at hNum
     obtain⟨k,hk⟩:∃ k,c.size-r2'.length=k:=⟨_,rfl⟩
     rw[hk] at hop hNum
     have hkc:k≤c.size:=by omega
     have HNum:Hid _:=hNum
     have HFit:Hid _:=fun (_:Unit)=>HF6'.out () n2 hn37
     clear hNum hX hY hk hN HF6'
     go_wp2_with fail
     refine (HNum.out _).mono ?_
     rintro e w1 ⟨rfl,hw⟩
     replace hw:=hw.symm
     subst hw
     go_wp2_with fail
     refine wp_region_heldD (fun w1:World=>(w1.cell? ⟨w.heap.size,0,none⟩=some tv∧w1.cell? ⟨w.heap.size,1,none⟩=some pv∧w1.cell? ⟨w.heap.size,2,none⟩=some (.int .i64 m.globs)∧w1.cell? ⟨w.heap.size,3,none⟩=some (.int .i64 m.arrs)∧w1.cell? ⟨w.heap.size,4,none⟩=some (.slice (some ⟨fg,fo,none⟩) nf cap))∧w1.cell? ⟨fg,fo+f*3+1,none⟩=some (.int .i64 (L:Nat))∧w1.cell? ⟨W2.heap.size,2,none⟩=some (.int .i64 (c[i].toNat:Nat))∧w1.cell? ⟨0,c[i].toNat,none⟩=some (.int .i64 (so:Nat))) hm ?_
     have hS:(fun w1:World=>(w1.cell? ⟨w.heap.size,0,none⟩=some tv∧w1.cell? ⟨w.heap.size,1,none⟩=some pv∧w1.cell? ⟨w.heap.size,2,none⟩=some (.int .i64 m.globs)∧w1.cell? ⟨w.heap.size,3,none⟩=some (.int .i64 m.arrs)∧w1.cell? ⟨w.heap.size,4,none⟩=some (.slice (some ⟨fg,fo,none⟩) nf cap))∧w1.cell? ⟨fg,fo+f*3+1,none⟩=some (.int .i64 (L:Nat))∧w1.cell? ⟨W2.heap.size,2,none⟩=some (.int .i64 (c[i].toNat:Nat))∧w1.cell? ⟨0,c[i].toNat,none⟩=some (.int .i64 (so:Nat))) W5.drew:=HSt.out _ _ _ _ W5 DM5
     refine wpAnyH_take (i:=0) (v:=.agg #[tv,pv,.int .i64 m.globs,.int .i64 m.arrs,.slice (some ⟨fg,fo,none⟩) nf cap]) rfl (by kernel_rfl) (by kernel_rfl) (by kernel_rfl) (fun _ _ _ h=>h) (.inl ⟨rfl,fun w1 hS1=>?_⟩) hS ?_
     ·obtain⟨⟨p0,p1,p2,p3,p4⟩,p5,p6,p7⟩:=hS1
      go_simp
      (try rfl)
     simp only[Act.put,Z1,Z2,Z3,Z4,Z5,Z6]
     refine tkH (i:=1) (v:=?_) rfl (.inl ⟨rfl,fun w1 hS1=>?_⟩) hS ?_
     rotate_left
     ·obtain⟨⟨p0,p1,p2,p3,p4⟩,p5,p6,p7⟩:=hS1
      go_simp
      first | rfl | (refine (if_neg (by omega)).trans ?_;rfl)
     simp only[Act.put,Z1,Z2,Z3,Z4,Z5,Z6]
     refine tkH (i:=2) (v:=?_) rfl (.inl ⟨rfl,fun w1 hS1=>?_⟩) hS ?_
     rotate_left
     ·obtain⟨⟨p0,p1,p2,p3,p4⟩,p5,p6,p7⟩:=hS1
      go_simp
      first | rfl | (refine (if_neg (by omega)).trans ?_;rfl)
     simp only[Act.put,Z1,Z2,Z3,Z4,Z5,Z6]
     refine tkH (i:=3) (v:=?_) rfl (.inl ⟨rfl,fun w1 hS1=>?_⟩) hS ?_
     rotate_left
     ·obtain⟨⟨p0,p1,p2,p3,p4⟩,p5,p6,p7⟩:=hS1
      go_simp
      first | rfl | (refine (if_neg (by omega)).trans ?_;rfl)
     simp only[Act.put,Z1,Z2,Z3,Z4,Z5,Z6]
     refine tkH (i:=4) (v:=?_) rfl (.inl ⟨rfl,fun w1 hS1=>?_⟩) hS ?_
     rotate_left
     ·obtain⟨⟨p0,p1,p2,p3,p4⟩,p5,p6,p7⟩:=hS1
      go_simp
      first | rfl | (refine (if_neg (by omega)).trans ?_;rfl)
     simp only[Act.put,Z1,Z2,Z3,Z4,Z5,Z6]
     refine tkH (i:=5) (v:=?_) rfl (.inl ⟨rfl,fun w1 hS1=>?_⟩) hS ?_
     rotate_left
     ·obtain⟨⟨p0,p1,p2,p3,p4⟩,p5,p6,p7⟩:=hS1
      go_simp
      first | rfl | (refine (if_neg (by omega)).trans ?_;rfl)
     simp only[Act.put,Z1,Z2,Z3,Z4,Z5,Z6]
     refine tkH (i:=6) (v:=?_) rfl (.inl ⟨rfl,fun w1 hS1=>?_⟩) hS ?_
     rotate_left
     ·obtain⟨⟨p0,p1,p2,p3,p4⟩,p5,p6,p7⟩:=hS1
      go_simp
      first | rfl | (refine (if_neg (by omega)).trans ?_;rfl)
     simp only[Act.put,Z1,Z2,Z3,Z4,Z5,Z6]
     refine tkH (i:=7) (v:=?_) rfl (.inl ⟨rfl,fun w1 hS1=>?_⟩) hS ?_
     rotate_left
     ·obtain⟨⟨p0,p1,p2,p3,p4⟩,p5,p6,p7⟩:=hS1
      go_simp
      first | rfl | (refine (if_neg (by omega)).trans ?_;rfl)
     simp only[Act.put,Z1,Z2,Z3,Z4,Z5,Z6]
     refine rdH (r:=8) ?_
     refine AllReadyH.cons rfl (fun K hK=>?_) AllReadyH.nil
     go_simp
     refine ((HFit.out ()) _ (DMem.fr DM5).drew).mono ?_
     rintro e W6 ⟨rfl,F4'⟩
     have DM6:=DMem.to DM5 ((Fr.refl [] W5).drew.trans F4')
     have hSb:(fun w1:World=>(w1.cell? ⟨w.heap.size,0,none⟩=some tv∧w1.cell? ⟨w.heap.size,1,none⟩=some pv∧w1.cell? ⟨w.heap.size,2,none⟩=some (.int .i64 m.globs)∧w1.cell? ⟨w.heap.size,3,none⟩=some (.int .i64 m.arrs)∧w1.cell? ⟨w.heap.size,4,none⟩=some (.slice (some ⟨fg,fo,none⟩) nf cap))∧w1.cell? ⟨fg,fo+f*3+1,none⟩=some (.int .i64 (L:Nat))∧w1.cell? ⟨W2.heap.size,2,none⟩=some (.int .i64 (c[i].toNat:Nat))∧w1.cell? ⟨0,c[i].toNat,none⟩=some (.int .i64 (so:Nat))) W6:=HSt.out _ _ _ _ W6 DM6
     clear F4' hS
     refine hK _ _ hSb ?_
     clear hK K
     intro _
     refine rdH (r:=9) ?_
     refine AllReadyH.cons rfl (fun K hK=>?_) AllReadyH.nil
     go_simp
     refine hK _ _ hSb ?_
     clear hK K
     intro _
     refine wpAnyH_done (by kernel_rfl) ?_ _
     clear hSb
     clear a0 a1 a2 a3 a4 r0 r1 r2 r3 r4 rz0 rz1 rz2 rz3 rz4 b1 b2 b3 b4 DM5 HDM HNum HFit hW5a hW5 HSt
     generalize hb:fitN m L 6 n2=b at *
     cases b with
     | false=>
      have hd:decodeL m f L (bl c) i=.inl 10:=by rw[HD1.out,hop,if_neg (by decide)]
      have HD:Hid _:=hd
      have HDM:Hid _:=DM6
      clear hd HD1 hop hb
      obtain⟨a0,a1,a2,a3,a4⟩:=DMem.st DM6
      obtain⟨r0,r1,r2,r3,r4⟩:=DMem.rs DM6
      obtain⟨rz0,rz1,rz2,rz3,rz4⟩:=DMem.fz DM6
      clear DM6
      go_wp2
      have DM6:=HDM.out
      have hi1:=HH.out.1
      change bodyPost Tryz.prog Tryz.f59 (DecP m f L c i w) Exit.ret _ (put5 W6 W1.heap.size (.int .i64 (i:Nat)) (.int .i64 (y:Nat)) (.int .i64 (c[i].toNat:Nat)) (.int .i64 (n:Nat)) (.int .i64 0))
      obtain⟨y0,y1,y2,y3,y4⟩:=put5_cells (W:=W6) (g:=W1.heap.size) (.int .i64 (i:Nat)) (.int .i64 (y:Nat)) (.int .i64 (c[i].toNat:Nat)) (.int .i64 (n:Nat)) (.int .i64 0) r0 r1 r2 r3 r4
      have FZ:=DMem.put DM6 (.int .i64 (i:Nat)) (.int .i64 (y:Nat)) (.int .i64 (c[i].toNat:Nat)) (.int .i64 (n:Nat)) (.int .i64 0)
      generalize put5 W6 W1.heap.size (.int .i64 (i:Nat)) (.int .i64 (y:Nat)) (.int .i64 (c[i].toNat:Nat)) (.int .i64 (n:Nat)) (.int .i64 0)=Z at *
      refine bodyPost_ret (v:=.tuple #[.agg #[.int .i64 (i:Nat),.int .i64 (y:Nat),.int .i64 (c[i].toNat:Nat),.int .i64 (n:Nat),.int .i64 0],.int .i64 10]) (by simp[results,Tryz.results59,go_sem,y0,y1,y2,y3,y4]) rfl ?_
      subst hi1
      exact dec_bad ⟨i,y,c[i].toNat,n,0⟩ FZ 10 (by omega) HD.out
     | true=>
      have hd:decodeL m f L (bl c) i=.inr ⟨i,k,c[i].toNat,n,n2⟩:=by rw[HD1.out,hop,if_pos rfl]
      have HD:Hid _:=hd
      obtain⟨-,b1,b2⟩:=DMem.sz DM6
      obtain⟨-,-,-,-,b0⟩:=DMem.st DM6
      have DM7a:=DMem.set4 DM6 (.int .i64 (n2:Nat))
      generalize hW7a:W6.setCell ⟨W2.heap.size,4,none⟩ (.int .i64 (n2:Nat))=W7a at DM7a
      obtain⟨b3,-,-⟩:=DMem.sz DM7a
      obtain⟨-,b4,-,-,-⟩:=DMem.st DM7a
      have DM7:=DMem.set1 DM7a (.int .i64 (k:Nat))
      generalize hW7:W7a.setCell ⟨W2.heap.size,1,none⟩ (.int .i64 (k:Nat))=W7 at DM7
      clear hd HD1 hop hb DM6 DM7a
      obtain⟨a0,a1,a2,a3,a4⟩:=DMem.st DM7
      obtain⟨r0,r1,r2,r3,r4⟩:=DMem.rs DM7
      obtain⟨rz0,rz1,rz2,rz3,rz4⟩:=DMem.fz DM7
      have HDM:Hid _:=DM7
      clear DM7
      go_wp2
      have DM7:=HDM.out
      have hi1:=HH.out.1
      change bodyPost Tryz.prog Tryz.f59 (DecP m f L c i w) Exit.ret _ (put5 W7 W1.heap.size (.int .i64 (i:Nat)) (.int .i64 (k:Nat)) (.int .i64 (c[i].toNat:Nat)) (.int .i64 (n:Nat)) (.int .i64 (n2:Nat)))
      obtain⟨y0,y1,y2,y3,y4⟩:=put5_cells (W:=W7) (g:=W1.heap.size) (.int .i64 (i:Nat)) (.int .i64 (k:Nat)) (.int .i64 (c[i].toNat:Nat)) (.int .i64 (n:Nat)) (.int .i64 (n2:Nat)) r0 r1 r2 r3 r4
      have FZ:=DMem.put DM7 (.int .i64 (i:Nat)) (.int .i64 (k:Nat)) (.int .i64 (c[i].toNat:Nat)) (.int .i64 (n:Nat)) (.int .i64 (n2:Nat))
      generalize put5 W7 W1.heap.size (.int .i64 (i:Nat)) (.int .i64 (k:Nat)) (.int .i64 (c[i].toNat:Nat)) (.int .i64 (n:Nat)) (.int .i64 (n2:Nat))=Z at *
      refine bodyPost_ret (v:=.tuple #[.agg #[.int .i64 (i:Nat),.int .i64 (k:Nat),.int .i64 (c[i].toNat:Nat),.int .i64 (n:Nat),.int .i64 (n2:Nat)],.int .i64 0]) (by simp[results,Tryz.results59,go_sem,y0,y1,y2,y3,y4]) rfl ?_
      subst hi1
      exact dec_ok ⟨i,k,c[i].toNat,n,n2⟩ FZ HD.out
   ·have q38:((c[i].toNat:Int)==38)=false:=by simp;omega
    have q38n:((c[i].toNat:Int)!=38)=true:=by simp;omega
    rw[if_neg h38] at hd1
    have HD:Hid _:=hd1
    clear hd1 h38 HSt HF6'
    obtain⟨a0,a1,a2,a3,a4⟩:=DMem.st DM5
    obtain⟨r0,r1,r2,r3,r4⟩:=DMem.rs DM5
    obtain⟨rz0,rz1,rz2,rz3,rz4⟩:=DMem.fz DM5
    have HDM:Hid _:=DM5
    clear DM5
    go_wp2
    have DM5:=HDM.out
    have hi1:=HH.out.1
    change bodyPost Tryz.prog Tryz.f59 (DecP m f L c i w) Exit.ret _ (put5 W5 W1.heap.size (.int .i64 (i:Nat)) (.int .i64 (y:Nat)) (.int .i64 (c[i].toNat:Nat)) (.int .i64 (n:Nat)) (.int .i64 0))
    obtain⟨y0,y1,y2,y3,y4⟩:=put5_cells (W:=W5) (g:=W1.heap.size) (.int .i64 (i:Nat)) (.int .i64 (y:Nat)) (.int .i64 (c[i].toNat:Nat)) (.int .i64 (n:Nat)) (.int .i64 0) r0 r1 r2 r3 r4
    have FZ:=DMem.put DM5 (.int .i64 (i:Nat)) (.int .i64 (y:Nat)) (.int .i64 (c[i].toNat:Nat)) (.int .i64 (n:Nat)) (.int .i64 0)
    generalize put5 W5 W1.heap.size (.int .i64 (i:Nat)) (.int .i64 (y:Nat)) (.int .i64 (c[i].toNat:Nat)) (.int .i64 (n:Nat)) (.int .i64 0)=Z at *
    refine bodyPost_ret (v:=.tuple #[.agg #[.int .i64 (i:Nat),.int .i64 (y:Nat),.int .i64 (c[i].toNat:Nat),.int .i64 (n:Nat),.int .i64 0],.int .i64 0]) (by simp[results,Tryz.results59,go_sem,y0,y1,y2,y3,y4]) rfl ?_
    subst hi1
    exact dec_ok ⟨i,y,c[i].toNat,n,0⟩ FZ HD.out
end Go.Proofs.YtclkgoigmgkffaaGreatDoor
