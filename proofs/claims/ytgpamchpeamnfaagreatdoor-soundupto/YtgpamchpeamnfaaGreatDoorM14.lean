/-
  Texts In Xa.
-/
import Derived.Test.YtgpamchpeamnfaaGreatDoorMA
import Derived.Test.YtgpamchpeamnfaaGreatDoorM00
import Derived.Test.YtgpamchpeamnfaaGreatDoorM13
import Derived.Test.YtgpamchpeamnfaaGreatDoorM04
set_option linter.unusedSimpArgs false
set_option linter.unusedVariables false
set_option maxRecDepth 100000
set_option maxHeartbeats 40000000
open _root_.Go.Proofs.Tryz
namespace Go.Proofs.YtgpamchpeamnfaaGreatDoor
open Go.RowKit
open Wire Flow Mach
theorem aL {W:World}{x z i:Nat}{v:Value} (h:x≠z):(W.setCell ⟨z,i,none⟩ v).heap[x]?=W.heap[x]?:=by
 unfold World.setCell
 simp only[Array.getElem?_modify]
 rw[if_neg (fun e=>h e.symm)]
theorem mE {W:World}{z i:Nat}{cs:Array Value}{t:TypeId}{v:Value} (h:W.heap[z]?=some (.cells cs t)):(W.setCell ⟨z,i,none⟩ v).heap[z]?=some (.cells (cs.setIfInBounds i v) t):=by
 unfold World.setCell
 simp only[Array.getElem?_modify]
 rw[if_pos trivial,h]
 rfl
theorem aPf:∀ i,i<54→dH.getD i 0≤9:=by decide
theorem cO.set1 {w W:World}{x y z:Nat}{mc:Array Value}{v0 v1 v2 v3 v4:Value} (h:cO w W x y z mc v0 v1 v2 v3 v4) (u:Value):cO w (W.setCell ⟨z,1,none⟩ u) x y z mc v0 u v2 v3 v4:=
 ⟨h.fr.setCell (p:=⟨z,1,none⟩) (.inr h.lz) u,(aL h.ne.1).trans h.mo,(aL h.ne.2).trans h.re,mE h.sp,h.lx,h.ly,h.lz,h.ne⟩
theorem cO.set3 {w W:World}{x y z:Nat}{mc:Array Value}{v0 v1 v2 v3 v4:Value} (h:cO w W x y z mc v0 v1 v2 v3 v4) (u:Value):cO w (W.setCell ⟨z,3,none⟩ u) x y z mc v0 v1 v2 u v4:=
 ⟨h.fr.setCell (p:=⟨z,3,none⟩) (.inr h.lz) u,(aL h.ne.1).trans h.mo,(aL h.ne.2).trans h.re,mE h.sp,h.lx,h.ly,h.lz,h.ne⟩
theorem cO.set4 {w W:World}{x y z:Nat}{mc:Array Value}{v0 v1 v2 v3 v4:Value} (h:cO w W x y z mc v0 v1 v2 v3 v4) (u:Value):cO w (W.setCell ⟨z,4,none⟩ u) x y z mc v0 v1 v2 v3 u:=
 ⟨h.fr.setCell (p:=⟨z,4,none⟩) (.inr h.lz) u,(aL h.ne.1).trans h.mo,(aL h.ne.2).trans h.re,mE h.sp,h.lx,h.ly,h.lz,h.ne⟩
theorem aNu {c:ByteArray}{j:Nat}:(num ((bl c).drop j)=none→nR c j c.size = -1)∧∀ n r,num ((bl c).drop j)=some (n,r)→nR c j c.size=(n:Int)∧nA c j c.size=c.size-r.length:=by
 have e:seg (bl c) j c.size=(bl c).drop j:=by rw[← aD c];exact aNj _ _
 unfold nR nA
 rw[e]
 refine⟨fun h=>by rw[h],fun n r h=>?_⟩
 rw[h]
 exact⟨rfl,rfl⟩
theorem aRr (tv pv fv:Value)(m:Mo)(w:World)(f L i:Nat)(c:ByteArray)(hi:i<c.size)(hs:c.size≤20000)(fg fo nf cap:Nat)(hf:f<nf)(hn:nf≤1000)(hv:fv=.slice (some ⟨fg,fo,none⟩) nf cap)(hfg:fg<w.heap.size)
  (hc:w.cell? ⟨fg,fo+f*3+2,none⟩=some (.string c)) (hl:w.cell? ⟨fg,fo+f*3+1,none⟩=some (.int .i64 (L:Nat))) (hL:L≤1000) (hT:pY w) (hMo:A9 m) (hM:eR w (.agg #[tv,pv,.int .i64 m.globs,.int .i64 m.arrs,fv]) m) (h54:c[i].toNat<54) (h51:c[i].toNat≠51) (h52:c[i].toNat≠52) (so:Nat) (hso:dH.getD c[i].toNat 0=so) (hz:so≠0) :
  Calls prog 37 #[.agg #[tv,pv,.int .i64 m.globs,.int .i64 m.arrs,fv],.int .i64 f,.int .i64 i] w (C8 m f L c i w):=by
 subst hv
 have hm:prog.follows Departure.mixedOrders=true:=by kernel_rfl
 have e:jC f c[i].toNat=true:=by unfold jC;rw[decide_eq_true h54,decide_eq_false h51,decide_eq_false h52];rfl
 have hd0:bH m f L (bl c) i=(match Flow.eX m L (bl c) so (i+1) with
   | none=>.inl 10
   | some (n,j)=>
    if c[i].toNat=38 then
     match Flow.eX m L (bl c) 6 j with
     | none=>.inl 10
     | some (n2,k)=>.inr ⟨i,k,c[i].toNat,n,n2⟩
    else .inr ⟨i,j,c[i].toNat,n,0⟩):=by
  unfold bH
  rw[yK hi,if_pos e,hso,if_neg hz]
  rfl
 have hs9:so≤9:=by rw[← hso];exact aPf _ h54
 have q54:decide ((54:Int)≤(c[i].toNat:Int))=false:=decide_eq_false (by omega)
 have q51:((c[i].toNat:Int)==51)=false:=by simp;omega
 have q52:((c[i].toNat:Int)==52)=false:=by simp;omega
 have g1:((c[i].toNat:Int)<54):=by omega
 have g0:(i:Int)<c.size:=by omega
 have gx:c[i].toNat<256:=c[i].toNat_lt
 have g2:(f:Int)<(nf:Int):=by omega
 obtain⟨i1,hi1⟩:∃ i1:Nat,i+1=i1:=⟨_,rfl⟩
 have hI:(i:Int)+1=(i1:Int):=by omega
 obtain⟨W1,hW1⟩:=eX (w.alloc (.cells #[tv,pv,.int .i64 m.globs,.int .i64 m.arrs,.slice (some ⟨fg,fo,none⟩) nf cap] 25))
 obtain⟨W2,hW2⟩:=eX (W1.alloc (.cells #[.int .i64 0,.int .i64 0,.int .i64 0,.int .i64 0,.int .i64 0] 84))
 obtain⟨W3,hW3⟩:=eX (W2.alloc (.cells #[.int .i64 (i:Nat),.int .i64 (i1:Nat),.int .i64 (c[i].toNat:Nat),.int .i64 0,.int .i64 0] 84))
 have FA:Fr [] w W1:=by rw[← hW1];exact (Fr.refl [] w).alloc _
 have FB1:Fr [] W1 W2:=by rw[← hW2];exact (Fr.refl [] W1).alloc _
 have FC2:Fr [] W2 W3:=by rw[← hW3];exact (Fr.refl [] W2).alloc _
 have FB:Fr [] w W2:=FA.trans FB1
 have FC:Fr [] w W3:=FB.trans FC2
 have z1:W1.heap.size=w.heap.size+1:=by rw[← hW1];simp
 have z2:W2.heap.size=w.heap.size+2:=by rw[← hW2];simp[z1]
 have k1:=wan w (.cells #[tv,pv,.int .i64 m.globs,.int .i64 m.arrs,.slice (some ⟨fg,fo,none⟩) nf cap] 25)
 have k2:=wan W1 (.cells #[.int .i64 0,.int .i64 0,.int .i64 0,.int .i64 0,.int .i64 0] 84)
 have k3:=wan W2 (.cells #[.int .i64 (i:Nat),.int .i64 (i1:Nat),.int .i64 (c[i].toNat:Nat),.int .i64 0,.int .i64 0] 84)
 rw[hW1] at k1
 rw[hW2] at k2
 rw[hW3] at k3
 have hc2:=(FB.cell (p:=⟨fg,fo+f*3+2,none⟩) hfg (by simp)).trans hc
 have hm2:W2.cell? ⟨w.heap.size,4,none⟩=some (.slice (some ⟨fg,fo,none⟩) nf cap):=by
  refine (FB1.cell (p:=⟨w.heap.size,4,none⟩) (by simp only;omega) (by simp)).trans ?_
  unfold World.cell?
  rw[k1]
  rfl
 have s3:W3.setCell ⟨W2.heap.size,3,none⟩ (.int .i64 0)=W3:=iW k3 rfl
 have s4:W3.setCell ⟨W2.heap.size,4,none⟩ (.int .i64 0)=W3:=iW k3 rfl
 have DM:cO w W3 w.heap.size W1.heap.size W2.heap.size #[tv,pv,.int .i64 m.globs,.int .i64 m.arrs,.slice (some ⟨fg,fo,none⟩) nf cap] (.int .i64 (i:Nat)) (.int .i64 (i1:Nat)) (.int .i64 (c[i].toNat:Nat)) (.int .i64 0) (.int .i64 0):=
  ⟨FC,((FB1.trans FC2).block _ (by omega) (by simp)).trans k1,(FC2.block _ (by omega) (by simp)).trans k2,k3,by omega,by omega,by omega,by omega⟩
 have fz3:W3.frozen? ⟨W2.heap.size,3,none⟩=false:=by unfold World.frozen?;rw[k3];simp
 have fz4:W3.frozen? ⟨W2.heap.size,4,none⟩=false:=by unfold World.frozen?;rw[k3];simp
 clear FA FB1 FC2 FB FC k1 k2 k3 z1 z2
 have hSt:∀ (v0 v1 v3 v4:Value) (W:World),cO w W w.heap.size W1.heap.size W2.heap.size #[tv,pv,.int .i64 m.globs,.int .i64 m.arrs,.slice (some ⟨fg,fo,none⟩) nf cap] v0 v1 (.int .i64 (c[i].toNat:Nat)) v3 v4→(fun w1:World=>(w1.cell? ⟨w.heap.size,0,none⟩=some tv∧w1.cell? ⟨w.heap.size,1,none⟩=some pv∧w1.cell? ⟨w.heap.size,2,none⟩=some (.int .i64 m.globs)∧w1.cell? ⟨w.heap.size,3,none⟩=some (.int .i64 m.arrs)∧w1.cell? ⟨w.heap.size,4,none⟩=some (.slice (some ⟨fg,fo,none⟩) nf cap))∧w1.cell? ⟨fg,fo+f*3+1,none⟩=some (.int .i64 (L:Nat))∧w1.cell? ⟨W2.heap.size,2,none⟩=some (.int .i64 (c[i].toNat:Nat))∧w1.cell? ⟨0,c[i].toNat,none⟩=some (.int .i64 (so:Nat))) W:=fun v0 v1 v3 v4 W h=>by
  obtain⟨-,-,q2,-,-⟩:=h.st
  have q5:=(h.fr.cell (p:=⟨fg,fo+f*3+1,none⟩) hfg (by simp)).trans hl
  have q7:=(hT.fr h.fr).so c[i].toNat h54
  rw[hso] at q7
  have e1:∀ j v,(#[tv,pv,.int .i64 m.globs,.int .i64 m.arrs,.slice (some ⟨fg,fo,none⟩) nf cap]:Array Value)[j]?=some v→W.cell? ⟨w.heap.size,j,none⟩=some v:=fun j v hv=>by
   unfold World.cell?
   rw[h.mo]
   exact hv
  exact⟨⟨e1 0 _ rfl,e1 1 _ rfl,e1 2 _ rfl,e1 3 _ rfl,e1 4 _ rfl⟩,q5,q2,q7⟩
 have HSt:Hid _:=hSt
 clear hSt
 have hNum:=fun W:World=>nK c i1 c.size (by omega) (Nat.le_refl _) (by omega) W
 have hFit:∀ n:Nat,n<34359738368→∀ W,Fr [] w W→Calls prog 52 #[.agg #[tv,pv,.int .i64 m.globs,.int .i64 m.arrs,.slice (some ⟨fg,fo,none⟩) nf cap],.int .i64 L,.int .i64 so,.int .i64 n] W fun e w'=>e=.returned (.bool (nF m L so n))∧Fr [] W w':=fun n hn W hW=>aCb _ m W L so n (hM.fr hW) (by omega) hn (by omega) (by have:=hMo.t;omega) (by have:=hMo.p;omega) (by have:=hMo.f.n;omega) (by have:=hMo.g;omega) (by have:=hMo.a;omega)
 have hFit6:∀ n:Nat,n<34359738368→∀ W,Fr [] w W→Calls prog 52 #[.agg #[tv,pv,.int .i64 m.globs,.int .i64 m.arrs,.slice (some ⟨fg,fo,none⟩) nf cap],.int .i64 L,.int .i64 6,.int .i64 n] W fun e w'=>e=.returned (.bool (nF m L 6 n))∧Fr [] W w':=fun n hn W hW=>aCb _ m W L 6 n (hM.fr hW) (by omega) hn (by omega) (by have:=hMo.t;omega) (by have:=hMo.p;omega) (by have:=hMo.f.n;omega) (by have:=hMo.g;omega) (by have:=hMo.a;omega)
 have qso:((so:Int)==0)=false:=by simp;omega
 have hsW:=(hT.fr DM.fr).so c[i].toNat (by omega)
 rw[hso] at hsW
 have hcl:(bl c).length=c.size:=aD c
 obtain⟨a0,a1,a2,a3,a4⟩:=cO.st DM
 obtain⟨r0,r1,r2,r3,r4⟩:=cO.rs DM
 obtain⟨rz0,rz1,rz2,rz3,rz4⟩:=cO.fz DM
 have HDM:Hid _:=DM
 have HH:Hid _:=AI hi1 hcl
 have HD0:Hid _:=hd0
 have HF6:Hid _:=fun (_:Unit)=>hFit6
 have hir:i1≤c.size:=by omega
 clear hd0 hcl e hFit6
 cases hN:num ((bl c).drop (i+1)) with
 | none=>
  have hX:=aNu.1 hN
  rw[hi1] at hX
  have hd:bH m f L (bl c) i=.inl 10:=by rw[HD0.out];unfold Flow.eX;rw[hN]
  have HD:Hid _:=hd
  generalize nA c i1 c.size=Y at hNum
  rw[hX] at hNum
  have HNum:Hid _:=hNum
  clear hd hN HD0 hNum hX hFit HSt DM hl hT hc hM hMo h51 h52 hso hz
  clear hi1
  go_enter func37,ntmps37
  go_wp2_with fail
  refine (HNum.out _).mono ?_
  rintro e w1 ⟨rfl,hw⟩
  replace hw:=hw.symm
  subst hw
  go_wp2
  have DM:=HDM.out
  have hi1:=HH.out.1
  change bodyPost prog f37 (C8 m f L c i w) Exit.ret _ (cK W3 W1.heap.size (.int .i64 (i:Nat)) (.int .i64 (i1:Nat)) (.int .i64 (c[i].toNat:Nat)) (.int .i64 0) (.int .i64 0))
  obtain⟨y0,y1,y2,y3,y4⟩:=bQ (W:=W3) (g:=W1.heap.size) (.int .i64 (i:Nat)) (.int .i64 (i1:Nat)) (.int .i64 (c[i].toNat:Nat)) (.int .i64 0) (.int .i64 0) r0 r1 r2 r3 r4
  have FZ:=cO.put DM (.int .i64 (i:Nat)) (.int .i64 (i1:Nat)) (.int .i64 (c[i].toNat:Nat)) (.int .i64 0) (.int .i64 0)
  generalize cK W3 W1.heap.size (.int .i64 (i:Nat)) (.int .i64 (i1:Nat)) (.int .i64 (c[i].toNat:Nat)) (.int .i64 0) (.int .i64 0)=Z at *
  refine bodyPost_ret (v:=.tuple #[.agg #[.int .i64 (i:Nat),.int .i64 (i1:Nat),.int .i64 (c[i].toNat:Nat),.int .i64 0,.int .i64 0],.int .i64 10]) (by simp[results,results37,go_sem,y0,y1,y2,y3,y4]) rfl ?_
  subst hi1
  exact yG ⟨i,i+1,c[i].toNat,0,0⟩ FZ 10 (by omega) HD.out
 | some nr=>
  obtain⟨n,r⟩:=nr
  obtain⟨hX,hY⟩:=aNu.2 n r hN
  have hn36:=(iG hN).2
  have hop:Flow.eX m L (bl c) so (i+1)=if nF m L so n=true then some (n,c.size-r.length) else none:=by unfold Flow.eX;rw[hN,HH.out.2]
  rw[hi1] at hX hY
  rw[hX,hY] at hNum
  obtain⟨y,hy⟩:=eX (c.size-r.length)
  rw[hy] at hop hNum
  have hyc:y≤c.size:=by omega
  have HNum:Hid _:=hNum
  have HFit:Hid _:=fun (_:Unit)=>hFit n hn36
  have HF6':Hid _:=HF6
  clear hNum hX hY hy hFit hN HF6 DM hl hT hc hM hMo h51 h52 hso hz hi1
  have DM:=HDM.out
  go_enter func37,ntmps37
  go_wp2_with fail
  refine (HNum.out _).mono ?_
  rintro e w1 ⟨rfl,hw⟩
  replace hw:=hw.symm
  subst hw
  go_wp2_with fail
  refine aE (fun w1:World=>(w1.cell? ⟨w.heap.size,0,none⟩=some tv∧w1.cell? ⟨w.heap.size,1,none⟩=some pv∧w1.cell? ⟨w.heap.size,2,none⟩=some (.int .i64 m.globs)∧w1.cell? ⟨w.heap.size,3,none⟩=some (.int .i64 m.arrs)∧w1.cell? ⟨w.heap.size,4,none⟩=some (.slice (some ⟨fg,fo,none⟩) nf cap))∧w1.cell? ⟨fg,fo+f*3+1,none⟩=some (.int .i64 (L:Nat))∧w1.cell? ⟨W2.heap.size,2,none⟩=some (.int .i64 (c[i].toNat:Nat))∧w1.cell? ⟨0,c[i].toNat,none⟩=some (.int .i64 (so:Nat))) hm ?_
  have hS:(fun w1:World=>(w1.cell? ⟨w.heap.size,0,none⟩=some tv∧w1.cell? ⟨w.heap.size,1,none⟩=some pv∧w1.cell? ⟨w.heap.size,2,none⟩=some (.int .i64 m.globs)∧w1.cell? ⟨w.heap.size,3,none⟩=some (.int .i64 m.arrs)∧w1.cell? ⟨w.heap.size,4,none⟩=some (.slice (some ⟨fg,fo,none⟩) nf cap))∧w1.cell? ⟨fg,fo+f*3+1,none⟩=some (.int .i64 (L:Nat))∧w1.cell? ⟨W2.heap.size,2,none⟩=some (.int .i64 (c[i].toNat:Nat))∧w1.cell? ⟨0,c[i].toNat,none⟩=some (.int .i64 (so:Nat))) W3.drew:=HSt.out _ _ _ _ W3 DM
  refine wpAnyH_take (i:=0) (v:=.agg #[tv,pv,.int .i64 m.globs,.int .i64 m.arrs,.slice (some ⟨fg,fo,none⟩) nf cap]) rfl (by kernel_rfl) (by kernel_rfl) (by kernel_rfl) (fun _ _ _ h=>h) (.inl ⟨rfl,fun w1 hS1=>?_⟩) hS ?_
  ·obtain⟨⟨p0,p1,p2,p3,p4⟩,p5,p6,p7⟩:=hS1
   go_simp
   (try rfl)
  simp only[Act.put,Z1,Z2,Z3,Z4,Z5,Z6]
  refine aH (fun _ _ _ _ _ h=>h) hS [1,2,3,4,5,6,7,8,9,10,11] (by kernel_rfl) ?_
  iterate 11
   refine Yls.cons (v:=?_) rfl (.inl ⟨rfl,fun w1 hS1=>?_⟩) ?_
   rotate_left
   ·obtain⟨⟨p0,p1,p2,p3,p4⟩,p5,p6,p7⟩:=hS1
    go_simp
    first | rfl | (refine (if_neg (by omega)).trans ?_;rfl)
   simp only[Act.put,Z1,Z2,Z3,Z4,Z5,Z6]
  refine Yls.nil ?_
  refine rd1 (r:=12) (by kernel_rfl) rfl fun K hK=>?_
  go_simp
  refine ((HFit.out ()) _ (cO.fr DM).drew).mono ?_
  rintro e W4 ⟨rfl,F4'⟩
  have DM4:=cO.to DM ((Fr.refl [] W3).drew.trans F4')
  have hSb:(fun w1:World=>(w1.cell? ⟨w.heap.size,0,none⟩=some tv∧w1.cell? ⟨w.heap.size,1,none⟩=some pv∧w1.cell? ⟨w.heap.size,2,none⟩=some (.int .i64 m.globs)∧w1.cell? ⟨w.heap.size,3,none⟩=some (.int .i64 m.arrs)∧w1.cell? ⟨w.heap.size,4,none⟩=some (.slice (some ⟨fg,fo,none⟩) nf cap))∧w1.cell? ⟨fg,fo+f*3+1,none⟩=some (.int .i64 (L:Nat))∧w1.cell? ⟨W2.heap.size,2,none⟩=some (.int .i64 (c[i].toNat:Nat))∧w1.cell? ⟨0,c[i].toNat,none⟩=some (.int .i64 (so:Nat))) W4:=HSt.out _ _ _ _ W4 DM4
  clear F4' hS
  refine hK _ _ hSb ?_
  clear hK K
  intro _
  refine rd1 (r:=13) (by kernel_rfl) rfl fun K hK=>?_
  go_simp
  refine hK _ _ hSb ?_
  clear hK K
  intro _
  refine wpAnyH_done (by kernel_rfl) ?_ _
  clear hSb
  clear a0 a1 a2 a3 a4 r0 r1 r2 r3 r4 rz0 rz1 rz2 rz3 rz4 s3 s4 fz3 fz4 DM HDM hsW HNum HFit hW1 hW2 hW3 hc2 hm2
  generalize hb:nF m L so n=b at *
  cases b with
  | false=>
   have hd:bH m f L (bl c) i=.inl 10:=by rw[HD0.out,hop,if_neg (by decide)]
   have HD:Hid _:=hd
   have HDM:Hid _:=DM4
   clear hd HD0 hop hb HSt
   obtain⟨a0,a1,a2,a3,a4⟩:=cO.st DM4
   obtain⟨r0,r1,r2,r3,r4⟩:=cO.rs DM4
   obtain⟨rz0,rz1,rz2,rz3,rz4⟩:=cO.fz DM4
   clear DM4
   go_wp2
   have DM4:=HDM.out
   have hi1:=HH.out.1
   change bodyPost prog f37 (C8 m f L c i w) Exit.ret _ (cK W4 W1.heap.size (.int .i64 (i:Nat)) (.int .i64 (i1:Nat)) (.int .i64 (c[i].toNat:Nat)) (.int .i64 0) (.int .i64 0))
   obtain⟨y0,y1,y2,y3,y4⟩:=bQ (W:=W4) (g:=W1.heap.size) (.int .i64 (i:Nat)) (.int .i64 (i1:Nat)) (.int .i64 (c[i].toNat:Nat)) (.int .i64 0) (.int .i64 0) r0 r1 r2 r3 r4
   have FZ:=cO.put DM4 (.int .i64 (i:Nat)) (.int .i64 (i1:Nat)) (.int .i64 (c[i].toNat:Nat)) (.int .i64 0) (.int .i64 0)
   generalize cK W4 W1.heap.size (.int .i64 (i:Nat)) (.int .i64 (i1:Nat)) (.int .i64 (c[i].toNat:Nat)) (.int .i64 0) (.int .i64 0)=Z at *
   refine bodyPost_ret (v:=.tuple #[.agg #[.int .i64 (i:Nat),.int .i64 (i1:Nat),.int .i64 (c[i].toNat:Nat),.int .i64 0,.int .i64 0],.int .i64 10]) (by simp[results,results37,go_sem,y0,y1,y2,y3,y4]) rfl ?_
   subst hi1
   exact yG ⟨i,i+1,c[i].toNat,0,0⟩ FZ 10 (by omega) HD.out
  | true=>
   obtain⟨-,b1,b2⟩:=cO.sz DM4
   obtain⟨-,-,-,a3,-⟩:=cO.st DM4
   have DM5a:=cO.set3 DM4 (.int .i64 (n:Nat))
   generalize hW5a:W4.setCell ⟨W2.heap.size,3,none⟩ (.int .i64 (n:Nat))=W5a at DM5a
   obtain⟨b3,-,-⟩:=cO.sz DM5a
   obtain⟨-,b4,-,-,-⟩:=cO.st DM5a
   have DM5:=cO.set1 DM5a (.int .i64 (y:Nat))
   generalize hW5:W5a.setCell ⟨W2.heap.size,1,none⟩ (.int .i64 (y:Nat))=W5 at DM5
   rw[if_pos rfl] at hop
   have hd1:=HD0.out
   rw[hop] at hd1
   simp only at hd1
   clear HD0 hop hb DM4 DM5a
   by_cases h38:c[i].toNat=38
   ·have q38:((c[i].toNat:Int)==38)=true:=by simp;omega
    have q38n:((c[i].toNat:Int)!=38)=false:=by simp;omega
    rw[if_pos h38] at hd1
    have HD1:Hid _:=hd1
    clear hd1 h38
    obtain⟨a0,a1,a2,a3,a4⟩:=cO.st DM5
    obtain⟨r0,r1,r2,r3,r4⟩:=cO.rs DM5
    obtain⟨rz0,rz1,rz2,rz3,rz4⟩:=cO.fz DM5
    have HDM:Hid _:=DM5
    have hNum:=fun W:World=>nK c y c.size hyc (Nat.le_refl _) (by omega) W
    cases hN:num ((bl c).drop y) with
    | none=>
     have hX:=aNu.1 hN
     have hd:bH m f L (bl c) i=.inl 10:=by rw[HD1.out];unfold Flow.eX;rw[hN]
     have HD:Hid _:=hd
     generalize nA c y c.size=Y at hNum
     rw[hX] at hNum
     have HNum:Hid _:=hNum
     clear hd hN HD1 hNum hX HSt DM5
     go_wp2_with fail
     refine (HNum.out _).mono ?_
     rintro e w1 ⟨rfl,hw⟩
     replace hw:=hw.symm
     subst hw
     go_wp2
     have DM5:=HDM.out
     have hi1:=HH.out.1
     change bodyPost prog f37 (C8 m f L c i w) Exit.ret _ (cK W5 W1.heap.size (.int .i64 (i:Nat)) (.int .i64 (y:Nat)) (.int .i64 (c[i].toNat:Nat)) (.int .i64 (n:Nat)) (.int .i64 0))
     obtain⟨y0,y1,y2,y3,y4⟩:=bQ (W:=W5) (g:=W1.heap.size) (.int .i64 (i:Nat)) (.int .i64 (y:Nat)) (.int .i64 (c[i].toNat:Nat)) (.int .i64 (n:Nat)) (.int .i64 0) r0 r1 r2 r3 r4
     have FZ:=cO.put DM5 (.int .i64 (i:Nat)) (.int .i64 (y:Nat)) (.int .i64 (c[i].toNat:Nat)) (.int .i64 (n:Nat)) (.int .i64 0)
     generalize cK W5 W1.heap.size (.int .i64 (i:Nat)) (.int .i64 (y:Nat)) (.int .i64 (c[i].toNat:Nat)) (.int .i64 (n:Nat)) (.int .i64 0)=Z at *
     refine bodyPost_ret (v:=.tuple #[.agg #[.int .i64 (i:Nat),.int .i64 (y:Nat),.int .i64 (c[i].toNat:Nat),.int .i64 (n:Nat),.int .i64 0],.int .i64 10]) (by simp[results,results37,go_sem,y0,y1,y2,y3,y4]) rfl ?_
     subst hi1
     exact yG ⟨i,y,c[i].toNat,n,0⟩ FZ 10 (by omega) HD.out
    | some nr2=>
     obtain⟨n2,r2'⟩:=nr2
     obtain⟨hX,hY⟩:=aNu.2 n2 r2' hN
     have hn37:=(iG hN).2
     have hop:Flow.eX m L (bl c) 6 y=if nF m L 6 n2=true then some (n2,c.size-r2'.length) else none:=by unfold Flow.eX;rw[hN,HH.out.2]
     rw[hX,hY] at hNum
     obtain⟨k,hk⟩:=eX (c.size-r2'.length)
     rw[hk] at hop hNum
     have hkc:k≤c.size:=by omega
     have HNum:Hid _:=hNum
     have HFit:Hid _:=fun (_:Unit)=>HF6'.out () n2 hn37
     clear hNum hX hY hk hN HF6'
     go_wp2_with fail
     refine (HNum.out _).mono ?_
     rintro e w1 ⟨rfl,hw⟩
     replace hw:=hw.symm
     subst hw
     go_wp2_with fail
     refine aE (fun w1:World=>(w1.cell? ⟨w.heap.size,0,none⟩=some tv∧w1.cell? ⟨w.heap.size,1,none⟩=some pv∧w1.cell? ⟨w.heap.size,2,none⟩=some (.int .i64 m.globs)∧w1.cell? ⟨w.heap.size,3,none⟩=some (.int .i64 m.arrs)∧w1.cell? ⟨w.heap.size,4,none⟩=some (.slice (some ⟨fg,fo,none⟩) nf cap))∧w1.cell? ⟨fg,fo+f*3+1,none⟩=some (.int .i64 (L:Nat))∧w1.cell? ⟨W2.heap.size,2,none⟩=some (.int .i64 (c[i].toNat:Nat))∧w1.cell? ⟨0,c[i].toNat,none⟩=some (.int .i64 (so:Nat))) hm ?_
     have hS:(fun w1:World=>(w1.cell? ⟨w.heap.size,0,none⟩=some tv∧w1.cell? ⟨w.heap.size,1,none⟩=some pv∧w1.cell? ⟨w.heap.size,2,none⟩=some (.int .i64 m.globs)∧w1.cell? ⟨w.heap.size,3,none⟩=some (.int .i64 m.arrs)∧w1.cell? ⟨w.heap.size,4,none⟩=some (.slice (some ⟨fg,fo,none⟩) nf cap))∧w1.cell? ⟨fg,fo+f*3+1,none⟩=some (.int .i64 (L:Nat))∧w1.cell? ⟨W2.heap.size,2,none⟩=some (.int .i64 (c[i].toNat:Nat))∧w1.cell? ⟨0,c[i].toNat,none⟩=some (.int .i64 (so:Nat))) W5.drew:=HSt.out _ _ _ _ W5 DM5
     refine wpAnyH_take (i:=0) (v:=.agg #[tv,pv,.int .i64 m.globs,.int .i64 m.arrs,.slice (some ⟨fg,fo,none⟩) nf cap]) rfl (by kernel_rfl) (by kernel_rfl) (by kernel_rfl) (fun _ _ _ h=>h) (.inl ⟨rfl,fun w1 hS1=>?_⟩) hS ?_
     ·obtain⟨⟨p0,p1,p2,p3,p4⟩,p5,p6,p7⟩:=hS1
      go_simp
      (try rfl)
     simp only[Act.put,Z1,Z2,Z3,Z4,Z5,Z6]
     refine aH (fun _ _ _ _ _ h=>h) hS [1,2,3,4,5,6,7] (by kernel_rfl) ?_
     iterate 7
      refine Yls.cons (v:=?_) rfl (.inl ⟨rfl,fun w1 hS1=>?_⟩) ?_
      rotate_left
      ·obtain⟨⟨p0,p1,p2,p3,p4⟩,p5,p6,p7⟩:=hS1
       go_simp
       first | rfl | (refine (if_neg (by omega)).trans ?_;rfl)
      simp only[Act.put,Z1,Z2,Z3,Z4,Z5,Z6]
     refine Yls.nil ?_
     refine rd1 (r:=8) (by kernel_rfl) rfl fun K hK=>?_
     go_simp
     refine ((HFit.out ()) _ (cO.fr DM5).drew).mono ?_
     rintro e W6 ⟨rfl,F4'⟩
     have DM6:=cO.to DM5 ((Fr.refl [] W5).drew.trans F4')
     have hSb:(fun w1:World=>(w1.cell? ⟨w.heap.size,0,none⟩=some tv∧w1.cell? ⟨w.heap.size,1,none⟩=some pv∧w1.cell? ⟨w.heap.size,2,none⟩=some (.int .i64 m.globs)∧w1.cell? ⟨w.heap.size,3,none⟩=some (.int .i64 m.arrs)∧w1.cell? ⟨w.heap.size,4,none⟩=some (.slice (some ⟨fg,fo,none⟩) nf cap))∧w1.cell? ⟨fg,fo+f*3+1,none⟩=some (.int .i64 (L:Nat))∧w1.cell? ⟨W2.heap.size,2,none⟩=some (.int .i64 (c[i].toNat:Nat))∧w1.cell? ⟨0,c[i].toNat,none⟩=some (.int .i64 (so:Nat))) W6:=HSt.out _ _ _ _ W6 DM6
     clear F4' hS
     refine hK _ _ hSb ?_
     clear hK K
     intro _
     refine rd1 (r:=9) (by kernel_rfl) rfl fun K hK=>?_
     go_simp
     refine hK _ _ hSb ?_
     clear hK K
     intro _
     refine wpAnyH_done (by kernel_rfl) ?_ _
     clear hSb
     clear a0 a1 a2 a3 a4 r0 r1 r2 r3 r4 rz0 rz1 rz2 rz3 rz4 b1 b2 b3 b4 DM5 HDM HNum HFit hW5a hW5 HSt
     generalize hb:nF m L 6 n2=b at *
     cases b with
     | false=>
      have hd:bH m f L (bl c) i=.inl 10:=by rw[HD1.out,hop,if_neg (by decide)]
      have HD:Hid _:=hd
      have HDM:Hid _:=DM6
      clear hd HD1 hop hb
      obtain⟨a0,a1,a2,a3,a4⟩:=cO.st DM6
      obtain⟨r0,r1,r2,r3,r4⟩:=cO.rs DM6
      obtain⟨rz0,rz1,rz2,rz3,rz4⟩:=cO.fz DM6
      clear DM6
      go_wp2
      have DM6:=HDM.out
      have hi1:=HH.out.1
      change bodyPost prog f37 (C8 m f L c i w) Exit.ret _ (cK W6 W1.heap.size (.int .i64 (i:Nat)) (.int .i64 (y:Nat)) (.int .i64 (c[i].toNat:Nat)) (.int .i64 (n:Nat)) (.int .i64 0))
      obtain⟨y0,y1,y2,y3,y4⟩:=bQ (W:=W6) (g:=W1.heap.size) (.int .i64 (i:Nat)) (.int .i64 (y:Nat)) (.int .i64 (c[i].toNat:Nat)) (.int .i64 (n:Nat)) (.int .i64 0) r0 r1 r2 r3 r4
      have FZ:=cO.put DM6 (.int .i64 (i:Nat)) (.int .i64 (y:Nat)) (.int .i64 (c[i].toNat:Nat)) (.int .i64 (n:Nat)) (.int .i64 0)
      generalize cK W6 W1.heap.size (.int .i64 (i:Nat)) (.int .i64 (y:Nat)) (.int .i64 (c[i].toNat:Nat)) (.int .i64 (n:Nat)) (.int .i64 0)=Z at *
      refine bodyPost_ret (v:=.tuple #[.agg #[.int .i64 (i:Nat),.int .i64 (y:Nat),.int .i64 (c[i].toNat:Nat),.int .i64 (n:Nat),.int .i64 0],.int .i64 10]) (by simp[results,results37,go_sem,y0,y1,y2,y3,y4]) rfl ?_
      subst hi1
      exact yG ⟨i,y,c[i].toNat,n,0⟩ FZ 10 (by omega) HD.out
     | true=>
      have hd:bH m f L (bl c) i=.inr ⟨i,k,c[i].toNat,n,n2⟩:=by rw[HD1.out,hop,if_pos rfl]
      have HD:Hid _:=hd
      obtain⟨-,b1,b2⟩:=cO.sz DM6
      obtain⟨-,-,-,-,b0⟩:=cO.st DM6
      have DM7a:=cO.set4 DM6 (.int .i64 (n2:Nat))
      generalize hW7a:W6.setCell ⟨W2.heap.size,4,none⟩ (.int .i64 (n2:Nat))=W7a at DM7a
      obtain⟨b3,-,-⟩:=cO.sz DM7a
      obtain⟨-,b4,-,-,-⟩:=cO.st DM7a
      have DM7:=cO.set1 DM7a (.int .i64 (k:Nat))
      generalize hW7:W7a.setCell ⟨W2.heap.size,1,none⟩ (.int .i64 (k:Nat))=W7 at DM7
      clear hd HD1 hop hb DM6 DM7a
      obtain⟨a0,a1,a2,a3,a4⟩:=cO.st DM7
      obtain⟨r0,r1,r2,r3,r4⟩:=cO.rs DM7
      obtain⟨rz0,rz1,rz2,rz3,rz4⟩:=cO.fz DM7
      have HDM:Hid _:=DM7
      clear DM7
      go_wp2
      have DM7:=HDM.out
      have hi1:=HH.out.1
      change bodyPost prog f37 (C8 m f L c i w) Exit.ret _ (cK W7 W1.heap.size (.int .i64 (i:Nat)) (.int .i64 (k:Nat)) (.int .i64 (c[i].toNat:Nat)) (.int .i64 (n:Nat)) (.int .i64 (n2:Nat)))
      obtain⟨y0,y1,y2,y3,y4⟩:=bQ (W:=W7) (g:=W1.heap.size) (.int .i64 (i:Nat)) (.int .i64 (k:Nat)) (.int .i64 (c[i].toNat:Nat)) (.int .i64 (n:Nat)) (.int .i64 (n2:Nat)) r0 r1 r2 r3 r4
      have FZ:=cO.put DM7 (.int .i64 (i:Nat)) (.int .i64 (k:Nat)) (.int .i64 (c[i].toNat:Nat)) (.int .i64 (n:Nat)) (.int .i64 (n2:Nat))
      generalize cK W7 W1.heap.size (.int .i64 (i:Nat)) (.int .i64 (k:Nat)) (.int .i64 (c[i].toNat:Nat)) (.int .i64 (n:Nat)) (.int .i64 (n2:Nat))=Z at *
      refine bodyPost_ret (v:=.tuple #[.agg #[.int .i64 (i:Nat),.int .i64 (k:Nat),.int .i64 (c[i].toNat:Nat),.int .i64 (n:Nat),.int .i64 (n2:Nat)],.int .i64 0]) (by simp[results,results37,go_sem,y0,y1,y2,y3,y4]) rfl ?_
      subst hi1
      exact aMd ⟨i,k,c[i].toNat,n,n2⟩ FZ HD.out
   ·have q38:((c[i].toNat:Int)==38)=false:=by simp;omega
    have q38n:((c[i].toNat:Int)!=38)=true:=by simp;omega
    rw[if_neg h38] at hd1
    have HD:Hid _:=hd1
    clear hd1 h38 HSt HF6'
    obtain⟨a0,a1,a2,a3,a4⟩:=cO.st DM5
    obtain⟨r0,r1,r2,r3,r4⟩:=cO.rs DM5
    obtain⟨rz0,rz1,rz2,rz3,rz4⟩:=cO.fz DM5
    have HDM:Hid _:=DM5
    clear DM5
    go_wp2
    have DM5:=HDM.out
    have hi1:=HH.out.1
    change bodyPost prog f37 (C8 m f L c i w) Exit.ret _ (cK W5 W1.heap.size (.int .i64 (i:Nat)) (.int .i64 (y:Nat)) (.int .i64 (c[i].toNat:Nat)) (.int .i64 (n:Nat)) (.int .i64 0))
    obtain⟨y0,y1,y2,y3,y4⟩:=bQ (W:=W5) (g:=W1.heap.size) (.int .i64 (i:Nat)) (.int .i64 (y:Nat)) (.int .i64 (c[i].toNat:Nat)) (.int .i64 (n:Nat)) (.int .i64 0) r0 r1 r2 r3 r4
    have FZ:=cO.put DM5 (.int .i64 (i:Nat)) (.int .i64 (y:Nat)) (.int .i64 (c[i].toNat:Nat)) (.int .i64 (n:Nat)) (.int .i64 0)
    generalize cK W5 W1.heap.size (.int .i64 (i:Nat)) (.int .i64 (y:Nat)) (.int .i64 (c[i].toNat:Nat)) (.int .i64 (n:Nat)) (.int .i64 0)=Z at *
    refine bodyPost_ret (v:=.tuple #[.agg #[.int .i64 (i:Nat),.int .i64 (y:Nat),.int .i64 (c[i].toNat:Nat),.int .i64 (n:Nat),.int .i64 0],.int .i64 0]) (by simp[results,results37,go_sem,y0,y1,y2,y3,y4]) rfl ?_
    subst hi1
    exact aMd ⟨i,y,c[i].toNat,n,0⟩ FZ HD.out
theorem aDu (f op:Nat)(w:World)(hf:f≤2000000)(ho:op<256):Calls prog 123 #[.int .i64 f,.int .u8 op] w fun e w'=>e=.returned (.bool (jC f op))∧w'=w:=by
 have hd:∀ a b:Nat,decide ((a:Int)<(b:Int))=decide (a<b):=fun a b=>decide_eq_decide.2 (by omega)
 by_cases e1:op=51
 ·subst e1
  have hr:jC f 51 = !decide (f<3):=by
   unfold jC
   by_cases h:f<3
   ·rw[decide_eq_true h];rfl
   ·rw[decide_eq_false h];rfl
  rw[hr]
  have h3:decide ((f:Int)<3)=decide (f<3):=hd f 3
  generalize decide (f<3)=b at *
  go_enter func123,ntmps123
  go_wp2
  go_ret
  exact⟨rfl,rfl⟩
 ·by_cases e2:op=52
  ·subst e2
   have hr:jC f 52=decide (f<3):=by
    unfold jC
    by_cases h:f<3
    ·rw[decide_eq_true h,decide_eq_false (show ¬ 3≤f by omega)];rfl
    ·rw[decide_eq_false h,decide_eq_true (show 3≤f by omega)];rfl
   rw[hr]
   have h3:decide ((f:Int)<3)=decide (f<3):=hd f 3
   generalize decide (f<3)=b at *
   go_enter func123,ntmps123
   go_wp2
   go_ret
   exact⟨rfl,rfl⟩
  ·have hr:jC f op=decide ((op:Int)≤53):=by
    unfold jC
    rw[decide_eq_false e1,decide_eq_false e2]
    simp only[Bool.false_and,Bool.not_false,Bool.and_true,decide_eq_decide]
    omega
   have q1:((op:Int)==51)=false:=by simp;omega
   have q2:((op:Int)==52)=false:=by simp;omega
   rw[hr]
   generalize hq:decide ((op:Int)≤53)=b
   clear hd hr
   go_enter func123,ntmps123
   go_wp2
   go_ret
   exact⟨rfl,rfl⟩
theorem aSk (n:Int)(w:World)(hn:-5000000≤n∧n≤5000000):Calls prog 141 #[.int .i64 n] w fun e w'=>e=.returned (.agg #[.int .i64 0,.int .i64 (n-1)])∧Fr [] w w':=by
 obtain⟨W1,hW1⟩:=eX (w.alloc (.cells #[.int .i64 0,.int .i64 (n-1)] 187))
 have F1:Fr [] w W1:=by rw[← hW1];exact (Fr.refl [] w).alloc _
 have k1:=wan w (.cells #[.int .i64 0,.int .i64 (n-1)] 187)
 rw[hW1] at k1
 have a0:W1.cell? ⟨w.heap.size,0,none⟩=some (.int .i64 0):=cof k1 rfl
 have a1:W1.cell? ⟨w.heap.size,1,none⟩=some (.int .i64 (n-1)):=cof k1 rfl
 have HF:Hid _:=F1
 clear F1 k1
 go_enter func141,ntmps141
 go_wp2
 refine bodyPost_ret (v:=.agg #[.int .i64 0,.int .i64 (n-1)]) (by simp[results,results141,go_sem,a0,a1]) rfl ?_
 exact⟨rfl,HF.out⟩
def aJm (m:Mo) (locs op:Nat):List (Int × Int):=
 if dH.getD op 0=0 then [] else if op=38 then [(0,m.arrs-1),(0,(m.pats.length:Int)-1)]
 else [((low (dH.getD op 0):Int),(eZ m locs (dH.getD op 0):Int)-1)]
def aMz (W:World) (v:Value) (l:List (Int × Int)):Prop:=
 (l=[]∧v=.slice none 0 0)∨∃ g,v=.slice (some ⟨g,0,none⟩) l.length l.length∧g<W.heap.size ∧
  ∀ (i:Nat) (x:Int × Int),l[i]?=some x→W.cell? ⟨g,i*2,none⟩=some (.int .i64 x.1)∧W.cell? ⟨g,i*2+1,none⟩=some (.int .i64 x.2)
theorem aJl (W:World)(a b:Int):aMz (W.alloc (.cells #[.int .i64 a,.int .i64 b] 187)) (.slice (some ⟨W.heap.size,0,none⟩) 1 1) [(a,b)]:=by
 have k1:=wan W (.cells #[.int .i64 a,.int .i64 b] 187)
 refine .inr ⟨_,rfl,by simp,fun i x hi=>?_⟩
 cases i with
 | zero=>
  simp at hi
  subst hi
  unfold World.cell?
  rw[k1]
  exact⟨rfl,rfl⟩
 | succ i=>simp at hi
theorem aWk (W:World)(a b c d:Int):aMz (W.alloc (.cells #[.int .i64 a,.int .i64 b,.int .i64 c,.int .i64 d] 187)) (.slice (some ⟨W.heap.size,0,none⟩) 2 2) [(a,b),(c,d)]:=by
 have k1:=wan W (.cells #[.int .i64 a,.int .i64 b,.int .i64 c,.int .i64 d] 187)
 refine .inr ⟨_,rfl,by simp,fun i x hi=>?_⟩
 unfold World.cell?
 rw[k1]
 match i,hi with
 | 0,hi=>
  simp at hi
  subst hi
  exact⟨rfl,rfl⟩
 | 1,hi=>
  simp at hi
  subst hi
  exact⟨rfl,rfl⟩
 | i+2,hi=>simp at hi
theorem aWm {m:Mo}{L op:Nat} (hg:0≤m.globs) (ha:0≤m.arrs):aJm m L op=if dH.getD op 0=0 then [] else if op=38 then [(0,m.arrs-1),(0,(m.pats.length:Int)-1)]
  else [((low (dH.getD op 0):Int),(if dH.getD op 0=4 then m.globs else if dH.getD op 0=5 then m.arrs else (eZ m L (dH.getD op 0):Int))-1)]:=by
 unfold aJm
 split
 ·rfl
 ·split
  ·rfl
  ·split
   ·rename_i h;rw[h];simp[eZ];omega
   ·split
    ·rename_i h;rw[h];simp[eZ];omega
    ·rfl
theorem aPe:∀ op,op<54→dH.getD op 0≠0→op ∈ [0,17,44,48,49,50]∨op ∈ [1,3,4,5,6,11,12,13,14,15,16,35,36,37]∨op=38:=by decide
theorem aDl (mv:Value)(m:Mo)(w:World)(f op:Nat)(x:Wire.Fn)(hM:eR w mv m)(hMo:A9 m)(hx:m.fns[f]?=some x)(ho:op<54) :
  Calls prog 124 #[mv,.int .i64 f,.int .u8 op] w fun e w'=>∃ v,e=.returned v∧Fr [] w w'∧aMz w' v (aJm m x.locs.toNat op):=by
 obtain⟨tv,pv,fv,rfl,⟨ta,tc,-,-,rfl,-⟩,⟨pa,pc,-,-,rfl,-⟩,⟨a0,cap,g,off,rfl,hc,hx0,hxx⟩⟩:=hM.is
 have hf:=(Lgs.1 hx).1
 obtain⟨c0,c1,c2⟩:=hxx f x hx
 have hpp:=hMo.f.p x (List.mem_of_getElem? hx)
 obtain⟨rfl,hgl⟩:=hx0 (by omega)
 have c1':w.cell? ⟨g,off+f*3+1,none⟩=some (.int .i64 (x.locs.toNat:Nat)):=by rw[c1];congr 2;omega
 have hL:x.locs.toNat≤1000:=by omega
 obtain⟨hg,ha⟩:=AI hMo.g hMo.a
 have ht:=hMo.t
 have hp:=hMo.p
 have hfn:=hMo.f.n
 have g2:(f:Int)<(m.fns.length:Int):=by omega
 rw[aWm hg.1 ha.1]
 generalize x.locs.toNat=L at *
 obtain⟨W1,hW1⟩:=eX (w.alloc (.cells #[.slice ta m.texts.length tc,.slice pa m.pats.length pc,.int .i64 m.globs,.int .i64 m.arrs,.slice (some ⟨g,off,none⟩) m.fns.length cap] 25))
 have F1:Fr [] w W1:=by rw[← hW1];exact (Fr.refl [] w).alloc _
 have k1:=wan w (.cells #[.slice ta m.texts.length tc,.slice pa m.pats.length pc,.int .i64 m.globs,.int .i64 m.arrs,.slice (some ⟨g,off,none⟩) m.fns.length cap] 25)
 rw[hW1] at k1
 have ca:∀ t,W1.cell? ⟨w.heap.size,t,none⟩=(#[.slice ta m.texts.length tc,.slice pa m.pats.length pc,.int .i64 m.globs,.int .i64 m.arrs,.slice (some ⟨g,off,none⟩) m.fns.length cap]:Array Value)[t]?:=fun t=>by unfold World.cell?;rw[k1];rfl
 have a0:=ca 0
 have a1:=ca 1
 have a2:=ca 2
 have a3:=ca 3
 have a4:=ca 4
 simp at a0 a1 a2 a3 a4
 have a5:=(F1.cell (p:=⟨g,off+f*3+1,none⟩) hgl (by simp)).trans c1'
 have HF:Hid _:=F1
 have HB:Hid _:=fun (W:World) n (h:-5000000≤n∧n≤5000000)=>aSk n W h
 clear F1 k1 hMo hM hxx hx0 c0 c1 c2 c1' hpp ca hx
 by_cases hz:dH.getD op 0=0
 ·have hne:∀ k,k<54→dH.getD k 0≠0→((op:Int)==(k:Int))=false:=fun k hk h=>by
   simp only[beq_eq_false_iff_ne,ne_eq]
   intro e
   have:op=k:=by omega
   subst this
   exact h hz
  have q0:=hne 0 (by decide) (by decide)
  have q1:=hne 1 (by decide) (by decide)
  have q3:=hne 3 (by decide) (by decide)
  have q4:=hne 4 (by decide) (by decide)
  have q5:=hne 5 (by decide) (by decide)
  have q6:=hne 6 (by decide) (by decide)
  have q11:=hne 11 (by decide) (by decide)
  have q12:=hne 12 (by decide) (by decide)
  have q13:=hne 13 (by decide) (by decide)
  have q14:=hne 14 (by decide) (by decide)
  have q15:=hne 15 (by decide) (by decide)
  have q16:=hne 16 (by decide) (by decide)
  have q17:=hne 17 (by decide) (by decide)
  have q35:=hne 35 (by decide) (by decide)
  have q36:=hne 36 (by decide) (by decide)
  have q37:=hne 37 (by decide) (by decide)
  have q38:=hne 38 (by decide) (by decide)
  have q44:=hne 44 (by decide) (by decide)
  have q48:=hne 48 (by decide) (by decide)
  have q49:=hne 49 (by decide) (by decide)
  have q50:=hne 50 (by decide) (by decide)
  rw[if_pos hz]
  clear hne hz HB
  go_enter func124,ntmps124
  go_wp2
  go_ret
  exact⟨_,rfl,HF.out,.inl ⟨rfl,rfl⟩⟩
 have hm:=aPe op ho hz
 simp only[List.mem_cons,List.not_mem_nil,or_false] at hm
 clear hz ho
 rcases hm with hm | hm | rfl
 ·rcases hm with rfl | rfl | rfl | rfl | rfl | rfl
  all_goals
   go_enter func124,ntmps124
   go_wp2
   go_ret
   exact⟨_,rfl,HF.out.trans ((Fr.refl [] W1).alloc _),aJl _ _ _⟩
 ·rcases hm with rfl | rfl | rfl | rfl | rfl | rfl | rfl | rfl | rfl | rfl | rfl | rfl | rfl | rfl
  all_goals
   go_enter func124,ntmps124
   go_wp2_with fail
   refine (HB.out _ _ ?hb).mono ?_
   case hb=>omega
   rintro e w2 ⟨rfl,F2⟩
   clear a0 a1 a2 a3 a4 a5
   go_wp2
   go_ret
   exact⟨_,rfl,(HF.out.trans F2).trans ((Fr.refl [] w2).alloc _),aJl _ _ _⟩
 ·have hm:prog.follows Departure.mixedOrders=true:=by kernel_rfl
  have HS:Hid (∀ W,Fr [] W1 W→W.cell? ⟨w.heap.size,1,none⟩=some (.slice pa m.pats.length pc)∧W.cell? ⟨w.heap.size,3,none⟩=some (.int .i64 m.arrs)):=fun W hW=>⟨(hW.cell (p:=⟨w.heap.size,1,none⟩) (aC a1) (by simp)).trans a1,(hW.cell (p:=⟨w.heap.size,3,none⟩) (aC a3) (by simp)).trans a3⟩
  have hS:Fr [] W1 W1.drew:=(Fr.refl [] W1).drew
  go_enter func124,ntmps124
  go_wp2_with fail
  refine aE (fun W=>Fr [] W1 W) hm ?_
  refine aH (fun _ _ _ _ _ h=>h) hS [0,1,3,4,5] (by kernel_rfl) ?_
  iterate 5
   refine Yls.cons (v:=?_) rfl (.inl ⟨rfl,fun w1 hS1=>?_⟩) ?_
   rotate_left
   ·obtain⟨p0,p1⟩:=HS.out _ hS1
    go_simp
    first | rfl | (refine (if_neg (by omega)).trans ?_;rfl)
   simp only[Act.put,Z1,Z2,Z3,Z4,Z5,Z6]
  refine Yls.nil ?_
  refine rd1 (r:=2) (by kernel_rfl) rfl fun K hK=>?_
  go_simp
  refine (HB.out _ _ (by omega)).mono ?_
  rintro e W2 ⟨rfl,F2⟩
  replace F2:=hS.trans F2
  refine hK _ _ F2 ?_
  clear hK K
  intro _
  refine rd1 (r:=6) (by kernel_rfl) rfl fun K hK=>?_
  go_simp
  refine (HB.out _ _ (by omega)).mono ?_
  rintro e W3 ⟨rfl,F3⟩
  replace F3:=F2.trans F3
  refine hK _ _ F3 ?_
  clear hK K
  intro _
  refine rd1 (r:=7) (by kernel_rfl) rfl fun K hK=>?_
  go_simp
  refine hK _ _ (F3.alloc _) ?_
  clear hK K
  intro _
  refine rd1 (r:=8) (by kernel_rfl) rfl fun K hK=>?_
  go_simp
  refine hK _ _ (F3.alloc _) ?_
  clear hK K
  intro _
  refine wpAnyH_done (by kernel_rfl) ?_ _
  go_wp2
  go_ret
  exact⟨_,rfl,(HF.out.trans F3).trans ((Fr.refl [] W3).alloc _),aWk _ _ _ _ _⟩
end Go.Proofs.YtgpamchpeamnfaaGreatDoor
