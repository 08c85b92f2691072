/-
  Texts Jc Jd.
-/
import Derived.Test.YtgpamchpeamnfaaGreatDoorMA
import Derived.Test.YtgpamchpeamnfaaGreatDoorM14
import Derived.Test.YtgpamchpeamnfaaGreatDoorM13
set_option linter.unusedSimpArgs false
set_option linter.unusedVariables false
set_option maxRecDepth 100000
set_option maxHeartbeats 40000000
open _root_.Go.Proofs.Tryz
namespace Go.Proofs.YtgpamchpeamnfaaGreatDoor
open Go.RowKit
open Wire Flow Mach
structure fL (w W:World) (x y z:Nat) (mc:Array Value) (v0 v1 v2 v3 v4:Value):Prop where
 fr:Fr [] w W
 mo:W.heap[x]?=some (.cells mc 25)
 re:W.heap[y]?=some (.cells #[.int .u8 0,.int .i64 0,.int .i64 0,.int .i64 0,.int .i64 0] 152)
 sp:W.heap[z]?=some (.cells #[v0,v1,v2,v3,v4] 152)
 lx:w.heap.size≤x
 ly:w.heap.size≤y
 lz:w.heap.size≤z
 ne:x≠z∧y≠z
theorem fL.st {w W:World}{x y z:Nat}{mc:Array Value}{v0 v1 v2 v3 v4:Value} (h:fL w W x y z mc v0 v1 v2 v3 v4) :
  W.cell? ⟨z,0,none⟩=some v0∧W.cell? ⟨z,1,none⟩=some v1∧W.cell? ⟨z,2,none⟩=some v2∧W.cell? ⟨z,3,none⟩=some v3∧W.cell? ⟨z,4,none⟩=some v4:=by
 unfold World.cell?
 rw[h.sp]
 exact⟨rfl,rfl,rfl,rfl,rfl⟩
theorem fL.rs {w W:World}{x y z:Nat}{mc:Array Value}{v0 v1 v2 v3 v4:Value} (h:fL w W x y z mc v0 v1 v2 v3 v4) :
  W.cell? ⟨y,0,none⟩=some (.int .u8 0)∧W.cell? ⟨y,1,none⟩=some (.int .i64 0)∧W.cell? ⟨y,2,none⟩=some (.int .i64 0)∧W.cell? ⟨y,3,none⟩=some (.int .i64 0)∧W.cell? ⟨y,4,none⟩=some (.int .i64 0):=by
 unfold World.cell?
 rw[h.re]
 exact⟨rfl,rfl,rfl,rfl,rfl⟩
theorem fL.fz {w W:World}{x y z:Nat}{mc:Array Value}{v0 v1 v2 v3 v4:Value} (h:fL w W x y z mc v0 v1 v2 v3 v4) :
  W.frozen? ⟨y,0,none⟩=false∧W.frozen? ⟨y,1,none⟩=false∧W.frozen? ⟨y,2,none⟩=false∧W.frozen? ⟨y,3,none⟩=false∧W.frozen? ⟨y,4,none⟩=false:=by
 unfold World.frozen?
 rw[h.re]
 simp
theorem fL.sz {w W:World}{x y z:Nat}{mc:Array Value}{v0 v1 v2 v3 v4:Value} (h:fL w W x y z mc v0 v1 v2 v3 v4) :
  W.frozen? ⟨z,2,none⟩=false∧W.frozen? ⟨z,3,none⟩=false∧W.frozen? ⟨z,4,none⟩=false:=by
 unfold World.frozen?
 rw[h.sp]
 simp
theorem fL.put {w W:World}{x y z:Nat}{mc:Array Value}{v0 v1 v2 v3 v4:Value} (h:fL w W x y z mc v0 v1 v2 v3 v4) (u0 u1 u2 u3 u4:Value):Fr [] w (cK W y u0 u1 u2 u3 u4):=
 h.fr.trans' (cV W y u0 u1 u2 u3 u4) (fun q hq=>.inr (by have:=h.ly;simp at hq;omega))
theorem fL.to {w W W':World}{x y z:Nat}{mc:Array Value}{v0 v1 v2 v3 v4:Value} (h:fL w W x y z mc v0 v1 v2 v3 v4) (hf:Fr [] W W'):fL w W' x y z mc v0 v1 v2 v3 v4:=
 ⟨h.fr.trans hf,(hf.block _ (Age.1 h.mo).1 (by simp)).trans h.mo,(hf.block _ (Age.1 h.re).1 (by simp)).trans h.re,(hf.block _ (Age.1 h.sp).1 (by simp)).trans h.sp,h.lx,h.ly,h.lz,h.ne⟩
theorem fL.set2 {w W:World}{x y z:Nat}{mc:Array Value}{v0 v1 v2 v3 v4:Value} (h:fL w W x y z mc v0 v1 v2 v3 v4) (u:Value):fL w (W.setCell ⟨z,2,none⟩ u) x y z mc v0 v1 u v3 v4:=
 ⟨h.fr.setCell (p:=⟨z,2,none⟩) (.inr h.lz) u,(aL h.ne.1).trans h.mo,(aL h.ne.2).trans h.re,mE h.sp,h.lx,h.ly,h.lz,h.ne⟩
theorem fL.set3 {w W:World}{x y z:Nat}{mc:Array Value}{v0 v1 v2 v3 v4:Value} (h:fL w W x y z mc v0 v1 v2 v3 v4) (u:Value):fL w (W.setCell ⟨z,3,none⟩ u) x y z mc v0 v1 v2 u v4:=
 ⟨h.fr.setCell (p:=⟨z,3,none⟩) (.inr h.lz) u,(aL h.ne.1).trans h.mo,(aL h.ne.2).trans h.re,mE h.sp,h.lx,h.ly,h.lz,h.ne⟩
def iO (c:List UInt8):List (Int × Int)→Nat→Option (List Nat × Nat)
 | [],p=>some ([],p)
 | b :: r,p=>match num (c.drop p) with
  | none=>none
  | some (n,rest)=>if b.1≤(n:Int)∧(n:Int)≤b.2 then (iO c r (c.length-rest.length)).map (fun q=>(n :: q.1,q.2)) else none
theorem D6 (m:Mo)(L sort n:Nat):nF m L sort n=true↔(low sort:Int)≤(n:Int)∧(n:Int)≤(eZ m L sort:Int)-1:=by
 unfold nF
 simp only[Bool.and_eq_true,decide_eq_true_eq]
 omega
theorem aJa {m:Mo}{f L:Nat}{c:List UInt8}{i op:Nat} (ho:(c.getD i 0).toNat=op) (hm:jC f op=true) (hMo:A9 m) :
  bH m f L c i=match iO c (aJm m L op) (i+1) with
   | none=>.inl 10
   | some q=>.inr ⟨i,q.2,op,q.1.getD 0 0,q.1.getD 1 0⟩:=by
 unfold bH
 rw[ho,if_pos hm]
 unfold aJm
 by_cases hz:dH.getD op 0=0
 ·rw[if_pos hz,if_pos hz]
  rfl
 ·rw[if_neg hz,if_neg hz]
  by_cases h38:op=38
  ·subst h38
   rw[if_pos rfl]
   have hs:dH.getD 38 0=5:=rfl
   rw[hs]
   have f5:∀ n,nF m L 5 n=true↔(0:Int)≤(n:Int)∧(n:Int)≤m.arrs-1:=fun n=>by
    rw[D6]
    simp only[low,eZ,Nat.reduceEqDiff,if_true,if_false]
    have:=hMo.a
    omega
   have f6:∀ n,nF m L 6 n=true↔(0:Int)≤(n:Int)∧(n:Int)≤(m.pats.length:Int)-1:=fun n=>by
    rw[D6]
    simp only[low,eZ,Nat.reduceEqDiff,if_true,if_false]
    omega
   unfold Flow.eX
   simp only[iO]
   cases hN:num (c.drop (i+1)) with
   | none=>rfl
   | some nr=>
    obtain⟨n,r⟩:=nr
    simp only
    by_cases hf:nF m L 5 n=true
    ·rw[if_pos hf,if_pos ((f5 n).1 hf)]
     simp only[if_true]
     cases hN2:num (c.drop (c.length-r.length)) with
     | none=>rfl
     | some nr2=>
      obtain⟨n2,r2⟩:=nr2
      simp only
      by_cases hf2:nF m L 6 n2=true
      ·rw[if_pos hf2,if_pos ((f6 n2).1 hf2)]
       rfl
      ·rw[if_neg hf2,if_neg (fun h=>hf2 ((f6 n2).2 h))]
       rfl
    ·rw[if_neg hf,if_neg (fun h=>hf ((f5 n).2 h))]
  ·rw[if_neg h38]
   unfold Flow.eX
   simp only[iO]
   cases hN:num (c.drop (i+1)) with
   | none=>rfl
   | some nr=>
    obtain⟨n,r⟩:=nr
    simp only
    by_cases hf:nF m L (dH.getD op 0) n=true
    ·rw[if_pos hf,if_pos ((D6 _ _ _ _).1 hf)]
     simp only[h38,if_false]
     rfl
    ·rw[if_neg hf,if_neg (fun h=>hf ((D6 _ _ _ _).2 h))]
theorem aWl (m:Mo)(L op:Nat):(aJm m L op).length≤2:=by
 unfold aJm
 split
 ·simp
 ·split <;> simp
def RdP (m:Mo) (f L:Nat) (c:ByteArray) (i:Nat) (w:World) (e:Ending) (w':World):Prop:=
 Fr [] w w'∧∃ op pl a b len x:Nat,e=.returned (.tuple #[.agg #[.int .u8 op,.int .i64 pl,.int .i64 a,.int .i64 b,.int .i64 0],.int .i64 len,.int .i64 x]) ∧
  ((x≠0∧x≤20∧bH m f L (bl c) i=.inl x) ∨
    (x=0∧∃ s,bH m f L (bl c) i=.inr s∧op=s.op∧pl=s.pl∧a=min s.a 2000000000∧b=min s.b 2000000000∧s.nx=i+len))
theorem bDb (c:ByteArray)(p:Nat):bl (c.extract p c.size)=(bl c).drop p:=by
 rw[bZ,← aD c]
 exact aNj _ _
theorem aGr (mv:Value)(m:Mo)(w:World)(f i:Nat)(x:Wire.Fn)(hM:eR w mv m)(hMo:A9 m)(hx:m.fns[f]?=some x)(hi:i<x.code.size) :
  Calls prog 103 #[mv,.int .i64 f,.int .i64 i] w (RdP m f x.locs.toNat x.code i w):=by
 have hOp:=fun (W:World) (hW:Fr [] w W) (op:Nat) (ho:op<54)=>aDl mv m W f op x (hM.fr hW) hMo hx ho
 obtain⟨tv,pv,fv,rfl,h1,h2,h3⟩:=hM.is
 obtain⟨ad,cap,fg,fo,rfl,hcap,hx0,hxx⟩:=h3
 have hf:=(Lgs.1 hx).1
 obtain⟨c0,c1,hc⟩:=hxx f x hx
 have hpp:=hMo.f.p x (List.mem_of_getElem? hx)
 obtain⟨rfl,hfg⟩:=hx0 (by omega)
 have hn:=hMo.f.n
 have hs:x.code.size≤20000:=hpp.2.2.2.2
 generalize x.locs.toNat=L at *
 generalize x.code=c at *
 have hdo:=fun (hm:jC f c[i].toNat=true)=>aJa (m:=m) (f:=f) (L:=L) (c:=bl c) (i:=i) (op:=c[i].toNat) (by rw[yK hi]) hm hMo
 have hd9:jC f c[i].toNat=false→bH m f L (bl c) i=.inl 9:=fun e=>by
  unfold bH
  rw[yK hi,if_neg (by rw[e];decide)]
 have hfn:f≤2000000:=by omega
 generalize m.fns.length=nf at *
 have g0:(i:Int)<c.size:=by omega
 have gx:c[i].toNat<256:=c[i].toNat_lt
 have g2:(f:Int)<(nf:Int):=by omega
 obtain⟨W1,hW1⟩:=eX (w.alloc (.cells #[tv,pv,.int .i64 m.globs,.int .i64 m.arrs,.slice (some ⟨fg,fo,none⟩) nf cap] 25))
 obtain⟨W2,hW2⟩:=eX (W1.alloc (.cells #[.int .u8 0,.int .i64 0,.int .i64 0,.int .i64 0,.int .i64 0] 152))
 obtain⟨W3,hW3⟩:=eX (W2.alloc (.cells #[.int .u8 (c[i].toNat:Nat),.int .i64 (i:Nat),.int .i64 0,.int .i64 0,.int .i64 0] 152))
 have FA:Fr [] w W1:=by rw[← hW1];exact (Fr.refl [] w).alloc _
 have FB1:Fr [] W1 W2:=by rw[← hW2];exact (Fr.refl [] W1).alloc _
 have FC2:Fr [] W2 W3:=by rw[← hW3];exact (Fr.refl [] W2).alloc _
 have FB:Fr [] w W2:=FA.trans FB1
 have FC:Fr [] w W3:=FB.trans FC2
 have z1:W1.heap.size=w.heap.size+1:=by rw[← hW1];simp
 have z2:W2.heap.size=w.heap.size+2:=by rw[← hW2];simp[z1]
 have k1:=wan w (.cells #[tv,pv,.int .i64 m.globs,.int .i64 m.arrs,.slice (some ⟨fg,fo,none⟩) nf cap] 25)
 have k2:=wan W1 (.cells #[.int .u8 0,.int .i64 0,.int .i64 0,.int .i64 0,.int .i64 0] 152)
 have k3:=wan W2 (.cells #[.int .u8 (c[i].toNat:Nat),.int .i64 (i:Nat),.int .i64 0,.int .i64 0,.int .i64 0] 152)
 rw[hW1] at k1
 rw[hW2] at k2
 rw[hW3] at k3
 have hc2:=(FB.cell (p:=⟨fg,fo+f*3+2,none⟩) hfg (by simp)).trans hc
 have hm2:W2.cell? ⟨w.heap.size,4,none⟩=some (.slice (some ⟨fg,fo,none⟩) nf cap):=by
  refine (FB1.cell (p:=⟨w.heap.size,4,none⟩) (by simp only;omega) (by simp)).trans ?_
  unfold World.cell?
  rw[k1]
  rfl
 have s2:W3.setCell ⟨W2.heap.size,2,none⟩ (.int .i64 0)=W3:=iW k3 rfl
 have s3:W3.setCell ⟨W2.heap.size,3,none⟩ (.int .i64 0)=W3:=iW k3 rfl
 have s4:W3.setCell ⟨W2.heap.size,4,none⟩ (.int .i64 0)=W3:=iW k3 rfl
 have fz2:W3.frozen? ⟨W2.heap.size,2,none⟩=false:=by unfold World.frozen?;rw[k3];simp
 have fz3:W3.frozen? ⟨W2.heap.size,3,none⟩=false:=by unfold World.frozen?;rw[k3];simp
 have fz4:W3.frozen? ⟨W2.heap.size,4,none⟩=false:=by unfold World.frozen?;rw[k3];simp
 have DM:fL w W3 w.heap.size W1.heap.size W2.heap.size #[tv,pv,.int .i64 m.globs,.int .i64 m.arrs,.slice (some ⟨fg,fo,none⟩) nf cap] (.int .u8 (c[i].toNat:Nat)) (.int .i64 (i:Nat)) (.int .i64 0) (.int .i64 0) (.int .i64 0):=
  ⟨FC,((FB1.trans FC2).block _ (by omega) (by simp)).trans k1,(FC2.block _ (by omega) (by simp)).trans k2,k3,by omega,by omega,by omega,by omega⟩
 clear FA FB1 FC2 FB FC k1 k2 k3 z1 z2 hxx hx0 hMo hM h1 h2 c0 c1 hpp hc hx hn
 have HMS:Hid _:=fun (_:Unit)=>aDu f c[i].toNat W3 hfn gx
 obtain⟨a0,a1,a2,a3,a4⟩:=fL.st DM
 obtain⟨r0,r1,r2,r3,r4⟩:=fL.rs DM
 obtain⟨rz0,rz1,rz2,rz3,rz4⟩:=fL.fz DM
 cases hmay:jC f c[i].toNat with
 | false=>
  have hd:=hd9 hmay
  rw[hmay] at HMS
  have HD:Hid _:=hd
  have HDM:Hid _:=DM
  clear hd hd9 hdo hOp DM hmay
  go_enter func103,ntmps103
  go_wp2_with fail
  refine (HMS.out ()).mono ?_
  rintro e w1 ⟨rfl,hw⟩
  replace hw:=hw.symm
  subst hw
  go_wp2
  have DM:=HDM.out
  change bodyPost prog f103 (RdP m f L c i w) Exit.ret _ (cK W3 W1.heap.size (.int .u8 0) (.int .i64 0) (.int .i64 0) (.int .i64 0) (.int .i64 0))
  obtain⟨y0,y1,y2,y3,y4⟩:=bQ (W:=W3) (g:=W1.heap.size) (.int .u8 0) (.int .i64 0) (.int .i64 0) (.int .i64 0) (.int .i64 0) r0 r1 r2 r3 r4
  have FZ:=fL.put DM (.int .u8 0) (.int .i64 0) (.int .i64 0) (.int .i64 0) (.int .i64 0)
  generalize cK W3 W1.heap.size (.int .u8 0) (.int .i64 0) (.int .i64 0) (.int .i64 0) (.int .i64 0)=Z at *
  refine bodyPost_ret (v:=.tuple #[.agg #[.int .u8 0,.int .i64 0,.int .i64 0,.int .i64 0,.int .i64 0],.int .i64 0,.int .i64 9]) (by simp[results,results103,go_sem,y0,y1,y2,y3,y4]) rfl ?_
  exact⟨FZ,0,0,0,0,0,9,rfl,.inl ⟨by omega,by omega,HD.out⟩⟩
 | true=>
  have hd:=hdo hmay
  have ho54:=pG hmay
  have HOp:Hid _:=fun (_:Unit)=>hOp W3 DM.fr c[i].toNat ho54
  rw[hmay] at HMS
  have hB2:=aWl m L c[i].toNat
  generalize aJm m L c[i].toNat=B at *
  have HD:Hid _:=hd
  have HDM:Hid _:=DM
  obtain⟨m0,m1,m2,m3,m4⟩:W3.cell? ⟨w.heap.size,0,none⟩=some tv∧W3.cell? ⟨w.heap.size,1,none⟩=some pv∧W3.cell? ⟨w.heap.size,2,none⟩=some (.int .i64 m.globs)∧W3.cell? ⟨w.heap.size,3,none⟩=some (.int .i64 m.arrs)∧W3.cell? ⟨w.heap.size,4,none⟩=some (.slice (some ⟨fg,fo,none⟩) nf cap):=by
   unfold World.cell?
   rw[DM.mo]
   exact⟨rfl,rfl,rfl,rfl,rfl⟩
  clear hd hd9 hdo hOp DM hmay
  go_enter func103,ntmps103
  go_wp2_with fail
  refine (HMS.out ()).mono ?_
  rintro e w1 ⟨rfl,hw⟩
  replace hw:=hw.symm
  subst hw
  go_wp2_with fail
  refine (HOp.out ()).mono ?_
  rintro e Wb ⟨v,rfl,Fb,hBn⟩
  have DMb:=fL.to HDM.out Fb
  clear m0 m1 m2 m3 m4 a0 a1 a2 a3 a4 r0 r1 r2 r3 r4 rz0 rz1 rz2 rz3 rz4 s2 s3 s4 fz2 fz3 fz4 HDM HOp HMS hW1 hW2 hW3 hc2 hm2
  obtain⟨ba,bg,rfl,hbg,hbx⟩:∃ ba bg,v=.slice ba B.length B.length∧(0<B.length→ba=some ⟨bg,0,none⟩∧bg<Wb.heap.size∧bg≠W2.heap.size)∧∀ (j:Nat) (y:Int × Int),B[j]?=some y→Wb.cell? ⟨bg,j*2,none⟩=some (.int .i64 y.1)∧Wb.cell? ⟨bg,j*2+1,none⟩=some (.int .i64 y.2):=by
   rcases hBn with ⟨rfl,rfl⟩ | ⟨g,rfl,hg,hxy⟩
   ·exact⟨none,0,rfl,fun h=>absurd h (by simp),fun j y hj=>by simp at hj⟩
   ·refine⟨_,g,rfl,fun h0=>⟨rfl,hg,fun e=>?_⟩,hxy⟩
    obtain⟨y,hy⟩:∃ y,B[0]?=some y:=⟨_,Lge h0⟩
    have q1:=(hxy 0 y hy).1
    rw[e] at q1
    have q2:=DMb.st.1
    simp only[Nat.zero_mul] at q1
    rw[q1] at q2
    simp at q2
  have HBX:Hid _:=AI hbg hbx
  have HDMb:Hid _:=DMb
  clear hBn hbg hbx DMb Fb
  go_wp2
  go_loopw [11,41] (fun a j wr=>∃ (ns:List Nat) (p:Nat),j=.int .i64 (ns.length:Nat)∧a=.int .i64 (p:Nat)∧ns.length≤B.length∧i<p∧p≤c.size∧Hid (iO (bl c) B (i+1)=(iO (bl c) (B.drop ns.length) p).map (fun q=>(ns++q.1,q.2))) ∧
   fL w wr w.heap.size W1.heap.size W2.heap.size #[tv,pv,.int .i64 m.globs,.int .i64 m.arrs,.slice (some ⟨fg,fo,none⟩) nf cap] (.int .u8 (c[i].toNat:Nat)) (.int .i64 (i:Nat)) (.int .i64 (min (ns.getD 0 0) 2000000000:Nat)) (.int .i64 (min (ns.getD 1 0) 2000000000:Nat)) (.int .i64 0)∧Fr [W2.heap.size] Wb wr) (fun _ j _=>B.length-(intOf j).toNat)
  case atStart=>
   refine⟨[],i+1,rfl,by push_cast;rfl,by simp,by omega,by omega,?_,HDMb.out,Fr.refl _ _⟩
   show iO (bl c) B (i+1)=_
   simp
  case round=>
   obtain⟨ns,p,rfl,rfl,hk,hip,hpc,hR,DMr,Fr1⟩:=hrel
   obtain⟨k,hkk⟩:=eX (ns.length)
   obtain⟨nB,hnB⟩:=eX (B.length)
   have hkB:k≤nB:=by omega
   by_cases hlt:k<nB
   ·have g1:(k:Int)<(nB:Int):=by omega
    obtain⟨rfl,hbgl,hbne⟩:=HBX.out.1 (by omega)
    obtain⟨y,hy⟩:∃ y,B[k]?=some y:=⟨_,Lge (by omega)⟩
    have hdrop:B.drop k=y :: B.drop (k+1):=by
     rw[List.drop_eq_getElem_cons (by omega)]
     congr 1
     exact (Lgs.1 hy).2
    obtain⟨x0,x1⟩:=HBX.out.2 k y hy
    replace x0:=(Fr1.cell (p:=⟨bg,k*2,none⟩) hbgl (by simpa using hbne)).trans x0
    replace x1:=(Fr1.cell (p:=⟨bg,k*2+1,none⟩) hbgl (by simpa using hbne)).trans x1
    have hR1:=hR.out
    rw[hkk,hdrop] at hR1
    obtain⟨W4,hW4⟩:=eX (wr.alloc (.cells #[.int .i64 y.1,.int .i64 y.2] 187))
    have F4:Fr [] wr W4:=by rw[← hW4];exact (Fr.refl [] wr).alloc _
    have k4:=wan wr (.cells #[.int .i64 y.1,.int .i64 y.2] 187)
    rw[hW4] at k4
    have e0:W4.cell? ⟨wr.heap.size,0,none⟩=some (.int .i64 y.1):=cof k4 rfl
    have e1:W4.cell? ⟨wr.heap.size,1,none⟩=some (.int .i64 y.2):=cof k4 rfl
    have DM4:=fL.to DMr F4
    have Fr4:=Fr1.trans (F4.mono (by simp))
    have hnr:=tN (c.extract p c.size) (by rw[ByteArray.size_extract];omega) W4
    rw[bDb] at hnr
    have hcl:=aD c
    have gp:(p:Int)≤(c.size:Int):=by omega
    cases hN:num ((bl c).drop p) with
    | none=>
     have hV:numV ((bl c).drop p)=0:=by unfold numV;rw[hN]
     have hK:vL ((bl c).drop p)=0:=by unfold vL;rw[hN]
     rw[hV,hK] at hnr
     have HNR:Hid _:=fun (_:Unit)=>hnr
     have hd:bH m f L (bl c) i=.inl 10:=by
      rw[HD.out,hR1]
      simp only[iO,hN]
      rfl
     have HD2:Hid _:=hd
     have HDM:Hid _:=DM4
     obtain⟨a0,a1,a2,a3,a4⟩:=fL.st DM4
     obtain⟨r0,r1,r2,r3,r4⟩:=fL.rs DM4
     obtain⟨rz0,rz1,rz2,rz3,rz4⟩:=fL.fz DM4
     clear hd hR1 hR hN HD hnr hV hK DM4 DMr Fr1 Fr4 F4 k4 HBX HDMb hdrop hy hcl hkB hk a0 a1 a2 a3 a4
     rw[hkk,hnB]
     clear hkk hnB
     go_wp2_with fail
     refine (HNR.out ()).mono ?_
     rintro e w1 ⟨rfl,hw⟩
     replace hw:=hw.symm
     subst hw
     go_wp2
     have DM4:=HDM.out
     change bodyPost prog f103 (RdP m f L c i w) Exit.ret _ (cK W4 W1.heap.size (.int .u8 0) (.int .i64 0) (.int .i64 0) (.int .i64 0) (.int .i64 0))
     obtain⟨y0,y1,y2,y3,y4⟩:=bQ (W:=W4) (g:=W1.heap.size) (.int .u8 0) (.int .i64 0) (.int .i64 0) (.int .i64 0) (.int .i64 0) r0 r1 r2 r3 r4
     have FZ:=fL.put DM4 (.int .u8 0) (.int .i64 0) (.int .i64 0) (.int .i64 0) (.int .i64 0)
     generalize cK W4 W1.heap.size (.int .u8 0) (.int .i64 0) (.int .i64 0) (.int .i64 0) (.int .i64 0)=Z at *
     refine bodyPost_ret (v:=.tuple #[.agg #[.int .u8 0,.int .i64 0,.int .i64 0,.int .i64 0,.int .i64 0],.int .i64 0,.int .i64 10]) (by simp[results,results103,go_sem,y0,y1,y2,y3,y4]) rfl ?_
     exact⟨FZ,0,0,0,0,0,10,rfl,.inl ⟨by omega,by omega,HD2.out⟩⟩
    | some nr=>
     obtain⟨n,r⟩:=nr
     have hn36:=(iG hN).2
     have hsh:=xV 5 true _ _ _ hN
     rw[List.length_drop,hcl] at hsh
     have hV:numV ((bl c).drop p)=n:=by unfold numV;rw[hN]
     have hK:vL ((bl c).drop p)=c.size-p-r.length:=by unfold vL;rw[hN,List.length_drop,hcl]
     obtain⟨K0,hK0⟩:=eX (c.size-p-r.length)
     rw[hV,hK,hK0] at hnr
     have HNR:Hid _:=fun (_:Unit)=>hnr
     have gK:0<K0:=by omega
     have gK2:p+K0≤c.size:=by omega
     have eK:c.size-r.length=p+K0:=by omega
     have qK:((K0:Int)==0)=false:=by simp;omega
     simp only[iO,hN,hcl] at hR1
     have HX:Hid _:=AI hR1 (AI eK (AI Fr4 (AI DM4 (AI hkk (AI hnB hB2)))))
     obtain⟨y1,y2⟩:=y
     simp only at e0 e1 hW4 x0 x1
     obtain⟨a0,a1,a2,a3,a4⟩:=fL.st DM4
     obtain⟨r0,r1,r2,r3,r4⟩:=fL.rs DM4
     obtain⟨rz0,rz1,rz2,rz3,rz4⟩:=fL.fz DM4
     clear hnr hN hV hK hK0 DMr Fr1 F4 k4 HBX HDMb hdrop hy hcl hR hR1 eK DM4 Fr4 hsh
     by_cases hf1:y1≤(n:Int)
     ·by_cases hf2:(n:Int)≤y2
      ·have q3:decide ((n:Int)<y1)=false:=decide_eq_false (by omega)
       have q4:decide (y2<(n:Int))=false:=decide_eq_false (by omega)
       obtain⟨nm,hnm⟩:=eX (min n 2000000000)
       have hnmI:min (n:Int) 2000000000=(nm:Int):=by omega
       obtain⟨p2,hp2⟩:=eX (p+K0)
       have hpI:(p:Int)+(K0:Int)=(p2:Int):=by omega
       have hp2c:p2≤c.size:=by omega
       have hp2i:i<p2:=by omega
       have HP2:Hid _:=AI hp2 hnm
       clear hp2 hnm
       clear r0 r1 r2 r3 r4 rz0 rz1 rz2 rz3 rz4
       rcases ns with _ | ⟨aa,_ | ⟨bb,ns⟩⟩
       ·obtain rfl:0=k:=hkk
        have hR2:iO (bl c) B (i+1)=(iO (bl c) (B.drop (0+1)) p2).map (fun q=>([n]++q.1,q.2)):=by
         rw[HX.out.1,if_pos ⟨hf1,hf2⟩,HX.out.2.1,HP2.out.1,Option.map_map]
         rfl
        have DM5:=fL.set2 HX.out.2.2.2.1 (.int .i64 (nm:Nat))
        have fz5:=(fL.sz HX.out.2.2.2.1).1
        obtain⟨W5,hW5⟩:=eX (W4.setCell ⟨W2.heap.size,2,none⟩ (.int .i64 (nm:Nat)))
        rw[hW5] at DM5
        have F5:Fr [W2.heap.size] Wb W5:=by rw[← hW5];exact HX.out.2.2.1.setCell (p:=⟨W2.heap.size,2,none⟩) (.inl (by simp)) _
        have HY:Hid _:=AI hR2 (AI DM5 F5)
        simp only[List.length_cons,List.length_nil,Nat.zero_add] at *
        rw[hnB]
        clear hR2 DM5 F5 HD hkB hk HX
        go_wp2_with fail
        refine (HNR.out ()).mono ?_
        rintro e w1 ⟨rfl,hw⟩
        replace hw:=hw.symm
        subst hw
        go_wp2
        refine⟨⟨[n],p2,rfl,rfl,by simp;omega,hp2i,hp2c,HY.out.1,?_,HY.out.2.2⟩,?_⟩
        ·have h:=HY.out.2.1
         rw[← HP2.out.2] at h
         exact h
        ·simp[intOf]
         omega
       ·obtain rfl:1=k:=hkk
        have hR2:iO (bl c) B (i+1)=(iO (bl c) (B.drop (1+1)) p2).map (fun q=>([aa,n]++q.1,q.2)):=by
         rw[HX.out.1,if_pos ⟨hf1,hf2⟩,HX.out.2.1,HP2.out.1,Option.map_map]
         rfl
        have DM5:=fL.set3 HX.out.2.2.2.1 (.int .i64 (nm:Nat))
        have fz5:=(fL.sz HX.out.2.2.2.1).2.1
        obtain⟨W5,hW5⟩:=eX (W4.setCell ⟨W2.heap.size,3,none⟩ (.int .i64 (nm:Nat)))
        rw[hW5] at DM5
        have F5:Fr [W2.heap.size] Wb W5:=by rw[← hW5];exact HX.out.2.2.1.setCell (p:=⟨W2.heap.size,3,none⟩) (.inl (by simp)) _
        have HY:Hid _:=AI hR2 (AI DM5 F5)
        simp only[List.length_cons,List.length_nil,Nat.zero_add] at *
        rw[hnB]
        clear hR2 DM5 F5 HD hkB hk HX
        go_wp2_with fail
        refine (HNR.out ()).mono ?_
        rintro e w1 ⟨rfl,hw⟩
        replace hw:=hw.symm
        subst hw
        go_wp2
        refine⟨⟨[aa,n],p2,rfl,rfl,by simp;omega,hp2i,hp2c,HY.out.1,?_,HY.out.2.2⟩,?_⟩
        ·have h:=HY.out.2.1
         rw[← HP2.out.2] at h
         exact h
        ·simp[intOf]
         omega
       ·simp only[List.length_cons] at hkk
        omega
      ·have q3:decide ((n:Int)<y1)=false:=decide_eq_false (by omega)
       have q4:decide (y2<(n:Int))=true:=decide_eq_true (by omega)
       have hd:bH m f L (bl c) i=.inl 10:=by
        rw[HD.out,HX.out.1,if_neg (fun h=>hf2 h.2)]
        rfl
       have HD2:Hid _:=hd
       clear hd HD a0 a1 a2 a3 a4 hkB hk
       rw[hkk,hnB]
       clear hkk hnB
       go_wp2_with fail
       refine (HNR.out ()).mono ?_
       rintro e w1 ⟨rfl,hw⟩
       replace hw:=hw.symm
       subst hw
       go_wp2
       have DM4:=HX.out.2.2.2.1
       change bodyPost prog f103 (RdP m f L c i w) Exit.ret _ (cK W4 W1.heap.size (.int .u8 0) (.int .i64 0) (.int .i64 0) (.int .i64 0) (.int .i64 0))
       obtain⟨y0,y1,y2,y3,y4⟩:=bQ (W:=W4) (g:=W1.heap.size) (.int .u8 0) (.int .i64 0) (.int .i64 0) (.int .i64 0) (.int .i64 0) r0 r1 r2 r3 r4
       have FZ:=fL.put DM4 (.int .u8 0) (.int .i64 0) (.int .i64 0) (.int .i64 0) (.int .i64 0)
       generalize cK W4 W1.heap.size (.int .u8 0) (.int .i64 0) (.int .i64 0) (.int .i64 0) (.int .i64 0)=Z at *
       refine bodyPost_ret (v:=.tuple #[.agg #[.int .u8 0,.int .i64 0,.int .i64 0,.int .i64 0,.int .i64 0],.int .i64 0,.int .i64 10]) (by simp[results,results103,go_sem,y0,y1,y2,y3,y4]) rfl ?_
       exact⟨FZ,0,0,0,0,0,10,rfl,.inl ⟨by omega,by omega,HD2.out⟩⟩
     ·have q3:decide ((n:Int)<y1)=true:=decide_eq_true (by omega)
      have hd:bH m f L (bl c) i=.inl 10:=by
       rw[HD.out,HX.out.1,if_neg (fun h=>hf1 h.1)]
       rfl
      have HD2:Hid _:=hd
      clear hd HD a0 a1 a2 a3 a4 hkB hk
      rw[hkk,hnB]
      clear hkk hnB
      go_wp2_with fail
      refine (HNR.out ()).mono ?_
      rintro e w1 ⟨rfl,hw⟩
      replace hw:=hw.symm
      subst hw
      go_wp2
      have DM4:=HX.out.2.2.2.1
      change bodyPost prog f103 (RdP m f L c i w) Exit.ret _ (cK W4 W1.heap.size (.int .u8 0) (.int .i64 0) (.int .i64 0) (.int .i64 0) (.int .i64 0))
      obtain⟨y0,y1,y2,y3,y4⟩:=bQ (W:=W4) (g:=W1.heap.size) (.int .u8 0) (.int .i64 0) (.int .i64 0) (.int .i64 0) (.int .i64 0) r0 r1 r2 r3 r4
      have FZ:=fL.put DM4 (.int .u8 0) (.int .i64 0) (.int .i64 0) (.int .i64 0) (.int .i64 0)
      generalize cK W4 W1.heap.size (.int .u8 0) (.int .i64 0) (.int .i64 0) (.int .i64 0) (.int .i64 0)=Z at *
      refine bodyPost_ret (v:=.tuple #[.agg #[.int .u8 0,.int .i64 0,.int .i64 0,.int .i64 0,.int .i64 0],.int .i64 0,.int .i64 10]) (by simp[results,results103,go_sem,y0,y1,y2,y3,y4]) rfl ?_
      exact⟨FZ,0,0,0,0,0,10,rfl,.inl ⟨by omega,by omega,HD2.out⟩⟩
   ·have g1:¬ (k:Int)<(nB:Int):=by omega
    have hd:bH m f L (bl c) i=.inr ⟨i,p,c[i].toNat,ns.getD 0 0,ns.getD 1 0⟩:=by
     rw[HD.out,hR.out,List.drop_eq_nil_of_le (by omega)]
     simp[iO]
    obtain⟨len,hlen⟩:∃ len,p=i+len:=⟨p-i,by omega⟩
    have hI:(p:Int)-(i:Int)=(len:Int):=by omega
    have HD2:Hid _:=AI hd hlen
    have HDM:Hid _:=DMr
    obtain⟨va,hva⟩:=eX (min (ns.getD 0 0) 2000000000)
    obtain⟨vb,hvb⟩:=eX (min (ns.getD 1 0) 2000000000)
    rw[hva,hvb] at DMr
    obtain⟨a0,a1,a2,a3,a4⟩:=fL.st DMr
    obtain⟨r0,r1,r2,r3,r4⟩:=fL.rs DMr
    obtain⟨rz0,rz1,rz2,rz3,rz4⟩:=fL.fz DMr
    have HV:Hid _:=AI hva (AI hvb DMr)
    clear hd hR HD DMr Fr1 HBX HDMb hkB hk hlen hva hvb HDM
    rw[hkk,hnB]
    clear hkk hnB
    go_wp2
    obtain⟨hva,hvb,DMr⟩:=HV.out
    change bodyPost prog f103 (RdP m f L c i w) Exit.ret _ (cK wr W1.heap.size (.int .u8 (c[i].toNat:Nat)) (.int .i64 (i:Nat)) (.int .i64 (va:Nat)) (.int .i64 (vb:Nat)) (.int .i64 0))
    obtain⟨y0,y1,y2,y3,y4⟩:=bQ (W:=wr) (g:=W1.heap.size) (.int .u8 (c[i].toNat:Nat)) (.int .i64 (i:Nat)) (.int .i64 (va:Nat)) (.int .i64 (vb:Nat)) (.int .i64 0) r0 r1 r2 r3 r4
    have FZ:=fL.put DMr (.int .u8 (c[i].toNat:Nat)) (.int .i64 (i:Nat)) (.int .i64 (va:Nat)) (.int .i64 (vb:Nat)) (.int .i64 0)
    generalize cK wr W1.heap.size (.int .u8 (c[i].toNat:Nat)) (.int .i64 (i:Nat)) (.int .i64 (va:Nat)) (.int .i64 (vb:Nat)) (.int .i64 0)=Z at *
    refine bodyPost_ret (v:=.tuple #[.agg #[.int .u8 (c[i].toNat:Nat),.int .i64 (i:Nat),.int .i64 (va:Nat),.int .i64 (vb:Nat),.int .i64 0],.int .i64 (len:Nat),.int .i64 0]) (by simp[results,results103,go_sem,y0,y1,y2,y3,y4]) rfl ?_
    exact⟨FZ,c[i].toNat,i,va,vb,len,0,rfl,.inr ⟨rfl,_,HD2.out.1,rfl,rfl,hva.symm,hvb.symm,HD2.out.2⟩⟩
theorem aQw (n:Int)(w:World):Calls prog 151 #[.int .i64 n] w fun e w'=>e=.returned (.bool false)∧w'=w:=by
 go_enter func151,ntmps151
 go_wp2
 go_ret
 exact⟨rfl,rfl⟩
def cmpI (a b:Nat):Int:=if a<b then -1 else if b<a then 1 else 0
theorem aJd (a b:Nat)(w:World):Calls prog 142 #[.int .i64 a,.int .i64 b] w fun e w'=>e=.returned (.int .i64 (cmpI a b))∧w'=w:=by
 have H1:Hid _:=fun (n:Int)=>aQw n w
 by_cases h1:a<b
 ·have hr:cmpI a b = -1:=by unfold cmpI;rw[if_pos h1]
  rw[hr]
  have g1:(a:Int)<(b:Int):=by omega
  clear hr
  go_enter func142,ntmps142
  go_wp2_with fail
  refine (H1.out _).mono ?_
  rintro e w1 ⟨rfl,hw⟩
  replace hw:=hw.symm
  subst hw
  go_wp2_with fail
  refine (H1.out _).mono ?_
  rintro e w1 ⟨rfl,hw⟩
  replace hw:=hw.symm
  subst hw
  go_wp2
  go_ret
  exact⟨rfl,rfl⟩
 ·by_cases h2:b<a
  ·have hr:cmpI a b=1:=by unfold cmpI;rw[if_neg h1,if_pos h2]
   rw[hr]
   have g1:¬ (a:Int)<(b:Int):=by omega
   have g2:(b:Int)<(a:Int):=by omega
   clear hr
   go_enter func142,ntmps142
   go_wp2_with fail
   refine (H1.out _).mono ?_
   rintro e w1 ⟨rfl,hw⟩
   replace hw:=hw.symm
   subst hw
   go_wp2_with fail
   refine (H1.out _).mono ?_
   rintro e w1 ⟨rfl,hw⟩
   replace hw:=hw.symm
   subst hw
   go_wp2
   go_ret
   exact⟨rfl,rfl⟩
  ·have hr:cmpI a b=0:=by unfold cmpI;rw[if_neg h1,if_neg h2]
   rw[hr]
   have g1:¬ (a:Int)<(b:Int):=by omega
   have g2:¬ (b:Int)<(a:Int):=by omega
   clear hr
   go_enter func142,ntmps142
   go_wp2_with fail
   refine (H1.out _).mono ?_
   rintro e w1 ⟨rfl,hw⟩
   replace hw:=hw.symm
   subst hw
   go_wp2_with fail
   refine (H1.out _).mono ?_
   rintro e w1 ⟨rfl,hw⟩
   replace hw:=hw.symm
   subst hw
   go_wp2
   go_ret
   exact⟨rfl,rfl⟩
theorem m9 (op pl a b to_ p:Nat)(w:World):Calls prog 128 #[.agg #[.int .u8 op,.int .i64 pl,.int .i64 a,.int .i64 b,.int .i64 to_],.int .i64 p] w fun e w'=>e=.returned (.int .i64 (cmpI pl p))∧Fr [] w w':=by
 obtain⟨W1,hW1⟩:=eX (w.alloc (.cells #[.int .u8 op,.int .i64 pl,.int .i64 a,.int .i64 b,.int .i64 to_] 152))
 have F1:Fr [] w W1:=by rw[← hW1];exact (Fr.refl [] w).alloc _
 have k1:=wan w (.cells #[.int .u8 op,.int .i64 pl,.int .i64 a,.int .i64 b,.int .i64 to_] 152)
 rw[hW1] at k1
 have a1:W1.cell? ⟨w.heap.size,1,none⟩=some (.int .i64 pl):=cof k1 rfl
 have H1:Hid _:=fun (_:Unit)=>aJd pl p W1
 have HF:Hid _:=F1
 clear F1 k1
 go_enter func128,ntmps128
 go_wp2_with fail
 refine (H1.out ()).mono ?_
 rintro e w1 ⟨rfl,hw⟩
 replace hw:=hw.symm
 subst hw
 go_wp2
 go_ret
 exact⟨rfl,HF.out⟩
theorem aQh (op:Nat)(ho:op<256)(w:World):Calls prog 126 #[.int .u8 op] w fun e w'=>e=.returned (.bool (far op))∧w'=w:=by
 have fact:∀ k:Nat,op=k∨((op:Int)==(k:Int))=false:=fun k=>by
  by_cases e:op=k
  ·exact .inl e
  ·right;simp only[beq_eq_false_iff_ne,ne_eq];omega
 by_cases e1:op=17
 ·subst e1
  have hf:far 17=true:=rfl
  rw[hf]
  go_enter func126,ntmps126
  go_wp2
  go_ret
  exact⟨rfl,rfl⟩
 ·by_cases e2:op=48
  ·subst e2
   have hf:far 48=true:=rfl
   rw[hf]
   go_enter func126,ntmps126
   go_wp2
   go_ret
   exact⟨rfl,rfl⟩
  ·have hf:far op=(((op:Int)==49)):=by
    unfold far
    rw[show (op==48)=false by simpa using e2,show (op==17)=false by simpa using e1]
    simp only[Bool.false_or,Bool.or_false]
    by_cases e3:op=49
    ·subst e3;rfl
    ·rw[show (op==49)=false by simpa using e3];symm;simp only[beq_eq_false_iff_ne,ne_eq];omega
   have q1:((op:Int)==17)=false:=(fact 17).resolve_left e1
   have q2:((op:Int)==48)=false:=(fact 48).resolve_left e2
   rw[hf]
   generalize hq:((op:Int)==49)=q3
   clear fact hf
   go_enter func126,ntmps126
   go_wp2
   go_ret
   exact⟨rfl,rfl⟩
structure rV (W:World) (g:Nat) (L:List Stp) (T:List Nat):Prop where
 len:T.length=L.length
 cell:∀ i s t,L[i]?=some s→T[i]?=some t→W.cell? ⟨g,i*5,none⟩=some (.int .u8 (s.op:Nat))∧W.cell? ⟨g,i*5+1,none⟩=some (.int .i64 (s.pl:Nat))∧W.cell? ⟨g,i*5+2,none⟩=some (.int .i64 (min s.a 2000000000:Nat))∧W.cell? ⟨g,i*5+3,none⟩=some (.int .i64 (min s.b 2000000000:Nat))∧W.cell? ⟨g,i*5+4,none⟩=some (.int .i64 (t:Nat))
 fz:∀ k,W.frozen? ⟨g,k,none⟩=false
theorem rV.fr {W W':World}{g:Nat}{L:List Stp}{T:List Nat} (h:rV W g L T) {S:List Nat} (hg:g<W.heap.size) (hf:Fr S W W') (hS:g ∉ S):rV W' g L T:=
 ⟨h.len,fun i s t hs ht=>by
  obtain⟨h0,h1,h2,h3,h4⟩:=h.cell i s t hs ht
  exact⟨(hf.cell (p:=⟨g,i*5,none⟩) hg hS).trans h0,(hf.cell (p:=⟨g,i*5+1,none⟩) hg hS).trans h1,(hf.cell (p:=⟨g,i*5+2,none⟩) hg hS).trans h2,(hf.cell (p:=⟨g,i*5+3,none⟩) hg hS).trans h3,(hf.cell (p:=⟨g,i*5+4,none⟩) hg hS).trans h4⟩,fun k=>(hf.frozen (p:=⟨g,k,none⟩) hg hS).trans (h.fz k)⟩
def bGa (L:List Stp) (p n:Nat) (e:Ending):Prop:=∃ (k:Nat) (b:Bool),e=.returned (.tuple #[.int .i64 k,.bool b])∧k≤n∧((b=true∧dY L p=some k)∨(b=false∧dY L p=none))
theorem aKr (g:Nat)(L:List Stp)(T:List Nat)(n cap p:Nat)(hn:L.length=n)(h0:0<n)(hn2:n≤20000)(w:World)(hg:g<w.heap.size)(hI:rV w g L T)(hs:nP 0 L) :
  Calls prog 127 #[.slice (some ⟨g,0,none⟩) n cap,.int .i64 p,.func (.func 128) #[] #[]] w fun e w'=>Fr [] w w'∧bGa L p n e:=by
 have hlt:=hs.lt
 have HL:Hid _:=AI hlt (AI hs (AI hI hn))
 clear hlt hs hI hn
 go_enter func127,ntmps127
 go_wp2
 go_loopw [9,10] (fun a b wr=>∃ lo hi:Nat,a=.int .i64 (lo:Nat)∧b=.int .i64 (hi:Nat)∧lo≤hi∧hi≤n∧Fr [] w wr∧Hid (∀ q s,L[q]?=some s→(q<lo→s.pl<p)∧(hi≤q→p≤s.pl))) (fun a b _=>(intOf b).toNat-(intOf a).toNat)
 case atStart=>exact⟨0,n,rfl,rfl,by omega,by omega,Fr.refl [] _,fun q s hq=>⟨fun h=>absurd h (by omega),fun h=>absurd (Lgs.1 hq).1 (by rw[HL.out.2.2.2];omega)⟩⟩
 case round=>
  obtain⟨lo,hi,rfl,rfl,hlh,hhn,F1,hQ⟩:=hrel
  by_cases hl:lo<hi
  ·have g1:(lo:Int)<(hi:Int):=by omega
   obtain⟨h,hh⟩:=eX ((lo+hi) / 2)
   have hm:((lo:Int)+(hi:Int)) / 2=(h:Int):=by omega
   have hh1:lo≤h:=by omega
   have hh2:h<hi:=by omega
   have g2:(h:Int)<(n:Int):=by omega
   obtain⟨s,hs⟩:∃ s,L[h]?=some s:=⟨_,Lge (by rw[HL.out.2.2.2];omega)⟩
   obtain⟨t,ht⟩:∃ t,T[h]?=some t:=⟨_,Lge (by rw[HL.out.2.2.1.len,HL.out.2.2.2];omega)⟩
   obtain⟨x0,x1,x2,x3,x4⟩:=(HL.out.2.2.1.fr hg F1 (by simp)).cell h s t hs ht
   have HB:Hid _:=fun (_:Unit)=>m9 s.op s.pl (min s.a 2000000000) (min s.b 2000000000) t p wr
   obtain⟨sa,hsa⟩:=eX (min s.a 2000000000)
   obtain⟨sb,hsb⟩:=eX (min s.b 2000000000)
   rw[hsa] at x2 HB
   rw[hsb] at x3 HB
   have HS:Hid _:=hs
   have HF:Hid _:=F1
   clear hs ht hsa hsb hh F1
   go_wp2_with fail
   refine (HB.out ()).mono ?_
   rintro e w2 ⟨rfl,F2⟩
   by_cases hc:s.pl<p
   ·have hr:cmpI s.pl p = -1:=by unfold cmpI;rw[if_pos hc]
    rw[hr]
    clear x0 x1 x2 x3 x4 hr HB
    go_wp2
    refine⟨⟨h+1,hi,by go_num,rfl,by omega,by omega,HF.out.trans F2,fun q s' hq=>⟨fun hq2=>?_,fun hq2=>(hQ.out q s' hq).2 hq2⟩⟩,?_⟩
    ·by_cases e:q<lo
     ·exact (hQ.out q s' hq).1 e
     ·rcases Nat.lt_or_ge q h with c | c
      ·have:=HL.out.1 q h s' s c hq HS.out
       omega
      ·have e2:q=h:=by omega
       subst e2
       rw[HS.out] at hq
       cases hq
       exact hc
    ·simp[intOf]
     omega
   ·have hr:¬ cmpI s.pl p<0:=by unfold cmpI;rw[if_neg hc];split <;> omega
    generalize cmpI s.pl p=y at hr
    clear x0 x1 x2 x3 x4 HB
    go_wp2
    refine⟨⟨lo,h,rfl,rfl,by omega,by omega,HF.out.trans F2,fun q s' hq=>⟨fun hq2=>(hQ.out q s' hq).1 hq2,fun hq2=>?_⟩⟩,?_⟩
    ·rcases Nat.lt_or_ge h q with c | c
     ·have:=HL.out.1 h q s s' c HS.out hq
      omega
     ·have e2:q=h:=by omega
      subst e2
      rw[HS.out] at hq
      cases hq
      omega
    ·simp[intOf]
     omega
  ·have g1:¬ (lo:Int)<(hi:Int):=by omega
   have ehl:hi=lo:=by omega
   by_cases hln:lo<n
   ·have g2:(lo:Int)<(n:Int):=by omega
    obtain⟨s,hs⟩:∃ s,L[lo]?=some s:=⟨_,Lge (by rw[HL.out.2.2.2];omega)⟩
    obtain⟨t,ht⟩:∃ t,T[lo]?=some t:=⟨_,Lge (by rw[HL.out.2.2.1.len,HL.out.2.2.2];omega)⟩
    obtain⟨x0,x1,x2,x3,x4⟩:=(HL.out.2.2.1.fr hg F1 (by simp)).cell lo s t hs ht
    have HB:Hid _:=fun (_:Unit)=>m9 s.op s.pl (min s.a 2000000000) (min s.b 2000000000) t p wr
    obtain⟨sa,hsa⟩:=eX (min s.a 2000000000)
    obtain⟨sb,hsb⟩:=eX (min s.b 2000000000)
    rw[hsa] at x2 HB
    rw[hsb] at x3 HB
    have HS:Hid _:=hs
    have HF:Hid _:=F1
    have hQ2:=(hQ.out lo s hs).2 (by omega)
    clear hs ht hsa hsb F1
    have HE:Hid _:=ehl
    clear ehl
    go_wp2_with fail
    refine (HB.out ()).mono ?_
    rintro e w2 ⟨rfl,F2⟩
    by_cases hc:s.pl=p
    ·have hr:cmpI s.pl p=0:=by unfold cmpI;rw[if_neg (by omega),if_neg (by omega)]
     rw[hr]
     have HC:Hid _:=hc
     clear x0 x1 x2 x3 x4 hr HB hc
     go_wp2
     go_ret2
     exact⟨HF.out.trans F2,lo,true,rfl,by omega,.inl ⟨rfl,aXz HL.out.2.1 HS.out HC.out⟩⟩
    ·have hr:(cmpI s.pl p==0)=false:=by
      have hx:cmpI s.pl p=1:=by unfold cmpI;rw[if_neg (by omega),if_pos (by omega)]
      rw[hx]
      rfl
     generalize cmpI s.pl p=y at hr
     clear x0 x1 x2 x3 x4 HB
     go_wp2
     go_ret2
     refine⟨HF.out.trans F2,lo,false,rfl,by omega,.inr ⟨rfl,?_⟩⟩
     cases hq:dY L p with
     | none=>rfl
     | some q=>
      exfalso
      obtain⟨s',hs',hp'⟩:=rK hq
      have h1:=hQ.out q s' hs'
      rcases Nat.lt_trichotomy q lo with c | c | c
      ·have:=h1.1 c;omega
      ·subst c
       rw[HS.out] at hs'
       cases hs'
       exact hc hp'
      ·have:=HL.out.1 lo q s s' c HS.out hs'
       omega
   ·have g2:¬ (lo:Int)<(n:Int):=by omega
    have HF:Hid _:=F1
    clear F1
    have HE:Hid _:=ehl
    clear ehl
    have hnone:dY L p=none:=by
     cases hq:dY L p with
     | none=>rfl
     | some q=>
      exfalso
      obtain⟨s',hs',hp'⟩:=rK hq
      have h1:=(hQ.out q s' hs').1 (by have:=(Lgs.1 hs').1;have:=HL.out.2.2.2;omega)
      omega
    have HN:Hid _:=hnone
    clear hnone
    go_wp2
    go_ret2
    exact⟨HF.out,lo,false,rfl,by omega,.inr ⟨rfl,HN.out⟩⟩
end Go.Proofs.YtgpamchpeamnfaaGreatDoor
