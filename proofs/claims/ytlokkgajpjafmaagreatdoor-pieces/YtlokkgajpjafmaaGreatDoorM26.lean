import Derived.Test.YtlokkgajpjafmaaGreatDoorM25
set_option linter.unusedSimpArgs false
set_option linter.unusedVariables false
set_option maxRecDepth 100000
set_option maxHeartbeats 40000000
open _root_.Go.Proofs.Tryz
namespace Go.Proofs.YtlokkgajpjafmaaGreatDoor
open Go.RowKit
open Wire Flow Mach
structure dU (w W:WL) (x y z:Nat) (mc:Array Value) (v0 v1 v2 v3 v4:Value):Prop where
 fr:Fr [] w W
 mo:W.heap[x]?=some (.cells mc 25)
 re:W.heap[y]?=some (.cells #[.int .u8 0,.int .i64 0,.int .i64 0,.int .i64 0,.int .i64 0] 96)
 sp:W.heap[z]?=some (.cells #[v0,v1,v2,v3,v4] 96)
 lx:w.heap.size≤x
 ly:w.heap.size≤y
 lz:w.heap.size≤z
 ne:x≠z∧y≠z
theorem dU.st {w W:WL}{x y z:Nat}{mc:Array Value}{v0 v1 v2 v3 v4:Value} (h:dU w W x y z mc v0 v1 v2 v3 v4) :
  W.cell? (Ad z 0)=some v0∧W.cell? (Ad z 1)=some v1∧W.cell? (Ad z 2)=some v2∧W.cell? (Ad z 3)=some v3∧W.cell? (Ad z 4)=some v4:=by
 unfold World.cell?;rw[h.sp];exact⟨rfl,rfl,rfl,rfl,rfl⟩
theorem dU.rs {w W:WL}{x y z:Nat}{mc:Array Value}{v0 v1 v2 v3 v4:Value} (h:dU w W x y z mc v0 v1 v2 v3 v4) :
  W.cell? (Ad y 0)=some (.int .u8 0)∧W.cell? (Ad y 1)=some (iA 0)∧W.cell? (Ad y 2)=some (iA 0)∧W.cell? (Ad y 3)=some (iA 0)∧W.cell? (Ad y 4)=some (iA 0):=by
 unfold World.cell?;rw[h.re];exact⟨rfl,rfl,rfl,rfl,rfl⟩
theorem dU.fz {w W:WL}{x y z:Nat}{mc:Array Value}{v0 v1 v2 v3 v4:Value} (h:dU w W x y z mc v0 v1 v2 v3 v4) :
  W.frozen? (Ad y 0)=false∧W.frozen? (Ad y 1)=false∧W.frozen? (Ad y 2)=false∧W.frozen? (Ad y 3)=false∧W.frozen? (Ad y 4)=false:=by
 unfold World.frozen?;rw[h.re];simp
theorem dU.sz {w W:WL}{x y z:Nat}{mc:Array Value}{v0 v1 v2 v3 v4:Value} (h:dU w W x y z mc v0 v1 v2 v3 v4) :
  W.frozen? (Ad z 2)=false∧W.frozen? (Ad z 3)=false∧W.frozen? (Ad z 4)=false:=by
 unfold World.frozen?;rw[h.sp];simp
theorem dU.put {w W:WL}{x y z:Nat}{mc:Array Value}{v0 v1 v2 v3 v4:Value} (h:dU w W x y z mc v0 v1 v2 v3 v4) (u0 u1 u2 u3 u4:Value):Fr [] w (iS W y u0 u1 u2 u3 u4):=
 h.fr.trans' (L8 W y u0 u1 u2 u3 u4) (fun q hq=>.inr (by have:=h.ly;simp at hq;omega))
theorem dU.to {w W W':WL}{x y z:Nat}{mc:Array Value}{v0 v1 v2 v3 v4:Value} (h:dU w W x y z mc v0 v1 v2 v3 v4) (hf:Fr [] W W'):dU w W' x y z mc v0 v1 v2 v3 v4:=
 ⟨h.fr.trans hf,(hf.block _ (Age.1 h.mo).1 (by simp)).trans h.mo,(hf.block _ (Age.1 h.re).1 (by simp)).trans h.re,(hf.block _ (Age.1 h.sp).1 (by simp)).trans h.sp,h.lx,h.ly,h.lz,h.ne⟩
theorem dU.set2 {w W:WL}{x y z:Nat}{mc:Array Value}{v0 v1 v2 v3 v4:Value} (h:dU w W x y z mc v0 v1 v2 v3 v4) (u:Value):dU w (W.setCell ⟨z,2,none⟩ u) x y z mc v0 v1 u v3 v4:=
 ⟨h.fr.setCell (p:=⟨z,2,none⟩) (.inr h.lz) u,(aV h.ne.1).trans h.mo,(aV h.ne.2).trans h.re,xO h.sp,h.lx,h.ly,h.lz,h.ne⟩
theorem dU.set3 {w W:WL}{x y z:Nat}{mc:Array Value}{v0 v1 v2 v3 v4:Value} (h:dU w W x y z mc v0 v1 v2 v3 v4) (u:Value):dU w (W.setCell ⟨z,3,none⟩ u) x y z mc v0 v1 v2 u v4:=
 ⟨h.fr.setCell (p:=⟨z,3,none⟩) (.inr h.lz) u,(aV h.ne.1).trans h.mo,(aV h.ne.2).trans h.re,xO h.sp,h.lx,h.ly,h.lz,h.ne⟩
def eS (c:LB):List (Int × Int)→Nat→Option (LN × Nat)
 | [],p=>some ([],p)
 | b :: r,p=>match num (c.drop p) with
  | none=>none
  | some (n,rest)=>if b.1≤(n:Int)∧(n:Int)≤b.2 then (eS c r (c.length-rest.length)).map (fun q=>(n :: q.1,q.2)) else none
theorem vR (m:Mo)(L sort n:Nat):pE m L sort n=true↔(low sort:Int)≤(n:Int)∧(n:Int)≤(dQ m L sort:Int)-1:=by
 unfold pE;simp only[Bool.and_eq_true,decide_eq_true_eq];omega
theorem aCx {m:Mo}{f L:Nat}{c:LB}{i op:Nat} (ho:(c.getD i 0).toNat=op) (hm:fT f op=true) (hMo:zH m) :
  bH m f L c i=match eS c (rD m L op) (i+1) with
   | none=>.inl 10
   | some q=>.inr ⟨i,q.2,op,q.1.getD 0 0,q.1.getD 1 0⟩:=by
 unfold bH;rw[ho,if_pos hm];unfold rD;by_cases hz:eP.getD op 0=0
 ·rw[if_pos hz,if_pos hz];rfl
 rw[if_neg hz,if_neg hz];by_cases h38:op=38
 ·subst h38;rw[if_pos rfl];have hs:eP.getD 38 0=5:=rfl;rw[hs];have f5:∀ n,pE m L 5 n=true↔(0:Int)≤(n:Int)∧(n:Int)≤m.arrs-1:=fun n=>by
   rw[vR];simp only[low,dQ,Nat.reduceEqDiff,if_true,if_false];have:=hMo.a;omega
  have f6:∀ n,pE m L 6 n=true↔(0:Int)≤(n:Int)∧(n:Int)≤(m.pats.length:Int)-1:=fun n=>by
   rw[vR];simp only[low,dQ,Nat.reduceEqDiff,if_true,if_false];omega
  unfold iT;simp only[eS];cases hN:num (c.drop (i+1)) with
  | none=>rfl
  | some nr=>
   obtain⟨n,r⟩:=nr;simp only;by_cases hf:pE m L 5 n=true
   ·rw[if_pos hf,if_pos ((f5 n).1 hf)];simp only[if_true];cases hN2:num (c.drop (c.length-r.length)) with
    | none=>rfl
    | some nr2=>
     obtain⟨n2,r2⟩:=nr2;simp only;by_cases hf2:pE m L 6 n2=true
     ·rw[if_pos hf2,if_pos ((f6 n2).1 hf2)];rfl
     rw[if_neg hf2,if_neg (fun h=>hf2 ((f6 n2).2 h))];rfl
   rw[if_neg hf,if_neg (fun h=>hf ((f5 n).2 h))]
 rw[if_neg h38];unfold iT;simp only[eS];cases hN:num (c.drop (i+1)) with
 | none=>rfl
 | some nr=>
  obtain⟨n,r⟩:=nr;simp only;by_cases hf:pE m L (eP.getD op 0) n=true
  ·rw[if_pos hf,if_pos ((vR _ _ _ _).1 hf)];simp only[h38,if_false];rfl
  rw[if_neg hf,if_neg (fun h=>hf ((vR _ _ _ _).2 h))]
theorem aRc (m:Mo)(L op:Nat):(rD m L op).length≤2:=by
 unfold rD;split
 ·simp
 split <;> simp
def RdP (m:Mo) (f L:Nat) (c:BA) (i:Nat) (w:WL) (e:Ending) (w':WL):Prop:=
 Fr [] w w'∧∃ op pl a b len x:Nat,e=.returned (.tuple #[.agg #[.int .u8 op,.int .i64 pl,.int .i64 a,.int .i64 b,.int .i64 0],.int .i64 len,.int .i64 x]) ∧
  ((x≠0∧x≤20∧bH m f L (bl c) i=.inl x) ∨
    (x=0∧∃ s,bH m f L (bl c) i=.inr s∧op=s.op∧pl=s.pl∧a=min s.a 2000000000∧b=min s.b 2000000000∧s.nx=i+len))
theorem aYe (c:BA)(p:Nat):bl (c.extract p c.size)=(bl c).drop p:=by
 rw[kT,← aO c];exact aSg _ _
theorem aAe (mv:Value)(m:Mo)(w:WL)(f i:Nat)(x:Wire.Fn)(hM:gY w mv m)(hMo:zH m)(hx:m.fns[f]?=some x)(hi:i<x.code.size) :
  Calls prog 59 #[mv,iA f,iA i] w (RdP m f x.locs.toNat x.code i w):=by
 have hOp:=fun (W:WL) (hW:Fr [] w W) (op:Nat) (ho:op<54)=>N5 mv m W f op x (hM.fr hW) hMo hx ho;obtain⟨tv,pv,fv,rfl,h1,h2,h3⟩:=hM.is;obtain⟨ad,cap,fg,fo,rfl,hcap,hx0,hxx⟩:=h3;have hf:=(Lgs.1 hx).1;obtain⟨c0,c1,hc⟩:=hxx f x hx;have hpp:=hMo.f.p x (List.mem_of_getElem? hx);obtain⟨rfl,hfg⟩:=hx0 (by omega);have hn:=hMo.f.n;have hs:x.code.size≤20000:=hpp.2.2.2.2;generalize x.locs.toNat=L at *;generalize x.code=c at *;have hdo:=fun (hm:fT f c[i].toNat=true)=>aCx (m:=m) (f:=f) (L:=L) (c:=bl c) (i:=i) (op:=c[i].toNat) (by rw[aIc hi]) hm hMo;have hd9:fT f c[i].toNat=false→bH m f L (bl c) i=.inl 9:=fun e=>by
  unfold bH;rw[aIc hi,if_neg (by rw[e];decide)]
 have hfn:f≤2000000:=by omega
 generalize m.fns.length=nf at *;have g0:(i:Int)<c.size:=by omega
 have gx:c[i].toNat<256:=c[i].toNat_lt;have g2:(f:Int)<(nf:Int):=by omega
 obtain⟨W1,hW1⟩:=eXi (w.alloc (.cells #[tv,pv,iA m.globs,iA m.arrs,.slice (some (Ad fg fo)) nf cap] 25));obtain⟨W2,hW2⟩:=eXi (W1.alloc (.cells #[.int .u8 0,iA 0,iA 0,iA 0,iA 0] 96));obtain⟨W3,hW3⟩:=eXi (W2.alloc (.cells #[.int .u8 (c[i].toNat:Nat),iA (i:Nat),iA 0,iA 0,iA 0] 96));have FA:=frA hW1
 have FB1:=frA hW2
 have FC2:=frA hW3
 have FB:Fr [] w W2:=FA.trans FB1;have FC:Fr [] w W3:=FB.trans FC2;have z1:W1.heap.size=w.heap.size+1:=by rw[← hW1];simp
 have z2:W2.heap.size=w.heap.size+2:=by rw[← hW2];simp[z1]
 have k1:=wan w (.cells #[tv,pv,iA m.globs,iA m.arrs,.slice (some (Ad fg fo)) nf cap] 25);have k2:=wan W1 (.cells #[.int .u8 0,iA 0,iA 0,iA 0,iA 0] 96);have k3:=wan W2 (.cells #[.int .u8 (c[i].toNat:Nat),iA (i:Nat),iA 0,iA 0,iA 0] 96);rw[hW1] at k1;rw[hW2] at k2;rw[hW3] at k3;have hc2:=(FB.cell (p:=Ad fg (fo+f*3+2)) hfg (by simp)).trans hc;have hm2:W2.cell? (Ad w.heap.size 4)=some (.slice (some (Ad fg fo)) nf cap):=by
  refine (FB1.cell (p:=Ad w.heap.size 4) (by simp only;omega) (by simp)).trans ?_;unfold World.cell?;rw[k1];rfl
 have s2:W3.setCell ⟨W2.heap.size,2,none⟩ (.int .i64 0)=W3:=fA k3 rfl;have s3:W3.setCell ⟨W2.heap.size,3,none⟩ (.int .i64 0)=W3:=fA k3 rfl;have s4:W3.setCell ⟨W2.heap.size,4,none⟩ (.int .i64 0)=W3:=fA k3 rfl;have fz2:W3.frozen? (Ad W2.heap.size 2)=false:=by unfold World.frozen?;rw[k3];simp
 have fz3:W3.frozen? (Ad W2.heap.size 3)=false:=by unfold World.frozen?;rw[k3];simp
 have fz4:W3.frozen? (Ad W2.heap.size 4)=false:=by unfold World.frozen?;rw[k3];simp
 have DM:dU w W3 w.heap.size W1.heap.size W2.heap.size #[tv,pv,iA m.globs,iA m.arrs,.slice (some (Ad fg fo)) nf cap] (.int .u8 (c[i].toNat:Nat)) (iA (i:Nat)) (iA 0) (iA 0) (iA 0):=
  ⟨FC,((FB1.trans FC2).block _ (by omega) (by simp)).trans k1,(FC2.block _ (by omega) (by simp)).trans k2,k3,by omega,by omega,by omega,by omega⟩
 clear FA FB1 FC2 FB FC k1 k2 k3 z1 z2 hxx hx0 hMo hM h1 h2 c0 c1 hpp hc hx hn;have HMS:Hid _:=fun (_:Unit)=>O3 f c[i].toNat W3 hfn gx;obtain⟨a0,a1,a2,a3,a4⟩:=dU.st DM;obtain⟨r0,r1,r2,r3,r4⟩:=dU.rs DM;obtain⟨rz0,rz1,rz2,rz3,rz4⟩:=dU.fz DM;cases hmay:fT f c[i].toNat with
 | false=>
  have hd:=hd9 hmay;rw[hmay] at HMS;have HD:Hid _:=hd;have HDM:Hid _:=DM;clear hd hd9 hdo hOp DM hmay;go_enter func59,ntmps59;go_wp2_with fail;refine (HMS.out ()).mono ?_;rintro e w1 ⟨rfl,hw⟩;replace hw:=hw.symm;subst hw;go_wp2;have DM:=HDM.out;change bodyPost prog f59 (RdP m f L c i w) Exit.ret _ (iS W3 W1.heap.size (.int .u8 0) (iA 0) (iA 0) (iA 0) (iA 0));obtain⟨y0,y1,y2,y3,y4⟩:=gD (W:=W3) (g:=W1.heap.size) (.int .u8 0) (iA 0) (iA 0) (iA 0) (iA 0) r0 r1 r2 r3 r4;have FZ:=dU.put DM (.int .u8 0) (iA 0) (iA 0) (iA 0) (iA 0);generalize iS W3 W1.heap.size (.int .u8 0) (iA 0) (iA 0) (iA 0) (iA 0)=Z at *;refine bodyPost_ret (v:=.tuple #[.agg #[.int .u8 0,iA 0,iA 0,iA 0,iA 0],iA 0,iA 9]) (by simp[results,results59,go_sem,y0,y1,y2,y3,y4]) rfl ?_;exact⟨FZ,0,0,0,0,0,9,rfl,.inl ⟨by omega,by omega,HD.out⟩⟩
 | true=>
  have hd:=hdo hmay;have ho54:=oY hmay;have HOp:Hid _:=fun (_:Unit)=>hOp W3 DM.fr c[i].toNat ho54;rw[hmay] at HMS;have hB2:=aRc m L c[i].toNat;generalize rD m L c[i].toNat=B at *;have HD:Hid _:=hd;have HDM:Hid _:=DM;obtain⟨m0,m1,m2,m3,m4⟩:W3.cell? (Ad w.heap.size 0)=some tv∧W3.cell? (Ad w.heap.size 1)=some pv∧W3.cell? (Ad w.heap.size 2)=some (iA m.globs)∧W3.cell? (Ad w.heap.size 3)=some (iA m.arrs)∧W3.cell? (Ad w.heap.size 4)=some (.slice (some (Ad fg fo)) nf cap):=by
   unfold World.cell?;rw[DM.mo];exact⟨rfl,rfl,rfl,rfl,rfl⟩
  clear hd hd9 hdo hOp DM hmay;go_enter func59,ntmps59;go_wp2_with fail;refine (HMS.out ()).mono ?_;rintro e w1 ⟨rfl,hw⟩;replace hw:=hw.symm;subst hw;go_wp2_with fail;refine (HOp.out ()).mono ?_;rintro e Wb ⟨v,rfl,Fb,hBn⟩;have DMb:=dU.to HDM.out Fb;clear m0 m1 m2 m3 m4 a0 a1 a2 a3 a4 r0 r1 r2 r3 r4 rz0 rz1 rz2 rz3 rz4 s2 s3 s4 fz2 fz3 fz4 HDM HOp HMS hW1 hW2 hW3 hc2 hm2;obtain⟨ba,bg,rfl,hbg,hbx⟩:∃ ba bg,v=.slice ba B.length B.length∧(0<B.length→ba=some (Ad bg 0)∧bg<Wb.heap.size∧bg≠W2.heap.size)∧∀ (j:Nat) (y:Int × Int),B[j]?=some y→Wb.cell? (Ad bg (j*2))=some (iA y.1)∧Wb.cell? (Ad bg (j*2+1))=some (iA y.2):=by
   rcases hBn with ⟨rfl,rfl⟩ | ⟨g,rfl,hg,hxy⟩
   ·exact⟨none,0,rfl,fun h=>absurd h (by simp),fun j y hj=>by simp at hj⟩
   refine⟨_,g,rfl,fun h0=>⟨rfl,hg,fun e=>?_⟩,hxy⟩;obtain⟨y,hy⟩:∃ y,B[0]?=some y:=⟨_,Lge h0⟩;have q1:=(hxy 0 y hy).1;rw[e] at q1;have q2:=DMb.st.1;simp only[Nat.zero_mul] at q1;rw[q1] at q2;simp at q2
  have HBX:Hid _:=AI hbg hbx;have HDMb:Hid _:=DMb;clear hBn hbg hbx DMb Fb;go_wp2
  go_loopw [11,41] (fun a j wr=>∃ (ns:LN) (p:Nat),j=iA (ns.length:Nat)∧a=iA (p:Nat)∧ns.length≤B.length∧i<p∧p≤c.size∧Hid (eS (bl c) B (i+1)=(eS (bl c) (B.drop ns.length) p).map (fun q=>(ns++q.1,q.2))) ∧
   dU w wr w.heap.size W1.heap.size W2.heap.size #[tv,pv,iA m.globs,iA m.arrs,.slice (some (Ad fg fo)) nf cap] (.int .u8 (c[i].toNat:Nat)) (iA (i:Nat)) (iA (min (ns.getD 0 0) 2000000000:Nat)) (iA (min (ns.getD 1 0) 2000000000:Nat)) (iA 0)∧Fr [W2.heap.size] Wb wr) (fun _ j _=>B.length-(intOf j).toNat)
  case atStart=>
   refine⟨[],i+1,rfl,by push_cast;rfl,by simp,by omega,by omega,?_,HDMb.out,Fr.refl _ _⟩;show eS (bl c) B (i+1)=_;simp
  case round=>
   obtain⟨ns,p,rfl,rfl,hk,hip,hpc,hR,DMr,Fr1⟩:=hrel;obtain⟨k,hkk⟩:=eXi (ns.length);obtain⟨nB,hnB⟩:=eXi (B.length);have hkB:k≤nB:=by omega
   by_cases hlt:k<nB
   ·have g1:(k:Int)<(nB:Int):=by omega
    obtain⟨rfl,hbgl,hbne⟩:=HBX.out.1 (by omega);obtain⟨y,hy⟩:∃ y,B[k]?=some y:=⟨_,Lge (by omega)⟩;have hdrop:B.drop k=y :: B.drop (k+1):=by
     rw[List.drop_eq_getElem_cons (by omega)];congr 1;exact (Lgs.1 hy).2
    obtain⟨x0,x1⟩:=HBX.out.2 k y hy;replace x0:=(Fr1.cell (p:=Ad bg (k*2)) hbgl (by simpa using hbne)).trans x0;replace x1:=(Fr1.cell (p:=Ad bg (k*2+1)) hbgl (by simpa using hbne)).trans x1;have hR1:=hR.out;rw[hkk,hdrop] at hR1;obtain⟨W4,hW4⟩:=eXi (wr.alloc (.cells #[iA y.1,iA y.2] 173));have F4:=frA hW4
    have k4:=kA hW4;have e0:W4.cell? (Ad wr.heap.size 0)=some (iA y.1):=cof k4 rfl;have e1:W4.cell? (Ad wr.heap.size 1)=some (iA y.2):=cof k4 rfl;have DM4:=dU.to DMr F4;have Fr4:=Fr1.trans (F4.mono (by simp));have hnr:=uM (c.extract p c.size) (by rw[ByteArray.size_extract];omega) W4;rw[aYe] at hnr;have hcl:=aO c;have gp:(p:Int)≤(c.size:Int):=by omega
    cases hN:num ((bl c).drop p) with
    | none=>
     have hV:numV ((bl c).drop p)=0:=by unfold numV;rw[hN]
     have hK:yC ((bl c).drop p)=0:=by unfold yC;rw[hN]
     rw[hV,hK] at hnr;have HNR:Hid _:=fun (_:Unit)=>hnr;have hd:bH m f L (bl c) i=.inl 10:=by
      rw[HD.out,hR1];simp only[eS,hN];rfl
     have HD2:Hid _:=hd;have HDM:Hid _:=DM4;obtain⟨a0,a1,a2,a3,a4⟩:=dU.st DM4;obtain⟨r0,r1,r2,r3,r4⟩:=dU.rs DM4;obtain⟨rz0,rz1,rz2,rz3,rz4⟩:=dU.fz DM4;clear hd hR1 hR hN HD hnr hV hK DM4 DMr Fr1 Fr4 F4 k4 HBX HDMb hdrop hy hcl hkB hk a0 a1 a2 a3 a4;rw[hkk,hnB];clear hkk hnB;go_wp2_with fail;refine (HNR.out ()).mono ?_;rintro e w1 ⟨rfl,hw⟩;replace hw:=hw.symm;subst hw;go_wp2;have DM4:=HDM.out;change bodyPost prog f59 (RdP m f L c i w) Exit.ret _ (iS W4 W1.heap.size (.int .u8 0) (iA 0) (iA 0) (iA 0) (iA 0));obtain⟨y0,y1,y2,y3,y4⟩:=gD (W:=W4) (g:=W1.heap.size) (.int .u8 0) (iA 0) (iA 0) (iA 0) (iA 0) r0 r1 r2 r3 r4;have FZ:=dU.put DM4 (.int .u8 0) (iA 0) (iA 0) (iA 0) (iA 0);generalize iS W4 W1.heap.size (.int .u8 0) (iA 0) (iA 0) (iA 0) (iA 0)=Z at *;refine bodyPost_ret (v:=.tuple #[.agg #[.int .u8 0,iA 0,iA 0,iA 0,iA 0],iA 0,iA 10]) (by simp[results,results59,go_sem,y0,y1,y2,y3,y4]) rfl ?_;exact⟨FZ,0,0,0,0,0,10,rfl,.inl ⟨by omega,by omega,HD2.out⟩⟩
    | some nr=>
     obtain⟨n,r⟩:=nr;have hn36:=(aBb hN).2;have hsh:=sL 5 true _ _ _ hN;rw[List.length_drop,hcl] at hsh;have hV:numV ((bl c).drop p)=n:=by unfold numV;rw[hN]
     have hK:yC ((bl c).drop p)=c.size-p-r.length:=by unfold yC;rw[hN,List.length_drop,hcl]
     obtain⟨K0,hK0⟩:=eXi (c.size-p-r.length);rw[hV,hK,hK0] at hnr;have HNR:Hid _:=fun (_:Unit)=>hnr;have gK:0<K0:=by omega
     have gK2:p+K0≤c.size:=by omega
     have eK:c.size-r.length=p+K0:=by omega
     have qK:((K0:Int)==0)=false:=by simp;omega
     simp only[eS,hN,hcl] at hR1;have HX:Hid _:=AI hR1 (AI eK (AI Fr4 (AI DM4 (AI hkk (AI hnB hB2)))));obtain⟨y1,y2⟩:=y;simp only at e0 e1 hW4 x0 x1;obtain⟨a0,a1,a2,a3,a4⟩:=dU.st DM4;obtain⟨r0,r1,r2,r3,r4⟩:=dU.rs DM4;obtain⟨rz0,rz1,rz2,rz3,rz4⟩:=dU.fz DM4;clear hnr hN hV hK hK0 DMr Fr1 F4 k4 HBX HDMb hdrop hy hcl hR hR1 eK DM4 Fr4 hsh;by_cases hf1:y1≤(n:Int)
     ·by_cases hf2:(n:Int)≤y2
      ·have q3:decide ((n:Int)<y1)=false:=decide_eq_false (by omega);have q4:decide (y2<(n:Int))=false:=decide_eq_false (by omega);obtain⟨nm,hnm⟩:=eXi (min n 2000000000);have hnmI:min (n:Int) 2000000000=(nm:Int):=by omega
       obtain⟨p2,hp2⟩:=eXi (p+K0);have hpI:(p:Int)+(K0:Int)=(p2:Int):=by omega
       have hp2c:p2≤c.size:=by omega
       have hp2i:i<p2:=by omega
       have HP2:Hid _:=AI hp2 hnm;clear hp2 hnm;clear r0 r1 r2 r3 r4 rz0 rz1 rz2 rz3 rz4;rcases ns with _ | ⟨aa,_ | ⟨bb,ns⟩⟩
       ·obtain rfl:0=k:=hkk;have hR2:eS (bl c) B (i+1)=(eS (bl c) (B.drop (0+1)) p2).map (fun q=>([n]++q.1,q.2)):=by
         rw[HX.out.1,if_pos ⟨hf1,hf2⟩,HX.out.2.1,HP2.out.1,Option.map_map];rfl
        have DM5:=dU.set2 HX.out.2.2.2.1 (iA (nm:Nat));have fz5:=(dU.sz HX.out.2.2.2.1).1;obtain⟨W5,hW5⟩:=eXi (W4.setCell ⟨W2.heap.size,2,none⟩ (.int .i64 (nm:Nat)));rw[hW5] at DM5;have F5:Fr [W2.heap.size] Wb W5:=by rw[← hW5];exact HX.out.2.2.1.setCell (p:=⟨W2.heap.size,2,none⟩) (.inl (by simp)) _
        have HY:Hid _:=AI hR2 (AI DM5 F5);simp only[List.length_cons,List.length_nil,Nat.zero_add] at *;rw[hnB];clear hR2 DM5 F5 HD hkB hk HX;go_wp2_with fail;refine (HNR.out ()).mono ?_;rintro e w1 ⟨rfl,hw⟩;replace hw:=hw.symm;subst hw;go_wp2;refine⟨⟨[n],p2,rfl,rfl,by simp;omega,hp2i,hp2c,HY.out.1,?_,HY.out.2.2⟩,?_⟩
        ·have h:=HY.out.2.1;rw[← HP2.out.2] at h;exact h
        simp[intOf];omega
       ·obtain rfl:1=k:=hkk;have hR2:eS (bl c) B (i+1)=(eS (bl c) (B.drop (1+1)) p2).map (fun q=>([aa,n]++q.1,q.2)):=by
         rw[HX.out.1,if_pos ⟨hf1,hf2⟩,HX.out.2.1,HP2.out.1,Option.map_map];rfl
        have DM5:=dU.set3 HX.out.2.2.2.1 (iA (nm:Nat));have fz5:=(dU.sz HX.out.2.2.2.1).2.1;obtain⟨W5,hW5⟩:=eXi (W4.setCell ⟨W2.heap.size,3,none⟩ (.int .i64 (nm:Nat)));rw[hW5] at DM5;have F5:Fr [W2.heap.size] Wb W5:=by rw[← hW5];exact HX.out.2.2.1.setCell (p:=⟨W2.heap.size,3,none⟩) (.inl (by simp)) _
        have HY:Hid _:=AI hR2 (AI DM5 F5);simp only[List.length_cons,List.length_nil,Nat.zero_add] at *;rw[hnB];clear hR2 DM5 F5 HD hkB hk HX;go_wp2_with fail;refine (HNR.out ()).mono ?_;rintro e w1 ⟨rfl,hw⟩;replace hw:=hw.symm;subst hw;go_wp2;refine⟨⟨[aa,n],p2,rfl,rfl,by simp;omega,hp2i,hp2c,HY.out.1,?_,HY.out.2.2⟩,?_⟩
        ·have h:=HY.out.2.1;rw[← HP2.out.2] at h;exact h
        simp[intOf];omega
       simp only[List.length_cons] at hkk;omega
      have q3:decide ((n:Int)<y1)=false:=decide_eq_false (by omega);have q4:decide (y2<(n:Int))=true:=decide_eq_true (by omega);have hd:bH m f L (bl c) i=.inl 10:=by
       rw[HD.out,HX.out.1,if_neg (fun h=>hf2 h.2)];rfl
      have HD2:Hid _:=hd;clear hd HD a0 a1 a2 a3 a4 hkB hk;rw[hkk,hnB];clear hkk hnB;go_wp2_with fail;refine (HNR.out ()).mono ?_;rintro e w1 ⟨rfl,hw⟩;replace hw:=hw.symm;subst hw;go_wp2;have DM4:=HX.out.2.2.2.1;change bodyPost prog f59 (RdP m f L c i w) Exit.ret _ (iS W4 W1.heap.size (.int .u8 0) (iA 0) (iA 0) (iA 0) (iA 0));obtain⟨y0,y1,y2,y3,y4⟩:=gD (W:=W4) (g:=W1.heap.size) (.int .u8 0) (iA 0) (iA 0) (iA 0) (iA 0) r0 r1 r2 r3 r4;have FZ:=dU.put DM4 (.int .u8 0) (iA 0) (iA 0) (iA 0) (iA 0);generalize iS W4 W1.heap.size (.int .u8 0) (iA 0) (iA 0) (iA 0) (iA 0)=Z at *;refine bodyPost_ret (v:=.tuple #[.agg #[.int .u8 0,iA 0,iA 0,iA 0,iA 0],iA 0,iA 10]) (by simp[results,results59,go_sem,y0,y1,y2,y3,y4]) rfl ?_;exact⟨FZ,0,0,0,0,0,10,rfl,.inl ⟨by omega,by omega,HD2.out⟩⟩
     have q3:decide ((n:Int)<y1)=true:=decide_eq_true (by omega);have hd:bH m f L (bl c) i=.inl 10:=by
      rw[HD.out,HX.out.1,if_neg (fun h=>hf1 h.1)];rfl
     have HD2:Hid _:=hd;clear hd HD a0 a1 a2 a3 a4 hkB hk;rw[hkk,hnB];clear hkk hnB;go_wp2_with fail;refine (HNR.out ()).mono ?_;rintro e w1 ⟨rfl,hw⟩;replace hw:=hw.symm;subst hw;go_wp2;have DM4:=HX.out.2.2.2.1;change bodyPost prog f59 (RdP m f L c i w) Exit.ret _ (iS W4 W1.heap.size (.int .u8 0) (iA 0) (iA 0) (iA 0) (iA 0));obtain⟨y0,y1,y2,y3,y4⟩:=gD (W:=W4) (g:=W1.heap.size) (.int .u8 0) (iA 0) (iA 0) (iA 0) (iA 0) r0 r1 r2 r3 r4;have FZ:=dU.put DM4 (.int .u8 0) (iA 0) (iA 0) (iA 0) (iA 0);generalize iS W4 W1.heap.size (.int .u8 0) (iA 0) (iA 0) (iA 0) (iA 0)=Z at *;refine bodyPost_ret (v:=.tuple #[.agg #[.int .u8 0,iA 0,iA 0,iA 0,iA 0],iA 0,iA 10]) (by simp[results,results59,go_sem,y0,y1,y2,y3,y4]) rfl ?_;exact⟨FZ,0,0,0,0,0,10,rfl,.inl ⟨by omega,by omega,HD2.out⟩⟩
   have g1:¬ (k:Int)<(nB:Int):=by omega
   have hd:bH m f L (bl c) i=.inr ⟨i,p,c[i].toNat,ns.getD 0 0,ns.getD 1 0⟩:=by
    rw[HD.out,hR.out,List.drop_eq_nil_of_le (by omega)];simp[eS]
   obtain⟨len,hlen⟩:∃ len,p=i+len:=⟨p-i,by omega⟩;have hI:(p:Int)-(i:Int)=(len:Int):=by omega
   have HD2:Hid _:=AI hd hlen;have HDM:Hid _:=DMr;obtain⟨va,hva⟩:=eXi (min (ns.getD 0 0) 2000000000);obtain⟨vb,hvb⟩:=eXi (min (ns.getD 1 0) 2000000000);rw[hva,hvb] at DMr;obtain⟨a0,a1,a2,a3,a4⟩:=dU.st DMr;obtain⟨r0,r1,r2,r3,r4⟩:=dU.rs DMr;obtain⟨rz0,rz1,rz2,rz3,rz4⟩:=dU.fz DMr;have HV:Hid _:=AI hva (AI hvb DMr);clear hd hR HD DMr Fr1 HBX HDMb hkB hk hlen hva hvb HDM;rw[hkk,hnB];clear hkk hnB;go_wp2;obtain⟨hva,hvb,DMr⟩:=HV.out;change bodyPost prog f59 (RdP m f L c i w) Exit.ret _ (iS wr W1.heap.size (.int .u8 (c[i].toNat:Nat)) (iA (i:Nat)) (iA (va:Nat)) (iA (vb:Nat)) (iA 0));obtain⟨y0,y1,y2,y3,y4⟩:=gD (W:=wr) (g:=W1.heap.size) (.int .u8 (c[i].toNat:Nat)) (iA (i:Nat)) (iA (va:Nat)) (iA (vb:Nat)) (iA 0) r0 r1 r2 r3 r4;have FZ:=dU.put DMr (.int .u8 (c[i].toNat:Nat)) (iA (i:Nat)) (iA (va:Nat)) (iA (vb:Nat)) (iA 0);generalize iS wr W1.heap.size (.int .u8 (c[i].toNat:Nat)) (iA (i:Nat)) (iA (va:Nat)) (iA (vb:Nat)) (iA 0)=Z at *;refine bodyPost_ret (v:=.tuple #[.agg #[.int .u8 (c[i].toNat:Nat),iA (i:Nat),iA (va:Nat),iA (vb:Nat),iA 0],iA (len:Nat),iA 0]) (by simp[results,results59,go_sem,y0,y1,y2,y3,y4]) rfl ?_;exact⟨FZ,c[i].toNat,i,va,vb,len,0,rfl,.inr ⟨rfl,_,HD2.out.1,rfl,rfl,hva.symm,hvb.symm,HD2.out.2⟩⟩
theorem aKp (n:Int)(w:WL):Calls prog 175 #[iA n] w fun e w'=>e=.returned (.bool false)∧w'=w:=by
 go_enter func175,ntmps175;go_wp2;go_ret;exact⟨rfl,rfl⟩
def cmpI (a b:Nat):Int:=if a<b then -1 else if b<a then 1 else 0
theorem aCz (a b:Nat)(w:WL):Calls prog 150 #[iA a,iA b] w fun e w'=>e=.returned (iA (cmpI a b))∧w'=w:=by
 have H1:Hid _:=fun (n:Int)=>aKp n w;by_cases h1:a<b
 ·have hr:cmpI a b = -1:=by unfold cmpI;rw[if_pos h1]
  rw[hr];have g1:(a:Int)<(b:Int):=by omega
  clear hr;go_enter func150,ntmps150;go_wp2_with fail;refine (H1.out _).mono ?_;rintro e w1 ⟨rfl,hw⟩;replace hw:=hw.symm;subst hw;go_wp2_with fail;refine (H1.out _).mono ?_;rintro e w1 ⟨rfl,hw⟩;replace hw:=hw.symm;subst hw;go_wp2;go_ret;exact⟨rfl,rfl⟩
 by_cases h2:b<a
 ·have hr:cmpI a b=1:=by unfold cmpI;rw[if_neg h1,if_pos h2]
  rw[hr];have g1:¬ (a:Int)<(b:Int):=by omega
  have g2:(b:Int)<(a:Int):=by omega
  clear hr;go_enter func150,ntmps150;go_wp2_with fail;refine (H1.out _).mono ?_;rintro e w1 ⟨rfl,hw⟩;replace hw:=hw.symm;subst hw;go_wp2_with fail;refine (H1.out _).mono ?_;rintro e w1 ⟨rfl,hw⟩;replace hw:=hw.symm;subst hw;go_wp2;go_ret;exact⟨rfl,rfl⟩
 have hr:cmpI a b=0:=by unfold cmpI;rw[if_neg h1,if_neg h2]
 rw[hr];have g1:¬ (a:Int)<(b:Int):=by omega
 have g2:¬ (b:Int)<(a:Int):=by omega
 clear hr;go_enter func150,ntmps150;go_wp2_with fail;refine (H1.out _).mono ?_;rintro e w1 ⟨rfl,hw⟩;replace hw:=hw.symm;subst hw;go_wp2_with fail;refine (H1.out _).mono ?_;rintro e w1 ⟨rfl,hw⟩;replace hw:=hw.symm;subst hw;go_wp2;go_ret;exact⟨rfl,rfl⟩
theorem uX (op pl a b to_ p:Nat)(w:WL):Calls prog 102 #[.agg #[.int .u8 op,iA pl,iA a,iA b,iA to_],iA p] w fun e w'=>e=.returned (iA (cmpI pl p))∧Fr [] w w':=by
 obtain⟨W1,hW1⟩:=eXi (w.alloc (.cells #[.int .u8 op,iA pl,iA a,iA b,iA to_] 96));have F1:=frA hW1
 have k1:=kA hW1;have a1:W1.cell? (Ad w.heap.size 1)=some (iA pl):=cof k1 rfl;have H1:Hid _:=fun (_:Unit)=>aCz pl p W1;have HF:Hid _:=F1;clear F1 k1;go_enter func102,ntmps102;go_wp2_with fail;refine (H1.out ()).mono ?_;rintro e w1 ⟨rfl,hw⟩;replace hw:=hw.symm;subst hw;go_wp2;go_ret;exact⟨rfl,HF.out⟩
theorem aKc (op:Nat)(ho:op<256)(w:WL):Calls prog 100 #[.int .u8 op] w fun e w'=>e=.returned (.bool (far op))∧w'=w:=by
 have fact:∀ k:Nat,op=k∨((op:Int)==(k:Int))=false:=fun k=>by
  by_cases e:op=k
  ·exact .inl e
  right;simp only[beq_eq_false_iff_ne,ne_eq];omega
 by_cases e1:op=17
 ·subst e1;have hf:far 17=true:=rfl;rw[hf];go_enter func100,ntmps100;go_wp2;go_ret;exact⟨rfl,rfl⟩
 by_cases e2:op=48
 ·subst e2;have hf:far 48=true:=rfl;rw[hf];go_enter func100,ntmps100;go_wp2;go_ret;exact⟨rfl,rfl⟩
 have hf:far op=(((op:Int)==49)):=by
  unfold far;rw[show (op==48)=false by simpa using e2,show (op==17)=false by simpa using e1];simp only[Bool.false_or,Bool.or_false];by_cases e3:op=49
  ·subst e3;rfl
  rw[show (op==49)=false by simpa using e3];symm;simp only[beq_eq_false_iff_ne,ne_eq];omega
 have q1:((op:Int)==17)=false:=(fact 17).resolve_left e1;have q2:((op:Int)==48)=false:=(fact 48).resolve_left e2;rw[hf];generalize hq:((op:Int)==49)=q3;clear fact hf;go_enter func100,ntmps100;go_wp2;go_ret;exact⟨rfl,rfl⟩
structure mU (W:WL) (g:Nat) (L:List Stp) (T:LN):Prop where
 len:T.length=L.length
 cell:∀ i s t,L[i]?=some s→T[i]?=some t→W.cell? ⟨g,i*5,none⟩=some (.int .u8 (s.op:Nat))∧W.cell? ⟨g,i*5+1,none⟩=some (.int .i64 (s.pl:Nat))∧W.cell? ⟨g,i*5+2,none⟩=some (.int .i64 (min s.a 2000000000:Nat))∧W.cell? ⟨g,i*5+3,none⟩=some (.int .i64 (min s.b 2000000000:Nat))∧W.cell? ⟨g,i*5+4,none⟩=some (.int .i64 (t:Nat))
 fz:∀ k,W.frozen? ⟨g,k,none⟩=false
theorem mU.fr {W W':WL}{g:Nat}{L:List Stp}{T:LN} (h:mU W g L T) {S:LN} (hg:g<W.heap.size) (hf:Fr S W W') (hS:g ∉ S):mU W' g L T:=
 ⟨h.len,fun i s t hs ht=>by
  obtain⟨h0,h1,h2,h3,h4⟩:=h.cell i s t hs ht
  exact⟨(hf.cell (p:=Ad g (i*5)) hg hS).trans h0,(hf.cell (p:=Ad g (i*5+1)) hg hS).trans h1,(hf.cell (p:=Ad g (i*5+2)) hg hS).trans h2,(hf.cell (p:=Ad g (i*5+3)) hg hS).trans h3,(hf.cell (p:=Ad g (i*5+4)) hg hS).trans h4⟩,fun k=>(hf.frozen (p:=Ad g k) hg hS).trans (h.fz k)⟩
def aZw (L:List Stp) (p n:Nat) (e:Ending):Prop:=∃ (k:Nat) (b:Bool),e=.returned (.tuple #[.int .i64 k,.bool b])∧k≤n∧((b=true∧eW L p=some k)∨(b=false∧eW L p=none))
theorem aEi (g:Nat)(L:List Stp)(T:LN)(n cap p:Nat)(hn:L.length=n)(h0:0<n)(hn2:n≤20000)(w:WL)(hg:g<w.heap.size)(hI:mU w g L T)(hs:jC 0 L) :
  Calls prog 101 #[.slice (some (Ad g 0)) n cap,iA p,.func (.func 102) #[] #[]] w fun e w'=>Fr [] w w'∧aZw L p n e:=by
 have hlt:=hs.lt;have HL:Hid _:=AI hlt (AI hs (AI hI hn));clear hlt hs hI hn;go_enter func101,ntmps101;go_wp2
 go_loopw [9,10] (fun a b wr=>∃ lo hi:Nat,a=iA (lo:Nat)∧b=iA (hi:Nat)∧lo≤hi∧hi≤n∧Fr [] w wr∧Hid (∀ q s,L[q]?=some s→(q<lo→s.pl<p)∧(hi≤q→p≤s.pl))) (fun a b _=>(intOf b).toNat-(intOf a).toNat)
 case atStart=>exact⟨0,n,rfl,rfl,by omega,by omega,Fr.refl [] _,fun q s hq=>⟨fun h=>absurd h (by omega),fun h=>absurd (Lgs.1 hq).1 (by rw[HL.out.2.2.2];omega)⟩⟩
 case round=>
  obtain⟨lo,hi,rfl,rfl,hlh,hhn,F1,hQ⟩:=hrel;by_cases hl:lo<hi
  ·have g1:(lo:Int)<(hi:Int):=by omega
   obtain⟨h,hh⟩:=eXi ((lo+hi) / 2);have hm:((lo:Int)+(hi:Int)) / 2=(h:Int):=by omega
   have hh1:lo≤h:=by omega
   have hh2:h<hi:=by omega
   have g2:(h:Int)<(n:Int):=by omega
   obtain⟨s,hs⟩:∃ s,L[h]?=some s:=⟨_,Lge (by rw[HL.out.2.2.2];omega)⟩;obtain⟨t,ht⟩:∃ t,T[h]?=some t:=⟨_,Lge (by rw[HL.out.2.2.1.len,HL.out.2.2.2];omega)⟩;obtain⟨x0,x1,x2,x3,x4⟩:=(HL.out.2.2.1.fr hg F1 (by simp)).cell h s t hs ht;have HB:Hid _:=fun (_:Unit)=>uX s.op s.pl (min s.a 2000000000) (min s.b 2000000000) t p wr;obtain⟨sa,hsa⟩:=eXi (min s.a 2000000000);obtain⟨sb,hsb⟩:=eXi (min s.b 2000000000);rw[hsa] at x2 HB;rw[hsb] at x3 HB;have HS:Hid _:=hs;have HF:Hid _:=F1;clear hs ht hsa hsb hh F1;go_wp2_with fail;refine (HB.out ()).mono ?_;rintro e w2 ⟨rfl,F2⟩;by_cases hc:s.pl<p
   ·have hr:cmpI s.pl p = -1:=by unfold cmpI;rw[if_pos hc]
    rw[hr];clear x0 x1 x2 x3 x4 hr HB;go_wp2;refine⟨⟨h+1,hi,by go_num,rfl,by omega,by omega,HF.out.trans F2,fun q s' hq=>⟨fun hq2=>?_,fun hq2=>(hQ.out q s' hq).2 hq2⟩⟩,?_⟩
    ·by_cases e:q<lo
     ·exact (hQ.out q s' hq).1 e
     rcases Nat.lt_or_ge q h with c | c
     ·have:=HL.out.1 q h s' s c hq HS.out;omega
     have e2:q=h:=by omega
     subst e2;rw[HS.out] at hq;cases hq;exact hc
    simp[intOf];omega
   have hr:¬ cmpI s.pl p<0:=by unfold cmpI;rw[if_neg hc];split <;> omega
   generalize cmpI s.pl p=y at hr;clear x0 x1 x2 x3 x4 HB;go_wp2;refine⟨⟨lo,h,rfl,rfl,by omega,by omega,HF.out.trans F2,fun q s' hq=>⟨fun hq2=>(hQ.out q s' hq).1 hq2,fun hq2=>?_⟩⟩,?_⟩
   ·rcases Nat.lt_or_ge h q with c | c
    ·have:=HL.out.1 h q s s' c HS.out hq;omega
    have e2:q=h:=by omega
    subst e2;rw[HS.out] at hq;cases hq;omega
   simp[intOf];omega
  have g1:¬ (lo:Int)<(hi:Int):=by omega
  have ehl:hi=lo:=by omega
  by_cases hln:lo<n
  ·have g2:(lo:Int)<(n:Int):=by omega
   obtain⟨s,hs⟩:∃ s,L[lo]?=some s:=⟨_,Lge (by rw[HL.out.2.2.2];omega)⟩;obtain⟨t,ht⟩:∃ t,T[lo]?=some t:=⟨_,Lge (by rw[HL.out.2.2.1.len,HL.out.2.2.2];omega)⟩;obtain⟨x0,x1,x2,x3,x4⟩:=(HL.out.2.2.1.fr hg F1 (by simp)).cell lo s t hs ht;have HB:Hid _:=fun (_:Unit)=>uX s.op s.pl (min s.a 2000000000) (min s.b 2000000000) t p wr;obtain⟨sa,hsa⟩:=eXi (min s.a 2000000000);obtain⟨sb,hsb⟩:=eXi (min s.b 2000000000);rw[hsa] at x2 HB;rw[hsb] at x3 HB;have HS:Hid _:=hs;have HF:Hid _:=F1;have hQ2:=(hQ.out lo s hs).2 (by omega);clear hs ht hsa hsb F1;have HE:Hid _:=ehl;clear ehl;go_wp2_with fail;refine (HB.out ()).mono ?_;rintro e w2 ⟨rfl,F2⟩;by_cases hc:s.pl=p
   ·have hr:cmpI s.pl p=0:=by unfold cmpI;rw[if_neg (by omega),if_neg (by omega)]
    rw[hr];have HC:Hid _:=hc;clear x0 x1 x2 x3 x4 hr HB hc;go_wp2;go_ret2;exact⟨HF.out.trans F2,lo,true,rfl,by omega,.inl ⟨rfl,aSt HL.out.2.1 HS.out HC.out⟩⟩
   have hr:(cmpI s.pl p==0)=false:=by
    have hx:cmpI s.pl p=1:=by unfold cmpI;rw[if_neg (by omega),if_pos (by omega)]
    rw[hx];rfl
   generalize cmpI s.pl p=y at hr;clear x0 x1 x2 x3 x4 HB;go_wp2;go_ret2;refine⟨HF.out.trans F2,lo,false,rfl,by omega,.inr ⟨rfl,?_⟩⟩;cases hq:eW L p with
   | none=>rfl
   | some q=>
    exfalso;obtain⟨s',hs',hp'⟩:=jX hq;have h1:=hQ.out q s' hs';rcases Nat.lt_trichotomy q lo with c | c | c
    ·have:=h1.1 c;omega
    ·subst c;rw[HS.out] at hs';cases hs';exact hc hp'
    have:=HL.out.1 lo q s s' c HS.out hs';omega
  have g2:¬ (lo:Int)<(n:Int):=by omega
  have HF:Hid _:=F1;clear F1;have HE:Hid _:=ehl;clear ehl;have hnone:eW L p=none:=by
   cases hq:eW L p with
   | none=>rfl
   | some q=>
    exfalso;obtain⟨s',hs',hp'⟩:=jX hq;have h1:=(hQ.out q s' hs').1 (by have:=(Lgs.1 hs').1;have:=HL.out.2.2.2;omega);omega
  have HN:Hid _:=hnone;clear hnone;go_wp2;go_ret2;exact⟨HF.out,lo,false,rfl,by omega,.inr ⟨rfl,HN.out⟩⟩
theorem mU.set {W:WL}{g:Nat}{L:List Stp}{T:LN} (h:mU W g L T) {k:Nat} (hk:k<L.length) (v:Nat):mU (W.setCell ⟨g,k*5+4,none⟩ (.int .i64 (v:Nat))) g L (T.set k v):=by
 refine⟨by rw[List.length_set];exact h.len,fun i s t hs ht=>?_,fun j=>by rw[wfz];exact h.fz j⟩;by_cases e:i=k
 ·subst e;rw[List.getElem?_set_self (by rw[h.len];exact hk)] at ht;obtain⟨t0,ht0⟩:∃ t0,T[i]?=some t0:=⟨_,Lge (by rw[h.len];exact hk)⟩;obtain⟨h0,h1,h2,h3,h4⟩:=h.cell i s t0 hs ht0;cases ht;exact⟨(aA (by omega)).trans h0,(aA (by omega)).trans h1,(aA (by omega)).trans h2,(aA (by omega)).trans h3,cZ h4⟩
 rw[List.getElem?_set_ne (fun e2=>e e2.symm)] at ht;obtain⟨h0,h1,h2,h3,h4⟩:=h.cell i s t hs ht;exact⟨(aA (by omega)).trans h0,(aA (by omega)).trans h1,(aA (by omega)).trans h2,(aA (by omega)).trans h3,(aA (by omega)).trans h4⟩
theorem aJw {L:List Stp}{a:Nat} (h:∀ s ∈ L,s.pl<20000):eW L (min a 2000000000)=eW L a:=by
 by_cases e:a≤2000000000
 ·rw[Nat.min_eq_left e]
 have h1:∀ p,20000≤p→eW L p=none:=fun p hp=>by
  cases hq:eW L p with
  | none=>rfl
  | some q=>
   obtain⟨s,hs,hpl⟩:=jX hq;have:=h s (List.mem_of_getElem? hs);omega
 rw[h1 _ (by omega),h1 _ (by omega)]
def rL (L:List Stp) (T:LN) (k:Nat):Prop:=∀ i s,i<k→L[i]?=some s→far s.op=true→∃ t,T[i]?=some t∧eW L s.a=some t
def bAc (w:WL) (g:Nat) (L:List Stp) (e:Ending) (w':WL):Prop:=
 Fr [g] w w'∧((∃ q,eU L L=some q∧q≤20000∧e=.returned (.tuple #[.int .i64 q,.int .i64 11])) ∨
  (eU L L=none∧e=.returned (.tuple #[.int .i64 0,.int .i64 0])∧∃ T,mU w' g L T∧rL L T L.length))
theorem aKn (g:Nat)(L:List Stp)(T:LN)(cap:Nat)(h0:0<L.length)(hn2:L.length≤20000)(w:WL)(hg:g<w.heap.size)(hI:mU w g L T)(hs:jC 0 L)(hpl:∀ s ∈ L,s.pl<20000)(hop:∀ s ∈ L,s.op<54) :
  Calls prog 60 #[.slice (some (Ad g 0)) L.length cap] w (bAc w g L):=by
 obtain⟨n,hn⟩:=eXi (L.length);have hsr:=fun (W:WL) (TT:LN) (p:Nat) (hW:g<W.heap.size) (hI:mU W g L TT)=>aEi g L TT n cap p hn (by omega) (by omega) W hW hI hs;have HS:Hid _:=fun (_:Unit)=>hsr;have HI:Hid _:=hI;have HP:Hid _:=AI hpl (AI hop hn);rw[hn] at h0 hn2 ⊢;clear hsr hI hs hpl hop hn;go_enter func60,ntmps60;go_wp2
 go_loopw [10] (fun j wr=>∃ (k:Nat) (TT:LN),j=iA (k:Nat)∧k≤n∧Fr [g] w wr∧Hid (mU wr g L TT∧eU L L=eU L (L.drop k)∧rL L TT k)) (fun j _=>n-(intOf j).toNat)
 case atStart=>exact⟨0,T,rfl,by omega,Fr.refl _ _,HI.out,rfl,fun i s hi=>absurd hi (by omega)⟩
 case round=>
  obtain⟨k,TT,rfl,hk,F1,hQ⟩:=hrel;have hgw:g<wr.heap.size:=Nll hg F1.size;by_cases hlt:k<n
  ·have g1:(k:Int)<(n:Int):=by omega
   obtain⟨s,hs⟩:∃ s,L[k]?=some s:=⟨_,Lge (by rw[HP.out.2.2];omega)⟩;obtain⟨t,ht⟩:∃ t,TT[k]?=some t:=⟨_,Lge (by rw[hQ.out.1.len,HP.out.2.2];omega)⟩;have hmem:=List.mem_of_getElem? hs;have hpl:=HP.out.1 s hmem;have hop:=HP.out.2.1 s hmem;obtain⟨x0,x1,x2,x3,x4⟩:=hQ.out.1.cell k s t hs ht;have fz4:=hQ.out.1.fz (k*5+4);have hdrop:L.drop k=s :: L.drop (k+1):=by
    rw[List.drop_eq_getElem_cons (by rw[HP.out.2.2];exact hlt)];congr 1;exact (Lgs.1 hs).2
   have hbj:eU L L=if far s.op=true∧eW L s.a=none then some s.pl else eU L (L.drop (k+1)):=by rw[hQ.out.2.1,hdrop];rfl
   have hcl:=aJw (a:=s.a) HP.out.1;have HB:Hid _:=AI hbj (AI hcl (AI hs ht));have HNm:Hid _:=fun (_:Unit)=>aKc s.op (by omega) wr;have HSr:Hid _:=fun (_:Unit)=>HS.out () wr TT (min s.a 2000000000) hgw hQ.out.1;obtain⟨sa,hsa⟩:=eXi (min s.a 2000000000);obtain⟨sb,hsb⟩:=eXi (min s.b 2000000000);rw[hsa] at x2 HSr HB;rw[hsb] at x3;have HF:Hid _:=F1;clear hbj hcl hs ht hdrop hsa hsb F1 HS HI hmem;cases hf:far s.op with
   | false=>
    rw[hf] at HNm;go_wp2_with fail;refine (HNm.out ()).mono ?_;rintro e w2 ⟨rfl,hw⟩;replace hw:=hw.symm;subst hw;clear x0 x1 x2 x3 x4;go_wp2;refine⟨⟨k+1,TT,by go_num,by omega,HF.out,hQ.out.1,?_,?_⟩,?_⟩
    ·rw[HB.out.1,if_neg (fun h=>by rw[hf] at h;exact absurd h.1 (by decide))]
    ·intro i s' hi hs' hfar;by_cases e:i<k
     ·exact hQ.out.2.2 i s' e hs' hfar
     have e2:i=k:=by omega
     subst e2;rw[HB.out.2.2.1] at hs';cases hs';rw[hf] at hfar;cases hfar
    simp[intOf];omega
   | true=>
    rw[hf] at HNm;go_wp2_with fail;refine (HNm.out ()).mono ?_;rintro e w2 ⟨rfl,hw⟩;replace hw:=hw.symm;subst hw;go_wp2_with fail;refine (HSr.out ()).mono ?_;rintro e w3 ⟨F3,q,b,rfl,hq,hb⟩;have hI3:=hQ.out.1.fr hgw F3 (by simp);obtain⟨y0,y1,y2,y3,y4⟩:=hI3.cell k s t HB.out.2.2.1 HB.out.2.2.2;have fz3:=hI3.fz (k*5+4);clear x0 x1 x2 x3 x4 fz4 y2 y3 HNm HSr;rcases hb with ⟨rfl,hb⟩ | ⟨rfl,hb⟩
    ·have HY:Hid _:=AI hI3 (AI hb F3);clear hI3 hb F3;go_wp2;refine⟨⟨k+1,TT.set k q,by go_num,by omega,?_,HY.out.1.set (by rw[HP.out.2.2];exact hlt) q,?_,?_⟩,?_⟩
     ·exact (HF.out.trans (HY.out.2.2.mono (by simp))).setCell (p:=⟨g,k*5+4,none⟩) (.inl (by simp)) _
     ·rw[HB.out.1,if_neg (fun h=>by rw[← HB.out.2.1,HY.out.2.1] at h;cases h.2)]
     ·intro i s' hi hs' hfar;by_cases e:i<k
      ·obtain⟨t',ht',hn'⟩:=hQ.out.2.2 i s' e hs' hfar;exact⟨t',by rw[List.getElem?_set_ne (by omega)];exact ht',hn'⟩
      have e2:i=k:=by omega
      subst e2;rw[HB.out.2.2.1] at hs';cases hs';exact⟨q,List.getElem?_set_self (by rw[hQ.out.1.len,HP.out.2.2];exact hlt),by rw[← HB.out.2.1];exact HY.out.2.1⟩
     simp[intOf];omega
    have HY:Hid _:=AI hI3 (AI hb F3);clear hI3 hb F3;go_wp2;go_ret2;refine⟨HF.out.trans (HY.out.2.2.mono (by simp)),.inl ⟨s.pl,?_,by omega,rfl⟩⟩;rw[HB.out.1,if_pos ⟨hf,by rw[← HB.out.2.1];exact HY.out.2.1⟩]
  have g1:¬ (k:Int)<(n:Int):=by omega
  go_wp2;go_ret2;refine⟨F1,.inr ⟨?_,rfl,TT,hQ.out.1,?_⟩⟩
  ·rw[hQ.out.2.1,List.drop_eq_nil_of_le (by rw[HP.out.2.2];omega)];rfl
  rw[HP.out.2.2,show n=k by omega];exact hQ.out.2.2
def inC (s:Stp):LV:=[.int .u8 (s.op:Nat),.int .i64 (s.pl:Nat),.int .i64 (min s.a 2000000000:Nat),.int .i64 (min s.b 2000000000:Nat),.int .i64 0]
theorem aTz (s:Stp):(inC s).length=5:=rfl
theorem aTy (f:Stp):∀ u ∈ inC f,u.oneCell'=true:=by
 intro u hu;simp only[inC,List.mem_cons,List.not_mem_nil,or_false] at hu;rcases hu with rfl | rfl | rfl | rfl | rfl <;> rfl
theorem aXm (w:WL)(a b c d:Nat):∀ j u,[Value.int .u8 a,iA b,iA c,iA d,iA 0][j]?=some u→(w.alloc (.cells #[.int .u8 a,iA b,iA c,iA d,iA 0] 96)).cell? (((Ad w.heap.size 0):Addr).add j)=some u:=by
 intro j u hj;have hm:=wan w (.cells #[.int .u8 a,iA b,iA c,iA d,iA 0] 96);rw[nU];unfold World.cell?;rw[hm];simpa using hj
theorem aXi:(prog.info? 96).map (fun i=>(i.zero,i.size,i.bytes))=some (some (.agg #[.int .u8 0,iA 0,iA 0,iA 0,iA 0]),5,40):=by kernel_rfl
theorem pX.ins {w0:WL}{L:List Stp}{v:Value}{W:WL} (h:pX 96 5 inC w0 L v W) :
  ∃ (a0:OA) (cap g:Nat),v=.slice a0 L.length cap∧L.length≤cap∧(0<L.length→a0=some (Ad g 0)∧g<W.heap.size∧w0.heap.size≤g∧mU W g L (List.replicate L.length 0)):=by
 have hc:=h.cells aTz;obtain⟨a0,cap,g,hv,hcap,hg,hx⟩:=hc;refine⟨a0,cap,g,hv,hcap,fun h0=>?_⟩;obtain⟨e0,e1,e2⟩:=hg h0;refine⟨e0,e1,e2,by simp,fun i s t hs ht=>?_,fun k=>?_⟩
 ·rw[List.getElem?_replicate] at ht;split at ht
  ·cases ht;have x0:=hx i s 0 _ hs (by omega) rfl;simp only[Nat.add_zero] at x0;exact⟨x0,hx i s 1 _ hs (by omega) rfl,hx i s 2 _ hs (by omega) rfl,hx i s 3 _ hs (by omega) rfl,hx i s 4 _ hs (by omega) rfl⟩
  cases ht
 rcases h.own.2 with ⟨hv2,h2⟩ | ⟨g',cap',cur,hv2,hb,hh,-⟩
 ·omega
 rw[hv2,e0] at hv;simp only[Value.slice.injEq,Option.some.injEq,Addr.mk.injEq] at hv;rw[hv.1.1] at hh;unfold World.frozen?;rw[hh];simp
theorem aKm (a0:OA)(cap:Nat)(w:WL):Calls prog 60 #[.slice a0 0 cap] w fun e w'=>e=.returned (.tuple #[iA 0,iA 0])∧w'=w:=by
 go_enter func60,ntmps60;go_wp2
 go_loop [10] (fun j=>j=iA (0:Nat)) (fun _=>0)
 case atStart=>rfl
 case round=>
  subst hrel;go_wp2;go_ret2;exact⟨rfl,rfl⟩
def aZx (m:Mo) (f L:Nat) (c:BA) (w:WL) (e:Ending) (w':WL):Prop:=
 Fr [] w w'∧((∃ j x:Nat,e=.returned (.tuple #[.slice none 0 0,.int .i64 j,.int .i64 x])∧x≠0∧x≤20∧j≤20000∧(zJ m f L (bl c) j x∨∃ l,eO m f L (bl c) l∧eU l l=some j∧x=11)) ∨
  (∃ (a0:OA) (cap g:Nat) (l:List Stp) (T:LN),e=.returned (.tuple #[.slice a0 l.length cap,.int .i64 0,.int .i64 0])∧eO m f L (bl c) l∧eU l l=none∧l.length≤cap ∧
   (0<l.length→a0=some ⟨g,0,none⟩∧g<w'.heap.size∧w.heap.size≤g∧mU w' g l T∧rL l T l.length)))
theorem p9 (mv:Value)(m:Mo)(w:WL)(f:Nat)(x:Wire.Fn)(hM:gY w mv m)(hMo:zH m)(hx:m.fns[f]?=some x) :
  Calls prog 37 #[mv,iA f] w (aZx m f x.locs.toNat x.code w):=by
 obtain⟨i0,hi,hz0,hz1,hz2⟩:=info_parts aXi;have hdec:=fun (W:WL) (hW:Fr [] w W) (j:Nat) (hj:j<x.code.size)=>aAe mv m W f j x (hM.fr hW) hMo hx hj;obtain⟨tv,pv,fv,rfl,h1,h2,h3⟩:=hM.is;obtain⟨a0,cap,g,off,rfl,hc,hx0,hxx⟩:=h3;have hf:=(Lgs.1 hx).1;obtain⟨c0,c1,c2⟩:=hxx f x hx;have hp:=hMo.f.p x (List.mem_of_getElem? hx);obtain⟨rfl,hgl⟩:=hx0 (by omega);have hn:=hMo.f.n;have hs:x.code.size≤20000:=hp.2.2.2.2;generalize m.fns.length=nf at *;generalize x.code=c at *;generalize x.locs.toNat=L at *;have g2:(f:Int)<(nf:Int):=by omega
 obtain⟨W1,hW1⟩:=eXi (w.alloc (.cells #[tv,pv,iA m.globs,iA m.arrs,.slice (some (Ad g off)) nf cap] 25));have FA:=frA hW1
 have k1:=kA hW1;have kl:=(Age.1 k1).1;have hst:∀ W,Fr [] W1 W→(W.cell? (Ad w.heap.size 0)=some tv∧W.cell? (Ad w.heap.size 1)=some pv∧W.cell? (Ad w.heap.size 2)=some (iA m.globs)∧W.cell? (Ad w.heap.size 3)=some (iA m.arrs)∧W.cell? (Ad w.heap.size 4)=some (.slice (some (Ad g off)) nf cap))∧W.cell? (Ad g (off+f*3+2))=some (.string c):=fun W hW=>by
  have e1:∀ j v,(#[tv,pv,iA m.globs,iA m.arrs,.slice (some (Ad g off)) nf cap]:Array Value)[j]?=some v→W.cell? (Ad w.heap.size j)=some v:=fun j v hv=>by
   unfold World.cell?;rw[hW.block _ kl (by simp),k1];exact hv
  exact⟨⟨e1 0 _ rfl,e1 1 _ rfl,e1 2 _ rfl,e1 3 _ rfl,e1 4 _ rfl⟩,((FA.trans hW).cell (p:=Ad g (off+f*3+2)) hgl (by simp)).trans c2⟩
 have hwW:w.heap.size≤W1.heap.size:=FA.size;obtain⟨⟨n0,n1,n2,n3,n4⟩,n5⟩:=hst W1 (Fr.refl [] W1);have HD:Hid _:=fun (_:Unit)=>hdec;have HS:Hid _:=hst;have HFA:Hid _:=AI FA hwW;clear hdec hst hM hMo hx h1 h2 hxx c0 c1 c2 hp hx0 k1 FA hc hf kl hwW;go_enter func37,ntmps37;go_wp2;clear hW1
 go_loopw [7,9] (fun u p wr=>∃ (acc:List Stp) (j:Nat),p=iA (j:Nat)∧j≤c.size∧pX 96 5 inC W1 acc u wr∧Hid (cF m f L (bl c) 0 acc j)) (fun _ p _=>c.size-(intOf p).toNat)
 case atStart=>exact⟨[],0,rfl,by omega,pX.start (Fr.refl [] _),rfl⟩
 case round=>
  clear n0 n1 n2 n3 n4 n5;obtain⟨acc,j,rfl,hj,J,hC⟩:=hrel;obtain⟨⟨m0,m1,m2,m3,m4⟩,m5⟩:=HS.out wr J.fr;obtain⟨b0,bcap,rfl⟩:=J.form;have F0:=HFA.out.1.trans J.fr;by_cases hlt:j<c.size
  ·have g1:(j:Int)<(c.size:Int):=by omega
   go_wp2_with fail;refine (HD.out () wr F0 j hlt).mono ?_;rintro e w2 ⟨F2,op,pl,a,b,len,y,rfl,hy⟩;have hl:=hC.out.le (by rw[aO];omega);rw[aO] at hl;obtain⟨W3,hW3⟩:=eXi (w2.alloc (.cells #[.int .u8 op,iA pl,iA a,iA b,iA 0] 96));have F3':Fr [] w2 W3:=by rw[← hW3];exact (Fr.refl [] w2).alloc _
   have F3:=F2.trans F3';have k3:=kA hW3;have kl:=(Age.1 k3).1;have s4:W3.setCell ⟨w2.heap.size,4,none⟩ (.int .i64 0)=W3:=fA k3 rfl;have fz4:W3.frozen? (Ad w2.heap.size 4)=false:=by unfold World.frozen?;rw[k3];simp
   have e4:W3.cell? (Ad w2.heap.size 4)=some (iA 0):=cof k3 rfl;clear F3' m0 m1 m2 m3 m4 m5 HD HS;rcases hy with ⟨y0,y20,hd⟩ | ⟨rfl,s,hd,rfl,rfl,rfl,rfl,hlen⟩
   ·have q1:((y:Int)==0)=false:=by simp;omega
    have q2:((y:Int)!=0)=true:=by simp;omega
    have HX:Hid _:=AI F3 (AI hd (AI y0 (AI k3 J)));clear F3 hd y0 k3 J F2;go_wp2;go_ret3;obtain⟨F3,hd,y0,k3,J⟩:=HX.out;exact⟨F0.trans F3,.inl ⟨j,y,rfl,y0,y20,by omega,.inl ⟨acc,hC.out,by rw[aO];exact hlt,hd⟩⟩⟩
   have hob:∀ k,(Value.slice b0 acc.length bcap).ownBlock=some k→k<wr.heap.size:=fun k hk=>(J.own.lt k hk).2;have hw2:wr.heap.size≤w2.heap.size:=F2.size;have J3:=J.kept F3;have hown:=J3.own;have hsz3:=J3.fr.size;have hnx:=cE (by rw[aO];exact hlt) hd;have hC2:=hC.out.snoc (by rw[aO];exact hlt) hd;rw[aO] at hnx;obtain⟨nx,hnxe⟩:=eXi (s.nx);rw[hnxe] at hlen hnx hC2;have hI:(j:Int)+(len:Int)=(nx:Int):=by omega
   have hnc:nx≤c.size:=hnx.2.2.1;have hjn:j<nx:=hnx.2.1;have hop54:=oY hnx.2.2.2.2;obtain⟨sa,hsa⟩:=eXi (min s.a 2000000000);obtain⟨sb,hsb⟩:=eXi (min s.b 2000000000);have hone:=aTy s;have hcs:inC s=[.int .u8 (s.op:Nat),iA (s.pl:Nat),iA (sa:Nat),iA (sb:Nat),iA 0]:=by unfold inC;rw[hsa,hsb]
   rw[hcs] at hone;rw[hsa,hsb] at hW3 k3;have e0:W3.cell? (Ad w2.heap.size 0)=some (.int .u8 (s.op:Nat)):=cof k3 rfl;have e1:W3.cell? (Ad w2.heap.size 1)=some (iA (s.pl:Nat)):=cof k3 rfl;have e2:W3.cell? (Ad w2.heap.size 2)=some (iA (sa:Nat)):=cof k3 rfl;have e3:W3.cell? (Ad w2.heap.size 3)=some (iA (sb:Nat)):=cof k3 rfl;rw[hsa,hsb];have hfn:=aXm W3 s.op s.pl sa sb;have HX:Hid _:=AI F3 (AI J3 (AI hC2 (AI hob (AI hw2 (AI hcs hnxe)))));clear F3 hd k3 J J3 hnx hC2 hC kl hob hw2 F2 hsa hsb hcs hnxe hlen;go_wp2_with (at_builtin;refine wpList_append_own _ rfl _ _ 83 rfl W1.heap.size 96 i0 (.agg #[.int .u8 0,iA 0,iA 0,iA 0,iA 0]) 5 40 underlying83 hi hz0 hz1 hz2 rfl (by decide) _ _ _ rfl (hown.alloc _) (Ad W3.heap.size 0) 1 1 [.int .u8 (s.op:Nat),iA (s.pl:Nat),iA (sa:Nat),iA (sb:Nat),iA 0] rfl rfl hfn hone (by unfold maxLen;omega) (by omega) (iY _ hsz3) ?_);intro v' w5 hown' hgrow _;obtain⟨F3,J3,hC2,hob,hw2,hcs,hnxe⟩:=HX.out;rw[← hcs] at hown';have J4:=(J3.kept ((Fr.refl [] W3).alloc (.cells #[.int .u8 (s.op:Nat),iA (s.pl:Nat),iA (sa:Nat),iA (sb:Nat),iA 0] 96))).grown (s:=s) hown' hgrow;obtain⟨d0,dcap,rfl⟩:=J4.form;have HJ4:Hid _:=J4;have HC2:Hid _:=hC2;clear F3 J3 hC2 hown hown' hgrow e0 e1 e2 e3 e4 hfn J4 HX hone hob hw2 hcs hnxe;go_wp2;refine⟨⟨acc++[s],nx,rfl,by omega,HJ4.out,HC2⟩,?_⟩;simp[intOf];omega
  have g1:¬ (j:Int)<(c.size:Int):=by omega
  have hR:eO m f L (bl c) acc:=by
   have:=hC.out;rw[show j=c.size by omega,← aO c] at this;exact this
  have hle:=cF.le hR (by omega);rw[aO] at hle;have hok:=cF.ok hR;have hpl:=cF.pls hR;rw[aO] at hpl;have hso:=cF.sorted hR (by omega);obtain⟨a1,cap1,gg,hv,hcap1,hgg⟩:=J.ins;have HR:Hid _:=hR;have HF0:Hid _:=F0;cases hacc:acc with
  | nil=>
   rw[hacc] at hR hv J;have HJn:Hid _:=fun (_:Unit)=>aKm b0 bcap wr;have hbj:eU ([]:List Stp) []=none:=rfl;have HR2:Hid _:=hR;simp only[List.length_nil];clear hR hle hok hpl hso hv hcap1 hgg hC J HR m0 m1 m2 m3 m4 F0 HD HS;go_wp2_with fail;refine (HJn.out ()).mono ?_;rintro e w2 ⟨rfl,hw⟩;replace hw:=hw.symm;subst hw;go_wp2;go_ret3;exact⟨HF0.out,.inr ⟨b0,bcap,0,[],[],rfl,HR2.out,rfl,by simp,fun h=>absurd h (by simp)⟩⟩
  | cons s0 l0=>
   rw[← hacc];have h0:0<acc.length:=by rw[hacc];simp
   obtain⟨e1,e2,e3,hI⟩:=hgg h0;simp only[Value.slice.injEq] at hv;obtain⟨rfl,-,rfl⟩:=hv;subst e1;have HJn:Hid _:=fun (_:Unit)=>aKn gg acc _ bcap h0 (by omega) wr e2 hI hso (fun s hs=>by have:=hpl s hs;omega) (fun s hs=>(hok s hs).op);have HG:Hid _:=AI e2 (AI e3 hcap1);clear hR hle hok hpl hso hcap1 hgg hC J m0 m1 m2 m3 m4 F0 HD HS hacc hI e2 e3;generalize hna:acc.length=na at *;go_wp2_with fail;refine (HJn.out ()).mono ?_;rintro e w2 ⟨F2,(⟨q,hb,hq,rfl⟩ | ⟨hb,rfl,T,hI2,hJ2⟩)⟩
   ·have HF2:Hid _:=AI F2 hb;clear F2 hb;go_wp2;go_ret3;refine⟨HF0.out.trans' HF2.out.1 (fun y hy=>.inr (by simp at hy;have:=HG.out.2.1;have:=HFA.out.2;omega)),.inl ⟨q,11,rfl,by omega,by omega,by omega,.inr ⟨acc,HR.out,HF2.out.2,rfl⟩⟩⟩
   have HF2:Hid _:=AI F2 (AI hb (AI hI2 hJ2));clear F2 hb hI2 hJ2;go_wp2;go_ret3;rw[← hna];refine⟨HF0.out.trans' HF2.out.1 (fun y hy=>.inr (by simp at hy;have:=HG.out.2.1;have:=HFA.out.2;omega)),.inr ⟨_,bcap,gg,acc,T,rfl,HR.out,HF2.out.2.1,by rw[hna];exact HG.out.2.2,fun _=>⟨rfl,?_,?_,HF2.out.2.2.1,HF2.out.2.2.2⟩⟩⟩
   ·have:=HG.out.1;have:=HF2.out.1.size;omega
   have:=HG.out.2.1;have:=HFA.out.2;omega
def fL (st:LN) (wr:Bool):LV:=.int .i64 (st.length:Int) :: .bool wr :: (List.range 64).map fun j=>.int .u64 (wdS st j:Nat)
theorem kE (st:LN)(wr:Bool):(fL st wr).length=66:=by simp[fL]
theorem xK (st:LN)(wr:Bool):∀ v ∈ fL st wr,v.oneCell'=true:=by
 intro v hv;simp only[fL,List.mem_cons,List.mem_map,List.mem_range] at hv;rcases hv with rfl | rfl | ⟨j,-,rfl⟩ <;> rfl
theorem dA.all {w:WL}{sb:Nat}{st:LN}{wr:Bool} (h:dA w sb st wr):∀ j v,(fL st wr)[j]?=some v→w.cell? (Ad sb j)=some v:=by
 intro j v hv
 match j,hv with
 | 0,hv=>simp[fL] at hv;subst hv;exact h.c0
 | 1,hv=>simp[fL] at hv;subst hv;exact h.c1
 | j+2,hv=>
  simp only[fL,List.getElem?_cons_succ,List.getElem?_map] at hv
  by_cases hj:j<64
  ·rw[List.getElem?_range hj] at hv
   simp only[Option.map_some,Option.some.injEq] at hv
   subst hv
   rw[show j+2=2+j by omega]
   exact h.cw j hj
  ·rw[List.getElem?_eq_none (by simp;omega)] at hv
   cases hv
theorem iN {W:WL}{sb:Nat}{st:LN}{wr:Bool} (h:W.heap[sb]?=some (.cells (fL st wr).toArray 165)) (hi:st.length≤1024) (sm:∀ x,x ∈ st→x<16):dA W sb st wr:=by
 have hc:∀ j,W.cell? (Ad sb j)=(fL st wr)[j]?:=fun j=>by
  unfold World.cell?;rw[h];simp
 refine⟨?_,?_,fun j hj=>?_,fun i=>?_,hi,sm⟩
 ·rw[hc];rfl
 ·rw[hc];rfl
 ·rw[hc,show 2+j=j+2 by omega];simp only[fL,List.getElem?_cons_succ,List.getElem?_map];rw[List.getElem?_range hj];rfl
 unfold World.frozen?;rw[h];simp
theorem aCf:(prog.info? 165).map (fun i=>(i.zero,i.size))=some (some (.agg (fL [] false).toArray),66):=by kernel_rfl
structure FrB (B:Nat) (W W':WL):Prop where
 os:W'.os=W.os
 tape:W'.tape=W.tape
 output:W'.output=W.output
 size:W.heap.size≤W'.heap.size
 block:∀ k,k<B→W'.heap[k]?=W.heap[k]?
theorem FrB.refl (B:Nat)(W:WL):FrB B W W:=⟨rfl,rfl,rfl,Nat.le_refl _,fun _ _=>rfl⟩
theorem FrB.trans {B:Nat}{a b c:WL} (h:FrB B a b) (k:FrB B b c):FrB B a c:=
 ⟨k.os.trans h.os,k.tape.trans h.tape,k.output.trans h.output,Nat.le_trans h.size k.size,fun i hi=>(k.block i hi).trans (h.block i hi)⟩
theorem FrB.of {B:Nat}{S:LN}{W W':WL} (h:Fr S W W') (hB:B≤W.heap.size) (hS:∀ x,x ∈ S→B≤x):FrB B W W':=
 ⟨h.os,h.tape,h.output,h.size,fun k hk=>h.block k (by omega) (fun hx=>by have:=hS k hx;omega)⟩
theorem FrB.to_fr {W0 W W':WL}{B:Nat} (h0:Fr [] W0 W) (hB:W0.heap.size≤B) (h:FrB B W W'):Fr [] W0 W':=
 ⟨h.os.trans h0.os,h.tape.trans h0.tape,h.output.trans h0.output,Nat.le_trans h0.size h.size,fun k hk hn=>(h.block k (by omega)).trans (h0.block k hk hn)⟩
structure eR (W:WL) (B fb kb qb n:Nat) (av mf:Value) (G:List (Option (LN))) (Q:List Bool) (more wrong:Bool) (P:NN):Prop where
 c4:W.cell? ⟨fb,4,none⟩=some mf
 c5:W.cell? ⟨fb,5,none⟩=some av
 c6:W.cell? ⟨fb,6,none⟩=some (.slice (some ⟨kb,0,none⟩) n n)
 c7:W.cell? ⟨fb,7,none⟩=some (.slice (some ⟨qb,0,none⟩) n n)
 c8:W.cell? ⟨fb,8,none⟩=some (.bool more)
 c9:W.cell? ⟨fb,9,none⟩=some (.bool wrong)
 gl:G.length=n
 ql:Q.length=n
 ks:∀ i,G[i]?=some none→W.cell? ⟨kb,i,none⟩=some (.pointer none)
 kp:∀ i s,G[i]?=some (some s)→W.cell? ⟨kb,i,none⟩=some (.pointer (some ⟨P i,0,none⟩))∧dA W (P i) s false∧B≤P i∧P i≠fb∧P i≠kb∧P i≠qb
 inj:∀ i j s t,G[i]?=some (some s)→G[j]?=some (some t)→P i=P j→i=j
 qs:∀ i b,Q[i]?=some b→W.cell? ⟨qb,i,none⟩=some (.bool b)
 zf:∀ i,W.frozen? ⟨fb,i,none⟩=false
 zk:∀ i,W.frozen? ⟨kb,i,none⟩=false
 zq:∀ i,W.frozen? ⟨qb,i,none⟩=false
 n1:fb≠kb
 n2:fb≠qb
 n3:kb≠qb
 bf:B≤fb
 bk:B≤kb
 bq:B≤qb
 lk:kb<W.heap.size
 lq:qb<W.heap.size
 hb:E7 G
theorem eR.lt {W:WL}{B fb kb qb n:Nat}{av mf:Value}{G:List (Option (LN))}{Q:List Bool}{more wrong:Bool}{P:NN} (h:eR W B fb kb qb n av mf G Q more wrong P):fb<W.heap.size:=aB h.c4
theorem eR.fr {W W':WL}{B fb kb qb n:Nat}{av mf:Value}{G:List (Option (LN))}{Q:List Bool}{more wrong:Bool}{P:NN} (h:eR W B fb kb qb n av mf G Q more wrong P)
  {S:LN} (hf:Fr S W W') (h1:fb ∉ S) (h2:kb ∉ S) (h3:qb ∉ S) (h4:∀ i s,G[i]?=some (some s)→P i ∉ S):eR W' B fb kb qb n av mf G Q more wrong P:=by
 have e1:∀ j,W'.cell? (Ad fb j)=W.cell? (Ad fb j):=fun j=>hf.cell (p:=Ad fb j) h.lt h1;have e2:∀ j,W'.cell? (Ad kb j)=W.cell? (Ad kb j):=fun j=>hf.cell (p:=Ad kb j) h.lk h2;have e3:∀ j,W'.cell? (Ad qb j)=W.cell? (Ad qb j):=fun j=>hf.cell (p:=Ad qb j) h.lq h3;refine⟨(e1 _).trans h.c4,(e1 _).trans h.c5,(e1 _).trans h.c6,(e1 _).trans h.c7,(e1 _).trans h.c8,(e1 _).trans h.c9,h.gl,h.ql,fun i hi=>(e2 i).trans (h.ks i hi),fun i s hi=>?_,h.inj,fun i b hi=>(e3 i).trans (h.qs i b hi),
  fun i=>(hf.frozen (p:=Ad fb i) h.lt h1).trans (h.zf i),fun i=>(hf.frozen (p:=Ad kb i) h.lk h2).trans (h.zk i),fun i=>(hf.frozen (p:=Ad qb i) h.lq h3).trans (h.zq i),h.n1,h.n2,h.n3,h.bf,h.bk,h.bq,Nll h.lk hf.size,Nll h.lq hf.size,h.hb⟩
 obtain⟨k1,k2,k3⟩:=h.kp i s hi;exact⟨(e2 i).trans k1,k2.fr hf (h4 i s hi),k3⟩
theorem bU {W:WL}{b c i j:Nat}{v:Value} (h:b≠c):(W.setCell ⟨b,i,none⟩ v).cell? (Ad c j)=W.cell? (Ad c j):=World.cell?_setCell_other _ _ _ _ (by simp[h])
theorem eR.setWrong {W:WL}{B fb kb qb n:Nat}{av mf:Value}{G:List (Option (LN))}{Q:List Bool}{more wrong:Bool}{P:NN} (h:eR W B fb kb qb n av mf G Q more wrong P) (b:Bool):eR (W.setCell ⟨fb,9,none⟩ (.bool b)) B fb kb qb n av mf G Q more b P:=by
 refine⟨(aA (by decide)).trans h.c4,(aA (by decide)).trans h.c5,(aA (by decide)).trans h.c6,(aA (by decide)).trans h.c7,(aA (by decide)).trans h.c8,cZ h.c9,h.gl,h.ql,fun i hi=>(bU h.n1).trans (h.ks i hi),fun i s hi=>?_,h.inj,fun i b hi=>(bU h.n2).trans (h.qs i b hi),
  fun i=>by rw[wfz];exact h.zf i,fun i=>by rw[wfz];exact h.zk i,fun i=>by rw[wfz];exact h.zq i,h.n1,h.n2,h.n3,h.bf,h.bk,h.bq,by simpa using h.lk,by simpa using h.lq,h.hb⟩
 obtain⟨k1,k2,k3,k4,k5⟩:=h.kp i s hi;exact⟨(bU h.n1).trans k1,k2.of_block (aV k4),k3,k4,k5⟩
theorem eR.setMore {W:WL}{B fb kb qb n:Nat}{av mf:Value}{G:List (Option (LN))}{Q:List Bool}{more wrong:Bool}{P:NN} (h:eR W B fb kb qb n av mf G Q more wrong P) (b:Bool):eR (W.setCell ⟨fb,8,none⟩ (.bool b)) B fb kb qb n av mf G Q b wrong P:=by
 refine⟨(aA (by decide)).trans h.c4,(aA (by decide)).trans h.c5,(aA (by decide)).trans h.c6,(aA (by decide)).trans h.c7,cZ h.c8,(aA (by decide)).trans h.c9,h.gl,h.ql,fun i hi=>(bU h.n1).trans (h.ks i hi),fun i s hi=>?_,h.inj,fun i b hi=>(bU h.n2).trans (h.qs i b hi),
  fun i=>by rw[wfz];exact h.zf i,fun i=>by rw[wfz];exact h.zk i,fun i=>by rw[wfz];exact h.zq i,h.n1,h.n2,h.n3,h.bf,h.bk,h.bq,by simpa using h.lk,by simpa using h.lq,h.hb⟩
 obtain⟨k1,k2,k3,k4,k5⟩:=h.kp i s hi;exact⟨(bU h.n1).trans k1,k2.of_block (aV k4),k3,k4,k5⟩
theorem eR.setWait {W:WL}{B fb kb qb n:Nat}{av mf:Value}{G:List (Option (LN))}{Q:List Bool}{more wrong:Bool}{P:NN} (h:eR W B fb kb qb n av mf G Q more wrong P) {k:Nat} (hk:k<n) (b:Bool):eR (W.setCell ⟨qb,k,none⟩ (.bool b)) B fb kb qb n av mf G (Q.set k b) more wrong P:=by
 have n2:qb≠fb:=fun e=>h.n2 e.symm;have n3:qb≠kb:=fun e=>h.n3 e.symm;refine⟨(bU n2).trans h.c4,(bU n2).trans h.c5,(bU n2).trans h.c6,(bU n2).trans h.c7,(bU n2).trans h.c8,(bU n2).trans h.c9,h.gl,by rw[List.length_set];exact h.ql,fun i hi=>(bU n3).trans (h.ks i hi),fun i s hi=>?_,h.inj,fun i b' hi=>?_,
  fun i=>by rw[wfz];exact h.zf i,fun i=>by rw[wfz];exact h.zk i,fun i=>by rw[wfz];exact h.zq i,h.n1,h.n2,h.n3,h.bf,h.bk,h.bq,by simpa using h.lk,by simpa using h.lq,h.hb⟩
 ·obtain⟨k1,k2,k3,k4,k5,k6⟩:=h.kp i s hi;exact⟨(bU n3).trans k1,k2.of_block (aV k6),k3,k4,k5,k6⟩
 by_cases e:i=k
 ·subst e;rw[List.getElem?_set_self (by rw[h.ql];exact hk)] at hi;cases hi;obtain⟨b0,hb0⟩:∃ b0,Q[i]?=some b0:=⟨_,Lge (by rw[h.ql];exact hk)⟩;exact cZ (h.qs i b0 hb0)
 rw[List.getElem?_set_ne (fun e2=>e e2.symm)] at hi;exact (aA (fun e2=>e e2.symm)).trans (h.qs i b' hi)
theorem eR.meet {W W':WL}{B fb kb qb n:Nat}{av mf:Value}{G:List (Option (LN))}{Q:List Bool}{more wrong:Bool}{P:NN} (h:eR W B fb kb qb n av mf G Q more wrong P)
  {k:Nat}{t u:LN} (hk:G[k]?=some (some t)) (hf:Fr [P k] W W') (hs:dA W' (P k) u false) (hu:bC u):eR W' B fb kb qb n av mf (G.set k (some u)) Q more wrong P:=by
 obtain⟨q1,q2,q3,q4,q5,q6⟩:=h.kp k t hk;have hkl:=(Lgs.1 hk).1;have e1:∀ j,W'.cell? (Ad fb j)=W.cell? (Ad fb j):=fun j=>hf.cell (p:=Ad fb j) h.lt (by simp;exact fun e=>q4 e.symm);have e2:∀ j,W'.cell? (Ad kb j)=W.cell? (Ad kb j):=fun j=>hf.cell (p:=Ad kb j) h.lk (by simp;exact fun e=>q5 e.symm);have e3:∀ j,W'.cell? (Ad qb j)=W.cell? (Ad qb j):=fun j=>hf.cell (p:=Ad qb j) h.lq (by simp;exact fun e=>q6 e.symm);refine⟨(e1 _).trans h.c4,(e1 _).trans h.c5,(e1 _).trans h.c6,(e1 _).trans h.c7,(e1 _).trans h.c8,(e1 _).trans h.c9,by rw[List.length_set];exact h.gl,h.ql,fun i hi=>?_,fun i s hi=>?_,fun i j s s' hi hj e=>?_,fun i b hi=>(e3 i).trans (h.qs i b hi),
  fun i=>(hf.frozen (p:=Ad fb i) h.lt (by simp;exact fun e=>q4 e.symm)).trans (h.zf i),fun i=>(hf.frozen (p:=Ad kb i) h.lk (by simp;exact fun e=>q5 e.symm)).trans (h.zk i),fun i=>(hf.frozen (p:=Ad qb i) h.lq (by simp;exact fun e=>q6 e.symm)).trans (h.zq i),h.n1,h.n2,h.n3,h.bf,h.bk,h.bq,Nll h.lk hf.size,Nll h.lq hf.size,h.hb.set hu⟩
 ·by_cases e:i=k
  ·subst e;rw[List.getElem?_set_self hkl] at hi;cases hi
  rw[List.getElem?_set_ne (fun e2=>e e2.symm)] at hi;exact (e2 i).trans (h.ks i hi)
 ·by_cases e:i=k
  ·subst e;rw[List.getElem?_set_self hkl] at hi;cases hi;exact⟨(e2 i).trans q1,hs,q3,q4,q5,q6⟩
  rw[List.getElem?_set_ne (fun e2=>e e2.symm)] at hi;obtain⟨k1,k2,k3⟩:=h.kp i s hi;exact⟨(e2 i).trans k1,k2.fr hf (by simp;exact fun e3=>e (h.inj i k s t hi hk e3)),k3⟩
 have old:∀ (j:Nat) s,(G.set k (some u))[j]?=some (some s)→∃ s',G[j]?=some (some s'):=fun j s hj=>by
  by_cases e:j=k
  ·subst e;exact⟨t,hk⟩
  rw[List.getElem?_set_ne (fun e2=>e e2.symm)] at hj;exact⟨s,hj⟩
 obtain⟨s1,h1⟩:=old i s hi;obtain⟨s2,h2⟩:=old j s' hj;exact h.inj i j s1 s2 h1 h2 e
theorem eR.new {W W':WL}{B fb kb qb n:Nat}{av mf:Value}{G:List (Option (LN))}{Q:List Bool}{more wrong:Bool}{P:NN} (h:eR W B fb kb qb n av mf G Q more wrong P)
  {k nb:Nat}{u:LN} (hk:G[k]?=some none) (hnb:W.heap.size≤nb) (hB:B≤W.heap.size) (hf:Fr [] W W') (hs:dA W' nb u false) (hu:bC u) :
  eR (W'.setCell ⟨kb,k,none⟩ (.pointer (some ⟨nb,0,none⟩))) B fb kb qb n av mf (G.set k (some u)) Q more wrong (fun i=>if i=k then nb else P i):=by
 have H:=h.fr hf (by simp) (by simp) (by simp) (fun _ _ _=>by simp);have hkl:=(Lgs.1 hk).1;have l1:=h.lt;have l2:=h.lk;have l3:=h.lq;have m1:kb≠fb:=fun e=>h.n1 e.symm;refine⟨(bU m1).trans H.c4,(bU m1).trans H.c5,(bU m1).trans H.c6,(bU m1).trans H.c7,(bU m1).trans H.c8,(bU m1).trans H.c9,by rw[List.length_set];exact h.gl,h.ql,fun i hi=>?_,fun i s hi=>?_,fun i j s s' hi hj e=>?_,fun i b hi=>(bU h.n3).trans (H.qs i b hi),
  fun i=>by rw[wfz];exact H.zf i,fun i=>by rw[wfz];exact H.zk i,fun i=>by rw[wfz];exact H.zq i,h.n1,h.n2,h.n3,h.bf,h.bk,h.bq,by simpa using H.lk,by simpa using H.lq,h.hb.set hu⟩
 ·by_cases e:i=k
  ·subst e;rw[List.getElem?_set_self hkl] at hi;cases hi
  rw[List.getElem?_set_ne (fun e2=>e e2.symm)] at hi;exact (aA (fun e2=>e e2.symm)).trans (H.ks i hi)
 ·by_cases e:i=k
  ·subst e;rw[List.getElem?_set_self hkl] at hi;cases hi;simp only[if_true];exact⟨cZ (H.ks i hk),hs.of_block (aV (by omega)),by omega,by omega,by omega,by omega⟩
  rw[List.getElem?_set_ne (fun e2=>e e2.symm)] at hi;simp only[e,if_false];obtain⟨k1,k2,k3,k4,k5,k6⟩:=H.kp i s hi;exact⟨(aA (fun e2=>e e2.symm)).trans k1,k2.of_block (aV k5),k3,k4,k5,k6⟩
 have old:∀ (j:Nat) s,j≠k→(G.set k (some u))[j]?=some (some s)→G[j]?=some (some s):=fun j s e hj=>by
  rw[List.getElem?_set_ne (fun e2=>e e2.symm)] at hj;exact hj
 by_cases ei:i=k
 ·by_cases ej:j=k
  ·omega
  exfalso;simp only[ei,ej,if_true,if_false] at e;have:=(h.kp j s' (old j s' ej hj)).2.1.lt;omega
 by_cases ej:j=k
 ·exfalso;simp only[ei,ej,if_true,if_false] at e;have:=(h.kp i s (old i s ei hi)).2.1.lt;omega
 simp only[ei,ej,if_false] at e;exact h.inj i j s s' (old i s ei hi) (old j s' ej hj) e
def GoR (n i:Nat) (o:Option (LN)) (G:List (Option (LN))) (Q:List Bool) (more wrong:Bool) (G':List (Option (LN))) (Q':List Bool) (more' wrong':Bool):Prop:=
 (wrong'=true∧G'=G∧Q'=Q∧more'=more∧(i=n∨o=none∨∃ s t,o=some s∧G[i]?=some (some t)∧t.length≠s.length)) ∨
 (wrong'=wrong∧∃ s,o=some s∧i<n∧((G[i]?=some none∧G'=G.set i (some s)∧Q'=Q.set i true∧more'=true) ∨
  ∃ t,G[i]?=some (some t)∧t.length=s.length∧((orL t s=t∧G'=G∧Q'=Q∧more'=more)∨(orL t s≠t∧G'=G.set i (some (orL t s))∧Q'=Q.set i true∧more'=true))))
def GoP (B fb kb qb n:Nat) (av mf:Value) (W:WL) (sb:Nat) (o:Option (LN)) (G:List (Option (LN))) (Q:List Bool) (more wrong:Bool) (i:Nat) (e:Ending) (W':WL):Prop:=
 e=.returned (.tuple #[])∧FrB B W W'∧W'.heap[sb]?=W.heap[sb]? ∧
 ∃ G' Q' more' wrong' P',eR W' B fb kb qb n av mf G' Q' more' wrong' P'∧(∀ j s,G'[j]?=some (some s)→P' j≠sb)∧GoR n i o G Q more wrong G' Q' more' wrong'
end Go.Proofs.YtlokkgajpjafmaaGreatDoor
