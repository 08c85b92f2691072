/-
  Texts Ig.
-/
import Derived.Deep.RegionHeld
import Derived.Test.YtgpamchpeamnfaaGreatDoorMA
import Derived.Test.YtgpamchpeamnfaaGreatDoorM00
import Derived.Test.YtgpamchpeamnfaaGreatDoorM16
import Derived.Test.YtgpamchpeamnfaaGreatDoorM04
set_option linter.unusedSimpArgs false
set_option linter.unusedVariables false
set_option maxRecDepth 100000
set_option maxHeartbeats 40000000
open _root_.Go.Proofs.Tryz
namespace Go.Proofs.YtgpamchpeamnfaaGreatDoor
open Go.RowKit
open Wire Flow Mach
theorem aBk (w0 w:World)(gb hb sb:Nat)(G:List (Option (List UInt8)))(c:Bool)(mv lv:Value)(m:Mo)(l:List Stp)(i:Nat)(s:Stp)(st:List UInt8)
  (hT:nQ w0) (hM:eR w0 mv m) (hF:aOs m) (hL:sN w0 lv l) (hn:l.length≤1000000) (hs:l[i]?=some s) (hok:uA m s) (F0:Fr [] w0 w)
  (b1:w0.heap.size≤gb) (b2:w0.heap.size≤hb) (b3:w0.heap.size≤sb) (h:kK w gb hb sb G c) (hi:G[i]?=some (some st)) (hlow:Low (bD m) l G) (h0:G[0]?=some (some [])) :
  Calls prog 51 #[.pointer (some ⟨gb,0,none⟩),mv,lv,.int .i64 i] w fun e w'=>jG (bD m) l w gb hb sb G c i e w':=by
 have hm:prog.follows Departure.mixedOrders=true:=by kernel_rfl
 have hil:i<l.length:=(Lgs.1 hs).1
 have hM0:=hM
 have hL0:=hL
 obtain⟨tv,pv,fv,rfl,h1,h2,h3⟩:=hM.is
 obtain⟨a0,cap,g,off,rfl,hc,hx0,hx⟩:=hL
 obtain⟨rfl,hgl⟩:=hx0 (by omega)
 obtain⟨x0,x1,x2,x3,x4⟩:=hx i s hs
 obtain⟨W1,hW1⟩:=eX (w.alloc (.cells #[tv,pv,.int .i64 m.globs,.int .i64 m.arrs,fv] 25))
 have FA:Fr [] w W1:=by rw[← hW1];exact (Fr.refl [] w).alloc _
 have F1:Fr [] w0 W1:=F0.trans FA
 replace x0:=(F1.cell (p:=⟨g,off+i*5,none⟩) hgl (by simp)).trans x0
 replace x1:=(F1.cell (p:=⟨g,off+i*5+1,none⟩) hgl (by simp)).trans x1
 replace x2:=(F1.cell (p:=⟨g,off+i*5+2,none⟩) hgl (by simp)).trans x2
 replace x3:=(F1.cell (p:=⟨g,off+i*5+3,none⟩) hgl (by simp)).trans x3
 replace x4:=(F1.cell (p:=⟨g,off+i*5+4,none⟩) hgl (by simp)).trans x4
 have gA:(i:Int)<(l.length:Int):=by omega
 -- HERE
 obtain⟨W2,hW2⟩:=eX (W1.alloc (.cells #[.int .i64 s.pl,.int .i64 s.nx,.int .i64 s.op,.int .i64 s.a,.int .i64 s.b] 84))
 have FB:Fr [] W1 W2:=by rw[← hW2];exact (Fr.refl [] W1).alloc _
 have F2:Fr [] w0 W2:=F1.trans FB
 have FW:Fr [] w W2:=FA.trans FB
 have hz1:W1.heap.size=w.heap.size+1:=by rw[← hW1];simp
 have hz2:W2.heap.size=w.heap.size+2:=by rw[← hW2];simp[hz1]
 have hGl:G.length=l.length:=hlow.size
 obtain⟨n,hln⟩:=eX (l.length)
 have G2:kK W2 gb hb sb G c:=h.fr (by omega) FW (by simp) (by simp) (by simp)
 have hSt:∀ W:World,Fr [] W2 W→(fun w1:World=>(w1.cell? ⟨w.heap.size,0,none⟩=some tv∧w1.cell? ⟨w.heap.size,1,none⟩=some pv∧w1.cell? ⟨w.heap.size,2,none⟩=some (.int .i64 m.globs)∧w1.cell? ⟨w.heap.size,3,none⟩=some (.int .i64 m.arrs)∧w1.cell? ⟨w.heap.size,4,none⟩=some fv)∧(w1.cell? ⟨W1.heap.size,0,none⟩=some (.int .i64 (s.pl:Nat))∧w1.cell? ⟨W1.heap.size,1,none⟩=some (.int .i64 (s.nx:Nat))∧w1.cell? ⟨W1.heap.size,2,none⟩=some (.int .i64 (s.op:Nat))∧w1.cell? ⟨W1.heap.size,3,none⟩=some (.int .i64 (s.a:Nat))∧w1.cell? ⟨W1.heap.size,4,none⟩=some (.int .i64 (s.b:Nat)))∧w1.cell? ⟨gb,1,none⟩=some (.slice (some ⟨sb,0,none⟩) n n)∧w1.cell? ⟨sb,i,none⟩=some (.string (wdK st))) W:=fun W hW=>by
  have k1:=wan w (.cells #[tv,pv,.int .i64 m.globs,.int .i64 m.arrs,fv] 25)
  have k2:=wan W1 (.cells #[.int .i64 s.pl,.int .i64 s.nx,.int .i64 s.op,.int .i64 s.a,.int .i64 s.b] 84)
  rw[hW1] at k1
  rw[hW2] at k2
  have e1:∀ j v,(#[tv,pv,.int .i64 m.globs,.int .i64 m.arrs,fv]:Array Value)[j]?=some v→W.cell? ⟨w.heap.size,j,none⟩=some v:=fun j v hv=>by
   refine ((FB.trans hW).cell (p:=⟨w.heap.size,j,none⟩) (by simp only;omega) (by simp)).trans ?_
   unfold World.cell?
   rw[k1]
   exact hv
  have e2:∀ j v,(#[.int .i64 s.pl,.int .i64 s.nx,.int .i64 s.op,.int .i64 s.a,.int .i64 s.b]:Array Value)[j]?=some v→W.cell? ⟨W1.heap.size,j,none⟩=some v:=fun j v hv=>by
   refine (hW.cell (p:=⟨W1.heap.size,j,none⟩) (by simp only;omega) (by simp)).trans ?_
   unfold World.cell?
   rw[k2]
   exact hv
  have G3:=G2.fr (by omega) hW (by simp) (by simp) (by simp)
  have e3:=G3.c1
  rw[hGl,hln] at e3
  obtain⟨s1,e4,hs1⟩:=G3.cs i _ hi
  obtain rfl:=hs1 st rfl
  exact⟨⟨e1 0 _ rfl,e1 1 _ rfl,e1 2 _ rfl,e1 3 _ rfl,e1 4 _ rfl⟩,⟨e2 0 _ rfl,e2 1 _ rfl,e2 2 _ rfl,e2 3 _ rfl,e2 4 _ rfl⟩,e3,e4⟩
 have hAf:=fun W (hW:Fr [] w0 W)=>aMu _ m W s st (hT.fr hW) (hM0.fr hW) hF hok (h.hi i st hi)
 have HAf:Hid _:=hAf
 have HSt:Hid _:=hSt
 have HG2:Hid _:=G2
 have HNum:Hid _:=fun W (hW:Fr [] w0 W)=>b9 _ l s.a W (hL0.fr hW) hn
 have HGo:Hid _:=fun W:World=>aBw s.op W
 have HLay:Hid _:=fun (W:World) (GG:List (Option (List UInt8))) (cc:Bool) (ii:Int) (u:List UInt8)=>P8 W gb hb sb GG cc ii u
 have hgb:=h.lt
 have hz4:gb<w.heap.size∧hb<w.heap.size∧sb<w.heap.size:=by
  refine⟨hgb,aC (h.ch i _ hi),?_⟩
  obtain⟨s1,e4,-⟩:=h.cs i _ hi
  exact aC e4
 have hhi:=h.hi i st hi
 rw[hln] at HNum
 have HZ:Hid _:=AI hz1 hz2
 clear hz1 hz2
 clear hAf hSt
 have gB:(i:Int)<(n:Int):=by omega
 have HH:Hid _:=AI hGl (AI hln (AI hlow (AI h0 (AI hi (AI hs (AI hok (AI b1 (AI b2 (AI b3 (AI hhi (AI hz4 hn)))))))))))
 clear hGl hlow h0 hi hs hok b1 b2 b3 hhi hz4 hgb hn hil h1 h2 h3 hx hc hx0 hT hM hM0 hL0 hF h G2
 rw[hln]
 clear hln gA
 unfold t8 at HAf
 go_enter func51,ntmps51
 go_wp2_with fail
 refine aE (fun w1:World=>(w1.cell? ⟨w.heap.size,0,none⟩=some tv∧w1.cell? ⟨w.heap.size,1,none⟩=some pv∧w1.cell? ⟨w.heap.size,2,none⟩=some (.int .i64 m.globs)∧w1.cell? ⟨w.heap.size,3,none⟩=some (.int .i64 m.arrs)∧w1.cell? ⟨w.heap.size,4,none⟩=some fv)∧(w1.cell? ⟨W1.heap.size,0,none⟩=some (.int .i64 (s.pl:Nat))∧w1.cell? ⟨W1.heap.size,1,none⟩=some (.int .i64 (s.nx:Nat))∧w1.cell? ⟨W1.heap.size,2,none⟩=some (.int .i64 (s.op:Nat))∧w1.cell? ⟨W1.heap.size,3,none⟩=some (.int .i64 (s.a:Nat))∧w1.cell? ⟨W1.heap.size,4,none⟩=some (.int .i64 (s.b:Nat)))∧w1.cell? ⟨gb,1,none⟩=some (.slice (some ⟨sb,0,none⟩) n n)∧w1.cell? ⟨sb,i,none⟩=some (.string (wdK st))) hm ?_
 have hS:(fun w1:World=>(w1.cell? ⟨w.heap.size,0,none⟩=some tv∧w1.cell? ⟨w.heap.size,1,none⟩=some pv∧w1.cell? ⟨w.heap.size,2,none⟩=some (.int .i64 m.globs)∧w1.cell? ⟨w.heap.size,3,none⟩=some (.int .i64 m.arrs)∧w1.cell? ⟨w.heap.size,4,none⟩=some fv)∧(w1.cell? ⟨W1.heap.size,0,none⟩=some (.int .i64 (s.pl:Nat))∧w1.cell? ⟨W1.heap.size,1,none⟩=some (.int .i64 (s.nx:Nat))∧w1.cell? ⟨W1.heap.size,2,none⟩=some (.int .i64 (s.op:Nat))∧w1.cell? ⟨W1.heap.size,3,none⟩=some (.int .i64 (s.a:Nat))∧w1.cell? ⟨W1.heap.size,4,none⟩=some (.int .i64 (s.b:Nat)))∧w1.cell? ⟨gb,1,none⟩=some (.slice (some ⟨sb,0,none⟩) n n)∧w1.cell? ⟨sb,i,none⟩=some (.string (wdK st))) W2.drew:=HSt.out W2 (Fr.refl [] W2)
 refine wpAnyH_take (i:=0) (v:=.agg #[tv,pv,.int .i64 m.globs,.int .i64 m.arrs,fv]) rfl (by kernel_rfl) (by kernel_rfl) (by kernel_rfl) (fun _ _ _ h=>h) (.inl ⟨rfl,fun w1 hS1=>?_⟩) hS ?_
 ·obtain⟨⟨q0,q1,q2,q3,q4⟩,⟨q5,q6,q7,q8,q9⟩,qa,qb⟩:=hS1
  go_simp
  (try rfl)
 simp only[Act.put,Z1,Z2,Z3,Z4,Z5,Z6]
 refine wpAnyH_take (i:=1) (v:=.agg #[.int .i64 s.pl,.int .i64 s.nx,.int .i64 s.op,.int .i64 s.a,.int .i64 s.b]) rfl (by kernel_rfl) (by kernel_rfl) (by kernel_rfl) (fun _ _ _ h=>h) (.inl ⟨rfl,fun w1 hS1=>?_⟩) hS ?_
 ·obtain⟨⟨q0,q1,q2,q3,q4⟩,⟨q5,q6,q7,q8,q9⟩,qa,qb⟩:=hS1
  go_simp
  (try rfl)
 simp only[Act.put,Z1,Z2,Z3,Z4,Z5,Z6]
 refine aH (fun _ _ _ _ _ h=>h) hS [2,3,4,5,6,7,8] (by kernel_rfl) ?_
 iterate 7
  refine Yls.cons (v:=?_) rfl (.inl ⟨rfl,fun w1 hS1=>?_⟩) ?_
  rotate_left
  ·obtain⟨⟨q0,q1,q2,q3,q4⟩,⟨q5,q6,q7,q8,q9⟩,qa,qb⟩:=hS1
   go_simp
   first | rfl | (refine (if_neg (by omega)).trans ?_;rfl)
  simp only[Act.put,Z1,Z2,Z3,Z4,Z5,Z6]
 refine Yls.nil ?_
 refine rd1 (r:=9) (by kernel_rfl) rfl fun K hK=>?_
 go_simp
 refine (HAf.out _ F2.drew).mono ?_
 rintro e W3 ⟨hA0,F3'⟩
 have F3:Fr [] W2 W3:=(Fr.refl [] W2).drew.trans F3'
 obtain⟨xx,yy,bb,rfl,hA⟩:=kS.out hA0
 clear hA0
 have hS3:=HSt.out W3 F3
 clear F3'
 refine hK _ _ hS3 ?_
 clear hK K
 intro _
 refine aH (fun _ _ _ _ _ h=>h) hS3 [10,11,12,13,14,15,16] (by kernel_rfl) ?_
 iterate 7
  refine Yls.cons (v:=?_) rfl (.inl ⟨rfl,fun w1 hS1=>?_⟩) ?_
  rotate_left
  ·obtain⟨⟨q0,q1,q2,q3,q4⟩,⟨q5,q6,q7,q8,q9⟩,qa,qb⟩:=hS1
   go_simp
   first | rfl | (refine (if_neg (by omega)).trans ?_;rfl)
  simp only[Act.put,Z1,Z2,Z3,Z4,Z5,Z6]
 refine Yls.nil ?_
 refine wpAnyH_done (by kernel_rfl) ?_ _
 obtain⟨hGl,hln,hlow,h0,hi,hs,hok,b1,b2,b3,hhi,hz4,hn⟩:=HH.out
 have F03:Fr [] w W3:=FW.trans F3
 have FS3:Fr [gb,hb,sb] w W3:=F03.mono (by simp)
 have G3:kK W3 gb hb sb G c:=HG2.out.fr (by omega) F3 (by simp) (by simp) (by simp)
 have d2:=hS3.2.1.2.2.1
 have d3:=hS3.2.1.2.2.2.1
 clear hS3 hS HSt HAf HH HG2 x0 x1 x2 x3 x4 hW1 hW2 FA FB F1
 rcases hA with ⟨rfl,hA⟩ | ⟨rfl,o,r,hA,rfl,rfl⟩
 ·have HP:Hid (jG (bD m) l w gb hb sb G c i (.returned (.bool false)) W3):=xR FS3 (hlow.stuck hi hs hA)
  clear G3 hA hGl hln hlow h0 hi hs hok b1 b2 b3 hhi hz4 hn HNum HGo HLay d2 d3
  go_wp2
  go_ret
  exact HP
 ·obtain⟨ho,hr0⟩:=aEx hA
  have hr:r.length≤1024:=by omega
  clear hr0
  cases hfar:far s.op with
  | false=>
   rw[hfar] at HGo
   go_wp2_with fail
   refine (HGo.out _).mono ?_
   rintro e w5 ⟨rfl,rfl⟩
   by_cases e48:s.op=48
   ·have hh:=lC (op:=s.op) (by omega)
    have HP:Hid (jG (bD m) l w gb hb sb G c i (.returned (.bool true)) w5):=iI (G1:=G) (G2:=G) FS3 G3 hlow h0 (by simp) (gF hi hs hA ho hr (fun q=>(by rw[hfar] at q;cases q)) (fun _=>rfl) (fun q=>(by rw[hh] at q;cases q)) (fun _=>rfl))
    have q48:((s.op:Int)==48)=true:=by rw[e48];rfl
    clear hh
    clear e48
    clear hA hGl hln hlow h0 hi hs hok b1 b2 b3 hhi hz4 hn HNum HGo HLay ho hr hfar G3
    go_wp2
    go_ret
    exact HP
   ·by_cases e51:s.op=51
    ·have hh:=lC (op:=s.op) (by omega)
     have HP:Hid (jG (bD m) l w gb hb sb G c i (.returned (.bool true)) w5):=iI (G1:=G) (G2:=G) FS3 G3 hlow h0 (by simp) (gF hi hs hA ho hr (fun q=>(by rw[hfar] at q;cases q)) (fun _=>rfl) (fun q=>(by rw[hh] at q;cases q)) (fun _=>rfl))
     have q48:((s.op:Int)==48)=false:=by simp only[beq_eq_false_iff_ne,ne_eq];omega
     have q51:((s.op:Int)==51)=true:=by rw[e51];rfl
     clear hh
     clear e48
     clear e51
     clear hA hGl hln hlow h0 hi hs hok b1 b2 b3 hhi hz4 hn HNum HGo HLay ho hr hfar G3
     go_wp2
     go_ret
     exact HP
    ·by_cases e52:s.op=52
     ·have hh:=lC (op:=s.op) (by omega)
      have HP:Hid (jG (bD m) l w gb hb sb G c i (.returned (.bool true)) w5):=iI (G1:=G) (G2:=G) FS3 G3 hlow h0 (by simp) (gF hi hs hA ho hr (fun q=>(by rw[hfar] at q;cases q)) (fun _=>rfl) (fun q=>(by rw[hh] at q;cases q)) (fun _=>rfl))
      have q48:((s.op:Int)==48)=false:=by simp only[beq_eq_false_iff_ne,ne_eq];omega
      have q51:((s.op:Int)==51)=false:=by simp only[beq_eq_false_iff_ne,ne_eq];omega
      have q52:((s.op:Int)==52)=true:=by rw[e52];rfl
      clear hh
      clear e48
      clear e51
      clear e52
      clear hA hGl hln hlow h0 hi hs hok b1 b2 b3 hhi hz4 hn HNum HGo HLay ho hr hfar G3
      go_wp2
      go_ret
      exact HP
     ·by_cases e53:s.op=53
      ·have hh:=lC (op:=s.op) (by omega)
       have HP:Hid (jG (bD m) l w gb hb sb G c i (.returned (.bool true)) w5):=iI (G1:=G) (G2:=G) FS3 G3 hlow h0 (by simp) (gF hi hs hA ho hr (fun q=>(by rw[hfar] at q;cases q)) (fun _=>rfl) (fun q=>(by rw[hh] at q;cases q)) (fun _=>rfl))
       have q48:((s.op:Int)==48)=false:=by simp only[beq_eq_false_iff_ne,ne_eq];omega
       have q51:((s.op:Int)==51)=false:=by simp only[beq_eq_false_iff_ne,ne_eq];omega
       have q52:((s.op:Int)==52)=false:=by simp only[beq_eq_false_iff_ne,ne_eq];omega
       have q53:((s.op:Int)==53)=true:=by rw[e53];rfl
       clear hh
       clear e48
       clear e51
       clear e52
       clear e53
       clear hA hGl hln hlow h0 hi hs hok b1 b2 b3 hhi hz4 hn HNum HGo HLay ho hr hfar G3
       go_wp2
       go_ret
       exact HP
      ·have hh:=aIn e48 e51 e52 e53
       have q48:((s.op:Int)==48)=false:=by simp only[beq_eq_false_iff_ne,ne_eq];omega
       have q51:((s.op:Int)==51)=false:=by simp only[beq_eq_false_iff_ne,ne_eq];omega
       have q52:((s.op:Int)==52)=false:=by simp only[beq_eq_false_iff_ne,ne_eq];omega
       have q53:((s.op:Int)==53)=false:=by simp only[beq_eq_false_iff_ne,ne_eq];omega
       have hLy:=HLay.out w5 (G) (c) ((i:Int)+1) o G3 (by omega) ho
       have HLy:Hid _:=fun (_:Unit)=>hLy
       have gi1:(i:Int)+1≤5000000:=by omega
       clear hLy e48 e51 e52 e53 HNum HGo HLay
       have HK0:Hid _:=AI hA (AI hi (AI hs (AI hlow hfar)))
       have HK1:Hid _:=AI hlow (AI h0 (AI hh (AI ho hr)))
       have HFS:Hid _:=FS3
       clear hA hGl hln hlow h0 hi hs hok b1 b2 b3 hhi hz4 hn hh ho hr hfar G3
       go_wp2_with fail
       refine (HLy.out ()).mono ?_
       rintro e W6 ⟨F6,hLP⟩
       obtain⟨hA,hi,hs,hlow,hfar⟩:=HK0.out
       obtain⟨L1,Z1,hh,ho,hr⟩:=HK1.out
       rcases hLP with ⟨rfl,hno⟩ | ⟨rfl,k2,hk2,hk2l,hk2h,K2⟩
       ·have HP:Hid (jG (bD m) l w gb hb sb G c i (.returned (.bool false)) W6):=xR (HFS.out.trans F6) (aDr hlow L1 hi hs hA hh hno)
        clear HK0 HK1 HFS HLy hA hi hs hlow hfar L1 Z1 hh ho hr F6  hno
        go_wp2
        go_ret
        exact HP
       ·obtain rfl:k2=i+1:=by omega
        have HP:Hid (jG (bD m) l w gb hb sb G c i (.returned (.bool true)) W6):=iI (G1:=G) (G2:=laid (G) (i+1) o) (HFS.out.trans F6) K2 (hlow.next L1 hi hs hA hh) (mM Z1 hk2h) (by simp) (gF hi hs hA ho hr (fun q=>(by rw[hfar] at q;cases q)) (fun _=>rfl) (fun _=>⟨hk2l,hk2h,rfl⟩) (fun q=>(by rw[hh] at q;cases q)))
        clear HK0 HK1 HFS HLy hA hi hs hlow hfar L1 Z1 hh ho hr F6  hk2 hk2l hk2h K2
        go_wp2
        go_ret
        exact HP
  | true=>
   rw[hfar] at HGo
   go_wp2_with fail
   refine (HGo.out _).mono ?_
   rintro e w5 ⟨rfl,rfl⟩
   have hNm:=HNum.out w5 (F2.trans F3)
   have HNm:Hid _:=fun (_:Unit)=>hNm
   have hLy:=HLay.out w5 G c (qG (dY l s.a)) r G3 (aHj l s.a hn) hr
   have HLy:Hid _:=fun (_:Unit)=>hLy
   clear hNm hLy
   have hbd:=aHj l s.a hn
   obtain⟨nb,hnb⟩:=eX (qG (dY l s.a))
   rw[hnb] at HNm HLy hbd
   have HNB:Hid _:=hnb
   have HL9:Hid _:=AI hlow hln
   clear hnb
   have HK9:Hid _:=AI hGl (AI hln (AI hlow (AI h0 (AI hi (AI hs (AI hok (AI b1 (AI b2 (AI b3 (AI hhi (AI hz4 (AI hn (AI hA hfar)))))))))))))
   clear hGl hln hlow h0 hi hs hok b1 b2 b3 hhi hz4 hn hA hfar
   go_wp2_with fail
   refine (HNm.out ()).mono ?_
   rintro e w6 ⟨rfl,rfl⟩
   go_wp2_with fail
   refine (HLy.out ()).mono ?_
   rintro e W4 ⟨F4,hLP⟩
   obtain⟨hGl,hln,hlow,h0,hi,hs,hok,b1,b2,b3,hhi,hz4,hn,hA,hfar⟩:=HK9.out
   have FS4:=FS3.trans F4
   rcases hLP with ⟨rfl,hno⟩ | ⟨rfl,kk,hkk,hkl,hkh,K4⟩
   ·rw[← HNB.out] at hno
    have HP:Hid (jG (bD m) l w gb hb sb G c i (.returned (.bool false)) W4):=xR FS4 (aVt hlow hi hs hA hfar hno)
    clear hGl hln hlow h0 hi hs hok b1 b2 b3 hhi hz4 hn hA hfar HK9 HNB HNm HLy HL9 hno d2 d3 G3 HNum HGo HLay hbd ho hr F4
    go_wp2
    go_ret
    exact HP
   ·have hk:dY l s.a=some kk:=by
     have e:=HNB.out
     rw[hkk] at e
     cases hq:dY l s.a with
     | none=>rw[hq] at e;simp only[qG] at e;omega
     | some q=>rw[hq] at e;simp only[qG] at e;congr 1;omega
    have d2:=(F4.cell (p:=⟨W1.heap.size,2,none⟩) (aC d2) (by have hz1:=HZ.out.1;simp only[List.mem_cons,List.not_mem_nil,or_false,not_or];omega)).trans d2
    have L4:=hlow.farLow hi hs hA hfar hk
    have Z4:=mM h0 hkh
    clear HK9 HNB HNm HLy HL9 d3 G3 hbd F4 hkk FS3
    by_cases e48:s.op=48
    ·have hh:=lC (op:=s.op) (by omega)
     have HP:Hid (jG (bD m) l w gb hb sb G c i (.returned (.bool true)) W4):=iI (G1:=laid G kk r) (G2:=laid G kk r) FS4 K4 L4 Z4 (by simp) (gF hi hs hA ho hr (fun _=>⟨kk,hk,hkl,hkh,rfl⟩) (fun q=>(by rw[hfar] at q;cases q)) (fun q=>(by rw[hh] at q;cases q)) (fun _=>rfl))
     have q48:((s.op:Int)==48)=true:=by rw[e48];rfl
     clear hh
     clear e48
     clear hA hGl hln hlow h0 hi hs hok b1 b2 b3 hhi hz4 hn HNum HGo HLay ho hr hfar K4 L4 Z4
     go_wp2
     go_ret
     exact HP
    ·by_cases e51:s.op=51
     ·have hh:=lC (op:=s.op) (by omega)
      have HP:Hid (jG (bD m) l w gb hb sb G c i (.returned (.bool true)) W4):=iI (G1:=laid G kk r) (G2:=laid G kk r) FS4 K4 L4 Z4 (by simp) (gF hi hs hA ho hr (fun _=>⟨kk,hk,hkl,hkh,rfl⟩) (fun q=>(by rw[hfar] at q;cases q)) (fun q=>(by rw[hh] at q;cases q)) (fun _=>rfl))
      have q48:((s.op:Int)==48)=false:=by simp only[beq_eq_false_iff_ne,ne_eq];omega
      have q51:((s.op:Int)==51)=true:=by rw[e51];rfl
      clear hh
      clear e48
      clear e51
      clear hA hGl hln hlow h0 hi hs hok b1 b2 b3 hhi hz4 hn HNum HGo HLay ho hr hfar K4 L4 Z4
      go_wp2
      go_ret
      exact HP
     ·by_cases e52:s.op=52
      ·have hh:=lC (op:=s.op) (by omega)
       have HP:Hid (jG (bD m) l w gb hb sb G c i (.returned (.bool true)) W4):=iI (G1:=laid G kk r) (G2:=laid G kk r) FS4 K4 L4 Z4 (by simp) (gF hi hs hA ho hr (fun _=>⟨kk,hk,hkl,hkh,rfl⟩) (fun q=>(by rw[hfar] at q;cases q)) (fun q=>(by rw[hh] at q;cases q)) (fun _=>rfl))
       have q48:((s.op:Int)==48)=false:=by simp only[beq_eq_false_iff_ne,ne_eq];omega
       have q51:((s.op:Int)==51)=false:=by simp only[beq_eq_false_iff_ne,ne_eq];omega
       have q52:((s.op:Int)==52)=true:=by rw[e52];rfl
       clear hh
       clear e48
       clear e51
       clear e52
       clear hA hGl hln hlow h0 hi hs hok b1 b2 b3 hhi hz4 hn HNum HGo HLay ho hr hfar K4 L4 Z4
       go_wp2
       go_ret
       exact HP
      ·by_cases e53:s.op=53
       ·have hh:=lC (op:=s.op) (by omega)
        have HP:Hid (jG (bD m) l w gb hb sb G c i (.returned (.bool true)) W4):=iI (G1:=laid G kk r) (G2:=laid G kk r) FS4 K4 L4 Z4 (by simp) (gF hi hs hA ho hr (fun _=>⟨kk,hk,hkl,hkh,rfl⟩) (fun q=>(by rw[hfar] at q;cases q)) (fun q=>(by rw[hh] at q;cases q)) (fun _=>rfl))
        have q48:((s.op:Int)==48)=false:=by simp only[beq_eq_false_iff_ne,ne_eq];omega
        have q51:((s.op:Int)==51)=false:=by simp only[beq_eq_false_iff_ne,ne_eq];omega
        have q52:((s.op:Int)==52)=false:=by simp only[beq_eq_false_iff_ne,ne_eq];omega
        have q53:((s.op:Int)==53)=true:=by rw[e53];rfl
        clear hh
        clear e48
        clear e51
        clear e52
        clear e53
        clear hA hGl hln hlow h0 hi hs hok b1 b2 b3 hhi hz4 hn HNum HGo HLay ho hr hfar K4 L4 Z4
        go_wp2
        go_ret
        exact HP
       ·have hh:=aIn e48 e51 e52 e53
        have q48:((s.op:Int)==48)=false:=by simp only[beq_eq_false_iff_ne,ne_eq];omega
        have q51:((s.op:Int)==51)=false:=by simp only[beq_eq_false_iff_ne,ne_eq];omega
        have q52:((s.op:Int)==52)=false:=by simp only[beq_eq_false_iff_ne,ne_eq];omega
        have q53:((s.op:Int)==53)=false:=by simp only[beq_eq_false_iff_ne,ne_eq];omega
        have hLy:=HLay.out W4 (laid G kk r) (c || decide (laid G kk r≠G)) ((i:Int)+1) o K4 (by omega) ho
        have HLy:Hid _:=fun (_:Unit)=>hLy
        have gi1:(i:Int)+1≤5000000:=by omega
        clear hLy e48 e51 e52 e53 HNum HGo HLay
        have HK0:Hid _:=AI hA (AI hi (AI hs (AI hlow (AI hfar (AI hk (AI hkl hkh))))))
        have HK1:Hid _:=AI L4 (AI Z4 (AI hh (AI ho hr)))
        have HFS:Hid _:=FS4
        clear hA hGl hln hlow h0 hi hs hok b1 b2 b3 hhi hz4 hn hh ho hr hfar K4 L4 Z4 hk hkl hkh
        go_wp2_with fail
        refine (HLy.out ()).mono ?_
        rintro e W6 ⟨F6,hLP⟩
        obtain⟨hA,hi,hs,hlow,hfar,hk,hkl,hkh⟩:=HK0.out
        obtain⟨L1,Z1,hh,ho,hr⟩:=HK1.out
        rcases hLP with ⟨rfl,hno⟩ | ⟨rfl,k2,hk2,hk2l,hk2h,K2⟩
        ·have HP:Hid (jG (bD m) l w gb hb sb G c i (.returned (.bool false)) W6):=xR (HFS.out.trans F6) (aDr hlow L1 hi hs hA hh hno)
         clear HK0 HK1 HFS HLy hA hi hs hlow hfar L1 Z1 hh ho hr F6 hk hkl hkh hno
         go_wp2
         go_ret
         exact HP
        ·obtain rfl:k2=i+1:=by omega
         have HP:Hid (jG (bD m) l w gb hb sb G c i (.returned (.bool true)) W6):=iI (G1:=laid G kk r) (G2:=laid (laid G kk r) (i+1) o) (HFS.out.trans F6) K2 (hlow.next L1 hi hs hA hh) (mM Z1 hk2h) (by simp) (gF hi hs hA ho hr (fun _=>⟨kk,hk,hkl,hkh,rfl⟩) (fun q=>(by rw[hfar] at q;cases q)) (fun _=>⟨hk2l,hk2h,rfl⟩) (fun q=>(by rw[hh] at q;cases q)))
         clear HK0 HK1 HFS HLy hA hi hs hlow hfar L1 Z1 hh ho hr F6 hk hkl hkh hk2 hk2l hk2h K2
         go_wp2
         go_ret
         exact HP
end Go.Proofs.YtgpamchpeamnfaaGreatDoor
