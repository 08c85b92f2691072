/-
  Texts Da Db Dc.
-/
import Derived.Deep.OwnRows
import Derived.Test.YtgpamchpeamnfaaGreatDoorMA
import Derived.Test.YtgpamchpeamnfaaGreatDoorM28
import Derived.Test.YtgpamchpeamnfaaGreatDoorM04
import Derived.Test.YtgpamchpeamnfaaGreatDoorM00
import Derived.Test.YtgpamchpeamnfaaGreatDoorM23
set_option linter.unusedSimpArgs false
set_option linter.unusedVariables false
set_option maxRecDepth 100000
set_option maxHeartbeats 40000000
open _root_.Go.Proofs.Tryz
namespace Go.Proofs.YtgpamchpeamnfaaGreatDoor
open Go.RowKit
open Wire Flow Mach
abbrev rlV (N b S:Nat):Value:=.agg #[.int .i64 N,.slice (some ⟨b,0,none⟩) S S]
def BoS (W:World) (b S:Nat):Prop:=∀ k,k<S→(∃ v:Bool,W.cell? ⟨b,k,none⟩=some (.bool v))∧W.frozen? ⟨b,k,none⟩=false
structure aFd (W:World) (c:Nat) (v0 v1:Value):Prop where
 c0:W.cell? ⟨c,0,none⟩=some v0
 c1:W.cell? ⟨c,1,none⟩=some v1
 z0:W.frozen? ⟨c,0,none⟩=false
 z1:W.frozen? ⟨c,1,none⟩=false
structure RJ (w0 W:World) (S:Nat) (rs:List Nat) (os:List (Nat × Value × Value)):Prop where
 fr:Fr [] w0 W
 r:∀ b ∈ rs,BoS W b S
 o:∀ x ∈ os,aFd W x.1 x.2.1 x.2.2
def aAr (N S:Nat) (w:World) (e:Ending) (w':World):Prop:=∃ b,w.heap.size≤b∧e=.returned (rlV N b S)∧BoS w' b S∧Fr [] w w'
section
variable {L : List Nat} {w0 W W' : World} {b S c g j : Nat} {v0 v1 : Value} {rs : List Nat} {os : List (Nat × Value × Value)}
theorem BoS.lt (h:BoS W b S)(h0:0<S):b<W.heap.size:=by
 obtain⟨v,hv⟩:=(h 0 h0).1
 exact aC (a:=⟨b,0,none⟩) hv
theorem BoS.fr (h:BoS W b S)(h0:0<S)(hf:Fr L W W')(hb:b ∉ L):BoS W' b S:=fun k hk=>by
 obtain⟨⟨v,hv⟩,hz⟩:=h k hk
 exact⟨⟨v,(hf.cell (p:=⟨b,k,none⟩) (h.lt h0) hb).trans hv⟩,(hf.frozen (p:=⟨b,k,none⟩) (h.lt h0) hb).trans hz⟩
theorem BoS.set {v:Bool}(h:BoS W b S):BoS (W.setCell ⟨g,j,none⟩ (.bool v)) b S:=fun k hk=>by
 obtain⟨⟨u,hu⟩,hz⟩:=h k hk
 refine⟨?_,by rw[wfz];exact hz⟩
 by_cases e:g=b∧j=k
 ·obtain⟨rfl,rfl⟩:=e
  exact⟨v,aP hu⟩
 ·exact⟨u,by rw[World.cell?_setCell_other _ _ _ _ (by simp;omega)];exact hu⟩
theorem aFd.lt (h:aFd W c v0 v1):c<W.heap.size:=aC (a:=⟨c,0,none⟩) h.c0
theorem aFd.fr (h:aFd W c v0 v1)(hf:Fr L W W')(hb:c ∉ L):aFd W' c v0 v1:=
 ⟨(hf.cell (p:=⟨c,0,none⟩) h.lt hb).trans h.c0,(hf.cell (p:=⟨c,1,none⟩) h.lt hb).trans h.c1,(hf.frozen (p:=⟨c,0,none⟩) h.lt hb).trans h.z0,(hf.frozen (p:=⟨c,1,none⟩) h.lt hb).trans h.z1⟩
theorem rG (h:aFd W c v0 v1)(u0 u1:Value):(W.setCell ⟨c,0,none⟩ u0).cell? ⟨c,1,none⟩=some v1∧(W.setCell ⟨c,0,none⟩ u0).frozen? ⟨c,1,none⟩=false∧((W.setCell ⟨c,0,none⟩ u0).setCell ⟨c,1,none⟩ u1).cell? ⟨c,0,none⟩=some u0∧((W.setCell ⟨c,0,none⟩ u0).setCell ⟨c,1,none⟩ u1).cell? ⟨c,1,none⟩=some u1∧Fr [c] W ((W.setCell ⟨c,0,none⟩ u0).setCell ⟨c,1,none⟩ u1):=by
 have a:(W.setCell ⟨c,0,none⟩ u0).cell? ⟨c,1,none⟩=some v1:=(aA (by decide)).trans h.c1
 exact⟨a,(wfz _ _ _ _).trans h.z1,(aA (by decide)).trans (aP h.c0),aP a,((Fr.refl _ _).setCell (p:=⟨c,0,none⟩) (.inl (by simp)) _).setCell (p:=⟨c,1,none⟩) (.inl (by simp)) _⟩
theorem RJ.init (w:World)(h:∀ b ∈ rs,BoS w b S):RJ w w S rs []:=⟨Fr.refl _ _,h,by simp⟩
theorem RJ.call (h:RJ w0 W S rs os)(h0:0<S)(hf:Fr [] W W'):RJ w0 W' S rs os:=⟨h.fr.trans hf,fun b hb=>(h.r b hb).fr h0 hf (by simp),fun x hx=>(h.o x hx).fr hf (by simp)⟩
theorem RJ.add (h:RJ w0 W S rs os)(hb:BoS W b S):RJ w0 W S (b :: rs) os:=⟨h.fr,fun x hx=>by
 rcases List.mem_cons.1 hx with rfl | h1
 ·exact hb
 ·exact h.r x h1,h.o⟩
theorem RJ.new (h:RJ w0 W S rs os)(h0:0<S)(v0 v1:Value):RJ w0 (W.alloc (.cells #[v0,v1] 210)) S rs ((W.heap.size,v0,v1) :: os):=by
 have h1:=h.call h0 ((Fr.refl [] W).alloc (.cells #[v0,v1] 210))
 refine⟨h1.fr,h1.r,fun x hx=>?_⟩
 rcases List.mem_cons.1 hx with rfl | h2
 ·have hm:=wan W (.cells #[v0,v1] 210)
  refine⟨?_,?_,?_,?_⟩
  ·unfold World.cell?;rw[hm];simp
  ·unfold World.cell?;rw[hm];simp
  ·unfold World.frozen?;rw[hm];simp
  ·unfold World.frozen?;rw[hm];simp
 ·exact h1.o x h2
theorem RJ.put (h:RJ w0 W S rs os)(hb:w0.heap.size≤b)(hd:∀ x ∈ os,x.1≠b)(hf:Fr [b] W W')(hk:∀ g,BoS W g S→BoS W' g S):RJ w0 W' S rs os:=
 ⟨h.fr.trans' hf (by simpa using hb),fun g hg=>hk g (h.r g hg),fun x hx=>(h.o x hx).fr hf (by simpa using hd x hx)⟩
theorem RJ.set2 (h:RJ w0 W S rs ((c,v0,v1) :: os))(h0:0<S)(hc:w0.heap.size≤c)(hd:∀ x ∈ os,x.1≠c)(hr:∀ b ∈ rs,b≠c)(u0 u1:Value):RJ w0 ((W.setCell ⟨c,0,none⟩ u0).setCell ⟨c,1,none⟩ u1) S rs ((c,u0,u1) :: os):=by
 have hc1:=h.o (c,v0,v1) (by simp)
 obtain⟨a1,a2,a3,a4,a5⟩:=rG hc1 u0 u1
 refine⟨h.fr.trans' a5 (by simpa using hc),fun g hg=>(h.r g hg).fr h0 a5 (by simpa using hr g hg),fun x hx=>?_⟩
 rcases List.mem_cons.1 hx with rfl | h2
 ·exact⟨a3,a4,(wfz _ _ _ _).trans ((wfz _ _ _ _).trans hc1.z0),(wfz _ _ _ _).trans a2⟩
 ·exact (h.o x (by simp[h2])).fr a5 (by simpa using hd x h2)
end
theorem aNk {N i j:Nat}(hi:i≤N)(hj:j≤N):i*(N+1)+j<(N+1)*(N+1):=by
 have:i*(N+1)≤N*(N+1):=Nat.mul_le_mul_right _ hi
 have e:(N+1)*(N+1)=N*(N+1)+(N+1):=by rw[Nat.add_mul,Nat.one_mul]
 omega
theorem iX {N S:Nat}(eS:(N+1)*(N+1)=S)(hN:N≤1048576):0<S∧S≤1099513724929:=by
 rw[← eS]
 exact⟨Nat.mul_pos (by omega) (by omega),Nat.mul_le_mul (show N+1≤1048577 by omega) (show N+1≤1048577 by omega)⟩
theorem bDg (N S b i j:Nat)(w:World)(h:BoS w b S)(eS:(N+1)*(N+1)=S)(hN:N≤1048576)(hi:i≤N)(hj:j≤N) :
  Calls prog 148 #[rlV N b S,.int .i64 i,.int .i64 j] w fun e w'=>s8 e∧Fr [] w w':=by
 have f0:∀ o,Fr [] w (w.alloc o):=fun o=>(Fr.refl [] w).alloc o
 obtain⟨hS0,hS⟩:=iX eS hN
 have hk:=aNk hi hj
 obtain⟨k,ek⟩:=eX (i*(N+1)+j)
 rw[ek,eS] at hk
 obtain⟨v,hv⟩:=(h k hk).1
 have hc:=fun o=>((f0 o).cell (p:=⟨b,k,none⟩) (h.lt hS0) (by simp)).trans hv
 have ekz:(i:Int)*((N:Int)+1)+j=k:=by rw[← ek];push_cast;rfl
 have p0:0≤(i:Int)*((N:Int)+1):=Int.mul_nonneg (by omega) (by omega)
 have p1:(i:Int)*((N:Int)+1)≤1099513724929:=by omega
 clear ek eS h hv
 go_enter func148,ntmps148
 go_wp2
 go_ret
 exact⟨⟨v,rfl⟩,f0 _⟩
theorem aNl (N S b i j:Nat)(w:World)(h:BoS w b S)(eS:(N+1)*(N+1)=S)(hN:N≤1048576)(hi:i≤N)(hj:j≤N) :
  Calls prog 194 #[rlV N b S,.int .i64 i,.int .i64 j] w fun e w'=>e=.returned (.tuple #[])∧Fr [b] w w'∧∀ g,BoS w g S→BoS w' g S:=by
 have f0:∀ o,Fr [] w (w.alloc o):=fun o=>(Fr.refl [] w).alloc o
 obtain⟨hS0,hS⟩:=iX eS hN
 have hk:=aNk hi hj
 obtain⟨k,ek⟩:=eX (i*(N+1)+j)
 rw[ek,eS] at hk
 have hc:=fun o=>(h.fr hS0 (f0 o) (by simp)) k hk
 have Hn:Hid _:=fun (o:Obj) (g:Nat) (hg:BoS w g S)=>(hg.fr hS0 (f0 o) (by simp)).set (g:=b) (j:=k) (v:=true)
 have ekz:(i:Int)*((N:Int)+1)+j=k:=by rw[← ek];push_cast;rfl
 have p0:0≤(i:Int)*((N:Int)+1):=Int.mul_nonneg (by omega) (by omega)
 have p1:(i:Int)*((N:Int)+1)≤1099513724929:=by omega
 clear ek eS h
 obtain⟨⟨v,hv⟩,hz⟩:=hc (.cells #[.int .i64 N,.slice (some ⟨b,0,none⟩) S S] 210)
 clear hc
 go_enter func194,ntmps194
 go_wp2
 go_end0
 exact⟨rfl,((f0 _).mono (by simp)).setCell (p:=⟨b,k,none⟩) (.inl (by simp)) _,Hn.out _⟩
theorem bFl:(prog.info? 4).map (fun i=>(i.zero,i.size,i.bytes))=some (some (.bool false),1,1):=by kernel_rfl
theorem aUs (w:World)(S:Nat):BoS (w.alloc (.cells (madeCells #[.bool false] S) 4)) w.heap.size S:=fun k hk=>by
 have hm:=wan w (.cells (madeCells #[.bool false] S) 4)
 exact⟨⟨false,by unfold World.cell?;rw[hm];simp[madeCells,hk,Nat.mod_one]⟩,by unfold World.frozen?;rw[hm];simp⟩
theorem O1 (N S:Nat)(eS:(N+1)*(N+1)=S)(hN:N≤1048576)(w:World):Calls prog 161 #[.int .i64 N] w (aAr N S w):=by
 obtain⟨hS0,hS⟩:=iX eS hN
 have eSz:((N:Int)+1)*((N:Int)+1)=S:=by rw[← eS];push_cast;rfl
 have hmk:=fun w=>run_make_row' (P:=prog) 108 4 (.bool false) 1 underlying108 bFl rfl .i64 .i64 S (by omega) (by omega) w
 clear eS
 go_enter func161,ntmps161
 go_wp2
 have hr:=aUs (w.alloc (.cells #[.int .i64 N,.slice (some ⟨w.heap.size+1,0,none⟩) S S] 210)) S
 rw[World.size_alloc] at hr
 refine bodyPost_ret (v:=rlV N (w.heap.size+1) S) (by simp[results,results161,go_sem]) rfl ⟨_,by omega,rfl,hr,?_⟩
 exact ((Fr.refl _ _).alloc _).alloc _
theorem aTp (N S:Nat)(eS:(N+1)*(N+1)=S)(hN:N≤1048576)(w:World):Calls prog 179 #[.int .i64 N] w (aAr N S w):=by
 have hS0:=(iX eS hN).1
 have Hn:Hid _:=O1 N S eS hN
 have Hp:Hid _:=fun (b k:Nat) (W:World) (h:BoS W b S) (hk:k≤N)=>aNl N S b k k W h eS hN hk hk
 clear eS
 go_enter func179,ntmps179
 go_wp2_with fail
 refine (Hn.out _).mono ?_
 rintro e w1 ⟨b,hb,rfl,hr,f1⟩
 rw[World.size_alloc] at hb
 have hbl:=hr.lt hS0
 have J0:=(((((RJ.init w (rs:=[]) (S:=S) (by simp)).new hS0 (.int .i64 0) (.slice none 0 0)).call hS0 f1).add hr).new hS0 (.int .i64 N) (.slice (some ⟨b,0,none⟩) S S))
 go_wp2
 generalize w1.alloc (.cells #[.int .i64 N,(.slice (some ⟨b,0,none⟩) S S)] 210)=w2 at *
 generalize w1.heap.size=c at *
 clear hr f1 Hn
 go_loopw [4] (fun i wr=>∃ k:Nat,k≤N+1∧i=.int .i64 k∧RJ w wr S [b] [(c,.int .i64 N,.slice (some ⟨b,0,none⟩) S S),(w.heap.size,.int .i64 0,.slice none 0 0)]) (fun i _=>N+1-(intOf i).toNat)
 case atStart=>exact⟨0,by omega,rfl,J0⟩
 case round=>
  clear J0
  obtain⟨k,hk,rfl,J⟩:=hrel
  have oc:=J.o _ (List.mem_cons_self ..)
  have a0:=oc.c0
  have a1:=oc.c1
  by_cases hlt:k≤N
  ·have g1:(k:Int)≤N:=by omega
   have hput:=Hp.out b k wr (J.r b (by simp)) hlt
   clear oc
   go_wp2_with fail
   refine hput.mono ?_
   rintro e w3 ⟨rfl,f3,k3⟩
   have J2:=J.put (b:=b) (by omega) (by simp;omega) f3 k3
   clear hput f3 k3 J a0 a1
   go_wp2
   exact⟨⟨k+1,by omega,by go_num,J2⟩,by simp[intOf];omega⟩
  ·have g1:¬ ((k:Int)≤N):=by omega
   have or:=J.o (w.heap.size,.int .i64 0,.slice none 0 0) (by simp)
   have r0:=or.c0
   have r1:=or.c1
   have q0:=or.z0
   have q1:=or.z1
   obtain⟨x1,x2,x3,x4,ff⟩:=rG or (.int .i64 N) (.slice (some ⟨b,0,none⟩) S S)
   have HZ:Hid _:=AI ((J.r b (by simp)).fr hS0 ff (by simp;omega)) (J.fr.trans' ff (by simp))
   clear oc or J ff Hp
   go_wp2
   exact bodyPost_ret (v:=rlV N b S) (by simp[results,results179,go_sem,x3,x4]) rfl ⟨b,by omega,rfl,HZ.out⟩
theorem T7 (N S ba bb:Nat)(eS:(N+1)*(N+1)=S)(hN:N≤1048576)(w:World)(ha:BoS w ba S)(hb:BoS w bb S):Calls prog 163 #[rlV N ba S,rlV N bb S] w (aAr N S w):=by
 obtain⟨hS0,hS⟩:=iX eS hN
 have hm:prog.follows Departure.mixedOrders=true:=by kernel_rfl
 have Hn:Hid _:=O1 N S eS hN
 clear eS
 have la:=ha.lt hS0
 have lb:=hb.lt hS0
 go_enter func163,ntmps163
 go_wp2_with fail
 refine (Hn.out _).mono ?_
 rintro e w1 ⟨b,hbk,rfl,hr,f1⟩
 clear Hn
 simp only[World.size_alloc] at hbk
 have hbl:=hr.lt hS0
 have J0:=(((((((RJ.init w (rs:=[ba,bb]) (S:=S) (by simp;exact⟨ha,hb⟩)).new hS0 (.int .i64 N) (.slice (some ⟨ba,0,none⟩) S S)).new hS0 (.int .i64 N) (.slice (some ⟨bb,0,none⟩) S S)).new hS0 (.int .i64 0) (.slice none 0 0)).call hS0 f1).add hr).new hS0 (.int .i64 N) (.slice (some ⟨b,0,none⟩) S S))
 simp only[World.size_alloc] at J0
 go_wp2
 generalize w1.alloc (.cells #[.int .i64 N,.slice (some ⟨b,0,none⟩) S S] 210)=w2 at *
 generalize w1.heap.size=c at *
 clear hr f1 ha hb
 go_loopw [6] (fun i wr=>∃ k:Nat,k≤S∧i=.int .i64 k∧RJ w wr S [b,ba,bb] [(c,.int .i64 N,.slice (some ⟨b,0,none⟩) S S),(w.heap.size+1+1,.int .i64 0,.slice none 0 0),(w.heap.size+1,.int .i64 N,.slice (some ⟨bb,0,none⟩) S S),(w.heap.size,.int .i64 N,.slice (some ⟨ba,0,none⟩) S S)]) (fun i _=>S-(intOf i).toNat)
 case atStart=>exact⟨0,by omega,rfl,J0⟩
 case round=>
  clear J0
  obtain⟨k,hk,rfl,J⟩:=hrel
  have a1:=(J.o _ (List.mem_cons_self ..)).c1
  by_cases hlt:k<S
  ·have g1:(k:Int)<S:=by omega
   have a2:=(J.o (w.heap.size,.int .i64 N,.slice (some ⟨ba,0,none⟩) S S) (by simp)).c1
   have a3:=(J.o (w.heap.size+1,.int .i64 N,.slice (some ⟨bb,0,none⟩) S S) (by simp)).c1
   obtain⟨⟨va,ca⟩,-⟩:=J.r ba (by simp) k hlt
   obtain⟨⟨vb,cb⟩,-⟩:=J.r bb (by simp) k hlt
   obtain⟨⟨vr,cr⟩,zr⟩:=J.r b (by simp) k hlt
   have Hj:Hid _:=fun (v:Bool)=>(J.put (b:=b) (by omega) (by simp;omega) ((Fr.refl [b] wr).setCell (p:=⟨b,k,none⟩) (.inl (by simp)) (.bool v)) (fun g hg=>hg.set)).call hS0 ((Fr.refl [] _).drew)
   clear J
   cases va
   all_goals
    go_wp2
    refine aR 16 hm (by kernel_rfl) ?_
    simp only[List.take_succ_cons,List.take_zero,List.drop_succ_cons,List.drop_zero]
    repeat still_step
    refine wpStill_nil ?_
    go_wp2
    exact⟨⟨k+1,by omega,by go_num,Hj.out _⟩,by simp[intOf];omega⟩
  ·have g1:¬ ((k:Int)<S):=by omega
   have a0:=(J.o _ (List.mem_cons_self ..)).c0
   have or:=J.o (w.heap.size+1+1,.int .i64 0,.slice none 0 0) (by simp)
   have r0:=or.c0
   have r1:=or.c1
   have q0:=or.z0
   have q1:=or.z1
   obtain⟨x1,x2,x3,x4,ff⟩:=rG or (.int .i64 N) (.slice (some ⟨b,0,none⟩) S S)
   have HZ:Hid _:=AI ((J.r b (by simp)).fr hS0 ff (by simp;omega)) (J.fr.trans' ff (by simp;omega))
   clear or J ff
   go_wp2
   exact bodyPost_ret (v:=rlV N b S) (by simp[results,results163,go_sem,x3,x4]) rfl ⟨b,by omega,rfl,HZ.out⟩
theorem aWn (N S ba bb:Nat)(eS:(N+1)*(N+1)=S)(hN:N≤1048576)(w:World)(ha:BoS w ba S)(hb:BoS w bb S):Calls prog 182 #[rlV N ba S,rlV N bb S] w (aAr N S w):=by
 obtain⟨hS0,hS⟩:=iX eS hN
 have Hn:Hid _:=O1 N S eS hN
 have Hp:Hid _:=fun (b i k:Nat) (W:World) (h:BoS W b S) (hi:i≤N) (hk:k≤N)=>aNl N S b i k W h eS hN hi hk
 have Ha:Hid _:=fun (b i k:Nat) (W:World) (h:BoS W b S) (hi:i≤N) (hk:k≤N)=>bDg N S b i k W h eS hN hi hk
 clear eS
 have la:=ha.lt hS0
 have lb:=hb.lt hS0
 go_enter func182,ntmps182
 go_wp2_with fail
 refine (Hn.out _).mono ?_
 rintro e w1 ⟨b,hbk,rfl,hr,f1⟩
 clear Hn
 simp only[World.size_alloc] at hbk
 have hbl:=hr.lt hS0
 have J0:=(((((((RJ.init w (rs:=[ba,bb]) (S:=S) (by simp;exact⟨ha,hb⟩)).new hS0 (.int .i64 N) (.slice (some ⟨ba,0,none⟩) S S)).new hS0 (.int .i64 N) (.slice (some ⟨bb,0,none⟩) S S)).new hS0 (.int .i64 0) (.slice none 0 0)).call hS0 f1).add hr).new hS0 (.int .i64 N) (.slice (some ⟨b,0,none⟩) S S))
 simp only[World.size_alloc] at J0
 go_wp2
 generalize w1.alloc (.cells #[.int .i64 N,.slice (some ⟨b,0,none⟩) S S] 210)=w2 at *
 generalize w1.heap.size=c at *
 clear hr f1 ha hb
 obtain⟨RJJ,hRJ⟩:∃ R:World→Prop,R=fun wr=>RJ w wr S [b,ba,bb] [(c,.int .i64 N,.slice (some ⟨b,0,none⟩) S S),(w.heap.size+1+1,.int .i64 0,.slice none 0 0),(w.heap.size+1,.int .i64 N,.slice (some ⟨bb,0,none⟩) S S),(w.heap.size,.int .i64 N,.slice (some ⟨ba,0,none⟩) S S)]:=⟨_,rfl⟩
 have HJ:Hid (∀ wr,RJJ wr→RJ w wr S [b,ba,bb] [(c,.int .i64 N,.slice (some ⟨b,0,none⟩) S S),(w.heap.size+1+1,.int .i64 0,.slice none 0 0),(w.heap.size+1,.int .i64 N,.slice (some ⟨bb,0,none⟩) S S),(w.heap.size,.int .i64 N,.slice (some ⟨ba,0,none⟩) S S)]):=fun wr h=>by rw[hRJ] at h;exact h
 have HC:Hid (∀ wr w',RJJ wr→Fr [] wr w'→RJJ w'):=fun wr w' h hf=>by rw[hRJ] at h ⊢;exact h.call hS0 hf
 have HP:Hid (∀ wr w',RJJ wr→Fr [b] wr w'→(∀ g,BoS wr g S→BoS w' g S)→RJJ w'):=fun wr w' h hf hk=>by rw[hRJ] at h ⊢;exact h.put (b:=b) (by omega) (by simp;omega) hf hk
 have J0:RJJ w2:=by rw[hRJ];exact J0
 clear hRJ
 go_loopw [6] (fun i wr=>∃ I:Nat,I≤N+1∧i=.int .i64 I∧RJJ wr) (fun i _=>N+1-(intOf i).toNat)
 case atStart=>exact⟨0,by omega,rfl,J0⟩
 case round=>
  clear J0
  obtain⟨I,hI,rfl,J⟩:=hrel
  have J1:=HJ.out _ J
  have a0:=(J1.o (w.heap.size,.int .i64 N,.slice (some ⟨ba,0,none⟩) S S) (by simp)).c0
  by_cases hlt:I≤N
  ·have g1:(I:Int)≤N:=by omega
   clear J1
   go_wp2
   clear a0
   go_loopw [7] (fun i wr=>∃ K:Nat,K≤N+1∧i=.int .i64 K∧RJJ wr) (fun i _=>N+1-(intOf i).toNat)
   case atStart=>exact⟨I,by omega,rfl,J⟩
   case round=>
    clear J
    obtain⟨K,hK,rfl,J⟩:=hrel
    have J1:=HJ.out _ J
    have oa:=(J1.o (w.heap.size,.int .i64 N,.slice (some ⟨ba,0,none⟩) S S) (by simp))
    have a0:=oa.c0
    have a1:=oa.c1
    by_cases hlt2:K≤N
    ·have g2:(K:Int)≤N:=by omega
     have hat:=Ha.out ba I K wr (J1.r ba (by simp)) hlt hlt2
     clear J1 oa
     go_wp2_with fail
     refine hat.mono ?_
     rintro e w3 ⟨⟨v,rfl⟩,f3⟩
     have J3:=HC.out _ _ J f3
     clear hat J f3 a0 a1
     cases v with
     | false=>
      go_wp2
      exact⟨⟨K+1,by omega,by go_num,J3⟩,by simp[intOf];omega⟩
     | true=>
      go_wp2
      go_loopw [8] (fun i wr=>∃ L:Nat,L≤N+1∧i=.int .i64 L∧RJJ wr) (fun i _=>N+1-(intOf i).toNat)
      case atStart=>exact⟨K,by omega,rfl,J3⟩
      case round=>
       clear J3
       obtain⟨L,hL,rfl,J⟩:=hrel
       have J1:=HJ.out _ J
       have oa:=(J1.o (w.heap.size,.int .i64 N,.slice (some ⟨ba,0,none⟩) S S) (by simp))
       have ob:=(J1.o (w.heap.size+1,.int .i64 N,.slice (some ⟨bb,0,none⟩) S S) (by simp))
       have a0:=oa.c0
       have b0:=ob.c0
       have b1:=ob.c1
       by_cases hlt3:L≤N
       ·have g3:(L:Int)≤N:=by omega
        have hat:=Ha.out bb K L wr (J1.r bb (by simp)) hlt2 hlt3
        clear J1 oa ob
        go_wp2_with fail
        refine hat.mono ?_
        rintro e w4 ⟨⟨v,rfl⟩,f4⟩
        have J4:=HC.out _ _ J f4
        clear hat J f4 a0 b0 b1
        cases v with
        | false=>
         go_wp2
         exact⟨⟨L+1,by omega,by go_num,J4⟩,by simp[intOf];omega⟩
        | true=>
         have J5:=HJ.out _ J4
         have od:=J5.o _ (List.mem_cons_self ..)
         have hput:=Hp.out b I L w4 (J5.r b (by simp)) hlt hlt3
         have d0:=od.c0
         have d1:=od.c1
         clear J5 od
         go_wp2_with fail
         refine hput.mono ?_
         rintro e w5 ⟨rfl,f5,k5⟩
         have J6:=HP.out _ _ J4 f5 k5
         clear J4 hput f5 k5 d0 d1
         go_wp2
         exact⟨⟨L+1,by omega,by go_num,J6⟩,by simp[intOf];omega⟩
       ·have g3:¬ ((L:Int)≤N):=by omega
        clear J1 oa ob
        go_wp2
        exact⟨⟨K+1,by omega,by go_num,J⟩,by simp[intOf];omega⟩
    ·have g2:¬ ((K:Int)≤N):=by omega
     clear J1 oa
     go_wp2
     exact⟨⟨I+1,by omega,by go_num,J⟩,by simp[intOf];omega⟩
  ·have g1:¬ ((I:Int)≤N):=by omega
   have oc:=J1.o _ (List.mem_cons_self ..)
   have p0:=oc.c0
   have p1:=oc.c1
   have or:=J1.o (w.heap.size+1+1,.int .i64 0,.slice none 0 0) (by simp)
   have r0:=or.c0
   have r1:=or.c1
   have q0:=or.z0
   have q1:=or.z1
   obtain⟨x1,x2,x3,x4,ff⟩:=rG or (.int .i64 N) (.slice (some ⟨b,0,none⟩) S S)
   have HZ:Hid _:=AI ((J1.r b (by simp)).fr hS0 ff (by simp;omega)) (J1.fr.trans' ff (by simp;omega))
   clear oc or J J1 ff HJ HC HP Ha Hp
   go_wp2
   exact bodyPost_ret (v:=rlV N b S) (by simp[results,results182,go_sem,x3,x4]) rfl ⟨b,by omega,rfl,HZ.out⟩
structure aJv (m:fM) (b:Nat) (m':fM):Prop where
 o:m.st≤1→(b=40→m'.st≤1∧m'.op=m.op+1)∧(b=41→m'.st≤1∧m.op=m'.op+1)∧(b=91→m'.st=3∧m'.op=m.op)∧(b=92→m'.st=2∧m'.op=m.op)∧(b≠40→b≠41→b≠91→b≠92→m'.st≤1∧m'.op=m.op)
 e:m.st=2→m'.st≤1∧m'.op=m.op
 c:3≤m.st→m'.op=m.op
 n:m'.st≤9
 k3:m.st=3→b≠93∧(b=94→m'.st=4)∧(b=92→m'.st=6)∧(b≠94→b≠92→m'.st=7)
 k4:m.st=4→b≠93∧(b=92→m'.st=6)∧(b≠92→m'.st=7)
 k5:m.st=5→(b=93→m'.st=1)∧(b=92→m'.st=6)∧(b≠93→b≠92→m'.st=7)
 k6:m.st=6→m'.st=7
 k7:m.st=7→(b=93→m'.st=1)∧(b=92→m'.st=6)∧(b=45→m'.st=8)∧(b≠93→b≠92→b≠45→m'.st=7)
 k8:m.st=8→(b=93→m'.st=1)∧(b=92→m'.st=9)∧(b≠93→b≠92→m'.st=5)
 k9:m.st=9→m'.st=5
theorem aLc {m m':fM}{b:Nat} (h:gH m b=some m'):aJv m b m':=by
 refine⟨fun hs=>?_,fun hs=>?_,fun hs=>?_,?_,fun hs=>?_,fun hs=>?_,fun hs=>?_,fun hs=>?_,fun hs=>?_,fun hs=>?_,fun hs=>?_⟩
 all_goals
  unfold gH tM inM at h
  repeat' split at h
  all_goals first
   | (cases h;done)
   | (obtain rfl:=Option.some.inj h
      dsimp only <;> omega)
theorem aJv.k {m m':fM}{b:Nat} (v:aJv m b m') (h3:3≤m.st) (h9:m.st≤9):m'.op=m.op∧(m'.st≤1↔b=93∧(m.st=5∨m.st=7∨m.st=8))∧(m'.st=6∨m'.st=9↔b=92∧m.st≠6∧m.st≠9)∧m'.st≠2∧(b=93→m.st≠3∧m.st≠4):=by
 obtain⟨-,-,c,-,k3,k4,k5,k6,k7,k8,k9⟩:=v
 have:m.st=3∨m.st=4∨m.st=5∨m.st=6∨m.st=7∨m.st=8∨m.st=9:=by omega
 refine⟨c h3,?_⟩
 rcases this with e | e | e | e | e | e | e
 ·have:=k3 e;omega
 ·have:=k4 e;omega
 ·have:=k5 e;omega
 ·have:=k6 e;omega
 ·have:=k7 e;omega
 ·have:=k8 e;omega
 ·have:=k9 e;omega
structure X9 (t:ByteArray) (c:Nat→fM):Prop where
 b:(c 0).st≤1∧(c 0).op=0
 e:(c t.size).st≤1∧(c t.size).op=0
 s:∀ k,k<t.size→aJv (c k) (aO t k) (c (k+1))
def nU (t:ByteArray):Prop:=∃ c,X9 t c
theorem aBe {t:ByteArray}:∀ n m,mW t n=some m→∀ k,k≤n→∃ m',mW t k=some m'
 | 0,m,h,k,hk=>by obtain rfl:k=0:=(by omega);exact⟨m,h⟩
 | n+1,m,h,k,hk=>by
  by_cases e:k=n+1
  ·subst e;exact⟨m,h⟩
  ·cases hr:mW t n with
   | none=>rw[mW,hr] at h;cases h
   | some m'=>exact aBe n m' hr k (by omega)
theorem aPq {t:ByteArray}(ht:t.size≤50)(hok:gD t=true):nU t:=by
 have h:=(aKt t 400).alt st0 ⟨0,0,0⟩ (nW t) ⟨rfl,Nat.zero_le _,rfl⟩ rfl (by show 6*(t.size-0)+3≤400;omega)
 change jX t (eW t).2 (aZw t (eW t).2 0) at h
 obtain⟨o1,o2⟩:=rJ hok
 rcases h with ⟨m,h1,h2⟩ | ⟨h1,h2⟩
 ·have hr:=h1.r
  rw[o2] at hr
  have hs:=aBe _ _ hr
  refine⟨fun k=>(mW t k).getD ⟨0,0,0⟩,⟨Nat.zero_le _,rfl⟩,?_,fun k hk=>?_⟩
  ·show ((mW t t.size).getD ⟨0,0,0⟩).st≤1∧((mW t t.size).getD ⟨0,0,0⟩).op=0
   rw[hr]
   have:=h2.st
   have:=h2.op
   simp only[Option.getD_some]
   omega
  ·obtain⟨m1,e1⟩:=hs k (by omega)
   obtain⟨m2,e2⟩:=hs (k+1) (by omega)
   show aJv ((mW t k).getD ⟨0,0,0⟩) (aO t k) ((mW t (k+1)).getD ⟨0,0,0⟩)
   rw[e2,e1]
   rw[mW,e1] at e2
   exact aLc e2
 ·rw[o1] at h1;cases h1
section
variable {t : ByteArray} {c : Nat → fM} {i j : Nat}
theorem X9.v (h:X9 t c){k:Nat}(hk:k<t.size):aJv (c k) (aO t k) (c (k+1)):=h.s k hk
theorem X9.le9 (h:X9 t c):∀ k,k≤t.size→(c k).st≤9
 | 0,_=>by have:=h.b;omega
 | k+1,hk=>(h.v (k:=k) (by omega)).n
structure Sp (t:ByteArray) (c:Nat→fM) (i j:Nat):Prop where
 lt:i<j∧j≤t.size
 st:(c j).st≤1∧(c j).op=(c i).op
 ge:∀ k,i≤k→k≤j→(c i).op≤(c k).op
 esc:aO t i=92→j=i+2
 cls:aO t i=91→i+2≤j∧∀ k,i+1≤k→k≤j-1→3≤(c k).st
 grp:aO t i=40→i+2≤j∧(c (j-1)).st≤1∧(c (j-1)).op=(c i).op+1∧∀ k,i+1≤k→k≤j-1→(c i).op+1≤(c k).op
structure aSq (u:ByteArray) (d:Nat→fM):Prop where
 b:(d 0).st=3
 e:(d u.size).st=5∨(d u.size).st=7∨(d u.size).st=8
 a:∀ k,k≤u.size→3≤(d k).st∧(d k).st≤9
 s:∀ k,k<u.size→aJv (d k) (aO u k) (d (k+1))
structure aXb (t:ByteArray):Prop where
 p:0<t.size
 esc:aO t 0=92→2≤t.size
 cls:aO t 0=91→2≤t.size∧∃ d,aSq (t.extract 1 (t.size-1)) d
 grp:aO t 0=40→2≤t.size∧nU (t.extract 1 (t.size-1))
theorem X9.sub (h:X9 t c){a b:Nat}(hab:a≤b)(hb:b≤t.size)(h1:(c a).st≤1)(h2:(c b).st≤1)(h3:(c b).op=(c a).op)(h4:∀ k,a≤k→k≤b→(c a).op≤(c k).op):nU (t.extract a b):=by
 have hs:(t.extract a b).size=b-a:=by rw[ByteArray.size_extract];omega
 refine⟨fun k=>⟨(c (a+k)).st,(c (a+k)).op-(c a).op,(c (a+k)).fr⟩,⟨h1,by simp⟩,?_,fun k hk=>?_⟩
 ·rw[hs,show a+(b-a)=b by omega]
  exact⟨h2,by simp[h3]⟩
 ·rw[hs] at hk
  rw[kH t a b k (by omega) hb]
  have hn:=h.s (a+k) (by omega)
  have g1:=h4 (a+k) (by omega) (by omega)
  have g2:=h4 (a+k+1) (by omega) (by omega)
  rw[show a+(k+1)=a+k+1 by omega]
  generalize aO t (a+k)=x at *
  generalize c (a+k+1)=m' at *
  generalize c (a+k)=m at *
  generalize (c a).op=d at *
  exact⟨fun hs=>by have:=hn.o hs;dsimp only;omega,fun hs=>by have:=hn.e hs;dsimp only;omega,fun hs=>by have:=hn.c hs;dsimp only;omega,hn.n,hn.k3,hn.k4,hn.k5,hn.k6,hn.k7,hn.k8,hn.k9⟩
theorem Sp.atm (h:X9 t c)(h0:(c i).st≤1)(s:Sp t c i j):aXb (t.extract i j):=by
 obtain⟨hij,hj⟩:=s.lt
 have hs:(t.extract i j).size=j-i:=by rw[ByteArray.size_extract];omega
 have hb:aO (t.extract i j) 0=aO t i:=kH t i j 0 (by omega) hj
 refine⟨by omega,fun e=>?_,fun e=>?_,fun e=>?_⟩
 ·have:=s.esc (by rw[← hb];exact e);omega
 ·rw[hb] at e
  obtain⟨h2,ha⟩:=s.cls e
  refine⟨by omega,fun k=>c (i+1+k),?_⟩
  have hs2:((t.extract i j).extract 1 ((t.extract i j).size-1)).size=j-i-2:=by rw[ByteArray.size_extract];omega
  have v0:=h.v (k:=i) (by omega)
  have ve:=h.v (k:=j-1) (by omega)
  rw[show j-1+1=j by omega] at ve
  have sj:=s.st.1
  have a9:=h.le9 (j-1) (by omega)
  have a3:=ha (j-1) (by omega) (by omega)
  have v1:=(v0.o h0).2.2.1 e
  have v2:=(ve.k a3 a9).2.1.1 sj
  refine⟨by show (c (i+1+0)).st=3;rw[Nat.add_zero];exact v1.1,?_,fun k hk=>?_,fun k hk=>?_⟩
  ·show (c (i+1+_)).st=5∨(c (i+1+_)).st=7∨(c (i+1+_)).st=8
   rw[hs2,show i+1+(j-i-2)=j-1 by omega]
   omega
  ·rw[hs2] at hk
   exact⟨ha _ (by omega) (by omega),h.le9 _ (by omega)⟩
  ·rw[hs2] at hk
   show aJv (c (i+1+k)) _ (c (i+1+(k+1)))
   rw[kH _ 1 _ k (by omega) (by omega),kH t i j _ (by omega) hj,show i+(1+k)=i+1+k by omega]
   exact h.v (by omega)
 ·rw[hb] at e
  obtain⟨h2,k1,k2,k3⟩:=s.grp e
  refine⟨by omega,?_⟩
  have e1:(t.extract i j).extract 1 ((t.extract i j).size-1)=t.extract (i+1) (j-1):=by
   rw[hs,ByteArray.extract_extract]
   congr 1
   omega
  rw[e1]
  have v0:=((h.v (k:=i) (by omega)).o h0).1 e
  exact h.sub (by omega) (by omega) v0.1 k1 (by omega) (fun k a b=>by have:=k3 k a b;omega)
end
def aJy (u:ByteArray) (d:Nat→fM) (k:Nat):Prop:=k≤u.size∧(((d k).st=3∧aO u k≠94)∨(d k).st=4∨(d k).st=5∨((d k).st=7∧¬ (k+1<u.size∧aO u k=45))∨((d k).st=8∧k=u.size))
theorem aSq.first {u:ByteArray}{d:Nat→fM} (h:aSq u d):0<u.size∧(aO u 0=94→aJy u d 1)∧(aO u 0≠94→aJy u d 0):=by
 have h0:=h.b
 have he:=h.e
 have hp:0<u.size:=by
  rcases Nat.eq_zero_or_pos u.size with e | e
  ·rw[e] at he;omega
  ·exact e
 have v:=(h.s 0 hp).k3 h0
 exact⟨hp,fun e=>⟨hp,.inr (.inl (v.2.1 e))⟩,fun e=>⟨by omega,.inl ⟨h0,e⟩⟩⟩
theorem aSq.next {u:ByteArray}{d:Nat→fM} (h:aSq u d) {k:Nat} (hk:aJy u d k) (hlt:k<u.size):∃ a,((a=k∧aO u k≠92)∨(a=k+1∧aO u k=92))∧a<u.size ∧
  ((a+1+1<u.size∧aO u (a+1)=45∧∃ e,((e=a+1+1∧aO u (a+1+1)≠92)∨(e=a+1+1+1∧aO u (a+1+1)=92))∧e<u.size∧aJy u d (e+1))∨(¬ (a+1+1<u.size∧aO u (a+1)=45)∧aJy u d (a+1))):=by
 have more:∀ q,q≤u.size→((d q).st=6∨(d q).st=9)→q<u.size:=fun q hq h6=>by
  rcases Nat.lt_or_ge q u.size with e | e
  ·exact e
  ·have he:=h.e
   rw[show u.size=q by omega] at he;omega
 obtain⟨-,hs⟩:=hk
 have a3:=h.a k (by omega)
 have vk:=h.s k hlt
 have vk':=vk.k a3.1 a3.2
 obtain⟨a,ha,hal,hst⟩:∃ a,((a=k∧aO u k≠92)∨(a=k+1∧aO u k=92))∧a<u.size∧((d (a+1)).st=7∨((d (a+1)).st=8∧a+1=u.size)):=by
  by_cases e:aO u k=92
  ·have h6:(d (k+1)).st=6:=by
    rcases hs with q | q | q | q | q
    ·exact (vk.k3 q.1).2.2.1 e
    ·exact (vk.k4 q).2.1 e
    ·exact (vk.k5 q).2.1 e
    ·exact (vk.k7 q.1).2.1 e
    ·omega
   have hl:=more (k+1) hlt (.inl h6)
   exact⟨k+1,.inr ⟨rfl,e⟩,hl,.inl ((h.s (k+1) hl).k6 h6)⟩
  ·have h3:=(h.a (k+1) hlt).1
   refine⟨k,.inl ⟨rfl,e⟩,hlt,?_⟩
   rcases hs with q | q | q | q | q
   ·exact .inl ((vk.k3 q.1).2.2.2 q.2 e)
   ·exact .inl ((vk.k4 q).2.2 e)
   ·have:=vk.k5 q;omega
   ·have:=vk.k7 q.1;omega
   ·omega
 refine⟨a,ha,hal,?_⟩
 by_cases hd:a+2<u.size∧aO u (a+1)=45
 ·left
  have v1:=h.s (a+1) (by omega)
  have v2:=h.s (a+2) hd.1
  have h3:=(h.a (a+2+1) (by omega)).1
  have h8:(d (a+2)).st=8:=(v1.k7 (by omega)).2.2.1 hd.2
  have w2:=v2.k8 h8
  by_cases e:aO u (a+2)=92
  ·have h9:=w2.2.1 e
   have hl:=more (a+2+1) (by omega) (.inr h9)
   have v3:=(h.s (a+2+1) hl).k9 h9
   exact⟨hd.1,hd.2,a+3,.inr ⟨rfl,e⟩,hl,by omega,.inr (.inr (.inl v3))⟩
  ·exact⟨hd.1,hd.2,a+2,.inl ⟨rfl,e⟩,hd.1,by omega,.inr (.inr (.inl (by omega)))⟩
 ·right
  refine⟨hd,by omega,?_⟩
  rcases hst with q | q
  ·exact .inr (.inr (.inr (.inl ⟨q,hd⟩)))
  ·exact .inr (.inr (.inr (.inr q)))
theorem qW {t:ByteArray}{i:Nat} (h:i<t.size):(t[i].toNat:Int)=(aO t i:Int):=by unfold aO;rw[dif_pos h]
theorem fO {t:ByteArray}{i x:Nat} (h:i<t.size) (hn:aO t i≠x):((t[i].toNat:Int)==(x:Int))=false:=by rw[qW h];simp;omega
theorem aEj (a b:ByteArray):(a.toList==b.toList)=decide (a=b):=by
 rw[ByteArray.toList_eq,ByteArray.toList_eq,Bool.eq_iff_iff]
 simp only[beq_iff_eq,decide_eq_true_eq]
 exact⟨fun h=>ByteArray.ext (Array.toList_inj.1 h),fun h=>by rw[h]⟩
def bIb (t:ByteArray) (c:Nat→fM) (i:Nat) (e:Ending):Prop:=∃ j:Nat,e=.returned (.int .i64 j)∧Sp t c i j
theorem aKx (t:ByteArray)(c:Nat→fM)(h:X9 t c)(ht:t.size≤50):∀ n i,t.size-i≤n→i<t.size→(c i).st≤1→aO t i≠41→∀ w,Calls prog 164 #[.string t,.int .i64 i] w fun e w'=>bIb t c i e∧w'=w
 | 0,i,hn,hi,_,_,_=>by omega
 | n+1,i,hn,hi,hst,h41,w=>by
  have ih:=aKx t c h ht n
  have g1:(i:Int)<t.size:=by omega
  have vi:=h.v hi
  have hend:=h.e
  replace vi:=vi.o hst
  by_cases h92:aO t i=92
  ·have b1:(t[i].toNat:Int)=92:=by rw[qW hi];omega
   have hl:i+1<t.size:=by
    rcases Nat.lt_or_ge (i+1) t.size with q | q
    ·exact q
    ·rw[show t.size=i+1 by omega] at hend;omega
   have v1:=(h.v hl).e (by omega)
   have HS:Hid (Sp t c i (i+2)):=⟨by omega,by rw[show i+2=i+1+1 from rfl];omega,fun k a b=>by
    rcases (show k=i∨k=i+1∨k=i+1+1 by omega) with rfl | rfl | rfl <;> omega,fun _=>rfl,fun e=>by omega,fun e=>by omega⟩
   clear ih vi v1 hend hst h41 h92 h hn
   go_enter func164,ntmps164
   go_wp2
   go_ret
   exact⟨⟨i+2,by go_num,HS.out⟩,rfl⟩
  ·have n92:=fO hi h92
   by_cases h91:aO t i=91
   ·have b1:(t[i].toNat:Int)=91:=by rw[qW hi];omega
    have H:Hid _:=h
    have s3:(c (i+1)).st=3∧(c (i+1)).op=(c i).op:=by omega
    have HS:Hid _:=AI s3 (AI hst hend)
    clear ih vi hend hst s3 h hn n92
    go_enter func164,ntmps164
    go_wp2
    go_loop [5] (fun v=>∃ j:Nat,i+1≤j∧j≤t.size∧v=.int .i64 j∧Hid ((c j).st≠6∧(c j).st≠9∧∀ k,i+1≤k→k≤j→3≤(c k).st∧(c k).op=(c i).op)) (fun v=>t.size-(intOf v).toNat)
    case atStart=>exact⟨i+1,by omega,by omega,by go_num,(by
     obtain⟨s3,hst,hend⟩:=HS.out
     exact⟨by omega,by omega,fun k a b=>by obtain rfl:k=i+1:=(by omega);omega⟩)⟩
    case round=>
     obtain⟨j,hj1,hj2,rfl,hn⟩:=hrel
     obtain⟨n6,n9,ha⟩:=hn.out
     obtain⟨s3,hst,hend⟩:=HS.out
     have aj:=ha j hj1 (by omega)
     have hj:j<t.size:=by
      rcases Nat.lt_or_ge j t.size with q | q
      ·exact q
      ·rw[show t.size=j by omega] at hend;omega
     have g2:(j:Int)<t.size:=by omega
     have j9:=H.out.le9 j hj2
     have vj:=(H.out.v hj).k aj.1 j9
     by_cases h93:aO t j=93
     ·have b2:((t[j].toNat:Int)!=93)=false:=by rw[qW hj,h93];rfl
      have Z:Hid (Sp t c i (j+1)):=⟨by omega,by omega,fun k a b=>by
       rcases (show k=i∨k=j+1∨(i+1≤k∧k≤j) by omega) with rfl | rfl | ⟨q1,q2⟩
       ·omega
       ·omega
       ·have:=ha k q1 q2;omega,fun e=>by omega,fun _=>⟨by omega,fun k a b=>(ha k a (by omega)).1⟩,fun e=>by omega⟩
      clear hn HS H ha aj s3 hst hend vj
      go_wp2
      go_ret
      exact⟨⟨j+1,by go_num,Z.out⟩,rfl⟩
     ·have b2:((t[j].toNat:Int)!=93)=true:=by rw[qW hj];simp;omega
      by_cases k92:aO t j=92
      ·have b3:(t[j].toNat:Int)=92:=by rw[qW hj];omega
       have hl:j+1<t.size:=by
        rcases Nat.lt_or_ge (j+1) t.size with q | q
        ·exact q
        ·rw[show t.size=j+1 by omega] at hend;omega
       have v1:=(H.out.v hl).k (by omega) (H.out.le9 (j+1) (by omega))
       have Z:Hid ((c (j+2)).st≠6∧(c (j+2)).st≠9∧∀ k,i+1≤k→k≤j+2→3≤(c k).st∧(c k).op=(c i).op):=by
        rw[show j+2=j+1+1 from rfl]
        refine⟨by omega,by omega,fun k a b=>?_⟩
        rcases (show k=j+1∨k=j+1+1∨k≤j by omega) with rfl | rfl | q
        ·omega
        ·omega
        ·exact ha k a q
       clear hn ha aj s3 hst hend vj v1
       go_wp2
       exact⟨⟨j+2,by omega,by omega,by go_num,Z⟩,by simp[intOf];omega⟩
      ·have b3:=fO hj k92
       have Z:Hid ((c (j+1)).st≠6∧(c (j+1)).st≠9∧∀ k,i+1≤k→k≤j+1→3≤(c k).st∧(c k).op=(c i).op):=by
        refine⟨by omega,by omega,fun k a b=>?_⟩
        rcases (show k=j+1∨k≤j by omega) with rfl | q
        ·omega
        ·exact ha k a q
       clear hn ha aj s3 hst hend vj
       go_wp2
       exact⟨⟨j+1,by omega,by omega,by go_num,Z⟩,by simp[intOf];omega⟩
   ·have n91:=fO hi h91
    by_cases h40:aO t i=40
    ·have b1:(t[i].toNat:Int)=40:=by rw[qW hi];omega
     have H:Hid _:=h
     have s3:(c (i+1)).st≤1∧(c (i+1)).op=(c i).op+1:=by omega
     have HS:Hid _:=AI s3 (AI hst hend)
     have HI:Hid _:=ih
     clear ih vi hend hst s3 h n92 n91
     go_enter func164,ntmps164
     go_wp2
     go_loop [6] (fun v=>∃ j:Nat,i+1≤j∧j≤t.size∧v=.int .i64 j∧Hid ((c j).st≤1∧(c j).op=(c i).op+1∧∀ k,i+1≤k→k≤j→(c i).op+1≤(c k).op)) (fun v=>t.size-(intOf v).toNat)
     case atStart=>exact⟨i+1,by omega,by omega,by go_num,(by
      obtain⟨s3,hst,hend⟩:=HS.out
      exact⟨by omega,by omega,fun k a b=>by obtain rfl:k=i+1:=(by omega);omega⟩)⟩
     case round=>
      obtain⟨j,hj1,hj2,rfl,hq⟩:=hrel
      obtain⟨n6,n9,ha⟩:=hq.out
      obtain⟨s3,hst,hend⟩:=HS.out
      have hj:j<t.size:=by
       rcases Nat.lt_or_ge j t.size with q | q
       ·exact q
       ·rw[show t.size=j by omega] at hend;omega
      have g2:(j:Int)<t.size:=by omega
      have vj:=(H.out.v hj).o n6
      by_cases k41:aO t j=41
      ·have b2:((t[j].toNat:Int)!=41)=false:=by rw[qW hj,k41];rfl
       have Z:Hid (Sp t c i (j+1)):=⟨by omega,by omega,fun k a b=>by
        rcases (show k=i∨k=j+1∨(i+1≤k∧k≤j) by omega) with rfl | rfl | ⟨q1,q2⟩
        ·omega
        ·omega
        ·have:=ha k q1 q2;omega,fun e=>by omega,fun e=>by omega,fun _=>⟨by omega,by rw[Nat.add_sub_cancel];exact n6,by rw[Nat.add_sub_cancel];exact n9,fun k a b=>ha k a (by omega)⟩⟩
       clear hq HS H HI ha s3 hst hend vj n6 n9
       go_wp2
       go_ret
       exact⟨⟨j+1,by go_num,Z.out⟩,rfl⟩
      ·have b2:((t[j].toNat:Int)!=41)=true:=by rw[qW hj];simp;omega
       have hp:=HI.out j (by omega) hj n6 k41 w
       have HA:Hid _:=AI n9 ha
       clear hq ha s3 hst hend vj n6 n9 HI H
       go_wp2_with fail
       refine hp.mono ?_
       rintro r w2 ⟨⟨j',rfl,sp⟩,hw2⟩
       replace hw2:=hw2.symm
       subst hw2
       obtain⟨l1,l2⟩:=sp.lt
       have Z:Hid ((c j').st≤1∧(c j').op=(c i).op+1∧∀ k,i+1≤k→k≤j'→(c i).op+1≤(c k).op):=by
        obtain⟨n9,ha⟩:=HA.out
        have:=sp.st
        refine⟨this.1,by omega,fun k a b=>?_⟩
        rcases Nat.lt_or_ge k j with q | q
        ·exact ha k a (by omega)
        ·have:=sp.ge k q b;omega
       clear hp sp HA
       go_wp2
       exact⟨⟨j',by omega,by omega,rfl,Z⟩,by simp[intOf];omega⟩
    ·have n40:=fO hi h40
     have Z:Hid (Sp t c i (i+1)):=⟨by omega,by omega,fun k a b=>by
      rcases (show k=i∨k=i+1 by omega) with rfl | rfl <;> omega,fun e=>by omega,fun e=>by omega,fun e=>by omega⟩
     clear ih vi hend hst h hn
     go_enter func164,ntmps164
     go_wp2
     go_ret
     exact⟨⟨i+1,by go_num,Z.out⟩,rfl⟩
theorem aUw (t:ByteArray)(d:Nat→fM)(c:Nat)(hc:c<256)(ht:t.size≤50)(h:aSq t d)(w:World):Calls prog 202 #[.string t,.int .u8 c] w fun e w'=>s8 e∧w'=w:=by
 obtain⟨h0,f1,f2⟩:=h.first
 have g0:(0:Int)<t.size:=by omega
 have HN:Hid _:=fun (k:Nat) (hk:aJy t d k) (hlt:k<t.size)=>h.next hk hlt
 clear h
 obtain⟨i0,nt,key,hJ⟩:∃ (i0:Nat) (nt:Bool),(((t[0].toNat:Int)=94∧nt=true∧i0=1)∨(((t[0].toNat:Int)==94)=false∧nt=false∧i0=0))∧Hid (aJy t d i0):=by
  by_cases e:aO t 0=94
  ·exact⟨1,true,.inl ⟨by rw[qW h0];omega,rfl,rfl⟩,f1 e⟩
  ·exact⟨0,false,.inr ⟨fO h0 e,rfl,rfl⟩,f2 e⟩
 clear f1 f2
 rcases key with ⟨b0,rfl,rfl⟩ | ⟨b0,rfl,rfl⟩
 all_goals
  go_enter func202,ntmps202
  go_wp2
  clear b0
  go_loop [6,7] (fun i v=>∃ (k:Nat) (b:Bool),k≤t.size∧i=.int .i64 k∧v=.bool b∧Hid (aJy t d k)) (fun i _=>t.size-(intOf i).toNat)
  case atStart=>exact⟨_,_,hJ.out.1,rfl,rfl,hJ⟩
  case round=>
   obtain⟨k,b,hk,rfl,rfl,hK⟩:=hrel
   clear hJ
   by_cases hlt:k<t.size
   ·have g1:(k:Int)<t.size:=by omega
    obtain⟨a,ha,hal,hd⟩:=HN.out k hK.out hlt
    clear hK HN
    have ga:(a:Int)<t.size:=by omega
    rcases hd with ⟨d1,d2,e,he,hel,hZ⟩ | ⟨hd,hZ⟩
    ·have HZ:Hid _:=hZ
     have d3:a+1<t.size:=by omega
     have x1:(t[a+1].toNat:Int)=45:=by rw[qW (by omega)];omega
     have x2:(a:Int)+2<t.size:=by omega
     rcases ha with ⟨rfl,n92⟩ | ⟨rfl,n92⟩
     all_goals
      first
       | have y1:=fO hlt n92
       | have y1:(t[k].toNat:Int)=92:=by rw[qW hlt];omega
      rcases he with ⟨rfl,m92⟩ | ⟨rfl,m92⟩
      ·have y2:=fO d1 m92
       clear hZ d2 n92 m92
       go_wp2
       all_goals exact⟨⟨_,_,HZ.out.1,by go_num,rfl,HZ⟩,by simp[intOf];omega⟩
      ·have y2:=(qW d1).trans (show ((aO t _:Nat):Int)=92 by omega)
       have x3:=(Int.ofNat_lt.2 hel)
       clear hZ d2 n92 m92
       go_wp2
       all_goals exact⟨⟨_,_,HZ.out.1,by go_num,rfl,HZ⟩,by simp[intOf];omega⟩
    ·have HZ:Hid _:=hZ
     clear hZ
     by_cases hb:a+1+1<t.size
     ·have d3:a+1<t.size:=by omega
      have x2:(a:Int)+1+1<t.size:=by omega
      have n45:=fO (x:=45) d3 (fun e=>hd ⟨hb,e⟩)
      clear hd
      rcases ha with ⟨rfl,n92⟩ | ⟨rfl,n92⟩
      all_goals
       first
        | have y1:=fO hlt n92
        | have y1:(t[k].toNat:Int)=92:=by rw[qW hlt];omega
       clear n92
       go_wp2
       all_goals exact⟨⟨_,_,HZ.out.1,by go_num,rfl,HZ⟩,by simp[intOf];omega⟩
     ·have x2:¬ ((a:Int)+1+1<t.size):=by omega
      clear hd
      rcases ha with ⟨rfl,n92⟩ | ⟨rfl,n92⟩
      all_goals
       first
        | have y1:=fO hlt n92
        | have y1:(t[k].toNat:Int)=92:=by rw[qW hlt];omega
       clear n92
       go_wp2
       all_goals exact⟨⟨_,_,HZ.out.1,by go_num,rfl,HZ⟩,by simp[intOf];omega⟩
   ·have g1:¬ ((k:Int)<t.size):=by omega
    go_wp2
    go_ret
    exact⟨⟨_,rfl⟩,rfl⟩
theorem bEz (t:ByteArray)(c:Nat)(hc:c<256)(ht:t.size≤50)(h:aXb t)(w:World):Calls prog 195 #[.string t,.int .u8 c] w fun e w'=>s8 e∧w'=w:=by
 have h0:=h.p
 have g0:(0:Int)<t.size:=by omega
 by_cases h46:aO t 0=46
 ·have b1:(t[0].toNat:Int)=46:=by rw[qW h0];omega
  go_enter func195,ntmps195
  go_wp2
  go_ret
  exact⟨⟨_,rfl⟩,rfl⟩
 ·have n46:=fO h0 h46
  by_cases h91:aO t 0=91
  ·have b1:(t[0].toNat:Int)=91:=by rw[qW h0];omega
   obtain⟨h2,d,hL⟩:=h.cls h91
   have us:(t.extract 1 (t.size-1)).size=t.size-1-1:=by rw[ByteArray.size_extract];omega
   have hl:=aUw (t.extract 1 (t.size-1)) d c hc (by omega) hL w
   have g3:(1:Int)≤(t.size:Int)-1:=by omega
   clear us hL h
   go_enter func195,ntmps195
   go_wp2_with fail
   refine hl.mono ?_
   rintro e w2 ⟨⟨v,rfl⟩,hw⟩
   replace hw:=hw.symm
   subst hw
   go_wp2
   go_ret
   exact⟨⟨_,rfl⟩,rfl⟩
  ·have n91:=fO h0 h91
   by_cases h92:aO t 0=92
   ·have b1:(t[0].toNat:Int)=92:=by rw[qW h0];omega
    have h2:=h.esc h92
    have g2:(1:Int)<t.size:=by omega
    clear h
    go_enter func195,ntmps195
    go_wp2
    go_ret
    exact⟨⟨_,rfl⟩,rfl⟩
   ·have n92:=fO h0 h92
    clear h
    go_enter func195,ntmps195
    go_wp2
    go_ret
    exact⟨⟨_,rfl⟩,rfl⟩
end Go.Proofs.YtgpamchpeamnfaaGreatDoor
