/-
  Texts Eh Fb Fc.
-/
import Derived.Test.YtgpamchpeamnfaaGreatDoorMA
import Derived.Test.YtgpamchpeamnfaaGreatDoorM00
import Derived.Test.YtgpamchpeamnfaaGreatDoorM32
import Derived.Test.YtgpamchpeamnfaaGreatDoorM37
import Derived.Test.YtgpamchpeamnfaaGreatDoorM33
import Derived.Test.YtgpamchpeamnfaaGreatDoorM34
set_option linter.unusedSimpArgs false
set_option linter.unusedVariables false
set_option maxRecDepth 100000
set_option maxHeartbeats 40000000
open _root_.Go.Proofs.Tryz
namespace Go.Proofs.YtgpamchpeamnfaaGreatDoor
open Go.RowKit
open Wire Flow Mach
def bDr:Prop:=∀ (E:Ev) (ks:List UInt8) (T0:Nat→Nat) (W0:World) (bs:List (Nat × Obj)) (W:World) (a:Nat) (t x:ByteArray),ML E ks T0 W0 bs W→(a:Int)<E.m.arrs→iM E.w0→t.size≤50→nU t→x.size≤1048576 →
 Calls prog 84 #[ptr (E.O (200+2*a)),.string t,.string x] W fun e W'=>(∃ n st:Int,e=.returned (.tuple #[.int .i64 n,.int .i64 st])∧0≤n∧n≤30∧0≤st∧st≤9)∧ML E ks T0 W0 bs W'
theorem ML.split {E:Ev}{ks:List UInt8}{T0:Nat→Nat}{W0 W:World}{bs:List (Nat × Obj)}{a:Nat}{t x:ByteArray} (HS:bDr) (h:ML E ks T0 W0 bs W) (ha:(a:Int)<E.m.arrs) (hp:iM E.w0) (ht:t.size≤50∧nU t) (hx:x.size≤1048576):Calls prog 84 #[ptr (E.O (200+2*a)),.string t,.string x] W fun e W'=>(∃ n st:Int,e=.returned (.tuple #[.int .i64 n,.int .i64 st])∧0≤n∧n≤30∧0≤st∧st≤9)∧ML E ks T0 W0 bs W':=HS E ks T0 W0 bs W a t x h ha hp ht.1 ht.2 hx
theorem bAx (E:Ev)(ks o r:List UInt8)(par:Nat→Nat)(op a:Nat)(pl nx b:Int)(tag:Nat→Nat)(W:World)(h:MT E ks tag W)(hst:0≤E.st∧E.st≤9)(HSp:bDr)(hp:iM E.w0)(hpa:op=35∨op=36∨op=37→a<E.m.pats.length)(haa:op=38→(a:Int)<E.m.arrs∧∃ bn:Nat,b=bn∧bn<E.m.pats.length)(hP:∀ t ∈ E.m.pats,t.size≤50∧nU t)(hop:op=35∨op=36∨op=37∨op=38∨op=39∨op=40∨op=41)(ha:after par op a ks=some (o,r)) :
  Calls prog 42 #[ptr E.X,spV pl nx op a b] W (OpP E o tag W):=by
 obtain⟨top,rfl,hw,rfl,hl⟩:=gU ha
 clear ha
 have hm:prog.follows Departure.mixedOrders=true:=by kernel_rfl
 rcases hop with rfl | rfl | rfl | rfl | rfl | rfl | rfl
 ·obtain⟨x,rfl,hx⟩:=dU (show leS top [116] from hw)
  obtain rfl:=jU hx
  have hl:r.length<1024:=by have:(r++[110]).length≤1024:=hl;simp at this;omega
  replace hpa:=hpa (.inl rfl)
  clear haa
  obtain⟨tg,to_,tc,T⟩:=h.tx 1 (by decide) (by simp;omega)
  simp only[Nat.one_ne_zero,if_false] at T
  have tl:=T.le
  have tv:=T.v
  have hpt:=hP E.m.pats[a] (List.getElem_mem hpa)
  have M:=(ML.start h hst).new (spO pl nx 35 a b)
  clear h hw
  go_enter func42,ntmps42
  go_wp2_with fail
  refine (M.text).mono ?_
  rintro e W2 ⟨x,rfl,hx,M2⟩
  clear M
  have HP:Hid (∀ (ks:List UInt8) (V:World),ML E ks tag W [(W.heap.size,spO pl nx 35 a b)] V→(fun w1:World=>w1.cell? ⟨E.X,1,none⟩=some (.slice (some ⟨tg,to_,none⟩) E.m.pats.length tc)∧w1.cell? ⟨W.heap.size,3,none⟩=some (.int .i64 a)∧w1.cell? ⟨tg,to_+a,none⟩=some (.string E.m.pats[a])) V):=fun ks V h=>⟨(h.low (i:=1) (by decide)).trans (by rw[tv]),by have:=h.cell (List.mem_cons_self ..) 3;simpa using this,T.at h.fr hpa⟩
  clear T tv
  generalize E.m.pats[a]=tx at *
  generalize E.m.pats.length=tn at *
  go_wp2
  have D:=M2.frm ((Fr.refl [] _).drew)
  refine aE (fun w1:World=>w1.cell? ⟨E.X,1,none⟩=some (.slice (some ⟨tg,to_,none⟩) tn tc)∧w1.cell? ⟨W.heap.size,3,none⟩=some (.int .i64 a)∧w1.cell? ⟨tg,to_+a,none⟩=some (.string tx)) hm ?_
  generalize World.drew _=WD at *
  have hS:(fun w1:World=>w1.cell? ⟨E.X,1,none⟩=some (.slice (some ⟨tg,to_,none⟩) tn tc)∧w1.cell? ⟨W.heap.size,3,none⟩=some (.int .i64 a)∧w1.cell? ⟨tg,to_+a,none⟩=some (.string tx)) WD:=HP.out _ _ D
  clear M2
  refine aH (fun _ _ _ _ _ h=>h) hS [0,1,2,3,4,5,6,7,8,9] (by kernel_rfl) ?_
  iterate 10
   refine Yls.cons (v:=?_) rfl (.inl ⟨rfl,fun w1 hS1=>?_⟩) ?_
   rotate_left
   ·obtain⟨s0,s1,s2⟩:=hS1
    go_simp
    first | rfl | (refine (if_neg (by omega)).trans ?_;rfl)
   simp only[Act.put,Z1,Z2,Z3,Z4,Z5,Z6]
  refine Yls.nil ?_
  refine rd1 (r:=10) (by kernel_rfl) rfl fun K hK=>?_
  go_simp
  refine (aYz tx x hpt.1 hx hpt.2 _).mono ?_
  rintro e V6 ⟨⟨m,rfl,hm0,hm1⟩,hf⟩
  have M5:=D.frm hf
  refine hK _ _ (HP.out _ _ M5) ?_
  clear hK K
  intro _
  try simp only[Act.put,Z1,Z2,Z3,Z4,Z5,Z6]
  replace hS:=HP.out _ _ M5
  refine rd1 (r:=11) (by kernel_rfl) rfl fun K hK=>?_
  go_simp
  refine hK _ _ hS ?_
  clear hK K
  intro _
  try simp only[Act.put,Z1,Z2,Z3,Z4,Z5,Z6]
  refine wpAnyH_done (by kernel_rfl) ?_ _
  clear D hS HP hf
  go_wp2_with fail
  refine (M5.whole _).mono ?_
  rintro e W7 ⟨rfl,M7⟩
  clear M5
  go_wp2_with fail
  refine (M7.put 110 nE (iT (⟨hm0,hm1⟩)) hl).mono ?_
  rintro e W8 ⟨rfl,M8⟩
  clear M7
  go_wp2
  go_end0
  exact⟨rfl,M8.drop⟩
 ·obtain⟨x,rfl,hx⟩:=dU (show leS top [116] from hw)
  obtain rfl:=jU hx
  have hl:r.length<1024:=by have:(r++[110]).length≤1024:=hl;simp at this;omega
  replace hpa:=hpa (.inr (.inl rfl))
  clear haa
  obtain⟨tg,to_,tc,T⟩:=h.tx 1 (by decide) (by simp;omega)
  simp only[Nat.one_ne_zero,if_false] at T
  have tl:=T.le
  have tv:=T.v
  have hpt:=hP E.m.pats[a] (List.getElem_mem hpa)
  have M:=(ML.start h hst).new (spO pl nx 36 a b)
  clear h hw
  go_enter func42,ntmps42
  go_wp2_with fail
  refine (M.text).mono ?_
  rintro e W2 ⟨x,rfl,hx,M2⟩
  clear M
  have HP:Hid (∀ (ks:List UInt8) (V:World),ML E ks tag W [(W.heap.size,spO pl nx 36 a b)] V→(fun w1:World=>w1.cell? ⟨E.X,1,none⟩=some (.slice (some ⟨tg,to_,none⟩) E.m.pats.length tc)∧w1.cell? ⟨W.heap.size,3,none⟩=some (.int .i64 a)∧w1.cell? ⟨tg,to_+a,none⟩=some (.string E.m.pats[a])) V):=fun ks V h=>⟨(h.low (i:=1) (by decide)).trans (by rw[tv]),by have:=h.cell (List.mem_cons_self ..) 3;simpa using this,T.at h.fr hpa⟩
  clear T tv
  generalize E.m.pats[a]=tx at *
  generalize E.m.pats.length=tn at *
  go_wp2
  have D:=M2.frm ((Fr.refl [] _).drew)
  refine aE (fun w1:World=>w1.cell? ⟨E.X,1,none⟩=some (.slice (some ⟨tg,to_,none⟩) tn tc)∧w1.cell? ⟨W.heap.size,3,none⟩=some (.int .i64 a)∧w1.cell? ⟨tg,to_+a,none⟩=some (.string tx)) hm ?_
  generalize World.drew _=WD at *
  have hS:(fun w1:World=>w1.cell? ⟨E.X,1,none⟩=some (.slice (some ⟨tg,to_,none⟩) tn tc)∧w1.cell? ⟨W.heap.size,3,none⟩=some (.int .i64 a)∧w1.cell? ⟨tg,to_+a,none⟩=some (.string tx)) WD:=HP.out _ _ D
  clear M2
  refine aH (fun _ _ _ _ _ h=>h) hS [0,1,2,3,4,5,6,7,8,9] (by kernel_rfl) ?_
  iterate 10
   refine Yls.cons (v:=?_) rfl (.inl ⟨rfl,fun w1 hS1=>?_⟩) ?_
   rotate_left
   ·obtain⟨s0,s1,s2⟩:=hS1
    go_simp
    first | rfl | (refine (if_neg (by omega)).trans ?_;rfl)
   simp only[Act.put,Z1,Z2,Z3,Z4,Z5,Z6]
  refine Yls.nil ?_
  refine rd1 (r:=10) (by kernel_rfl) rfl fun K hK=>?_
  go_simp
  refine (aPc tx x hpt.1 hx hpt.2 _).mono ?_
  rintro e V6 ⟨⟨m,rfl,hm0,hm1⟩,hf⟩
  have M5:=D.frm hf
  refine hK _ _ (HP.out _ _ M5) ?_
  clear hK K
  intro _
  try simp only[Act.put,Z1,Z2,Z3,Z4,Z5,Z6]
  replace hS:=HP.out _ _ M5
  refine rd1 (r:=11) (by kernel_rfl) rfl fun K hK=>?_
  go_simp
  refine hK _ _ hS ?_
  clear hK K
  intro _
  try simp only[Act.put,Z1,Z2,Z3,Z4,Z5,Z6]
  refine wpAnyH_done (by kernel_rfl) ?_ _
  clear D hS HP hf
  go_wp2_with fail
  refine (M5.whole _).mono ?_
  rintro e W7 ⟨rfl,M7⟩
  clear M5
  go_wp2_with fail
  refine (M7.put 110 nE (iT (⟨hm0,hm1⟩)) hl).mono ?_
  rintro e W8 ⟨rfl,M8⟩
  clear M7
  go_wp2
  go_end0
  exact⟨rfl,M8.drop⟩
 ·obtain⟨x,y,rfl,hx,hy⟩:=oC (show leS top [116,116] from hw)
  obtain rfl:=jU hx
  obtain rfl:=jU hy
  rw[show r++[116,116]=(r++[116])++[116] by simp] at h
  have hl:r.length<1024:=by have:(r++[116]).length≤1024:=hl;simp at this;omega
  replace hpa:=hpa (.inr (.inr rfl))
  clear haa
  obtain⟨tg,to_,tc,T⟩:=h.tx 1 (by decide) (by simp;omega)
  simp only[Nat.one_ne_zero,if_false] at T
  have tl:=T.le
  have tv:=T.v
  have hpt:=hP E.m.pats[a] (List.getElem_mem hpa)
  have M:=(ML.start h hst).new (spO pl nx 37 a b)
  clear h hw
  go_enter func42,ntmps42
  go_wp2_with fail
  refine (M.text).mono ?_
  rintro e W2 ⟨x,rfl,hx,M2⟩
  clear M
  go_wp2_with fail
  refine (M2.text).mono ?_
  rintro e W3 ⟨y,rfl,hy,M3⟩
  clear M2
  have HP:Hid (∀ (ks:List UInt8) (V:World),ML E ks tag W [(W.heap.size,spO pl nx 37 a b)] V→(fun w1:World=>w1.cell? ⟨E.X,1,none⟩=some (.slice (some ⟨tg,to_,none⟩) E.m.pats.length tc)∧w1.cell? ⟨W.heap.size,3,none⟩=some (.int .i64 a)∧w1.cell? ⟨tg,to_+a,none⟩=some (.string E.m.pats[a])) V):=fun ks V h=>⟨(h.low (i:=1) (by decide)).trans (by rw[tv]),by have:=h.cell (List.mem_cons_self ..) 3;simpa using this,T.at h.fr hpa⟩
  clear T tv
  generalize E.m.pats[a]=tx at *
  generalize E.m.pats.length=tn at *
  go_wp2
  have D:=M3.frm ((Fr.refl [] _).drew)
  refine aE (fun w1:World=>w1.cell? ⟨E.X,1,none⟩=some (.slice (some ⟨tg,to_,none⟩) tn tc)∧w1.cell? ⟨W.heap.size,3,none⟩=some (.int .i64 a)∧w1.cell? ⟨tg,to_+a,none⟩=some (.string tx)) hm ?_
  generalize World.drew _=WD at *
  have hS:(fun w1:World=>w1.cell? ⟨E.X,1,none⟩=some (.slice (some ⟨tg,to_,none⟩) tn tc)∧w1.cell? ⟨W.heap.size,3,none⟩=some (.int .i64 a)∧w1.cell? ⟨tg,to_+a,none⟩=some (.string tx)) WD:=HP.out _ _ D
  clear M3
  refine aH (fun _ _ _ _ _ h=>h) hS [0,1,2,3,4,5,6,7,8,9,10] (by kernel_rfl) ?_
  iterate 11
   refine Yls.cons (v:=?_) rfl (.inl ⟨rfl,fun w1 hS1=>?_⟩) ?_
   rotate_left
   ·obtain⟨s0,s1,s2⟩:=hS1
    go_simp
    first | rfl | (refine (if_neg (by omega)).trans ?_;rfl)
   simp only[Act.put,Z1,Z2,Z3,Z4,Z5,Z6]
  refine Yls.nil ?_
  refine rd1 (r:=11) (by kernel_rfl) rfl fun K hK=>?_
  go_simp
  refine (aSe tx y x hpt.1 hy hx hpt.2 _).mono ?_
  rintro e V6 ⟨⟨m,st,rfl,hmz,hs0,hs1⟩,hf⟩
  have M5:=D.frm hf
  refine hK _ _ (HP.out _ _ M5) ?_
  clear hK K
  intro _
  try simp only[Act.put,Z1,Z2,Z3,Z4,Z5,Z6]
  replace hS:=HP.out _ _ M5
  refine aH (fun _ _ _ _ _ h=>h) hS [12,13,14,15] (by kernel_rfl) ?_
  iterate 4
   refine Yls.cons (v:=?_) rfl (.inl ⟨rfl,fun w1 hS1=>?_⟩) ?_
   rotate_left
   ·obtain⟨s0,s1,s2⟩:=hS1
    go_simp
    first | rfl | (refine (if_neg (by omega)).trans ?_;rfl)
   simp only[Act.put,Z1,Z2,Z3,Z4,Z5,Z6]
  refine Yls.nil ?_
  refine rd1 (r:=16) (by kernel_rfl) rfl fun K hK=>?_
  go_simp
  refine hK _ _ hS ?_
  clear hK K
  intro _
  try simp only[Act.put,Z1,Z2,Z3,Z4,Z5,Z6]
  refine wpAnyH_done (by kernel_rfl) ?_ _
  clear D hS HP hf
  go_wp2_with fail
  refine (M5.ends (by omega)).mono ?_
  rintro e W7 ⟨rfl,M7⟩
  clear M5
  go_wp2_with fail
  refine (M7.words _).mono ?_
  rintro e W8 ⟨rfl,M8⟩
  clear M7
  go_wp2_with fail
  refine (M8.put 116 O3 (vB (hmz)) hl).mono ?_
  rintro e W9 ⟨rfl,M9⟩
  clear M8
  go_wp2
  go_end0
  exact⟨rfl,M9.drop⟩
 ·obtain⟨x,rfl,hx⟩:=dU (show leS top [116] from hw)
  obtain rfl:=jU hx
  have hl:r.length<1024:=by have:(r++[110]).length≤1024:=hl;simp at this;omega
  obtain⟨ha1,bn,rfl,hbn⟩:=haa rfl
  clear haa hpa
  obtain⟨tg,to_,tc,T⟩:=h.tx 1 (by decide) (by simp;omega)
  simp only[Nat.one_ne_zero,if_false] at T
  have tl:=T.le
  have tv:=T.v
  have hpt:=hP E.m.pats[bn] (List.getElem_mem hbn)
  obtain⟨ag,ac,an,a1,a2,-⟩:=(ML.start h hst).ar ha1
  have M:=(ML.start h hst).new (spO pl nx 38 a bn)
  clear h hw
  go_enter func42,ntmps42
  go_wp2_with fail
  refine (M.text).mono ?_
  rintro e W2 ⟨x,rfl,hx,M2⟩
  clear M
  have xk:=M2.mc.2.1
  have HP:Hid (∀ (ks:List UInt8) (V:World),ML E ks tag W [(W.heap.size,spO pl nx 38 a bn)] V→(fun w1:World=>w1.cell? ⟨E.X,7,none⟩=some (.slice (some ⟨ag,0,none⟩) an ac)∧w1.cell? ⟨ag,a,none⟩=some (ptr (E.O (200+2*a)))∧w1.cell? ⟨E.X,1,none⟩=some (.slice (some ⟨tg,to_,none⟩) E.m.pats.length tc)∧w1.cell? ⟨W.heap.size,3,none⟩=some (.int .i64 a)∧w1.cell? ⟨W.heap.size,4,none⟩=some (.int .i64 bn)∧w1.cell? ⟨tg,to_+bn,none⟩=some (.string E.m.pats[bn])) V):=fun ks V h=>by
   obtain⟨ag2,ac2,an2,b1,b2,b3,b4⟩:=h.ar ha1
   rw[a1] at b1
   simp only[Value.slice.injEq,Option.some.injEq,Addr.mk.injEq,and_true] at b1
   obtain⟨rfl,rfl,rfl⟩:=b1
   exact⟨b3,b4,(h.low (i:=1) (by decide)).trans (by rw[tv]),by have:=h.cell (List.mem_cons_self ..) 3;simpa using this,by have:=h.cell (List.mem_cons_self ..) 4;simpa using this,T.at h.fr hbn⟩
  clear T tv a1
  generalize E.m.pats[bn]=tx at *
  generalize E.m.pats.length=tn at *
  go_wp2
  have D:=M2.frm ((Fr.refl [] _).drew)
  refine aE (fun w1:World=>w1.cell? ⟨E.X,7,none⟩=some (.slice (some ⟨ag,0,none⟩) an ac)∧w1.cell? ⟨ag,a,none⟩=some (ptr (E.O (200+2*a)))∧w1.cell? ⟨E.X,1,none⟩=some (.slice (some ⟨tg,to_,none⟩) tn tc)∧w1.cell? ⟨W.heap.size,3,none⟩=some (.int .i64 a)∧w1.cell? ⟨W.heap.size,4,none⟩=some (.int .i64 bn)∧w1.cell? ⟨tg,to_+bn,none⟩=some (.string tx)) hm ?_
  generalize World.drew _=WD at *
  have hS:(fun w1:World=>w1.cell? ⟨E.X,7,none⟩=some (.slice (some ⟨ag,0,none⟩) an ac)∧w1.cell? ⟨ag,a,none⟩=some (ptr (E.O (200+2*a)))∧w1.cell? ⟨E.X,1,none⟩=some (.slice (some ⟨tg,to_,none⟩) tn tc)∧w1.cell? ⟨W.heap.size,3,none⟩=some (.int .i64 a)∧w1.cell? ⟨W.heap.size,4,none⟩=some (.int .i64 bn)∧w1.cell? ⟨tg,to_+bn,none⟩=some (.string tx)) WD:=HP.out _ _ D
  clear M2 xk
  refine aH (fun _ _ _ _ _ h=>h) hS [0,1,2,3,4,5,6,7,8,9,10,11,12,13,14,15,16,17] (by kernel_rfl) ?_
  iterate 18
   refine Yls.cons (v:=?_) rfl (.inl ⟨rfl,fun w1 hS1=>?_⟩) ?_
   rotate_left
   ·obtain⟨s0,s1,s2,s3,s4,s5⟩:=hS1
    go_simp
    first | rfl | (refine (if_neg (by omega)).trans ?_;rfl)
   simp only[Act.put,Z1,Z2,Z3,Z4,Z5,Z6]
  refine Yls.nil ?_
  refine rd1 (r:=18) (by kernel_rfl) rfl fun K hK=>?_
  go_simp
  refine (ML.split HSp D ha1 hp hpt hx).mono ?_
  rintro e V6 ⟨⟨m,st,rfl,hm0,hm1,hs0,hs1⟩,M5⟩
  refine hK _ _ (HP.out _ _ M5) ?_
  clear hK K
  intro _
  try simp only[Act.put,Z1,Z2,Z3,Z4,Z5,Z6]
  replace hS:=HP.out _ _ M5
  refine aH (fun _ _ _ _ _ h=>h) hS [19,20,21,22] (by kernel_rfl) ?_
  iterate 4
   refine Yls.cons (v:=?_) rfl (.inl ⟨rfl,fun w1 hS1=>?_⟩) ?_
   rotate_left
   ·obtain⟨s0,s1,s2,s3,s4,s5⟩:=hS1
    go_simp
    first | rfl | (refine (if_neg (by omega)).trans ?_;rfl)
   simp only[Act.put,Z1,Z2,Z3,Z4,Z5,Z6]
  refine Yls.nil ?_
  refine rd1 (r:=23) (by kernel_rfl) rfl fun K hK=>?_
  go_simp
  refine hK _ _ hS ?_
  clear hK K
  intro _
  try simp only[Act.put,Z1,Z2,Z3,Z4,Z5,Z6]
  refine wpAnyH_done (by kernel_rfl) ?_ _
  clear D hS HP
  go_wp2_with fail
  refine (M5.ends (by omega)).mono ?_
  rintro e W7 ⟨rfl,M7⟩
  clear M5
  go_wp2_with fail
  refine (M7.whole _).mono ?_
  rintro e W8 ⟨rfl,M8⟩
  clear M7
  go_wp2_with fail
  refine (M8.put 110 nE (iT (by omega)) hl).mono ?_
  rintro e W9 ⟨rfl,M9⟩
  clear M8
  go_wp2
  go_end0
  exact⟨rfl,M9.drop⟩
 ·obtain⟨x,rfl,hx⟩:=dU (show leS top [116] from hw)
  obtain rfl:=jU hx
  clear hpa haa
  have hl:r.length<1024:=by have:(r++[110]).length≤1024:=hl;simp at this;omega
  have M:=(ML.start h hst).new (spO pl nx 39 a b)
  clear h hw
  go_enter func42,ntmps42
  go_wp2_with fail
  refine (M.text).mono ?_
  rintro e W2 ⟨t,rfl,ht,M2⟩
  clear M
  go_wp2_with fail
  refine (M2.whole _).mono ?_
  rintro e W3 ⟨rfl,M3⟩
  clear M2
  go_wp2_with fail
  refine (M3.put 110 nE (iT (by omega)) hl).mono ?_
  rintro e W4 ⟨rfl,M4⟩
  clear M3
  go_wp2
  go_end0
  exact⟨rfl,M4.drop⟩
 ·obtain⟨x,y,z,rfl,hx,hy,hz⟩:=aQn (show leS top [116,110,110] from hw)
  obtain rfl:=jU hx
  obtain rfl:=qT hy
  obtain rfl:=qT hz
  rw[show r++[116,110,110]=((r++[116])++[110])++[110] by simp] at h
  clear hpa haa
  have hl:r.length<1024:=by have:(r++[116]).length≤1024:=hl;simp at this;omega
  have M:=(ML.start h hst).new (spO pl nx 40 a b)
  clear h hw
  go_enter func42,ntmps42
  go_wp2_with fail
  refine (M.number).mono ?_
  rintro e W2 ⟨n,rfl,hn,M2⟩
  clear M
  go_wp2_with fail
  refine (M2.number).mono ?_
  rintro e W3 ⟨m,rfl,hm,M3⟩
  clear M2
  go_wp2_with fail
  refine (M3.text).mono ?_
  rintro e W4 ⟨t,rfl,ht,M4⟩
  clear M3
  go_wp2_with fail
  refine (aOv t m n ht W4).mono ?_
  rintro e W5 ⟨⟨u,rfl,hu⟩,hw⟩
  replace hw:=hw.symm
  subst hw
  go_wp2_with fail
  refine (M4.words _).mono ?_
  rintro e W5 ⟨rfl,M5⟩
  clear M4
  go_wp2_with fail
  refine (M5.put 116 O3 (vB (hu)) hl).mono ?_
  rintro e W6 ⟨rfl,M6⟩
  clear M5
  go_wp2
  go_end0
  exact⟨rfl,M6.drop⟩
 ·obtain⟨x,y,rfl,hx,hy⟩:=oC (show leS top [116,116] from hw)
  obtain rfl:=jU hx
  obtain rfl:=jU hy
  rw[show r++[116,116]=(r++[116])++[116] by simp] at h
  clear hpa haa
  have hl:r.length<1024:=by have:(r++[110]).length≤1024:=hl;simp at this;omega
  have M:=(ML.start h hst).new (spO pl nx 41 a b)
  clear h hw
  go_enter func42,ntmps42
  go_wp2_with fail
  refine (M.text).mono ?_
  rintro e W2 ⟨t,rfl,ht,M2⟩
  clear M
  go_wp2_with fail
  refine (M2.text).mono ?_
  rintro e W3 ⟨u,rfl,hu,M3⟩
  clear M2
  go_wp2_with fail
  refine (aKd u t hu ht W3).mono ?_
  rintro e W4 ⟨⟨m,rfl,hm0,hm1⟩,hw⟩
  replace hw:=hw.symm
  subst hw
  go_wp2_with fail
  refine (M3.whole _).mono ?_
  rintro e W4 ⟨rfl,M4⟩
  clear M3
  go_wp2_with fail
  refine (M4.put 110 nE (iT (⟨hm0,hm1⟩)) hl).mono ?_
  rintro e W5 ⟨rfl,M5⟩
  clear M4
  go_wp2
  go_end0
  exact⟨rfl,M5.drop⟩
theorem MT.apush {E:Ev}{ks:List UInt8}{tag:Nat→Nat}{W:World} (h:MT E ks tag W) {a:Nat} (ha:(a:Int)<E.m.arrs) {o:Option Addr}{n c:Nat} (hc:W.cell? ⟨E.O (200+2*a),0,none⟩=some (.slice o n c)) (hn:n<30) {k s:ByteArray}{d m:Int} (hk:k.size≤1048576) (hs:SzN m s) :
  ∃ W4 vo vc,(Builtin.append_ #[59,59] 59 #[.slice o n c,.slice (some ⟨W.heap.size,0,none⟩) 1 1]).run prog (W.alloc (.cells #[.string k,.int .i64 d,.int .i64 m,.string s] 171))=.ok (.slice vo (n+1) vc) W4 ∧
   (W4.cell? ⟨E.O (200+2*a),0,none⟩=some (.slice o n c)∧W4.frozen? ⟨E.O (200+2*a),0,none⟩=false)∧MW E ks tag W (W4.setCell ⟨E.O (200+2*a),0,none⟩ (.slice vo (n+1) vc)):=by
 obtain⟨i0,hi,hz0,hz1,hz2⟩:=info_parts aVf
 have hnews:=oQ W #[.string k,.int .i64 d,.int .i64 m,.string s] 171
 have F3:Fr [] W (W.alloc (.cells #[.string k,.int .i64 d,.int .i64 m,.string s] 171)):=(Fr.refl [] W).alloc _
 generalize W.alloc (.cells #[.string k,.int .i64 d,.int .i64 m,.string s] 171)=W3 at *
 have wt:tag (E.O (200+2*a))=200+2*a∧E.O (200+2*a)<W.heap.size∧E.C (200+2*a) 0=.slice o n c:=by
  obtain⟨R,sv,h⟩:=h
  have hz:=(h.B.ae a ha).1
  have:=h.S.objs (200+2*a) (by omega)
  have e:=h.S.oc (i:=200+2*a) (j:=0) (by omega)
  rw[hc] at e
  exact⟨this.2.2.1,this.2.1,(Option.some.inj e).symm⟩
 obtain⟨wt,wl,eC⟩:=wt
 have tD:aM tag W.heap.size 6 (E.O (200+2*a))=200+2*a:=by rw[aI wl,wt]
 obtain⟨R,sv,h2⟩:=h.frm F3
 obtain⟨hz,hl,n',xs,hR,hE⟩:=h2.B.ae a ha
 have rowA:=h2.S.row hl hR
 have own3:=rowA.own
 have hnn:n'=n:=by
  obtain⟨o',c',e'⟩:=cN own3
  rw[eC] at e'
  simp only[Value.slice.injEq] at e'
  omega
 subst hnn
 rw[eC] at own3
 obtain⟨v',W4,hr4,hown',hgrow,-,hwh⟩:=run_append_own_at (P:=prog) W3 E.w0.heap.size 59 59 171 i0 _ 4 48 underlying59 hi hz0 hz1 hz2 rfl (by decide) _ _ _ own3 ⟨W.heap.size,0,none⟩ 1 1 [.string k,.int .i64 d,.int .i64 m,.string s] rfl hnews (by intro u hu;simp at hu;rcases hu with rfl | rfl | rfl | rfl <;> rfl) (by unfold maxLen;omega) (by omega) h2.S.fr.size
 obtain⟨vo,vc,rfl⟩:=iF hown'
 have S4:=h2.S.grow (i:=201+2*a) hl hown' (by rw[hR];show W3.grownBy W4 (E.C (200+2*a) 0).ownBlock;rw[eC];exact hgrow) (by rw[hR];show _=(E.C (200+2*a) 0).ownBlock∨_;rw[eC];exact hwh)
 have S5:=S4.set (i:=200+2*a) (j:=0) (by omega) (.slice vo (n'+1) vc)
 have c5:=S4.oc (i:=200+2*a) (j:=0) (by omega)
 rw[eC] at c5
 have MM:=h2.arr S5 a (fun i j hi=>bJ _ _ (by omega)) (fun i hi=>aJ _ _ hi) ⟨n'+1,_,by rw[bG,fS],hE.push (by omega) hk hs⟩
 have t5:aM (aM tag W.heap.size 6) W3.heap.size (201+2*a) (E.O (200+2*a))≠6:=by rw[aI (Nll wl F3.size),tD];omega
 have kp3:Kp tag (aM (aM tag W.heap.size 6) W3.heap.size (201+2*a)) W W3:=Kp.of_fr F3 (fun k hk=>by rw[aI (Nll hk F3.size),aI hk])
 have kp4:Kp tag (aM (aM tag W.heap.size 6) W3.heap.size (201+2*a)) W W4:=⟨Nat.le_trans kp3.size hgrow.size,kp3.ret,fun k hk ht=>(hgrow.block k (Nll hk kp3.size) (fun e=>by
  have:=rowA.tg k (by rw[eC];exact e.symm)
  rw[aI hk] at this
  omega)).trans (kp3.blk k hk ht)⟩
 exact⟨W4,vo,vc,hr4,⟨c5,S4.oz (i:=200+2*a) (j:=0) (by omega)⟩,upC E.C (200+2*a) 0 (.slice vo (n'+1) vc),fun j=>bJ _ _ (by omega),_,⟨_,sv,MM⟩,kp4.trans (Kp.set t5)⟩
section
variable {E : Ev} {ks : List UInt8} {T0 : Nat → Nat} {W0 W W' : World} {bs : List (Nat × Obj)}
theorem ML.apush (h:ML E ks T0 W0 bs W){a:Nat}(ha:(a:Int)<E.m.arrs){o:Option Addr}{n c:Nat} (hc:W.cell? ⟨E.O (200+2*a),0,none⟩=some (.slice o n c)) (hn:n<30) {k s:ByteArray}{d m:Int} (hk:k.size≤1048576) (hs:SzN m s) :
  ∃ W4 vo vc,(Builtin.append_ #[59,59] 59 #[.slice o n c,.slice (some ⟨W.heap.size,0,none⟩) 1 1]).run prog (W.alloc (.cells #[.string k,.int .i64 d,.int .i64 m,.string s] 171))=.ok (.slice vo (n+1) vc) W4 ∧
   (W4.cell? ⟨E.O (200+2*a),0,none⟩=some (.slice o n c)∧W4.frozen? ⟨E.O (200+2*a),0,none⟩=false)∧ML E ks T0 W0 bs (W4.setCell ⟨E.O (200+2*a),0,none⟩ (.slice vo (n+1) vc)):=by
 obtain⟨C,s',K,tag,hs',hM,kp,hb⟩:=h
 obtain⟨W4,vo,vc,h1,h2,h3⟩:=MT.apush (d:=d) hM ha hc hn hk hs
 exact⟨W4,vo,vc,h1,h2,ML.mw hs' kp hb h3⟩
theorem ML.grab (h:ML E ks T0 W0 bs W)(hf:Fr [] W W'){g:Nat}{o:Obj} (hg:W.heap.size≤g) (ho:W'.heap[g]?=some o):ML E ks T0 W0 ((g,o) :: bs) W':=by
 obtain⟨C,s,K,tag,hs,hM,kp,hb⟩:=h
 refine⟨C,s,K,_,hs,hM.frm hf,kp.frm hf,fun x hx=>?_⟩
 rcases List.mem_cons.1 hx with rfl | hx
 ·exact⟨(Age.1 ho).1,cX hg,ho⟩
 ·exact⟨Nll (hb x hx).1 hf.size,by rw[aI (hb x hx).1];exact (hb x hx).2.1,(hf.block _ (hb x hx).1 (by simp)).trans (hb x hx).2.2⟩
theorem ML.blk (h:ML E ks T0 W0 bs W){x:Nat × Obj}(hx:x ∈ bs):W.heap[x.1]?=some x.2:=by
 obtain⟨C,s,K,tag,hs,hM,kp,hb⟩:=h
 exact (hb x hx).2.2
end
theorem bBa:bDr:=by
 intro E ks T0 W0 bs W a t x h ha hp ht hP hx
 have hm:prog.follows Departure.mixedOrders=true:=by kernel_rfl
 have hpc:=aUe t x ht hx hP W
 clear hP
 obtain⟨A,hA⟩:=eX (E.O (200+2*a))
 rw[hA]
 go_enter func84,ntmps84
 go_wp2_with fail
 refine hpc.mono ?_
 rintro e W1 ⟨v,L,rfl,hL,hl,hb⟩
 clear hpc
 obtain⟨o,c,rfl⟩:=cN hL.own
 obtain⟨bs',hsub,M1,hx2⟩:∃ bs',(∀ x ∈ bs,x ∈ bs')∧ML E ks T0 W0 bs' W1∧∀ i,i<L.length→∃ g s,o=some ⟨g,0,none⟩∧s.size≤1048576∧∀ w,ML E ks T0 W0 bs' w→w.cell? ⟨g,i,none⟩=some (.string s):=by
  rcases Nat.eq_zero_or_pos L.length with h0 | h0
  ·exact⟨bs,fun _ h=>h,h.frm hL.fr,fun i hi=>by omega⟩
  ·obtain⟨g,cap,e,-,hg⟩:=fG hL.own h0
   simp only[Value.slice.injEq,true_and] at e
   obtain⟨rfl,rfl⟩:=e
   obtain⟨ob,hob⟩:∃ ob,W1.heap[g]?=some ob:=⟨_,Array.getElem?_eq_getElem hg⟩
   refine⟨(g,ob) :: bs,fun _ h=>List.mem_cons_of_mem _ h,h.grab hL.fr (hL.own.lt g rfl).1 hob,fun i hi=>⟨g,L[i],rfl,Nat.le_trans (hb _ (List.getElem_mem hi)) hx,fun w hw=>?_⟩⟩
   have:=bV hL.own (j:=i) (u:=.string L[i]) (by rw[List.getElem?_map,Lge hi];rfl)
   have e2:=hw.blk (List.mem_cons_self ..)
   unfold World.cell? at this ⊢
   rw[e2]
   rw[hob] at this
   exact this
 clear hL hl hb h
 generalize L.length=n at *
 by_cases hn:30<n
 ·have g1:(30:Int)<n:=by omega
  have HM:Hid _:=M1.sub hsub
  clear M1 hx2
  go_wp2
  go_ret2
  exact⟨⟨0,7,rfl,by decide,by decide,by decide,by decide⟩,HM.out⟩
 ·have g1:¬ ((30:Int)<n):=by omega
  obtain⟨⟨z0,v0,c0⟩,M2⟩:=M1.clear ha
  rw[hA] at z0 c0 M2
  have c2:(W1.setCell ⟨A,0,none⟩ (.slice none 0 0)).cell? ⟨A,0,none⟩=some (.slice none 0 0):=aP c0
  clear M1
  have HX:Hid _:=hx2
  clear hx2
  go_wp2
  generalize W1.setCell _ _=W2 at *
  clear c0 z0
  go_loopw [9] (fun iv wr=>∃ (k:Nat) (oa:Option Addr) (ca:Nat),k≤n∧iv=.int .i64 k∧ML E ks T0 W0 bs' wr∧wr.cell? ⟨A,0,none⟩=some (.slice oa k ca)) (fun iv _=>n-(intOf iv).toNat)
  case atStart=>exact⟨0,none,0,by omega,rfl,M2,c2⟩
  case round=>
   clear M2 c2
   obtain⟨k,oa,ca,hk,rfl,M,c1⟩:=hrel
   by_cases hlt:k<n
   ·have g2:(k:Int)<n:=by omega
    have g3:(k:Int)+1≤31:=by omega
    have hwr:IntKind.i64.wrap ((k:Int)+1)=(k:Int)+1:=by rw[IntKind.wrap_i64];omega
    obtain⟨g,s,rfl,hs,hcell⟩:=HX.out k hlt
    obtain⟨WD,hWD⟩:=eX (wr.drew)
    have D:=M.frm ((Fr.refl [] wr).drew)
    rw[hWD] at D
    have cD:WD.cell? ⟨A,0,none⟩=some (.slice oa k ca):=by rw[← hWD];exact c1
    have HQ:Hid (∀ w,Fr [] WD w→w.cell? ⟨A,0,none⟩=some (.slice oa k ca)∧w.cell? ⟨g,k,none⟩=some (.string s)):=fun w hw=>⟨(hw.cell (p:=⟨A,0,none⟩) (aC cD) (by simp)).trans cD,hcell w (D.frm hw)⟩
    have HI:Hid _:=fun (w:World) (hw:Fr [] WD w)=>aIi ((k:Int)+1) w (by omega) (by omega) (hp.fr (D.frm hw).fr)
    have HR:Hid _:=fun (w:World)=>aAw s hs w
    have Fin:Hid (∀ (w:World) (t:ByteArray) (d:Int),Fr [] WD w→t.size≤21→∃ W4 vo vc,(Builtin.append_ #[59,59] 59 #[.slice oa k ca,.slice (some ⟨w.heap.size,0,none⟩) 1 1]).run prog (w.alloc (.cells #[.string t,.int .i64 d,.int .i64 0,.string s] 171))=.ok (.slice vo (k+1) vc) W4∧(W4.cell? ⟨A,0,none⟩=some (.slice oa k ca)∧W4.frozen? ⟨A,0,none⟩=false)∧ML E ks T0 W0 bs' (W4.setCell ⟨A,0,none⟩ (.slice vo (k+1) vc))):=fun w t d hw ht=>by
     have:=(D.frm hw).apush ha (by rw[hA];exact (HQ.out w hw).1) (by omega) (k:=t) (s:=s) (d:=d) (m:=0) (by omega) ⟨hs,by decide,by decide⟩
     rw[hA] at this
     exact this
    have hS:Fr [] WD WD:=Fr.refl _ _
    clear M D c1 cD hcell HX
    go_wp2
    refine aFj (fun w=>Fr [] WD w) 15 hm ?_
    rw[hWD]
    refine qO (fuel:=10) [0,1,2,3,5,6,8,9,10] (by kernel_rfl) (fun _ _ _ _ _ h=>h) (.inr hS) ?_
    iterate 9
     refine Yls.cons (v:=?_) rfl (.inl ⟨rfl,fun w1 hS1=>?_⟩) ?_
     rotate_left
     ·go_simp
      first | rfl | (refine (if_neg (by omega)).trans ?_;rfl)
     simp only[Act.put,Z1,Z2,Z3,Z4,Z5,Z6]
    refine Yls.nil ?_
    refine aCm (fuel:=8) [4,11] (by kernel_rfl) (fun _ _ _ _ _ h=>h) hS ?_
    iterate 2
     refine Yls.cons (v:=?_) rfl (.inl ⟨rfl,fun w1 hS1=>?_⟩) ?_
     rotate_left
     ·obtain⟨s0,s1⟩:=HQ.out _ hS1
      go_simp
      first | rfl | (refine (if_neg (by omega)).trans ?_;rfl)
     simp only[Act.put,Z1,Z2,Z3,Z4,Z5,Z6]
    refine Yls.nil ?_
    refine lK (rs:=[7]) (by kernel_rfl) (by simp) ?_
    refine dR.cons rfl (fun K hK=>?_) dR.nil
    go_simp
    refine (HI.out _ hS).mono ?_
    rintro e V1 ⟨t,ht,rfl,f1⟩
    refine hK _ _ (.inr f1) ?_
    clear hK K
    try simp only[Act.put,Z1,Z2,Z3,Z4,Z5,Z6]
    refine lK (rs:=[12]) (by kernel_rfl) (by simp) ?_
    refine dR.cons rfl (fun K hK=>?_) dR.nil
    go_simp
    refine (HR.out _).mono ?_
    rintro e V2 ⟨⟨d,rfl⟩,f2⟩
    have f3:=f1.trans f2
    refine hK _ _ (.inr f3) ?_
    clear hK K f1 f2
    try simp only[Act.put,Z1,Z2,Z3,Z4,Z5,Z6]
    obtain⟨W4,vo,vc,hr,⟨p0,z0⟩,M4⟩:=Fin.out V2 t d f3 ht
    have HZ:Hid _:=M4
    have Hr:Hid _:=hr
    clear M4 hr Fin HQ HI HR
    refine qO (fuel:=5) [13] (by kernel_rfl) (fun _ _ _ _ _ h=>h) (.inr f3) ?_
    iterate 1
     refine Yls.cons (v:=?_) rfl (.inl ⟨rfl,fun w1 hS1=>?_⟩) ?_
     rotate_left
     ·go_simp
      first | rfl | (refine (if_neg (by omega)).trans ?_;rfl)
     simp only[Act.put,Z1,Z2,Z3,Z4,Z5,Z6]
    refine Yls.nil ?_
    refine lK (rs:=[14]) (by kernel_rfl) (by simp) ?_
    refine dR.cons rfl (fun K hK=>?_) dR.nil
    go_simp
    refine hK _ _ (.inr (f3.alloc _)) ?_
    clear hK K
    try simp only[Act.put,Z1,Z2,Z3,Z4,Z5,Z6]
    refine lK (rs:=[15]) (by kernel_rfl) (by simp) ?_
    refine dR.cons rfl (fun K hK=>?_) dR.nil
    refine cF (.tmp 29) (.tmp 39) 59 rfl _ _ _ rfl rfl Hr.out ?_
    refine hK _ _ (.inl rfl) ?_
    clear hK K
    try simp only[Act.put,Z1,Z2,Z3,Z4,Z5,Z6]
    refine qO (fuel:=1) [16,17] (by kernel_rfl) (fun _ _ _ _ _ h=>h) (.inl rfl) ?_
    iterate 2
     refine Yls.cons (v:=?_) rfl (.inl ⟨rfl,fun w1 hS1=>?_⟩) ?_
     rotate_left
     ·go_simp
      first | rfl | (refine (if_neg (by omega)).trans ?_;rfl)
     simp only[Act.put,Z1,Z2,Z3,Z4,Z5,Z6]
    refine Yls.nil ?_
    refine lK (rs:=[18]) (by kernel_rfl) (by simp) ?_
    refine dR.cons rfl (fun K hK=>?_) dR.nil
    go_simp
    refine hK _ _ (.inl rfl) ?_
    clear hK K
    try simp only[Act.put,Z1,Z2,Z3,Z4,Z5,Z6]
    refine aFk (by kernel_rfl) ?_ _
    refine NoPanic.normal ?_
    have c4:=aP (v:=.slice vo (k+1) vc) p0
    go_wp2
    go_roundw
    case rel=>exact⟨k+1,vo,vc,by omega,by simp,HZ.out,c4⟩
    case measure=>simp[intOf] <;> omega
   ·have g2:¬ ((k:Int)<n):=by omega
    have HM:Hid _:=M.sub hsub
    clear M
    go_wp2
    go_ret2
    exact⟨⟨n,0,rfl,by omega,by omega,by decide,by decide⟩,HM.out⟩
structure Amb (w0:World) (m:Mo) (sz:Nat→Nat):Prop where
 hz:∀ i,10≤i→i<200→sz i=0
 pow:iM w0
 doc:pY w0
 mo:A9 m
 tx:∀ t ∈ m.texts,t.size≤1048576
 pt:∀ t ∈ m.pats,t.size≤50∧nU t
 fn:∀ f,f<m.fns.length→kM m f 0 []
 n3:3≤m.fns.length
 lc:∀ fn ∈ m.fns,0≤fn.locs∧fn.locs≤1000∧0≤fn.params∧fn.params≤fn.locs
theorem aHf {m:Mo}{f locs:Nat}{c:List UInt8}{i:Nat}{s:Flow.Stp} (h:bH m f locs c i=.inr s) (h38:s.op=38):nF m locs 6 s.b=true:=by
 unfold bH at h
 split at h
 ·split at h
  ·rename_i h0
   simp only[Sum.inr.injEq] at h
   subst h
   simp only at h38
   rw[h38] at h0
   exact absurd h0 (by decide)
  ·split at h
   ·cases h
   ·split at h
    ·split at h
     ·cases h
     ·rename_i n2 k hop2
      simp only[Sum.inr.injEq] at h
      subst h
      exact (kC hop2).2.2
    ·rename_i hne
     simp only[Sum.inr.injEq] at h
     subst h
     exact absurd h38 hne
 ·cases h
def dsp (op:Nat):Nat:=if op≤6∨(45≤op∧op≤47) then 38 else if op≤10∨(42≤op∧op≤44) then 39 else if op≤17 then 40 else if op≤34 then 41 else if op≤41 then 42 else 43
theorem bHl (E:Ev)(ks o r:List UInt8)(s:Flow.Stp)(p:Nat)(tag:Nat→Nat)(W:World)(h:MT E ks tag W)(hst:0≤E.st∧E.st≤9)(A:Amb E.w0 E.m E.sz)(hx:E.x.pl=s.nx)(hF:FI E.m (E.fs.map fp++[(E.x.f,p)]) (E.kk++[ks]))(hp:p<(qY E.m E.x.f).length)(hd:bH E.m E.x.f (lO E.m E.x.f) (qY E.m E.x.f) p=.inr s)(ha:after (bD E.m) s.op s.a ks=some (o,r))(hfar:far s.op=true→kM E.m E.x.f s.a r)(hnx:cS s.op=false→kM E.m E.x.f s.nx o) :
  Calls prog (dsp s.op) #[ptr E.X,spV s.pl s.nx s.op s.a s.b] W (aZs E):=by
 have hmay:=(cW hp hd).2.2.2.2
 have h54:=pG hmay
 have op1:=fun sort h1 h2=>yC (sD hd sort h1 h2)
 have op2:=fun h38=>yC (aHf hd h38)
 have hFo:cS s.op=false→FI E.m ((E.fs++[E.x]).map fp) (E.kk++[o]):=fun hh=>by
  have:=hF.last (hnx hh)
  simpa [fp,hx] using this
 have hFa:far s.op=true→FI E.m (((E.at_ s.a).fs++[(E.at_ s.a).x]).map fp) (E.kk++[r]):=fun hh=>by
  have:=hF.last (hfar hh)
  simpa [fp,Ev.at_] using this
 have fin:cS s.op=false→∀ e W',OpP E o tag W e W'→aZs E e W':=fun hh e W' ⟨he,hm⟩=>⟨he,hm.gst (hFo hh)⟩
 obtain⟨spl,snx,op,a,b⟩:=s
 simp only at *
 by_cases c1:op≤6∨(45≤op∧op≤47)
 ·rw[show dsp op=38 by simp[dsp,c1]]
  refine (bBo E ks o r (bD E.m) op a spl snx b tag W h hst (fun e=>?_) (fun e=>?_) (fun e fn hf=>?_) (fun e=>?_) A.tx (by omega) ha).mono (fin (by simp[cS];omega))
  ·simpa [Flow.low,eZ] using op1 1 (by rw[e];rfl) (by decide)
  ·simpa [Flow.low,eZ] using op1 2 (by rw[e];rfl) (by decide)
  ·have:=op1 3 (by rcases e with e | e <;> rw[e] <;> rfl) (by decide)
   simp[Flow.low,eZ,lO,T6,hf] at this
   omega
  ·have:=op1 4 (by rcases e with e | e <;> rw[e] <;> rfl) (by decide)
   simp[Flow.low,eZ] at this
   omega
 by_cases c2:op≤10∨(42≤op∧op≤44)
 ·rw[show dsp op=39 by simp[dsp,c1,c2]]
  refine (bBn E ks o r (bD E.m) op a spl snx b tag W h hst A.pow (fun e=>?_) (by omega) ha).mono (fin (by simp[cS];omega))
  have:=op1 8 (by rw[e];rfl) (by decide)
  simp[Flow.low,eZ] at this
  omega
 by_cases c3:op≤17
 ·rw[show dsp op=40 by simp[dsp,c1,c2,c3]]
  by_cases c17:op=17
  ·subst c17
   obtain⟨top,rfl,hw,rfl,hl⟩:=gU ha
   obtain⟨x,rfl,hx'⟩:=dU (show leS top [107] from hw)
   obtain rfl:=aYh hx'
   exact bDi E r a spl snx b tag W h hst (by have:(r++[107,116]).length≤1024:=hl;simpa using this) (hFo rfl) (hFa rfl)
  ·refine (bDh E ks o r (bD E.m) op a spl snx b tag W h hst ?_ (by omega) ha).mono (fin (by simp[cS];omega))
   have:=op1 5 (by rcases (show op=11∨op=12∨op=13∨op=14∨op=15∨op=16 by omega) with e | e | e | e | e | e <;> rw[e] <;> rfl) (by decide)
   simp[Flow.low,eZ] at this
   omega
 by_cases c4:op≤34
 ·rw[show dsp op=41 by simp[dsp,c1,c2,c3,c4]]
  exact (aTu E ks o r (bD E.m) op a spl snx b tag W h hst A.pow (by omega) ha).mono (fin (by simp[cS];omega))
 by_cases c5:op≤41
 ·rw[show dsp op=42 by simp[dsp,c1,c2,c3,c4,c5]]
  refine (bAx E ks o r (bD E.m) op a spl snx b tag W h hst bBa A.pow (fun e=>?_) (fun e=>⟨?_,b,rfl,?_⟩) A.pt (by omega) ha).mono (fin (by simp[cS];omega))
  ·simpa [Flow.low,eZ] using op1 6 (by rcases e with e | e | e <;> rw[e] <;> rfl) (by decide)
  ·have:=op1 5 (by rw[e];rfl) (by decide)
   simp[Flow.low,eZ] at this
   omega
  ·simpa [Flow.low,eZ] using op2 e
 rw[show dsp op=43 by simp[dsp,c1,c2,c3,c4,c5]]
 obtain⟨top,rfl,hw,rfl,hl⟩:=gU ha
 have hfn:=hF.fns
 have hkl:=hF.len.1
 simp at hkl
 refine bBw E [] r top op a spl snx b tag W h hst A.hz A.n3 A.lc (by omega) (fun e=>?_) (fun e=>?_) (fun e=>?_) (fun e=>?_) (fun e=>?_) (fun e=>?_)
 ·subst e
  exact⟨jL (show leS top [] from hw),hFa rfl⟩
 ·subst e
  obtain⟨x,rfl,hx'⟩:=dU (show leS top [110] from hw)
  obtain rfl:=qT hx'
  have:=hFo rfl
  rw[show r++pW 49 [110]=r from List.append_nil r] at this
  exact⟨rfl,hFa rfl,this⟩
 ·subst e
  obtain⟨htl,htk⟩:=aIb (show leS top (List.replicate (bD E.m a) 97) from hw)
  have h9:=op1 9 rfl (by decide)
  simp[Flow.low,eZ] at h9
  have hf:=Lge h9.2
  refine⟨E.m.fns[a],hf,?_,fun k hk=>lP (htk k hk),?_⟩
  ·have:=(A.lc _ (List.getElem_mem h9.2)).2.2.1
   rw[htl]
   simp[bD,T6,hf]
   omega
  ·have hl':(r++[97]).length≤1024:=hl
   simp at hl'
   have:=hF.call (hnx rfl) (by omega) h9 (A.fn a h9.2)
   simpa [fp,hx] using this
 ·subst e
  obtain⟨k,rfl,hk⟩:=dU (show leS top [97] from hw)
  have h3:¬ E.x.f<3:=by simpa [jC] using hmay
  have h0:=(hfn E.fs.length E.x.f p (by rw[List.getElem?_append_right (by simp)];simp)).1
  rcases List.eq_nil_or_concat E.fs with h1 | ⟨fs',y,h1⟩
  ·rw[h1] at h0;simp at h0;omega
  rw[List.concat_eq_append] at h1
  rcases List.eq_nil_or_concat E.kk with h2 | ⟨kk',ks',h2⟩
  ·rw[h1,h2] at hkl;simp at hkl
  rw[List.concat_eq_append] at h2
  rw[h1,h2,List.map_append] at hF
  obtain⟨q1,q2⟩:=FI.ret hF
  exact⟨k,rfl,lP hk,fs',y,kk',ks',h1,h2,q1,by simpa using q2⟩
 ·subst e
  have h3:E.x.f<3:=by simpa [jC] using hmay
  refine⟨?_,fun f hf=>FI.one hf (by have:=A.n3;omega) (A.fn f (by have:=A.n3;omega))⟩
  have hlen:0<(E.fs.map fp++[(E.x.f,p)]).length:=by simp
  have q:=fun g q (hq:(E.fs.map fp++[(E.x.f,p)])[0]?=some (g,q))=>(hfn 0 g q hq).1.1 rfl
  cases hfs:E.fs with
  | nil=>simp[fp,h3]
  | cons y fs=>
   rw[hfs] at q
   have:=q y.f y.pl (by simp[fp])
   simp[fp,this]
 ·subst e
  obtain⟨x,rfl,hx'⟩:=dU (show leS top [110] from hw)
  obtain rfl:=qT hx'
  rfl
end Go.Proofs.YtgpamchpeamnfaaGreatDoor
