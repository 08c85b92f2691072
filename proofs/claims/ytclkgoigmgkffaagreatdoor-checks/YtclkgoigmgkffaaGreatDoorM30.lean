/-
  Texts He Hf.
-/
import Derived.Deep.RegionHeld
import Derived.Test.YtclkgoigmgkffaaGreatDoorMA
import Derived.Test.YtclkgoigmgkffaaGreatDoorM29
import Derived.Test.YtclkgoigmgkffaaGreatDoorM04
set_option linter.unusedSimpArgs false
set_option linter.unusedVariables false
set_option maxRecDepth 100000
set_option maxHeartbeats 40000000
namespace Go.Proofs.YtclkgoigmgkffaaGreatDoor
open Go.RowKit
open Wire Flow
def insV (op pl a b tt:Nat):Value:=.agg #[.int .u8 op,.int .i64 pl,.int .i64 a,.int .i64 b,.int .i64 tt]
theorem repeatK_any (k c:Nat)(w:World)(hk:k<256)(hc:c≤100000) :
  Calls Tryz.prog 252 #[.string ⟨#[UInt8.ofNat k]⟩,.int .i64 c] w fun e w'=>∃ l:ByteArray,e=.returned (.string l)∧l.size=c∧kL l=List.replicate c k∧Fr [] w w':=by
 refine (Tryz.strings_Repeat ⟨#[UInt8.ofNat k]⟩ c w (by omega) (by show 1*c≤_;omega)).mono ?_
 rintro e w' ⟨rfl,lo⟩
 obtain⟨h1,h2⟩:=kL_rep k c hk
 exact⟨_,rfl,h2,h1,Fr.of_below lo⟩
theorem change_dup (w:World)(fb sb:Nat)(o:Option (List Nat))(pl a b tt:Nat)(par:Nat→Nat)(h:StkO w sb o) :
  Calls Tryz.prog 211 #[.pointer (some ⟨fb,0,none⟩),.pointer (some ⟨sb,0,none⟩),insV 45 pl a b tt] w fun e w'=>e=.returned (.tuple #[])∧StkO w' sb (chB par 45 a o)∧Fr [sb] w w':=by
 have K0:=h.fr ((Fr.refl [] w).alloc (.cells #[.int .u8 45,.int .i64 pl,.int .i64 a,.int .i64 b,.int .i64 tt] 172)) (by simp)
 have F0:Fr [sb] w (w.alloc (.cells #[.int .u8 45,.int .i64 pl,.int .i64 a,.int .i64 b,.int .i64 tt] 172)):=(Fr.refl [sb] w).alloc _
 have HL:Hid _:=h.len
 have HP:Hid _:=fun (W:World) (q:Option (List Nat)) (hW:StkO W sb q)=>pop_any W sb q 3 hW (by omega)
 have HQ:Hid _:=fun (W:World) (q:Option (List Nat)) (x:Nat) (hW:StkO W sb q) (hx:x<16)=>push_any W sb q x hW hx
 have HT:Hid _:=fun (W:World) (q:Option (List Nat)) (l:ByteArray) (hW:StkO W sb q) (hl:l.size≤100000) (hk:∀ x,x ∈ kL l→x<16)=>takeK_any W sb q l hW hl hk
 have HV:Hid _:=fun (W:World) (q:Option (List Nat)) (l:ByteArray) (hW:StkO W sb q) (hl:l.size≤100000) (hk:∀ x,x ∈ kL l→x<16)=>leave_any W sb q l hW hl hk
 clear h
 unfold insV
 go_enter Tryz.func211,Tryz.ntmps211
 go_wp2_with fail
 refine (HP.out _ _ K0).mono ?_
 rintro e w1 ⟨y,rfl,hy,hy2,K1,F1⟩
 go_wp2_with fail
 refine (HQ.out _ _ _ K1 hy).mono ?_
 rintro e w2 ⟨rfl,K2,F2⟩
 go_wp2_with fail
 refine (HQ.out _ _ _ K2 hy).mono ?_
 rintro e w3 ⟨rfl,K3,F3⟩
 rw[ch_dup (par:=par) (a:=a) HL.out hy2] at K3
 go_wp2
 go_end0
 exact⟨rfl,K3,((F0.trans F1).trans F2).trans F3⟩
theorem change_under (w:World)(fb sb:Nat)(o:Option (List Nat))(pl a b tt:Nat)(par:Nat→Nat)(h:StkO w sb o) :
  Calls Tryz.prog 211 #[.pointer (some ⟨fb,0,none⟩),.pointer (some ⟨sb,0,none⟩),insV 46 pl a b tt] w fun e w'=>e=.returned (.tuple #[])∧StkO w' sb (chB par 46 a o)∧Fr [sb] w w':=by
 have K0:=h.fr ((Fr.refl [] w).alloc (.cells #[.int .u8 46,.int .i64 pl,.int .i64 a,.int .i64 b,.int .i64 tt] 172)) (by simp)
 have F0:Fr [sb] w (w.alloc (.cells #[.int .u8 46,.int .i64 pl,.int .i64 a,.int .i64 b,.int .i64 tt] 172)):=(Fr.refl [sb] w).alloc _
 have HL:Hid _:=h.len
 have HP:Hid _:=fun (W:World) (q:Option (List Nat)) (hW:StkO W sb q)=>pop_any W sb q 3 hW (by omega)
 have HQ:Hid _:=fun (W:World) (q:Option (List Nat)) (x:Nat) (hW:StkO W sb q) (hx:x<16)=>push_any W sb q x hW hx
 have HT:Hid _:=fun (W:World) (q:Option (List Nat)) (l:ByteArray) (hW:StkO W sb q) (hl:l.size≤100000) (hk:∀ x,x ∈ kL l→x<16)=>takeK_any W sb q l hW hl hk
 have HV:Hid _:=fun (W:World) (q:Option (List Nat)) (l:ByteArray) (hW:StkO W sb q) (hl:l.size≤100000) (hk:∀ x,x ∈ kL l→x<16)=>leave_any W sb q l hW hl hk
 clear h
 unfold insV
 go_enter Tryz.func211,Tryz.ntmps211
 go_wp2_with fail
 refine (HP.out _ _ K0).mono ?_
 rintro e w1 ⟨y,rfl,hy,hy2,K1,F1⟩
 go_wp2_with fail
 refine (HP.out _ _ K1).mono ?_
 rintro e w2 ⟨x,rfl,hx,hx2,K2,F2⟩
 go_wp2_with fail
 refine (HQ.out _ _ _ K2 hy).mono ?_
 rintro e w3 ⟨rfl,K3,F3⟩
 go_wp2_with fail
 refine (HQ.out _ _ _ K3 hx).mono ?_
 rintro e w4 ⟨rfl,K4,F4⟩
 go_wp2_with fail
 refine (HQ.out _ _ _ K4 hy).mono ?_
 rintro e w5 ⟨rfl,K5,F5⟩
 rw[ch_under (par:=par) (a:=a) HL.out hy2 hx2] at K5
 go_wp2
 go_end0
 exact⟨rfl,K5,((((F0.trans F1).trans F2).trans F3).trans F4).trans F5⟩
theorem change_print (w:World)(fb sb:Nat)(o:Option (List Nat))(pl a b tt:Nat)(par:Nat→Nat)(h:StkO w sb o)(ha:a≤1000) :
  Calls Tryz.prog 211 #[.pointer (some ⟨fb,0,none⟩),.pointer (some ⟨sb,0,none⟩),insV 44 pl a b tt] w fun e w'=>e=.returned (.tuple #[])∧StkO w' sb (chB par 44 a o)∧Fr [sb] w w':=by
 have K0:=h.fr ((Fr.refl [] w).alloc (.cells #[.int .u8 44,.int .i64 pl,.int .i64 a,.int .i64 b,.int .i64 tt] 172)) (by simp)
 have F0:Fr [sb] w (w.alloc (.cells #[.int .u8 44,.int .i64 pl,.int .i64 a,.int .i64 b,.int .i64 tt] 172)):=(Fr.refl [sb] w).alloc _
 have HL:Hid _:=h.len
 have HP:Hid _:=fun (W:World) (q:Option (List Nat)) (hW:StkO W sb q)=>pop_any W sb q 3 hW (by omega)
 have HQ:Hid _:=fun (W:World) (q:Option (List Nat)) (x:Nat) (hW:StkO W sb q) (hx:x<16)=>push_any W sb q x hW hx
 have HT:Hid _:=fun (W:World) (q:Option (List Nat)) (l:ByteArray) (hW:StkO W sb q) (hl:l.size≤100000) (hk:∀ x,x ∈ kL l→x<16)=>takeK_any W sb q l hW hl hk
 have HV:Hid _:=fun (W:World) (q:Option (List Nat)) (l:ByteArray) (hW:StkO W sb q) (hl:l.size≤100000) (hk:∀ x,x ∈ kL l→x<16)=>leave_any W sb q l hW hl hk
 have HR:Hid _:=fun (W:World)=>repeatK_any 2 a W (by omega) (by omega)
 clear h
 unfold insV
 go_enter Tryz.func211,Tryz.ntmps211
 go_wp2_with fail
 refine (HR.out _).mono ?_
 rintro e w1 ⟨l,rfl,hl,hkl,F1⟩
 have K1:=K0.fr F1 (by simp)
 go_wp2_with fail
 refine (HT.out _ _ _ K1 (by omega) (by rw[hkl];intro x hx;rw[List.mem_replicate] at hx;omega)).mono ?_
 rintro e w2 ⟨rfl,K2,F2⟩
 have hw:kL l=wantB par 44 a:=by rw[hkl];rfl
 rw[hw] at K2
 have K3:StkO w2 sb (chB par 44 a o):=by
  rw[← ch_table (par:=par) (op:=44) (a:=a) HL.out (by decide) (by decide) (by decide)]
  have e0:∀ q:Option (List Nat),q.bind (leaveB (givesB.getD 44 []))=q:=fun q=>by cases q <;> rfl
  rw[e0]
  exact K2
 go_wp2
 go_end0
 exact⟨rfl,K3,(F0.trans (F1.mono (by simp))).trans F2⟩
theorem change_table (w:World)(fb sb:Nat)(o:Option (List Nat))(op pl a b tt:Nat)(par:Nat→Nat)(h:StkO w sb o)(hop:op<54)(h44:op≠44)(h45:op≠45)(h46:op≠46)(h50:op≠50) :
  Calls Tryz.prog 211 #[.pointer (some ⟨fb,0,none⟩),.pointer (some ⟨sb,0,none⟩),insV op pl a b tt] w fun e w'=>e=.returned (.tuple #[])∧StkO w' sb (chB par op a o)∧Fr [sb] w w':=by
 have K0:=h.fr ((Fr.refl [] w).alloc (.cells #[.int .u8 op,.int .i64 pl,.int .i64 a,.int .i64 b,.int .i64 tt] 172)) (by simp)
 have F0:Fr [sb] w (w.alloc (.cells #[.int .u8 op,.int .i64 pl,.int .i64 a,.int .i64 b,.int .i64 tt] 172)):=(Fr.refl [sb] w).alloc _
 have HL:Hid _:=h.len
 have HP:Hid _:=fun (W:World) (q:Option (List Nat)) (hW:StkO W sb q)=>pop_any W sb q 3 hW (by omega)
 have HQ:Hid _:=fun (W:World) (q:Option (List Nat)) (x:Nat) (hW:StkO W sb q) (hx:x<16)=>push_any W sb q x hW hx
 have HT:Hid _:=fun (W:World) (q:Option (List Nat)) (l:ByteArray) (hW:StkO W sb q) (hl:l.size≤100000) (hk:∀ x,x ∈ kL l→x<16)=>takeK_any W sb q l hW hl hk
 have HV:Hid _:=fun (W:World) (q:Option (List Nat)) (l:ByteArray) (hW:StkO W sb q) (hl:l.size≤100000) (hk:∀ x,x ∈ kL l→x<16)=>leave_any W sb q l hW hl hk
 have HE:Hid _:=fun (W:World)=>effect_any op W hop h44 h45 h46 h50
 have g44:((op:Int)==44)=false:=by simp;omega
 have g45:((op:Int)==45)=false:=by simp;omega
 have g46:((op:Int)==46)=false:=by simp;omega
 have g50:((op:Int)==50)=false:=by simp;omega
 have hg:op<256:=by omega
 clear h
 unfold insV
 go_enter Tryz.func211,Tryz.ntmps211
 go_wp2_with fail
 refine (HE.out _).mono ?_
 rintro e w1 ⟨rfl,rfl⟩
 have a1:∀ x,x ∈ takesB.getD op []→x<16:=fun x hx=>by
  have:=takesB_asked op hop x hx
  omega
 have a2:∀ x,x ∈ leavesE op→x<16:=fun x hx=>by
  unfold leavesE at hx
  split at hx
  ·cases hx
  ·have:=givesB_bits op hop x hx
   omega
 have e1:kL (mkK (takesB.getD op []))=takesB.getD op []:=kL_mkK fun x hx=>by have:=a1 x hx;omega
 have e2:kL (mkK (leavesE op))=leavesE op:=kL_mkK fun x hx=>by have:=a2 x hx;omega
 have z1:(takesB.getD op []).length≤3:=by
  have:∀ op,op<54→(takesB.getD op []).length≤3:=by decide
  exact this op hop
 have z2:(leavesE op).length≤2:=by
  have:∀ op,op<54→(leavesE op).length≤2:=by decide
  exact this op hop
 have hT1:=HT.out _ _ (mkK (takesB.getD op [])) K0 (by rw[mkK_size];omega) (by rw[e1];exact a1)
 have HT1:Hid _:=hT1
 clear hT1
 go_wp2_with fail
 refine Calls.mono HT1.out ?_
 rintro e w2 ⟨rfl,K2,F2⟩
 go_wp2_with fail
 refine (HV.out _ _ _ K2 (by rw[mkK_size];omega) (by rw[e2];exact a2)).mono ?_
 rintro e w3 ⟨rfl,K3,F3⟩
 rw[e1,e2] at K3
 have hw:takesB.getD op []=wantB par op a:=by unfold wantB;rw[if_neg h44,if_neg h50]
 have K4:StkO w3 sb (chB par op a o):=by
  by_cases h17:op=17
  ·subst h17
   rw[hw] at K3
   rw[← ch_each]
   exact K3
  ·rw[← ch_table (par:=par) (op:=op) (a:=a) HL.out h17 h45 h46,← hw]
   have:leavesE op=givesB.getD op []:=by unfold leavesE;rw[if_neg h17]
   rw[← this]
   exact K3
 go_wp2
 go_end0
 exact⟨rfl,K4,(F0.trans F2).trans F3⟩
theorem change_call (w:World)(fb sb g off n cap:Nat)(o:Option (List Nat))(pl a b tt:Nat)(par:Nat→Nat)(h:StkO w sb o)
  (hf:w.cell? ⟨fb,4,none⟩=some (.slice (some ⟨g,off,none⟩) n cap)) (ha:a<n) (hn:n≤1000000) (hp:w.cell? ⟨g,off+a*3,none⟩=some (.int .i64 (par a:Nat))) (hp8:par a≤8) (hfs:fb≠sb) (hgs:g≠sb) :
  Calls Tryz.prog 211 #[.pointer (some ⟨fb,0,none⟩),.pointer (some ⟨sb,0,none⟩),insV 50 pl a b tt] w fun e w'=>e=.returned (.tuple #[])∧StkO w' sb (chB par 50 a o)∧Fr [sb] w w':=by
 have hm:Tryz.prog.follows Departure.mixedOrders=true:=by kernel_rfl
 have FA:Fr [] w (w.alloc (.cells #[.int .u8 50,.int .i64 pl,.int .i64 a,.int .i64 b,.int .i64 tt] 172)):=(Fr.refl [] w).alloc _
 have K0:=h.fr FA (by simp)
 have F0:Fr [sb] w (w.alloc (.cells #[.int .u8 50,.int .i64 pl,.int .i64 a,.int .i64 b,.int .i64 tt] 172)):=(Fr.refl [sb] w).alloc _
 have d0:(w.alloc (.cells #[.int .u8 50,.int .i64 pl,.int .i64 a,.int .i64 b,.int .i64 tt] 172)).cell? ⟨fb,4,none⟩=some (.slice (some ⟨g,off,none⟩) n cap):=(FA.cell (p:=⟨fb,4,none⟩) (lt_of_cell hf) (by simp)).trans hf
 have d1:(w.alloc (.cells #[.int .u8 50,.int .i64 pl,.int .i64 a,.int .i64 b,.int .i64 tt] 172)).cell? ⟨g,off+a*3,none⟩=some (.int .i64 (par a:Nat)):=(FA.cell (p:=⟨g,off+a*3,none⟩) (lt_of_cell hp) (by simp)).trans hp
 have hnew:=wan w (.cells #[.int .u8 50,.int .i64 pl,.int .i64 a,.int .i64 b,.int .i64 tt] 172)
 have d2:(w.alloc (.cells #[.int .u8 50,.int .i64 pl,.int .i64 a,.int .i64 b,.int .i64 tt] 172)).cell? ⟨w.heap.size,2,none⟩=some (.int .i64 a):=by unfold World.cell?;rw[hnew];rfl
 have d3:(w.alloc (.cells #[.int .u8 50,.int .i64 pl,.int .i64 a,.int .i64 b,.int .i64 tt] 172)).cell? ⟨w.heap.size,0,none⟩=some (.int .u8 50):=by unfold World.cell?;rw[hnew];rfl
 have HL:Hid _:=h.len
 have hsb0:=h.lt
 obtain⟨p,hpp⟩:∃ p,par a=p:=⟨_,rfl⟩
 rw[hpp] at d1 hp8
 have HT:Hid _:=fun (W:World) (q:Option (List Nat)) (l:ByteArray) (hW:StkO W sb q) (hl:l.size≤100000) (hk:∀ x,x ∈ kL l→x<16)=>takeK_any W sb q l hW hl hk
 have HV:Hid _:=fun (W:World) (q:Option (List Nat)) (l:ByteArray) (hW:StkO W sb q) (hl:l.size≤100000) (hk:∀ x,x ∈ kL l→x<16)=>leave_any W sb q l hW hl hk
 have HR:Hid _:=fun (W:World)=>repeatK_any 3 p W (by omega) (by omega)
 have hblt:w.heap.size<(w.alloc (.cells #[.int .u8 50,.int .i64 pl,.int .i64 a,.int .i64 b,.int .i64 tt] 172)).heap.size:=by simp
 have gA:(a:Int)<(n:Int):=by omega
 clear h hf hp FA hnew
 unfold insV
 go_enter Tryz.func211,Tryz.ntmps211
 go_wp2_with fail
 generalize w.alloc (.cells #[.int .u8 50,.int .i64 pl,.int .i64 a,.int .i64 b,.int .i64 tt] 172)=W at *
 refine wp_region_heldD (fun w1:World=>w1.cell? ⟨fb,4,none⟩=some (.slice (some ⟨g,off,none⟩) n cap)∧w1.cell? ⟨w.heap.size,2,none⟩=some (.int .i64 a)∧w1.cell? ⟨g,off+a*3,none⟩=some (.int .i64 p)) hm ?_
 have hS:(fun w1:World=>w1.cell? ⟨fb,4,none⟩=some (.slice (some ⟨g,off,none⟩) n cap)∧w1.cell? ⟨w.heap.size,2,none⟩=some (.int .i64 a)∧w1.cell? ⟨g,off+a*3,none⟩=some (.int .i64 p)) W.drew:=AI d0 (AI d2 d1)
 refine tkH (i:=0) (v:=?_) rfl (.inl ⟨rfl,fun w1 hS1=>?_⟩) hS ?_
 rotate_left
 ·obtain⟨q0,q1,q2⟩:=hS1
  go_simp
  first | rfl | (refine (if_neg (by omega)).trans ?_;rfl)
 simp only[Act.put,Z1,Z2,Z3,Z4,Z5,Z6]
 refine tkH (i:=1) (v:=?_) rfl (.inl ⟨rfl,fun w1 hS1=>?_⟩) hS ?_
 rotate_left
 ·obtain⟨q0,q1,q2⟩:=hS1
  go_simp
  first | rfl | (refine (if_neg (by omega)).trans ?_;rfl)
 simp only[Act.put,Z1,Z2,Z3,Z4,Z5,Z6]
 refine tkH (i:=2) (v:=?_) rfl (.inl ⟨rfl,fun w1 hS1=>?_⟩) hS ?_
 rotate_left
 ·obtain⟨q0,q1,q2⟩:=hS1
  go_simp
  first | rfl | (refine (if_neg (by omega)).trans ?_;rfl)
 simp only[Act.put,Z1,Z2,Z3,Z4,Z5,Z6]
 refine tkH (i:=3) (v:=?_) rfl (.inl ⟨rfl,fun w1 hS1=>?_⟩) hS ?_
 rotate_left
 ·obtain⟨q0,q1,q2⟩:=hS1
  go_simp
  first | rfl | (refine (if_neg (by omega)).trans ?_;rfl)
 simp only[Act.put,Z1,Z2,Z3,Z4,Z5,Z6]
 refine tkH (i:=4) (v:=?_) rfl (.inl ⟨rfl,fun w1 hS1=>?_⟩) hS ?_
 rotate_left
 ·obtain⟨q0,q1,q2⟩:=hS1
  go_simp
  first | rfl | (refine (if_neg (by omega)).trans ?_;rfl)
 simp only[Act.put,Z1,Z2,Z3,Z4,Z5,Z6]
 refine tkH (i:=5) (v:=?_) rfl (.inl ⟨rfl,fun w1 hS1=>?_⟩) hS ?_
 rotate_left
 ·obtain⟨q0,q1,q2⟩:=hS1
  go_simp
  first | rfl | (refine (if_neg (by omega)).trans ?_;rfl)
 simp only[Act.put,Z1,Z2,Z3,Z4,Z5,Z6]
 refine tkH (i:=6) (v:=?_) rfl (.inl ⟨rfl,fun w1 hS1=>?_⟩) hS ?_
 rotate_left
 ·obtain⟨q0,q1,q2⟩:=hS1
  go_simp
  first | rfl | (refine (if_neg (by omega)).trans ?_;rfl)
 simp only[Act.put,Z1,Z2,Z3,Z4,Z5,Z6]
 refine tkH (i:=7) (v:=?_) rfl (.inl ⟨rfl,fun w1 hS1=>?_⟩) hS ?_
 rotate_left
 ·obtain⟨q0,q1,q2⟩:=hS1
  go_simp
  first | rfl | (refine (if_neg (by omega)).trans ?_;rfl)
 simp only[Act.put,Z1,Z2,Z3,Z4,Z5,Z6]
 refine tkH (i:=8) (v:=?_) rfl (.inl ⟨rfl,fun w1 hS1=>?_⟩) hS ?_
 rotate_left
 ·obtain⟨q0,q1,q2⟩:=hS1
  go_simp
  first | rfl | (refine (if_neg (by omega)).trans ?_;rfl)
 simp only[Act.put,Z1,Z2,Z3,Z4,Z5,Z6]
 refine tkH (i:=9) (v:=?_) rfl (.inl ⟨rfl,fun w1 hS1=>?_⟩) hS ?_
 rotate_left
 ·obtain⟨q0,q1,q2⟩:=hS1
  go_simp
  first | rfl | (refine (if_neg (by omega)).trans ?_;rfl)
 simp only[Act.put,Z1,Z2,Z3,Z4,Z5,Z6]
 refine tkH (i:=10) (v:=?_) rfl (.inl ⟨rfl,fun w1 hS1=>?_⟩) hS ?_
 rotate_left
 ·obtain⟨q0,q1,q2⟩:=hS1
  go_simp
  first | rfl | (refine (if_neg (by omega)).trans ?_;rfl)
 simp only[Act.put,Z1,Z2,Z3,Z4,Z5,Z6]
 refine tkH (i:=11) (v:=?_) rfl (.inl ⟨rfl,fun w1 hS1=>?_⟩) hS ?_
 rotate_left
 ·obtain⟨q0,q1,q2⟩:=hS1
  go_simp
  first | rfl | (refine (if_neg (by omega)).trans ?_;rfl)
 simp only[Act.put,Z1,Z2,Z3,Z4,Z5,Z6]
 refine rdH (r:=12) ?_
 refine AllReadyH.cons rfl (fun K hK=>?_) AllReadyH.nil
 go_simp
 refine (HR.out _).mono ?_
 rintro e w1 ⟨l,rfl,hl,hkl,G1⟩
 have F1:Fr [] W w1:=⟨G1.os,G1.tape,G1.output,G1.size,G1.block⟩
 have K1:=K0.fr F1 (by simp)
 refine hK _ _ (AI ((F1.cell (p:=⟨fb,4,none⟩) (lt_of_cell d0) (by simp)).trans d0) (AI ((F1.cell (p:=⟨w.heap.size,2,none⟩) (lt_of_cell d2) (by simp)).trans d2) ((F1.cell (p:=⟨g,off+a*3,none⟩) (lt_of_cell d1) (by simp)).trans d1))) ?_
 clear hK K hS
 intro _
 refine rdH (r:=13) ?_
 refine AllReadyH.cons rfl (fun K hK=>?_) AllReadyH.nil
 go_simp
 refine (HT.out _ _ _ K1 (by omega) (by rw[hkl];intro x hx;rw[List.mem_replicate] at hx;omega)).mono ?_
 rintro e w2 ⟨rfl,K2,F2⟩
 have hsb:=K0.lt
 have hsw:w.heap.size≠sb:=by have:=hsb0;omega
 have F12:=(F1.mono (S':=[sb]) (by simp)).trans F2
 refine hK _ _ (AI ((F12.cell (p:=⟨fb,4,none⟩) (lt_of_cell d0) (by simpa using hfs)).trans d0) (AI ((F12.cell (p:=⟨w.heap.size,2,none⟩) (lt_of_cell d2) (by simpa using hsw)).trans d2) ((F12.cell (p:=⟨g,off+a*3,none⟩) (lt_of_cell d1) (by simpa using hgs)).trans d1))) ?_
 clear hK K
 intro _
 refine wpAnyH_done (by kernel_rfl) ?_ _
 have hw:(kL l).reverse=(wantB par 50 a).reverse:=by rw[hkl,← hpp];rfl
 rw[hw] at K2
 clear HT HR hw hkl hl K1
 go_wp2_with fail
 refine (HV.out _ _ ⟨#[3]⟩ K2 (by decide) (by decide)).mono ?_
 rintro e w3 ⟨rfl,K3,F3⟩
 have K4:StkO w3 sb (chB par 50 a o):=by
  rw[← ch_table (par:=par) (op:=50) (a:=a) HL.out (by decide) (by decide) (by decide)]
  exact K3
 go_wp2
 go_end0
 exact⟨rfl,K4,(F0.trans F12).trans F3⟩
theorem change_any (w:World)(fb sb g off n cap:Nat)(o:Option (List Nat))(op pl a b tt:Nat)(par:Nat→Nat)(hop:op<54)(h:StkO w sb o)(h44:op=44→a≤1000)
  (h50:op=50→w.cell? ⟨fb,4,none⟩=some (.slice (some ⟨g,off,none⟩) n cap)∧a<n∧n≤1000000∧w.cell? ⟨g,off+a*3,none⟩=some (.int .i64 (par a:Nat))∧par a≤8∧fb≠sb∧g≠sb) :
  Calls Tryz.prog 211 #[.pointer (some ⟨fb,0,none⟩),.pointer (some ⟨sb,0,none⟩),insV op pl a b tt] w fun e w'=>e=.returned (.tuple #[])∧StkO w' sb (chB par op a o)∧Fr [sb] w w':=by
 by_cases e45:op=45
 ·subst e45;exact change_dup w fb sb o pl a b tt par h
 ·by_cases e46:op=46
  ·subst e46;exact change_under w fb sb o pl a b tt par h
  ·by_cases e44:op=44
   ·subst e44;exact change_print w fb sb o pl a b tt par h (h44 rfl)
   ·by_cases e50:op=50
    ·subst e50
     obtain⟨q1,q2,q3,q4,q5,q6,q7⟩:=h50 rfl
     exact change_call w fb sb g off n cap o pl a b tt par h q1 q2 q3 q4 q5 q6 q7
    ·exact change_table w fb sb o op pl a b tt par h hop e44 e45 e46 e50
end Go.Proofs.YtclkgoigmgkffaaGreatDoor
