/-
  Texts Gb Pg Pe Pf Qa Ph Pi Pj Qb.
-/
import Derived.Test.YtclkgoigmgkffaaGreatDoorM02
import Derived.Test.YtclkgoigmgkffaaGreatDoorM06
import Derived.Test.YtclkgoigmgkffaaGreatDoorM03
import Derived.Test.YtclkgoigmgkffaaGreatDoorM04
import Derived.Test.YtclkgoigmgkffaaGreatDoorM12
set_option linter.unusedSimpArgs false
set_option linter.unusedVariables false
set_option maxRecDepth 100000
set_option maxHeartbeats 40000000
namespace Go.Proofs.YtclkgoigmgkffaaGreatDoor
open Go.RowKit
open Wire
theorem lawfulR_any (p l:Int) (c:ByteArray) (i:Nat) (w:World) (hc:c.size≤9223372036854775807) (hi:i≤1000000000) :
  Calls Tryz.prog 43 #[.agg #[.int .i64 p,.int .i64 l,.string c],.int .i64 i] w fun e w'=>e=.returned (.bool (lawful ⟨p,l,c⟩ i))∧Fr [] w w':=by
 have hL:=lawful_iff (f:=⟨p,l,c⟩) (i:=i)
 simp only at hL
 generalize lawful ⟨p,l,c⟩ i=R at *
 by_cases h1:p<0
 ·have hR:R=false:=by cases R <;> simp at hL ⊢ <;> omega
  subst hR
  clear hL
  go_enter Tryz.func43,Tryz.ntmps43
  go_wp2
  go_ret
  exact⟨rfl,(Fr.refl [] w).alloc _⟩
 ·skip
  by_cases h2:8<p
  ·have hR:R=false:=by cases R <;> simp at hL ⊢ <;> omega
   subst hR
   clear hL
   go_enter Tryz.func43,Tryz.ntmps43
   go_wp2
   go_ret
   exact⟨rfl,(Fr.refl [] w).alloc _⟩
  ·skip
   by_cases h3:l<p
   ·have hR:R=false:=by cases R <;> simp at hL ⊢ <;> omega
    subst hR
    clear hL
    go_enter Tryz.func43,Tryz.ntmps43
    go_wp2
    go_ret
    exact⟨rfl,(Fr.refl [] w).alloc _⟩
   ·skip
    by_cases h4:16<l
    ·have hR:R=false:=by cases R <;> simp at hL ⊢ <;> omega
     subst hR
     clear hL
     go_enter Tryz.func43,Tryz.ntmps43
     go_wp2
     go_ret
     exact⟨rfl,(Fr.refl [] w).alloc _⟩
    ·skip
     by_cases h5:(20000:Int)<c.size
     ·have hR:R=false:=by cases R <;> simp at hL ⊢ <;> omega
      subst hR
      clear hL
      go_enter Tryz.func43,Tryz.ntmps43
      go_wp2
      go_ret
      exact⟨rfl,(Fr.refl [] w).alloc _⟩
     ·skip
      by_cases h6:(2:Int)<i
      ·have hR:R=true:=by cases R <;> simp at hL ⊢ <;> omega
       subst hR
       clear hL
       go_enter Tryz.func43,Tryz.ntmps43
       go_wp2
       go_ret
       exact⟨rfl,(Fr.refl [] w).alloc _⟩
      ·skip
       by_cases h7:p=0
       ·subst h7
        have hR:R=true:=by cases R <;> simp at hL ⊢ <;> omega
        subst hR
        clear hL
        go_enter Tryz.func43,Tryz.ntmps43
        go_wp2
        go_ret
        exact⟨rfl,(Fr.refl [] w).alloc _⟩
       ·have h8:(p==0)=false:=by simpa using h7
        have hR:R=false:=by cases R <;> simp at hL ⊢ <;> omega
        subst hR
        clear hL
        go_enter Tryz.func43,Tryz.ntmps43
        go_wp2
        go_ret
        exact⟨rfl,(Fr.refl [] w).alloc _⟩
theorem digitsR_ex (n:Nat) (h:n<9223372036854775808):∃ D:ByteArray,mkR (digs n)=D∧D.size≤10∧Hid (∀ W:World,Calls Tryz.prog 44 #[.int .i64 n] W fun e w'=>e=.returned (.string D)∧Fr [] W w'):=
 ⟨_,rfl,by rw[mkR_size];exact digs_len10 n,fun W=>digitsR_any n W h⟩
theorem section_walk (k:Nat) (C A B:ByteArray) (w:World) (hk:k<128) (hC:C.size≤1000000000) (hA:A.size≤10) (hB:B.size≤10)
  (H1:Hid (∀ W:World,Calls Tryz.prog 44 #[.int .i64 k] W fun e w'=>e=.returned (.string A)∧Fr [] W w')) (H2:Hid (∀ W:World,Calls Tryz.prog 44 #[.int .i64 C.size] W fun e w'=>e=.returned (.string B)∧Fr [] W w')) :
  Calls Tryz.prog 45 #[.int .i64 k,.string C] w fun e w'=>e=.returned (.string (A++B++C))∧Fr [] w w':=by
 have z3:(A++B).size=A.size+B.size:=ByteArray.size_append
 go_enter Tryz.func45,Tryz.ntmps45
 go_wp2_with fail
 refine (H1.out _).mono ?_
 rintro e w1 ⟨rfl,f1⟩
 go_wp2_with fail
 refine (H2.out _).mono ?_
 rintro e w2 ⟨rfl,f2⟩
 go_wp2
 go_ret
 exact⟨rfl,f1.trans f2⟩
theorem sectionR_any (k:Nat) (c:List UInt8) (w:World) (hk:k<128) (hc:c.length≤1000000000):Calls Tryz.prog 45 #[.int .i64 k,.string (mkR c)] w fun e w'=>e=.returned (.string (mkR (sect k c)))∧Fr [] w w':=by
 obtain⟨A,hA,zA,H1⟩:=digitsR_ex k (by omega)
 obtain⟨B,hB,zB,H2⟩:=digitsR_ex (mkR c).size (by rw[mkR_size];omega)
 have h:=section_walk k (mkR c) A B w hk (by rw[mkR_size];exact hc) zA zB H1 H2
 have e1:A++B++mkR c=mkR (sect k c):=by
  rw[← hA,← hB,mkR_app,mkR_app,mkR_size,digs_lt hk,sect]
  simp
 rw[e1] at h
 exact h
theorem textsB_snoc (L:List ByteArray) (k:Nat) (x:ByteArray) (h:L[k]?=some x):textsB (L.take (k+1))=textsB (L.take k)++(digs x.size++bl x):=by
 obtain⟨hk,rfl⟩:=List.getElem?_eq_some_iff.1 h
 rw[List.take_succ_eq_append_getElem hk,textsB,List.flatMap_append]
 simp[textsB,textB]
theorem textsB_size (L:List ByteArray) (k:Nat) (hs:∀ s ∈ L,s.size≤100):(textsB (L.take k)).length≤110*k:=by
 induction k with
 | zero=>simp[textsB]
 | succ k ih=>
  cases hx:L[k]? with
  | none=>
   have:L.length≤k:=by simpa using hx
   rw[List.take_of_length_le (by omega)] at ih ⊢
   omega
  | some x=>
   rw[textsB_snoc L k x hx,List.length_append,List.length_append,bl_length]
   have:=hs x (List.mem_of_getElem? hx)
   have:=digs_len10 x.size
   omega
theorem listingR_any (tv:Value) (L:List ByteArray) (w:World) (hs:∀ s ∈ L,s.size≤100) (hn:L.length≤1000) (hL:StrsIn w tv L) :
  Calls Tryz.prog 46 #[tv] w fun e w'=>e=.returned (.string (mkR (listing L)))∧Fr [] w w':=by
 have hm:Tryz.prog.follows .mixedOrders=true:=by kernel_rfl
 obtain⟨a0,cap,g,off,rfl,hc,ha,hx⟩:=hL
 have H1:Hid _:=fun W=>digitsR_any L.length W (by omega)
 have HD:Hid _:=fun (n:Nat) (W:World) (h:n<9223372036854775808)=>digitsR_any n W h
 have l1:=digs_len10 L.length
 have HX:Hid _:=hx
 have HA:Hid _:=ha
 have HS:Hid _:=hs
 clear hx ha hs
 go_enter Tryz.func46,Tryz.ntmps46
 go_wp2_with fail
 refine (H1.out _).mono ?_
 rintro e w1 ⟨rfl,f1⟩
 clear H1
 go_wp2
 go_loopw [3,4] (fun s i wr=>∃ k:Nat,k≤L.length∧i=.int .i64 k∧s=.string (mkR (digs L.length++textsB (L.take k)))∧Fr [] w wr) (fun _ i _=>L.length-(intOf i).toNat)
 case atStart=>exact⟨0,by omega,rfl,by simp[textsB],f1⟩
 case round=>
  obtain⟨k,hk,rfl,rfl,fr⟩:=hrel
  by_cases hlt:k<L.length
  ·have g1:(k:Int)<L.length:=by omega
   obtain⟨rfl,hgl⟩:=HA.out (by omega)
   obtain⟨x,hx⟩:∃ x,L[k]?=some x:=⟨_,List.getElem?_eq_getElem hlt⟩
   have hxs:=HS.out x (List.mem_of_getElem? hx)
   have c0:wr.cell? ⟨g,off+k,none⟩=some (.string x):=(fr.cell (p:=⟨g,off+k,none⟩) hgl (by simp)).trans (HX.out k x hx)
   have hts:=textsB_size L k HS.out
   have hsn:=textsB_snoc L k x hx
   have e1:mkR (digs L.length++textsB (L.take k))++mkR (digs x.size)++x=mkR (digs L.length++textsB (L.take (k+1))):=by
    conv=>lhs;rhs;rw[← mkR_bl x]
    rw[mkR_app,mkR_app,hsn]
    simp
   have hd:=digs_len10 x.size
   have z0:(mkR (digs L.length++textsB (L.take k))).size≤200000:=by rw[mkR_size,List.length_append];omega
   have z1:(mkR (digs x.size)).size≤10:=by rw[mkR_size];exact hd
   have z2:(mkR (digs L.length++textsB (L.take k))++mkR (digs x.size)).size=(mkR (digs L.length++textsB (L.take k))).size+(mkR (digs x.size)).size:=ByteArray.size_append
   have hdg:=fun W=>HD.out x.size W (by omega)
   have HDG:Hid _:=hdg
   have E1:Hid _:=e1
   have hgr:=Nat.lt_of_lt_of_le hgl fr.size
   clear hx hsn hts e1 hd hdg
   generalize mkR (digs L.length++textsB (L.take k))=T at *
   generalize mkR (digs x.size)=D at *
   go_wp2
   refine wp_region_heldD (fun w1=>w1.cell? ⟨g,off+k,none⟩=some (.string x)) hm ?_
   have hS:(fun w1=>w1.cell? ⟨g,off+k,none⟩=some (.string x)) wr.drew:=c0
   refine wpAnyH_take (i:=0) (v:=?_) rfl (by kernel_rfl) (by kernel_rfl) (by kernel_rfl) (fun _ _ _ h=>h) (.inl ⟨rfl,fun w1 hS1=>?_⟩) hS ?_
   rotate_left
   ·have q1:=hS1
    go_simp
    first | rfl | (refine (if_neg (by omega)).trans ?_;rfl)
   simp only[Act.put,List.setIfInBounds_toArray,List.set_cons_zero,List.set_cons_succ,List.getElem_toArray,List.getElem_cons_succ,List.getElem_cons_zero]
   refine wpAnyH_take (i:=1) (v:=?_) rfl (by kernel_rfl) (by kernel_rfl) (by kernel_rfl) (fun _ _ _ h=>h) (.inl ⟨rfl,fun w1 hS1=>?_⟩) hS ?_
   rotate_left
   ·have q1:=hS1
    go_simp
    first | rfl | (refine (if_neg (by omega)).trans ?_;rfl)
   simp only[Act.put,List.setIfInBounds_toArray,List.set_cons_zero,List.set_cons_succ,List.getElem_toArray,List.getElem_cons_succ,List.getElem_cons_zero]
   refine wpAnyH_take (i:=2) (v:=?_) rfl (by kernel_rfl) (by kernel_rfl) (by kernel_rfl) (fun _ _ _ h=>h) (.inl ⟨rfl,fun w1 hS1=>?_⟩) hS ?_
   rotate_left
   ·have q1:=hS1
    go_simp
    first | rfl | (refine (if_neg (by omega)).trans ?_;rfl)
   simp only[Act.put,List.setIfInBounds_toArray,List.set_cons_zero,List.set_cons_succ,List.getElem_toArray,List.getElem_cons_succ,List.getElem_cons_zero]
   refine wpAnyH_take (i:=3) (v:=?_) rfl (by kernel_rfl) (by kernel_rfl) (by kernel_rfl) (fun _ _ _ h=>h) (.inl ⟨rfl,fun w1 hS1=>?_⟩) hS ?_
   rotate_left
   ·have q1:=hS1
    go_simp
    first | rfl | (refine (if_neg (by omega)).trans ?_;rfl)
   simp only[Act.put,List.setIfInBounds_toArray,List.set_cons_zero,List.set_cons_succ,List.getElem_toArray,List.getElem_cons_succ,List.getElem_cons_zero]
   refine wpAnyH_take (i:=4) (v:=?_) rfl (by kernel_rfl) (by kernel_rfl) (by kernel_rfl) (fun _ _ _ h=>h) (.inl ⟨rfl,fun w1 hS1=>?_⟩) hS ?_
   rotate_left
   ·have q1:=hS1
    go_simp
    first | rfl | (refine (if_neg (by omega)).trans ?_;rfl)
   simp only[Act.put,List.setIfInBounds_toArray,List.set_cons_zero,List.set_cons_succ,List.getElem_toArray,List.getElem_cons_succ,List.getElem_cons_zero]
   refine wpAnyH_take (i:=5) (v:=?_) rfl (by kernel_rfl) (by kernel_rfl) (by kernel_rfl) (fun _ _ _ h=>h) (.inl ⟨rfl,fun w1 hS1=>?_⟩) hS ?_
   rotate_left
   ·have q1:=hS1
    go_simp
    first | rfl | (refine (if_neg (by omega)).trans ?_;rfl)
   simp only[Act.put,List.setIfInBounds_toArray,List.set_cons_zero,List.set_cons_succ,List.getElem_toArray,List.getElem_cons_succ,List.getElem_cons_zero]
   refine wpAnyH_take (i:=8) (v:=?_) rfl (by kernel_rfl) (by kernel_rfl) (by kernel_rfl) (fun _ _ _ h=>h) (.inl ⟨rfl,fun w1 hS1=>?_⟩) hS ?_
   rotate_left
   ·have q1:=hS1
    go_simp
    first | rfl | (refine (if_neg (by omega)).trans ?_;rfl)
   simp only[Act.put,List.setIfInBounds_toArray,List.set_cons_zero,List.set_cons_succ,List.getElem_toArray,List.getElem_cons_succ,List.getElem_cons_zero]
   refine wpAnyH_take (i:=9) (v:=?_) rfl (by kernel_rfl) (by kernel_rfl) (by kernel_rfl) (fun _ _ _ h=>h) (.inl ⟨rfl,fun w1 hS1=>?_⟩) hS ?_
   rotate_left
   ·have q1:=hS1
    go_simp
    first | rfl | (refine (if_neg (by omega)).trans ?_;rfl)
   simp only[Act.put,List.setIfInBounds_toArray,List.set_cons_zero,List.set_cons_succ,List.getElem_toArray,List.getElem_cons_succ,List.getElem_cons_zero]
   refine wpAnyH_take (i:=10) (v:=?_) rfl (by kernel_rfl) (by kernel_rfl) (by kernel_rfl) (fun _ _ _ h=>h) (.inl ⟨rfl,fun w1 hS1=>?_⟩) hS ?_
   rotate_left
   ·have q1:=hS1
    go_simp
    first | rfl | (refine (if_neg (by omega)).trans ?_;rfl)
   simp only[Act.put,List.setIfInBounds_toArray,List.set_cons_zero,List.set_cons_succ,List.getElem_toArray,List.getElem_cons_succ,List.getElem_cons_zero]
   refine wpAnyH_take (i:=11) (v:=?_) rfl (by kernel_rfl) (by kernel_rfl) (by kernel_rfl) (fun _ _ _ h=>h) (.inl ⟨rfl,fun w1 hS1=>?_⟩) hS ?_
   rotate_left
   ·have q1:=hS1
    go_simp
    first | rfl | (refine (if_neg (by omega)).trans ?_;rfl)
   simp only[Act.put,List.setIfInBounds_toArray,List.set_cons_zero,List.set_cons_succ,List.getElem_toArray,List.getElem_cons_succ,List.getElem_cons_zero]
   refine wpAnyH_ready (rs:=[6]) (by kernel_rfl) (by simp) ?_
   refine AllReadyH.cons rfl (fun K hK=>?_) AllReadyH.nil
   go_simp
   refine (HDG.out _).mono ?_
   rintro e W2 ⟨rfl,f2⟩
   refine hK _ _ ((f2.cell (p:=⟨g,off+k,none⟩) hgr (by simp)).trans c0) ?_
   clear hK K
   intro hS2
   refine wpAnyH_take (i:=7) (v:=?_) rfl (by kernel_rfl) (by kernel_rfl) (by kernel_rfl) (fun _ _ _ h=>h) (.inl ⟨rfl,fun w1 hS1=>?_⟩) hS2 ?_
   rotate_left
   ·have q1:=hS1
    go_simp
    first | rfl | (refine (if_neg (by omega)).trans ?_;rfl)
   simp only[Act.put,List.setIfInBounds_toArray,List.set_cons_zero,List.set_cons_succ,List.getElem_toArray,List.getElem_cons_succ,List.getElem_cons_zero]
   refine wpAnyH_take (i:=12) (v:=?_) rfl (by kernel_rfl) (by kernel_rfl) (by kernel_rfl) (fun _ _ _ h=>h) (.inl ⟨rfl,fun w1 hS1=>?_⟩) hS2 ?_
   rotate_left
   ·have q1:=hS1
    go_simp
    first | rfl | (refine (if_neg (by omega)).trans ?_;rfl)
   simp only[Act.put,List.setIfInBounds_toArray,List.set_cons_zero,List.set_cons_succ,List.getElem_toArray,List.getElem_cons_succ,List.getElem_cons_zero]
   refine wpAnyH_take (i:=13) (v:=?_) rfl (by kernel_rfl) (by kernel_rfl) (by kernel_rfl) (fun _ _ _ h=>h) (.inl ⟨rfl,fun w1 hS1=>?_⟩) hS2 ?_
   rotate_left
   ·have q1:=hS1
    go_simp
    first | rfl | (refine (if_neg (by omega)).trans ?_;rfl)
   simp only[Act.put,List.setIfInBounds_toArray,List.set_cons_zero,List.set_cons_succ,List.getElem_toArray,List.getElem_cons_succ,List.getElem_cons_zero]
   refine wpAnyH_done (by kernel_rfl) ?_ _
   have f3:Fr [] w W2:=fr.drew.trans f2
   clear hS hS2 c0 HDG
   go_wp2
   refine⟨⟨k+1,by omega,by go_num,congrArg Value.string E1.out,f3⟩,by simp[intOf];omega⟩
  ·have g1:¬ ((k:Int)<L.length):=by omega
   have e1:mkR (digs L.length++textsB (L.take k))=mkR (listing L):=by rw[List.take_of_length_le (by omega),listing]
   rw[e1]
   go_wp2
   go_ret
   exact⟨rfl,fr⟩
variable {t : ByteArray}
def spotN (place length:Nat):Nat:=(if place=0 then 1 else 0)+(if place=length then 2 else 0)
theorem spotN_lt (p l:Nat):spotN p l<4:=by unfold spotN;split <;> split <;> decide
def byteN (x:ByteArray) (k:Nat):Nat:=if h:k<x.size then x[k].toNat else 0
theorem byteAt_eq {t:ByteArray}{k:Nat} (h:k<t.size):byteAt t k=byteN t k:=by unfold byteAt byteN;rw[dif_pos h,dif_pos h]
theorem byteAt_end {t:ByteArray}{k:Nat} (h:t.size≤k):byteAt t k = -1:=by unfold byteAt;rw[dif_neg (by omega)]
theorem byteN_lt (t:ByteArray) (k:Nat):byteN t k<256:=by
 unfold byteN
 split
 ·exact UInt8.toNat_lt _
 ·decide
section
variable {lit t : ByteArray} {k m : Nat} {q : Piece} {s : St}
end
section
variable {lit x : ByteArray} {q : Piece} {s : St}
end
structure Mind where
 st:Nat
 op:Nat
 fr:Nat
def outM (m:Mind) (c:Nat):Option Mind:=
 if c=40 then some ⟨0,m.op+1,m.fr⟩
 else if c=41 then (if m.op=0 then none else some ⟨1,m.op-1,m.fr⟩)
 else if c=124 then some ⟨0,m.op,m.fr⟩
 else if c=42∨c=43∨c=63 then (if m.st=0 then none else some ⟨1,m.op,m.fr⟩)
 else if c=91 then some ⟨3,m.op,m.fr⟩
 else if c=92 then some ⟨2,m.op,m.fr⟩
 else some ⟨1,m.op,m.fr⟩
def inM (m:Mind) (c:Nat):Option Mind:=
 if c=93∧(m.st=3∨m.st=4) then none
 else if c=93 then some ⟨1,m.op,m.fr⟩
 else if c=94∧m.st=3 then some ⟨4,m.op,m.fr⟩
 else if c=92 then some ⟨6,m.op,m.fr⟩
 else if c=45∧m.st=7 then some ⟨8,m.op,m.fr⟩
 else some ⟨7,m.op,c⟩
def nextM (m:Mind) (c:Nat):Option Mind:=
 if m.st=0∨m.st=1 then outM m c
 else if m.st=2 then some ⟨1,m.op,m.fr⟩
 else if m.st=6 then some ⟨7,m.op,c⟩
 else if m.st=8 then (if c=93 then some ⟨1,m.op,m.fr⟩ else if c=92 then some ⟨9,m.op,m.fr⟩ else if c<m.fr then none else some ⟨5,m.op,m.fr⟩)
 else if m.st=9 then (if c<m.fr then none else some ⟨5,m.op,m.fr⟩)
 else inM m c
def runM (t:ByteArray):Nat→Option Mind
 | 0=>some ⟨0,0,0⟩
 | k+1=>(runM t k).bind (fun m=>nextM m (byteN t k))
def RefErr (t:ByteArray) (k:Nat):Prop:=∃ m,runM t k=some m∧((k<t.size∧nextM m (byteN t k)=none)∨(k=t.size∧(1<m.st∨0<m.op)))
structure AtM (t:ByteArray) (s:St) (m:Mind):Prop where
 f:s.fault=false
 p:s.pos≤t.size
 r:runM t s.pos=some m
section
variable {t : ByteArray} {s : St} {m m' : Mind}
theorem peekQ_byte {c:Nat} (h:peekF t s=(c:Int)):s.fault=false∧s.pos<t.size∧byteN t s.pos=c:=by
 have hn:=peek_ne (t:=t) (s:=s) (by rw[h];omega)
 refine⟨hn.1,hn.2,?_⟩
 unfold peekF at h
 rw[hn.1] at h
 simp only[Bool.false_eq_true,if_false] at h
 rw[byteAt_eq hn.2] at h
 omega
theorem peek_cases (t:ByteArray) (s:St):peekF t s = -1∨∃ c:Nat,c<256∧peekF t s=(c:Int):=by
 unfold peekF
 by_cases hf:s.fault=true
 ·rw[if_pos hf];exact .inl rfl
 ·rw[if_neg hf]
  by_cases h:s.pos<t.size
  ·right;exact⟨byteN t s.pos,byteN_lt _ _,byteAt_eq h⟩
  ·left;exact byteAt_end (by omega)
theorem AtM.adv (h:AtM t s m) {c:Nat} (hp:peekF t s=(c:Int)) (hn:nextM m c=some m'):AtM t (advF s) m':=by
 obtain⟨_,h2,h3⟩:=peekQ_byte hp
 refine⟨h.f,h2,?_⟩
 show runM t (s.pos+1)=some m'
 rw[runM,h.r,Option.bind_some,h3,hn]
theorem AtM.err (h:AtM t s m) {c:Nat} (hp:peekF t s=(c:Int)) (hn:nextM m c=none):RefErr t s.pos:=by
 obtain⟨_,h2,h3⟩:=peekQ_byte hp
 exact⟨m,h.r,.inl ⟨h2,by rw[h3];exact hn⟩⟩
theorem AtM.end_ (h:AtM t s m) (hp:peekF t s = -1) (hm:1<m.st∨0<m.op):RefErr t s.pos:=by
 refine⟨m,h.r,.inr ⟨?_,hm⟩⟩
 rcases Nat.lt_or_ge s.pos t.size with hl | hl
 ·have:=peek_of (t:=t) h.f hl;omega
 ·have:=h.p;omega
def OutM (t:ByteArray) (s:St) (Q:Mind→Prop):Prop:=(∃ m,AtM t s m∧Q m)∨(s.fault=true∧RefErr t s.pos)
theorem bound_first (h:AtM t s m) (hm:(m.st=3∧peekF t s≠94)∨m.st=4∨((m.st=5∨m.st=7)∧peekF t s≠93)) :
  ((∃ c:Nat,(boundF t s 0).1=(c:Int)∧s.pos<(boundF t s 0).2.pos∧((AtM t (boundF t s 0).2 ⟨7,m.op,c⟩∧¬ (m.st=7∧peekF t s=45))∨(m.st=7∧peekF t s=45∧(boundF t s 0).2=advF s∧AtM t (boundF t s 0).2 ⟨8,m.op,m.fr⟩)))) ∨
  ((boundF t s 0).2.fault=true∧RefErr t (boundF t s 0).2.pos):=by
 have hn:¬ (m.st=0∨m.st=1)∧¬ m.st=2∧¬ m.st=6∧¬ m.st=8∧¬ m.st=9:=by omega
 have hin:∀ c,nextM m c=inM m c:=fun c=>by unfold nextM;rw[if_neg hn.1,if_neg hn.2.1,if_neg hn.2.2.1,if_neg hn.2.2.2.1,if_neg hn.2.2.2.2]
 unfold boundF
 rcases peek_cases t s with e | ⟨c,hc,e⟩
 ·
  have hs:skipF t s 92=(false,s):=by unfold skipF;rw[if_neg (by rw[e];decide)]
  rw[hs]
  simp only
  rw[e,if_neg (by decide),if_pos (by decide)]
  exact .inr ⟨rfl,h.end_ e (by omega)⟩
 ·by_cases c93:c=93
  ·subst c93
   rw[if_pos (by rw[e];rfl)]
   refine .inr ⟨rfl,h.err e ?_⟩
   rw[hin]
   unfold inM
   rw[if_pos ⟨rfl,by
    rcases hm with h1 | h1 | h1
    ·exact .inl h1.1
    ·exact .inr h1
    ·exact absurd e h1.2⟩]
  ·rw[if_neg (by rw[e];omega)]
   by_cases c92:c=92
   ·subst c92
    have hs:skipF t s 92=(true,advF s):=by unfold skipF;rw[if_pos (by rw[e];rfl)]
    rw[hs]
    simp only
    have h1:AtM t (advF s) ⟨6,m.op,m.fr⟩:=h.adv e (by rw[hin];unfold inM;simp)
    rcases peek_cases t (advF s) with e1 | ⟨d,hd,e1⟩
    ·rw[e1,if_pos (by decide)]
     exact .inr ⟨rfl,h1.end_ e1 (by simp)⟩
    ·rw[e1,if_neg (by omega)]
     refine .inl ⟨d,rfl,by simp[advF];omega,.inl ⟨h1.adv e1 (by simp[nextM]),?_⟩⟩
     rw[e];rintro ⟨-,h2⟩;exact absurd h2 (by decide)
   ·have hs:skipF t s 92=(false,s):=by unfold skipF;rw[if_neg (by rw[e];omega)]
    rw[hs]
    simp only
    rw[e,if_neg (by omega)]
    refine .inl ⟨c,rfl,by simp[advF],?_⟩
    by_cases cd:m.st=7∧c=45
    ·obtain⟨h7,rfl⟩:=cd
     exact .inr ⟨h7,rfl,rfl,h.adv e (by rw[hin];unfold inM;simp[h7])⟩
    ·refine .inl ⟨h.adv e ?_,fun h2=>cd ⟨h2.1,by omega⟩⟩
     rw[hin]
     unfold inM
     rw[if_neg (fun h2=>c93 h2.1),if_neg c93,if_neg,if_neg c92,if_neg (fun h2=>cd ⟨h2.2,h2.1⟩)]
     rintro ⟨rfl,h3⟩
     rcases hm with h1 | h1 | h1
     ·exact h1.2 e
     ·omega
     ·omega
theorem bound_second {lo:Nat} (h:AtM t s m) (h8:m.st=8) (hlo:m.fr=lo) (hp:peekF t s≠93) :
  (AtM t (boundF t s lo).2 ⟨5,m.op,m.fr⟩∧s.pos<(boundF t s lo).2.pos)∨((boundF t s lo).2.fault=true∧RefErr t (boundF t s lo).2.pos):=by
 unfold boundF
 rw[if_neg hp]
 rcases peek_cases t s with e | ⟨c,hc,e⟩
 ·have hs:skipF t s 92=(false,s):=by unfold skipF;rw[if_neg (by rw[e];decide)]
  rw[hs]
  simp only
  rw[e,if_pos (by omega)]
  exact .inr ⟨rfl,h.end_ e (by omega)⟩
 ·by_cases c92:c=92
  ·subst c92
   have hs:skipF t s 92=(true,advF s):=by unfold skipF;rw[if_pos (by rw[e];rfl)]
   rw[hs]
   simp only
   have h1:AtM t (advF s) ⟨9,m.op,m.fr⟩:=h.adv e (by simp[nextM,h8])
   rcases peek_cases t (advF s) with e1 | ⟨d,hd,e1⟩
   ·rw[e1,if_pos (by omega)]
    exact .inr ⟨rfl,h1.end_ e1 (by simp)⟩
   ·rw[e1]
    by_cases hl:(d:Int)<(lo:Int)
    ·rw[if_pos hl]
     exact .inr ⟨rfl,h1.err e1 (by simp[nextM];omega)⟩
    ·rw[if_neg hl]
     exact .inl ⟨h1.adv e1 (by simp[nextM];omega),by simp[advF];omega⟩
  ·have hs:skipF t s 92=(false,s):=by unfold skipF;rw[if_neg (by rw[e];omega)]
   rw[hs]
   simp only
   rw[e]
   have c93:c≠93:=fun e'=>hp (by rw[e,e'];rfl)
   by_cases hl:(c:Int)<(lo:Int)
   ·rw[if_pos hl]
    exact .inr ⟨rfl,h.err e (by simp[nextM,h8,c92,c93];omega)⟩
   ·rw[if_neg hl]
    exact .inl ⟨h.adv e (by simp[nextM,h8,c92,c93];omega),by simp[advF]⟩
def Behind (t:ByteArray) (s:St) (op:Nat) (m:Mind):Prop:=m.op=op∧(m.st=5∨(m.st=7∧(peekF t s=45→closesF t (s.pos+1)=true))∨(m.st=8∧peekF t s=93))
theorem item_ref (P:Nat→Bool) (h:AtM t s m) (hm:(m.st=3∧peekF t s≠94)∨m.st=4∨((m.st=5∨m.st=7)∧peekF t s≠93)) (hd:m.st=7→peekF t s=45→closesF t (s.pos+1)=true) :
  OutM t (itemF t s P).2 (Behind t (itemF t s P).2 m.op):=by
 unfold itemF
 rcases bound_first h hm with ⟨c,h1,h2,h3⟩ | ⟨h1,h2⟩
 ·rcases h3 with ⟨h3,h4⟩ | ⟨h7,h45,h5,h6⟩
  ·by_cases cr:peekF t (boundF t s 0).2=45∧closesF t ((boundF t s 0).2.pos+1)=false
   ·rw[if_pos cr]
    simp only
    have h8:AtM t (advF (boundF t s 0).2) ⟨8,m.op,c⟩:=h3.adv (c:=45) (by rw[cr.1];rfl) (by simp[nextM,inM])
    have hp:peekF t (advF (boundF t s 0).2)≠93:=by
     intro e
     have:=cr.2
     unfold closesF at this
     rw[decide_eq_false_iff_not] at this
     apply this
     unfold peekF at e
     have hf:(advF (boundF t s 0).2).fault=false:=h8.f
     rw[hf] at e
     exact e
    rw[h1]
    rcases bound_second h8 rfl rfl hp with ⟨g1,g2⟩ | g
    ·exact .inl ⟨_,g1,rfl,.inl rfl⟩
    ·exact .inr g
   ·rw[if_neg cr]
    refine .inl ⟨_,h3,rfl,.inr (.inl ⟨rfl,fun e=>?_⟩)⟩
    cases hc:closesF t ((boundF t s 0).2.pos+1) with
    | true=>rfl
    | false=>exact absurd ⟨e,hc⟩ cr
  ·have hcl:=hd h7 h45
   have h93:peekF t (boundF t s 0).2=93:=by
    unfold closesF at hcl
    rw[decide_eq_true_eq] at hcl
    unfold peekF
    rw[h6.f,h5]
    exact hcl
   rw[if_neg (by rw[h93];rintro ⟨e,-⟩;exact absurd e (by decide))]
   exact .inl ⟨_,h6,rfl,.inr (.inr ⟨rfl,h93⟩)⟩
 ·rw[if_neg (by rw[peek_fault' h1];rintro ⟨e,-⟩;exact absurd e (by decide))]
  exact .inr ⟨h1,h2⟩
theorem classL_ref (op:Nat):∀ (n:Nat) (P:Nat→Bool) (s:St),(s.fault=true∨t.size-s.pos<n)→OutM t s (Behind t s op) →
  OutM t (classLF t n P s).2 (fun m=>m.op=op∧(m.st=5∨m.st=7∨m.st=8)∧peekF t (classLF t n P s).2=93)
 | 0,P,s,hn,h=>by
  rcases h with ⟨m,h1,h2⟩ | h
  ·rcases hn with hn | hn
   ·rw[h1.f] at hn;cases hn
   ·omega
  ·exact .inr h
 | n+1,P,s,hn,h=>by
  rw[classLF]
  rcases h with ⟨m,h1,h2⟩ | h
  ·by_cases c:s.fault=true∨peekF t s=93
   ·rw[if_pos c]
    rcases c with c | c
    ·rw[h1.f] at c;cases c
    ·refine .inl ⟨m,h1,h2.1,?_,c⟩
     rcases h2.2 with g | g | g
     ·exact .inl g
     ·exact .inr (.inl g.1)
     ·exact .inr (.inr g.1)
   ·rw[if_neg c]
    have hp:peekF t s≠93:=fun e=>c (.inr e)
    have hi:=item_ref P h1 (by
     rcases h2.2 with g | g | g
     ·exact .inr (.inr ⟨.inl g,hp⟩)
     ·exact .inr (.inr ⟨.inr g.1,hp⟩)
     ·exact absurd g.2 hp) (by
     intro h7 h45
     rcases h2.2 with g | g | g
     ·omega
     ·exact g.2 h45
     ·omega)
    rw[h2.1] at hi
    refine classL_ref op n _ _ ?_ hi
    rcases item_prog (t:=t) s P with g | g
    ·exact .inl g
    ·right
     rcases hn with hn | hn
     ·rw[h1.f] at hn;cases hn
     ·rcases hi with ⟨m2,g2,-⟩ | ⟨g2,-⟩
      ·have:=g2.p;omega
      ·have:=(item_near (t:=t) s P).pos h1.p;omega
  ·rw[if_pos (.inl h.1)];exact .inr h
theorem class_ref {op fr:Nat} (n:Nat) (h:AtM t s ⟨3,op,fr⟩) (hn:t.size-s.pos<n):OutM t (classF t n s).2 (fun m=>m.op=op∧m.st=1):=by
 unfold classF
 show OutM t (takeOfF (needF t (classLF t n (itemF t (skipF t s 94).2 (fun _=>false)).1 (itemF t (skipF t s 94).2 (fun _=>false)).2).2 93) _).2 _
 have hsk:∃ m2,AtM t (skipF t s 94).2 m2∧m2.op=op∧((m2.st=3∧peekF t (skipF t s 94).2≠94)∨m2.st=4):=by
  unfold skipF
  by_cases e:peekF t s=94
  ·rw[if_pos e];exact⟨⟨4,op,fr⟩,h.adv (c:=94) (by rw[e];rfl) (by simp[nextM,inM]),rfl,.inr rfl⟩
  ·rw[if_neg e];exact⟨_,h,rfl,.inl ⟨rfl,e⟩⟩
 obtain⟨m2,k1,k2,k3⟩:=hsk
 have hi:=item_ref (fun _=>false) k1 (by rcases k3 with g | g;exact .inl g;exact .inr (.inl g)) (by intro h7;omega)
 rw[k2] at hi
 have hle:=(skip_near (t:=t) s 94 (by decide)).le
 have hle2:=(item_near (t:=t) (skipF t s 94).2 (fun _=>false)).le
 have hc:=classL_ref op n (itemF t (skipF t s 94).2 (fun _=>false)).1 (itemF t (skipF t s 94).2 (fun _=>false)).2 (.inr (by omega)) hi
 generalize classLF t n (itemF t (skipF t s 94).2 (fun _=>false)).1 (itemF t (skipF t s 94).2 (fun _=>false)).2=C at *
 rcases hc with ⟨m3,h1,h2,h3,h4⟩ | ⟨h1,h2⟩
 ·left
  refine⟨⟨1,op,m3.fr⟩,?_,rfl,rfl⟩
  have:needF t C.2 93=advF C.2:=by unfold needF;rw[if_pos h4]
  have h5:AtM t (advF C.2) ⟨1,op,m3.fr⟩:=h1.adv (c:=93) (by rw[h4];rfl) (by
   rcases h3 with g | g | g <;> simp[nextM,inM,g,h2])
  rw[this]
  exact⟨h5.f,h5.p,h5.r⟩
 ·right
  have:needF t C.2 93=failF C.2:=by unfold needF;rw[if_neg (by rw[peek_fault' h1];decide)]
  rw[this]
  exact⟨rfl,h2⟩
end
section
variable {p t : ByteArray} {A d : Nat} {B s : St}
end
section
variable {p t : ByteArray} {A d : Nat} {B s : St}
end
def FoZ (s:St):Prop:=∀ sp a,s.atoms≤a→s.fo sp a=0
section
variable {p t : ByteArray} {s : St}
theorem FoZ.tie (h:FoZ s) {q r:Piece} (hq:PB s.atoms q):FoZ { s with fo:=tieP s.fo q r }:=by
 intro sp a ha
 show tieP s.fo q r sp a=0
 unfold tieP
 have hl:(q sp).l.testBit a=false:=Nat.testBit_lt_two_pow (Nat.lt_of_lt_of_le (hq sp).2 (Nat.pow_le_pow_right (by decide) ha))
 rw[if_neg (by rw[hl];decide)]
 exact h sp a ha
theorem FoZ.near {s':St} (h:FoZ s) (hn:Near t s s'):FoZ s':=by
 intro sp a ha
 rw[hn.fo]
 exact h sp a (by rw[← hn.atoms];exact ha)
theorem FoZ.takeOf (h:FoZ s) (P:Nat→Bool):FoZ (takeOfF s P).2:=by
 intro sp a ha
 exact h sp a (Nat.le_of_succ_le ha)
structure FoAll (t:ByteArray) (n:Nat):Prop where
 alt:∀ s,Inv t s→FoZ s→FoZ (altF t n s).2
 altL:∀ q s,Inv t s→PB s.atoms q→FoZ s→FoZ (altLF t n q s).2
 seq:∀ s,Inv t s→FoZ s→FoZ (seqF t n s).2
 seqL:∀ q s,Inv t s→PB s.atoms q→FoZ s→FoZ (seqLF t n q s).2
 part:∀ s,Inv t s→peekF t s≠-1→FoZ s→FoZ (partF t n s).2
 partL:∀ q s,Inv t s→PB s.atoms q→FoZ s→FoZ (partLF t n q s).2
 atom:∀ s,Inv t s→peekF t s≠-1→FoZ s→FoZ (atomF t n s).2
theorem foAll (t:ByteArray):∀ n,FoAll t n
 | 0=>⟨fun _ _ h=>h,fun _ _ _ _ h=>h,fun _ _ h=>h,fun _ _ _ _ h=>h,fun _ _ _ h=>h,fun _ _ _ _ h=>h,fun _ _ _ h=>h⟩
 | n+1=>by
  have ih:=foAll t n
  have gv:=givesAll t n
  refine⟨fun s hi h=>?_,fun q s hi hq h=>?_,fun s hi h=>?_,fun q s hi hq h=>?_,fun s hi hp h=>?_,fun q s hi hq h=>?_,fun s hi hp h=>?_⟩
  ·rw[altF_s];have g:=gv.seq s hi;exact ih.altL _ _ g.inv g.pb (ih.seq _ hi h)
  ·rw[altLF_s]
   by_cases c:peekF t s=124
   ·rw[if_pos c]
    have hp:peekF t s≠-1:=by rw[c];decide
    have ha:=hi.adv hp
    have g:=gv.seq _ ha
    exact ih.altL _ _ g.inv ((hq.mono g.al).either g.pb) (ih.seq _ ha (h.near (near_adv hp)))
   ·rw[if_neg c];exact h
  ·rw[seqF_s];exact ih.seqL _ _ hi (PB.nothing _) h
  ·rw[seqLF_s]
   by_cases c:peekF t s = -1∨peekF t s=41∨peekF t s=124∨peekF t s=42∨peekF t s=43∨peekF t s=63
   ·rw[if_pos c];exact h
   ·rw[if_neg c]
    have hp:peekF t s≠-1:=fun e=>c (.inl e)
    have g:=gv.part s hi hp
    exact ih.seqL _ _ (g.inv.tie g.pb) ((hq.mono g.al).join g.pb) ((ih.part s hi hp h).tie (hq.mono g.al))
  ·rw[partF_s];have g:=gv.atom s hi hp;exact ih.partL _ _ g.inv g.pb (ih.atom _ hi hp h)
  ·rw[partLF_s]
   by_cases c1:peekF t s=42
   ·rw[if_pos c1]
    have hi2:=hi.tie (q:=q) hq
    have hp2:peekF t { s with fo:=tieP s.fo q q }≠-1:=by rw[peek_tie,c1];decide
    exact ih.partL _ _ (hi2.adv hp2) (hq.either (PB.nothing _)) ((h.tie hq).near (near_adv hp2))
   ·rw[if_neg c1]
    by_cases c2:peekF t s=43
    ·rw[if_pos c2]
     have hi2:=hi.tie (q:=q) hq
     have hp2:peekF t { s with fo:=tieP s.fo q q }≠-1:=by rw[peek_tie,c2];decide
     exact ih.partL _ _ (hi2.adv hp2) hq ((h.tie hq).near (near_adv hp2))
    ·rw[if_neg c2]
     by_cases c3:peekF t s=63
     ·rw[if_pos c3]
      have hp2:peekF t s≠-1:=by rw[c3];decide
      exact ih.partL _ _ (hi.adv hp2) (hq.either (PB.nothing _)) (h.near (near_adv hp2))
     ·rw[if_neg c3];exact h
  ·rw[atomF_s]
   have ha:=hi.adv hp
   have hz:=h.near (near_adv hp)
   by_cases c1:peekF t s=40
   ·rw[if_pos c1];exact (ih.alt _ ha hz).near (need_near (t:=t) _ 41 (by decide))
   ·rw[if_neg c1]
    by_cases c2:peekF t s=91
    ·rw[if_pos c2]
     have n1:=skip_near (t:=t) (advF s) 94 (by decide)
     have n2:=item_near (t:=t) (skipF t (advF s) 94).2 (fun _=>false)
     have n3:=classL_near (t:=t) n (itemF t (skipF t (advF s) 94).2 (fun _=>false)).1 (itemF t (skipF t (advF s) 94).2 (fun _=>false)).2
     have n4:=need_near (t:=t) (classLF t n (itemF t (skipF t (advF s) 94).2 (fun _=>false)).1 (itemF t (skipF t (advF s) 94).2 (fun _=>false)).2).2 93 (by decide)
     exact (hz.near (((n1.trans n2).trans n3).trans n4)).takeOf _
    ·rw[if_neg c2]
     by_cases c3:peekF t s=46
     ·rw[if_pos c3];exact hz.takeOf _
     ·rw[if_neg c3]
      by_cases c4:peekF t s=94
      ·rw[if_pos c4];exact hz
      ·rw[if_neg c4]
       by_cases c5:peekF t s=36
       ·rw[if_pos c5];exact hz
       ·rw[if_neg c5];exact (h.near (plain_near s hp).1).takeOf _
theorem read_foz (p:ByteArray):FoZ (readF p).2:=(foAll p 400).alt st0 (st0_inv p) (fun _ _ _=>rfl)
theorem read_inv (p:ByteArray):Inv p (readF p).2:=((givesAll p 400).alt st0 (st0_inv p)).inv
theorem ok_parts (h:readOk p=true):(readF p).2.fault=false∧(readF p).2.pos=p.size:=by
 unfold readOk at h
 simp only[Bool.and_eq_true,Bool.not_eq_true',decide_eq_true_eq] at h
 have:=(read_inv p).pos
 exact⟨h.1,by omega⟩
theorem ok_of (h1:(readF p).2.fault=false) (h2:p.size≤(readF p).2.pos):readOk p=true:=by
 unfold readOk
 simp only[Bool.and_eq_true,Bool.not_eq_true',decide_eq_true_eq]
 exact⟨h1,h2⟩
end
def MarkP (c:Int):Prop:=c=42∨c=43∨c=63
def StopP (c:Int):Prop:=c = -1∨c=41∨c=124∨c=42∨c=43∨c=63
structure SeqB (t:ByteArray) (s:St) (op:Nat) (m:Mind):Prop where
 op:m.op=op
 st:m.st≤1
 stop:StopP (peekF t s)
 mark:MarkP (peekF t s)→m.st=0
structure AltB (t:ByteArray) (s:St) (op:Nat) (m:Mind):Prop extends SeqB t s op m where
 bar:peekF t s≠124
structure PartB (t:ByteArray) (s:St) (op:Nat) (m:Mind):Prop where
 op:m.op=op
 st:m.st=1
 mark:¬ MarkP (peekF t s)
structure RefAll (t:ByteArray) (n:Nat):Prop where
 alt:∀ s m,Inv t s→AtM t s m→m.st=0→6*(t.size-s.pos)+3≤n→OutM t (altF t n s).2 (AltB t (altF t n s).2 m.op)
 altL:∀ q s op,Inv t s→PB s.atoms q→6*(t.size-s.pos)+2≤n→OutM t s (SeqB t s op)→OutM t (altLF t n q s).2 (AltB t (altLF t n q s).2 op)
 seq:∀ s m,Inv t s→AtM t s m→m.st=0→6*(t.size-s.pos)+2≤n→OutM t (seqF t n s).2 (SeqB t (seqF t n s).2 m.op)
 seqL:∀ q s op,Inv t s→PB s.atoms q→6*(t.size-s.pos)+1≤n→OutM t s (fun m=>m.op=op∧m.st≤1∧(MarkP (peekF t s)→m.st=0))→OutM t (seqLF t n q s).2 (SeqB t (seqLF t n q s).2 op)
 part:∀ s m,Inv t s→AtM t s m→m.st≤1→¬ StopP (peekF t s)→6*(t.size-s.pos)≤n+1→OutM t (partF t n s).2 (PartB t (partF t n s).2 m.op)
 partL:∀ q s op,Inv t s→PB s.atoms q→6*(t.size-s.pos)+1≤n→OutM t s (fun m=>m.op=op∧m.st=1)→OutM t (partLF t n q s).2 (PartB t (partLF t n q s).2 op)
 atom:∀ s m,Inv t s→AtM t s m→m.st≤1→¬ StopP (peekF t s)→6*(t.size-s.pos)≤n+2→OutM t (atomF t n s).2 (fun m'=>m'.op=m.op∧m'.st=1)
section
variable {t : ByteArray} {s : St} {m : Mind}
theorem next_out (h:m.st≤1) (c:Nat):nextM m c=outM m c:=by unfold nextM;rw[if_pos (by omega)]
theorem AtM.tie (h:AtM t s m) (f:Nat→Nat→Nat):AtM t { s with fo:=f } m:=⟨h.f,h.p,h.r⟩
theorem AtM.take (h:AtM t s m) (P:Nat→Bool):AtM t (takeOfF s P).2 m:=⟨h.f,h.p,h.r⟩
theorem OutM.tie {Q:Mind→Prop} (h:OutM t s Q) (f:Nat→Nat→Nat):OutM t { s with fo:=f } Q:=by
 rcases h with ⟨m,h1,h2⟩ | h
 ·exact .inl ⟨m,h1.tie f,h2⟩
 ·exact .inr h
theorem OutM.take {Q:Mind→Prop} (h:OutM t s Q) (P:Nat→Bool):OutM t (takeOfF s P).2 Q:=by
 rcases h with ⟨m,h1,h2⟩ | h
 ·exact .inl ⟨m,h1.take P,h2⟩
 ·exact .inr h
theorem OutM.imp {Q R:Mind→Prop} (h:OutM t s Q) (hi:∀ m,AtM t s m→Q m→R m):OutM t s R:=by
 rcases h with ⟨m,h1,h2⟩ | h
 ·exact .inl ⟨m,h1,hi m h1 h2⟩
 ·exact .inr h
theorem plain_ref (h:AtM t s m) (hm:m.st≤1) (hs:¬ StopP (peekF t s)) (h40:peekF t s≠40) (h91:peekF t s≠91):OutM t (plainF t s).2 (fun m'=>m'.op=m.op∧m'.st=1):=by
 unfold plainF
 rcases peek_cases t s with e | ⟨c,hc,e⟩
 ·exact absurd (.inl e) hs
 ·by_cases c92:c=92
  ·subst c92
   have hk:skipF t s 92=(true,advF s):=by unfold skipF;rw[if_pos (by rw[e];rfl)]
   rw[hk]
   simp only
   have h1:AtM t (advF s) ⟨2,m.op,m.fr⟩:=h.adv e (by rw[next_out hm];simp[outM])
   rcases peek_cases t (advF s) with e1 | ⟨d,hd,e1⟩
   ·rw[if_pos e1];exact .inr ⟨rfl,h1.end_ e1 (by simp)⟩
   ·rw[if_neg (by rw[e1];omega)]
    exact .inl ⟨⟨1,m.op,m.fr⟩,h1.adv e1 (by simp[nextM]),rfl,rfl⟩
  ·have hk:skipF t s 92=(false,s):=by unfold skipF;rw[if_neg (by rw[e];omega)]
   rw[hk]
   simp only
   rw[if_neg (by rw[e];omega)]
   refine .inl ⟨⟨1,m.op,m.fr⟩,h.adv e ?_,rfl,rfl⟩
   rw[next_out hm]
   unfold StopP at hs
   unfold outM
   rw[e] at hs h40 h91
   rw[if_neg (by omega),if_neg (by omega),if_neg (by omega),if_neg (by omega),if_neg (by omega),if_neg (by omega)]
theorem refAll (t:ByteArray):∀ n,RefAll t n
 | 0=>⟨fun _ _ _ _ _ h=>by omega,fun _ _ _ _ _ h=>by omega,fun _ _ _ _ _ h=>by omega,fun _ _ _ _ _ h=>by omega,
   fun s m hi ha hm hs h=>by have:=(peek_ne (t:=t) (s:=s) (fun e=>hs (.inl e))).2;omega,fun _ _ _ _ _ h=>by omega,
   fun s m hi ha hm hs h=>by have:=(peek_ne (t:=t) (s:=s) (fun e=>hs (.inl e))).2;omega⟩
 | n+1=>by
  have ih:=refAll t n
  have gv:=givesAll t n
  refine⟨fun s m hi ha hm h=>?_,fun q s op hi hq h ho=>?_,fun s m hi ha hm h=>?_,fun q s op hi hq h ho=>?_,fun s m hi ha hm hs h=>?_,fun q s op hi hq h ho=>?_,fun s m hi ha hm hs h=>?_⟩
  ·rw[altF_s]
   have g:=gv.seq s hi
   have:=g.le
   exact ih.altL _ _ _ g.inv g.pb (by omega) (ih.seq s m hi ha hm (by omega))
  ·rw[altLF_s]
   by_cases hc:peekF t s=124
   ·rw[if_pos hc]
    have hp:peekF t s≠-1:=by rw[hc];decide
    have hl:=(peek_ne hp).2
    have hav:=hi.adv hp
    have e1:(advF s).pos=s.pos+1:=rfl
    have g:=gv.seq _ hav
    have:=g.le
    rcases ho with ⟨m,h1,h2⟩ | ho
    ·have h3:AtM t (advF s) ⟨0,m.op,m.fr⟩:=h1.adv (c:=124) (by rw[hc];rfl) (by rw[next_out h2.st];simp[outM])
     have h4:=ih.seq (advF s) _ hav h3 rfl (by omega)
     simp only at h4
     rw[h2.op] at h4
     exact ih.altL _ _ op g.inv ((hq.mono g.al).either g.pb) (by omega) h4
    ·rw[peek_fault' ho.1] at hc;exact absurd hc (by decide)
   ·rw[if_neg hc]
    exact ho.imp fun m _ h2=>⟨h2,hc⟩
  ·rw[seqF_s]
   refine ih.seqL _ _ _ hi (PB.nothing _) (by omega) (.inl ⟨m,ha,rfl,by omega,fun _=>hm⟩)
  ·rw[seqLF_s]
   by_cases hc:peekF t s = -1∨peekF t s=41∨peekF t s=124∨peekF t s=42∨peekF t s=43∨peekF t s=63
   ·rw[if_pos hc]
    exact ho.imp fun m _ h2=>⟨h2.1,h2.2.1,hc,h2.2.2⟩
   ·rw[if_neg hc]
    have hp:peekF t s≠-1:=fun e=>hc (.inl e)
    have hl:=(peek_ne hp).2
    have g:=gv.part s hi hp
    obtain⟨k,rfl⟩:∃ k,n=k+2:=⟨n-2,by omega⟩
    have hpr:=part_prog (n:=k) hi hp
    rcases ho with ⟨m,h1,h2⟩ | ho
    ·have h3:=ih.part s m hi h1 h2.2.1 hc (by omega)
     rw[h2.1] at h3
     refine ih.seqL _ _ op (g.inv.tie g.pb) ((hq.mono g.al).join g.pb) ?_ ((h3.tie _).imp fun m' _ h5=>?_)
     ·show 6*(t.size-(partF t (k+2) s).2.pos)+1≤k+2
      omega
     ·exact⟨h5.op,by have:=h5.st;omega,fun h6=>absurd h6 h5.mark⟩
    ·exact absurd (peek_fault' ho.1) hp
  ·have hp:peekF t s≠-1:=fun e=>hs (.inl e)
   have hl:=(peek_ne hp).2
   rw[partF_s]
   have g:=gv.atom s hi hp
   obtain⟨k,rfl⟩:∃ k,n=k+1:=⟨n-1,by omega⟩
   have hpr:=atom_prog (n:=k) hi hp
   exact ih.partL _ _ _ g.inv g.pb (by omega) (ih.atom s m hi ha hm hs (by omega))
  ·rw[partLF_s]
   have step:∀ c:Nat,(c=42∨c=43∨c=63)→peekF t s=(c:Int)→OutM t (advF s) (fun m=>m.op=op∧m.st=1):=fun c hc e=>by
    rcases ho with ⟨m,h1,h2⟩ | ho
    ·refine .inl ⟨⟨1,m.op,m.fr⟩,h1.adv e ?_,h2.1,rfl⟩
     rw[next_out (by omega)]
     unfold outM
     rw[if_neg (by omega),if_neg (by omega),if_neg (by omega),if_pos hc,if_neg (by omega)]
    ·rw[peek_fault' ho.1] at e;omega
   by_cases c1:peekF t s=42
   ·have hl:=(peek_ne (t:=t) (s:=s) (by rw[c1];decide)).2
    rw[if_pos c1]
    have hi2:=hi.tie (q:=q) hq
    have hav:=hi2.adv (s:={ s with fo:=tieP s.fo q q }) (by rw[peek_tie,c1];decide)
    refine ih.partL _ _ op hav (hq.either (PB.nothing _)) ?_ ((step 42 (by omega) (by rw[c1];rfl)).tie _)
    show 6*(t.size-(s.pos+1))+1≤n
    omega
   ·rw[if_neg c1]
    by_cases c2:peekF t s=43
    ·have hl:=(peek_ne (t:=t) (s:=s) (by rw[c2];decide)).2
     rw[if_pos c2]
     have hi2:=hi.tie (q:=q) hq
     have hav:=hi2.adv (s:={ s with fo:=tieP s.fo q q }) (by rw[peek_tie,c2];decide)
     refine ih.partL _ _ op hav hq ?_ ((step 43 (by omega) (by rw[c2];rfl)).tie _)
     show 6*(t.size-(s.pos+1))+1≤n
     omega
    ·rw[if_neg c2]
     by_cases c3:peekF t s=63
     ·have hl:=(peek_ne (t:=t) (s:=s) (by rw[c3];decide)).2
      rw[if_pos c3]
      have hav:=hi.adv (by rw[c3];decide)
      refine ih.partL _ _ op hav (hq.either (PB.nothing _)) ?_ (step 63 (by omega) (by rw[c3];rfl))
      show 6*(t.size-(s.pos+1))+1≤n
      omega
     ·rw[if_neg c3]
      exact ho.imp fun m _ h2=>⟨h2.1,h2.2,fun h6=>by rcases h6 with h6 | h6 | h6;exact c1 h6;exact c2 h6;exact c3 h6⟩
  ·have hp:peekF t s≠-1:=fun e=>hs (.inl e)
   have hl:=(peek_ne hp).2
   have hav:=hi.adv hp
   have simple:∀ c:Nat,c≠40→c≠41→c≠124→¬ (c=42∨c=43∨c=63)→c≠91→c≠92→peekF t s=(c:Int)→OutM t (advF s) (fun m'=>m'.op=m.op∧m'.st=1):=fun c a1 a2 a3 a4 a5 a6 e=>by
    refine .inl ⟨⟨1,m.op,m.fr⟩,ha.adv e ?_,rfl,rfl⟩
    rw[next_out hm]
    unfold outM
    rw[if_neg a1,if_neg a2,if_neg a3,if_neg a4,if_neg a5,if_neg a6]
   rw[atomF_s]
   by_cases c1:peekF t s=40
   ·rw[if_pos c1]
    have h1:AtM t (advF s) ⟨0,m.op+1,m.fr⟩:=ha.adv (c:=40) (by rw[c1];rfl) (by rw[next_out hm];simp[outM])
    have h2:=ih.alt (advF s) _ hav h1 rfl (by show 6*(t.size-(s.pos+1))+3≤n;omega)
    generalize altF t n (advF s)=A at *
    simp only at h2 ⊢
    unfold needF
    rcases h2 with ⟨m2,g1,g2⟩ | h2
    ·have hop:=g2.op
     by_cases c41:peekF t A.2=41
     ·rw[if_pos c41]
      refine .inl ⟨⟨1,m.op,m2.fr⟩,g1.adv (c:=41) (by rw[c41];rfl) ?_,rfl,rfl⟩
      rw[next_out g2.st]
      simp[outM,hop]
     ·rw[if_neg c41]
      refine .inr ⟨rfl,?_⟩
      show RefErr t A.2.pos
      rcases g2.stop with e | e | e | e
      ·exact g1.end_ e (.inr (by omega))
      ·exact absurd e c41
      ·exact absurd e g2.bar
      ·have h0:=g2.mark e
       obtain⟨c,hc,e'⟩:∃ c:Nat,(c=42∨c=43∨c=63)∧peekF t A.2=(c:Int):=by
        rcases e with e | e | e
        ·exact⟨42,.inl rfl,e⟩
        ·exact⟨43,.inr (.inl rfl),e⟩
        ·exact⟨63,.inr (.inr rfl),e⟩
       refine g1.err e' ?_
       rw[next_out g2.st]
       unfold outM
       rw[if_neg (by omega),if_neg (by omega),if_neg (by omega),if_pos hc,if_pos h0]
    ·rw[if_neg (by rw[peek_fault' h2.1];decide)]
     exact .inr ⟨rfl,h2.2⟩
   ·rw[if_neg c1]
    by_cases c2:peekF t s=91
    ·rw[if_pos c2]
     have h1:AtM t (advF s) ⟨3,m.op,m.fr⟩:=ha.adv (c:=91) (by rw[c2];rfl) (by rw[next_out hm];simp[outM])
     exact class_ref n h1 (by show t.size-(s.pos+1)<n;omega)
    ·rw[if_neg c2]
     by_cases c3:peekF t s=46
     ·rw[if_pos c3];exact (simple 46 (by decide) (by decide) (by decide) (by decide) (by decide) (by decide) (by rw[c3];rfl)).take _
     ·rw[if_neg c3]
      by_cases c4:peekF t s=94
      ·rw[if_pos c4];exact simple 94 (by decide) (by decide) (by decide) (by decide) (by decide) (by decide) (by rw[c4];rfl)
      ·rw[if_neg c4]
       by_cases c5:peekF t s=36
       ·rw[if_pos c5];exact simple 36 (by decide) (by decide) (by decide) (by decide) (by decide) (by decide) (by rw[c5];rfl)
       ·rw[if_neg c5];exact (plain_ref ha hm hs c1 c2).take _
def lookL (t:ByteArray):Nat→Nat→Mind→Nat × Bool
 | 0,k,m=>if 1<m.st∨0<m.op then (k,true) else (0,false)
 | f+1,k,m=>match nextM m (byteN t k) with
  | none=>(k,true)
  | some m'=>lookL t f (k+1) m'
def lookR (t:ByteArray):Nat × Bool:=lookL t t.size 0 ⟨0,0,0⟩
theorem lookL_err (t:ByteArray):∀ f k m,k+f=t.size→runM t k=some m→∀ j,RefErr t j→k≤j→lookL t f k m=(j,true)
 | 0,k,m,h,hr,j,⟨m',h1,h2⟩,hk=>by
  have:j=k:=by omega
  subst this
  rw[hr] at h1
  obtain rfl:=Option.some.inj h1
  rcases h2 with ⟨h2,-⟩ | ⟨-,h2⟩
  ·omega
  ·rw[lookL,if_pos h2]
 | f+1,k,m,h,hr,j,⟨m',h1,h2⟩,hk=>by
  rw[lookL]
  rcases Nat.eq_or_lt_of_le hk with e | e
  ·subst e
   rw[hr] at h1
   obtain rfl:=Option.some.inj h1
   rcases h2 with ⟨-,h2⟩ | ⟨h2,-⟩
   ·rw[h2]
   ·omega
  ·cases hn:nextM m (byteN t k) with
   | none=>
    exfalso
    have hz:∀ d,runM t (k+1+d)=none:=by
     intro d
     induction d with
     | zero=>rw[Nat.add_zero,runM,hr,Option.bind_some,hn]
     | succ d ih=>rw[← Nat.add_assoc,runM,ih];rfl
    have:=hz (j-(k+1))
    rw[show k+1+(j-(k+1))=j by omega,h1] at this
    cases this
   | some m2=>
    simp only
    exact lookL_err t f (k+1) m2 (by omega) (by rw[runM,hr,Option.bind_some,hn]) j ⟨m',h1,h2⟩ e
theorem lookL_ok (t:ByteArray):∀ f k m,k+f=t.size→runM t k=some m→∀ m',runM t t.size=some m'→¬ (1<m'.st∨0<m'.op)→lookL t f k m=(0,false)
 | 0,k,m,h,hr,m',h1,h2=>by
  rw[show k=t.size by omega,h1] at hr
  obtain rfl:=Option.some.inj hr
  rw[lookL,if_neg h2]
 | f+1,k,m,h,hr,m',h1,h2=>by
  rw[lookL]
  cases hn:nextM m (byteN t k) with
  | none=>
   exfalso
   have hz:∀ d,runM t (k+1+d)=none:=by
    intro d
    induction d with
    | zero=>rw[Nat.add_zero,runM,hr,Option.bind_some,hn]
    | succ d ih=>rw[← Nat.add_assoc,runM,ih];rfl
   have:=hz (t.size-(k+1))
   rw[show k+1+(t.size-(k+1))=t.size by omega,h1] at this
   cases this
  | some m2=>
   simp only
   exact lookL_ok t f (k+1) m2 (by omega) (by rw[runM,hr,Option.bind_some,hn]) m' h1 h2
theorem look_ref (t:ByteArray) (ht:t.size≤50):lookR t=if readOk t=true then (0,false) else ((readF t).2.pos,true):=by
 have h:=(refAll t 400).alt st0 ⟨0,0,0⟩ (st0_inv t) ⟨rfl,Nat.zero_le _,rfl⟩ rfl (by show 6*(t.size-0)+3≤400;omega)
 have hi:=read_inv t
 change OutM t (readF t).2 (AltB t (readF t).2 0) at h
 rcases h with ⟨m,h1,h2⟩ | ⟨h1,h2⟩
 ·by_cases he:t.size≤(readF t).2.pos
  ·rw[if_pos (ok_of h1.f he)]
   have hp:(readF t).2.pos=t.size:=by have:=hi.pos;omega
   have hr:=h1.r
   rw[hp] at hr
   exact lookL_ok t _ _ _ (by omega) rfl m hr (by have:=h2.st;have:=h2.op;omega)
  ·have hno:¬ readOk t=true:=fun hok=>he (by rw[(ok_parts hok).2];exact Nat.le_refl _)
   rw[if_neg hno]
   refine lookL_err t _ _ _ (by omega) rfl _ ?_ (Nat.zero_le _)
   have hop:=h2.op
   rcases peek_cases t (readF t).2 with e | ⟨c,hc,e⟩
   ·have:=peek_of (t:=t) h1.f (show (readF t).2.pos<t.size by omega);omega
   ·refine h1.err e ?_
    rw[next_out h2.st]
    have hs:=h2.stop
    have hm:=h2.mark
    have hb:=h2.bar
    rw[e] at hs hm hb
    unfold StopP at hs
    unfold outM
    rw[if_neg (by omega)]
    by_cases c41:c=41
    ·rw[if_pos c41,if_pos hop]
    ·rw[if_neg c41,if_neg (by omega)]
     have hmk:c=42∨c=43∨c=63:=by omega
     rw[if_pos hmk,if_pos (hm (by unfold MarkP;omega))]
 ·have hno:¬ readOk t=true:=fun hok=>by rw[(ok_parts hok).1] at h1;cases h1
  rw[if_neg hno]
  exact lookL_err t _ _ _ (by omega) rfl _ h2 (Nat.zero_le _)
end
end Go.Proofs.YtclkgoigmgkffaaGreatDoor
