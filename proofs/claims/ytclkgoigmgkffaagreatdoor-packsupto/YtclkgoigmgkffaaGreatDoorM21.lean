/-
  Texts Tr Ts Tt Gc Gi.
-/
import Derived.Test.YtclkgoigmgkffaaGreatDoorM20
import Derived.Test.YtclkgoigmgkffaaGreatDoorM02
import Derived.Test.YtclkgoigmgkffaaGreatDoorM12
import Derived.Test.YtclkgoigmgkffaaGreatDoorM13
import Derived.Test.YtclkgoigmgkffaaGreatDoorM19
import Derived.Test.YtclkgoigmgkffaaGreatDoorM14
set_option linter.unusedSimpArgs false
set_option linter.unusedVariables false
set_option maxRecDepth 100000
set_option maxHeartbeats 40000000
namespace Go.Proofs.YtclkgoigmgkffaaGreatDoor
open Go.RowKit
structure MindC (W:World) (mb st op fr:Nat):Prop where
 c0:W.cell? ⟨mb,0,none⟩=some (.int .i64 st)
 c1:W.cell? ⟨mb,1,none⟩=some (.int .i64 op)
 c2:W.cell? ⟨mb,2,none⟩=some (.int .u8 fr)
 z0:W.frozen? ⟨mb,0,none⟩=false
 z1:W.frozen? ⟨mb,1,none⟩=false
 z2:W.frozen? ⟨mb,2,none⟩=false
theorem MindC.set0 {W:World}{mb st op fr:Nat} (h:MindC W mb st op fr) (s:Nat):MindC (W.setCell ⟨mb,0,none⟩ (.int .i64 s)) mb s op fr:=
 ⟨World.cell?_setCell_same' _ _ _ (by rw[h.c0];rfl),(setCell_off (by decide)).trans h.c1,(setCell_off (by decide)).trans h.c2,(World.frozen?_setCell _ _ _ _).trans h.z0,(World.frozen?_setCell _ _ _ _).trans h.z1,(World.frozen?_setCell _ _ _ _).trans h.z2⟩
theorem MindC.set1 {W:World}{mb st op fr:Nat} (h:MindC W mb st op fr) (s:Nat):MindC (W.setCell ⟨mb,1,none⟩ (.int .i64 s)) mb st s fr:=
 ⟨(setCell_off (by decide)).trans h.c0,World.cell?_setCell_same' _ _ _ (by rw[h.c1];rfl),(setCell_off (by decide)).trans h.c2,(World.frozen?_setCell _ _ _ _).trans h.z0,(World.frozen?_setCell _ _ _ _).trans h.z1,(World.frozen?_setCell _ _ _ _).trans h.z2⟩
theorem MindC.set2 {W:World}{mb st op fr:Nat} (h:MindC W mb st op fr) (s:Nat):MindC (W.setCell ⟨mb,2,none⟩ (.int .u8 s)) mb st op s:=
 ⟨(setCell_off (by decide)).trans h.c0,(setCell_off (by decide)).trans h.c1,World.cell?_setCell_same' _ _ _ (by rw[h.c2];rfl),(World.frozen?_setCell _ _ _ _).trans h.z0,(World.frozen?_setCell _ _ _ _).trans h.z1,(World.frozen?_setCell _ _ _ _).trans h.z2⟩
def NextP (mb st:Nat) (nx:Option Mind) (w:World) (e:Ending) (w':World):Prop:=
 Fr [mb] w w'∧match nx with
  | none=>e=.returned (.int .i64 (-1))
  | some m=>e=.returned (.int .i64 m.st)∧MindC w' mb st m.op m.fr
theorem NextP.no {mb st:Nat}{w w':World}{e:Ending} (h1:Fr [mb] w w') (h2:e=.returned (.int .i64 (-1))):NextP mb st none w e w':=⟨h1,h2⟩
theorem NextP.yes {mb st:Nat}{m:Mind}{w w':World}{e:Ending} (h1:Fr [mb] w w') (h2:e=.returned (.int .i64 m.st)) (h3:MindC w' mb st m.op m.fr):NextP mb st (some m) w e w':=⟨h1,h2,h3⟩
theorem outside_any (mb c:Nat) (m:Mind) (w:World) (hc:c<256) (hop:m.op≤1000) (hM:MindC w mb m.st m.op m.fr) :
  Calls Tryz.prog 184 #[.pointer (some ⟨mb,0,none⟩),.int .u8 c] w (NextP mb m.st (outM m c) w):=by
 have c0:=hM.c0
 have c1:=hM.c1
 have z1:=hM.z1
 unfold outM
 by_cases h40:c=40
 ·subst h40
  rw[if_pos rfl]
  have k:=hM.set1 (m.op+1)
  rw[show ((m.op+1:Nat):Int)=(m.op:Int)+1 by omega] at k
  go_enter Tryz.func184,Tryz.ntmps184
  go_wp2
  go_ret
  exact NextP.yes ((Fr.refl _ _).setCell (p:=⟨mb,1,none⟩) (.inl (by simp)) _) rfl k
 ·rw[if_neg h40]
  have n40:((c:Int)==40)=false:=by simp;omega
  by_cases h41:c=41
  ·subst h41
   rw[if_pos rfl]
   by_cases h0:m.op=0
   ·rw[if_pos h0]
    have h0z:((m.op:Int)==0)=true:=by simp;omega
    clear h0
    go_enter Tryz.func184,Tryz.ntmps184
    go_wp2
    go_ret
    exact NextP.no (Fr.refl _ _) rfl
   ·rw[if_neg h0]
    have h0z:((m.op:Int)==0)=false:=by simp;omega
    have k:=hM.set1 (m.op-1)
    rw[show ((m.op-1:Nat):Int)=(m.op:Int)-1 by omega] at k
    go_enter Tryz.func184,Tryz.ntmps184
    go_wp2
    go_ret
    exact NextP.yes ((Fr.refl _ _).setCell (p:=⟨mb,1,none⟩) (.inl (by simp)) _) rfl k
  ·rw[if_neg h41]
   have n41:((c:Int)==41)=false:=by simp;omega
   by_cases h124:c=124
   ·subst h124
    rw[if_pos rfl]
    go_enter Tryz.func184,Tryz.ntmps184
    go_wp2
    go_ret
    exact NextP.yes (Fr.refl _ _) rfl hM
   ·rw[if_neg h124]
    have n124:((c:Int)==124)=false:=by simp;omega
    by_cases hmk:c=42∨c=43∨c=63
    ·rw[if_pos hmk]
     by_cases h0:m.st=0
     ·rw[if_pos h0]
      have h0z:((m.st:Int)==0)=true:=by simp;omega
      clear h0 h40 h41 h124
      rcases hmk with rfl | rfl | rfl
      all_goals
       go_enter Tryz.func184,Tryz.ntmps184
       go_wp2
       go_ret
       exact NextP.no (Fr.refl _ _) rfl
     ·rw[if_neg h0]
      have h0z:((m.st:Int)==0)=false:=by simp;omega
      clear h40 h41 h124
      rcases hmk with rfl | rfl | rfl
      all_goals
       go_enter Tryz.func184,Tryz.ntmps184
       go_wp2
       go_ret
       exact NextP.yes (Fr.refl _ _) rfl hM
    ·rw[if_neg hmk]
     have n42:((c:Int)==42)=false:=by simp;omega
     have n43:((c:Int)==43)=false:=by simp;omega
     have n63:((c:Int)==63)=false:=by simp;omega
     by_cases h91:c=91
     ·subst h91
      rw[if_pos rfl]
      go_enter Tryz.func184,Tryz.ntmps184
      go_wp2
      go_ret
      exact NextP.yes (Fr.refl _ _) rfl hM
     ·rw[if_neg h91]
      have n91:((c:Int)==91)=false:=by simp;omega
      by_cases h92:c=92
      ·subst h92
       rw[if_pos rfl]
       go_enter Tryz.func184,Tryz.ntmps184
       go_wp2
       go_ret
       exact NextP.yes (Fr.refl _ _) rfl hM
      ·rw[if_neg h92]
       have n92:((c:Int)==92)=false:=by simp;omega
       clear h40 h41 h124 hmk h91 h92
       go_enter Tryz.func184,Tryz.ntmps184
       go_wp2
       go_ret
       exact NextP.yes (Fr.refl _ _) rfl hM
theorem inside_any (mb c:Nat) (m:Mind) (w:World) (hc:c<256) (hM:MindC w mb m.st m.op m.fr) :
  Calls Tryz.prog 185 #[.pointer (some ⟨mb,0,none⟩),.int .u8 c] w (NextP mb m.st (inM m c) w):=by
 have c0:=hM.c0
 have c2:=hM.c2
 have z2:=hM.z2
 unfold inM
 by_cases h93:c=93
 ·subst h93
  by_cases h3:m.st=3
  ·rw[if_pos ⟨rfl,.inl h3⟩]
   have e3:((m.st:Int)==3)=true:=by simp;omega
   clear h3
   go_enter Tryz.func185,Tryz.ntmps185
   go_wp2
   go_ret
   exact NextP.no (Fr.refl _ _) rfl
  ·have e3:((m.st:Int)==3)=false:=by simp;omega
   by_cases h4:m.st=4
   ·rw[if_pos ⟨rfl,.inr h4⟩]
    have e4:((m.st:Int)==4)=true:=by simp;omega
    clear h3 h4
    go_enter Tryz.func185,Tryz.ntmps185
    go_wp2
    go_ret
    exact NextP.no (Fr.refl _ _) rfl
   ·have e4:((m.st:Int)==4)=false:=by simp;omega
    rw[if_neg (fun h=>h.2.elim h3 h4),if_pos rfl]
    clear h3 h4
    go_enter Tryz.func185,Tryz.ntmps185
    go_wp2
    go_ret
    exact NextP.yes (Fr.refl _ _) rfl hM
 ·rw[if_neg (fun h=>h93 h.1),if_neg h93]
  have n93:((c:Int)==93)=false:=by simp;omega
  by_cases h94:c=94∧m.st=3
  ·obtain⟨rfl,h3⟩:=h94
   rw[if_pos ⟨rfl,h3⟩]
   have e3:((m.st:Int)==3)=true:=by simp;omega
   clear h3 h93
   go_enter Tryz.func185,Tryz.ntmps185
   go_wp2
   go_ret
   exact NextP.yes (Fr.refl _ _) rfl hM
  ·rw[if_neg h94]
   by_cases h92:c=92
   ·subst h92
    rw[if_pos rfl]
    clear h93 h94
    go_enter Tryz.func185,Tryz.ntmps185
    go_wp2
    go_ret
    exact NextP.yes (Fr.refl _ _) rfl hM
   ·rw[if_neg h92]
    have n92:((c:Int)==92)=false:=by simp;omega
    have k:=hM.set2 c
    have fk:Fr [mb] w (w.setCell ⟨mb,2,none⟩ (.int .u8 c)):=(Fr.refl _ _).setCell (p:=⟨mb,2,none⟩) (.inl (by simp)) _
    by_cases c94:c=94
    ·subst c94
     have e3:((m.st:Int)==3)=false:=by simp;omega
     rw[if_neg (by omega)]
     clear h93 h94 h92
     go_enter Tryz.func185,Tryz.ntmps185
     go_wp2
     go_ret
     exact NextP.yes fk rfl k
    ·have n94:((c:Int)==94)=false:=by simp;omega
     by_cases c45:c=45
     ·subst c45
      by_cases h7:m.st=7
      ·rw[if_pos ⟨rfl,h7⟩]
       have e7:((m.st:Int)==7)=true:=by simp;omega
       clear h93 h94 h92 c94 h7 k fk
       go_enter Tryz.func185,Tryz.ntmps185
       go_wp2
       go_ret
       exact NextP.yes (Fr.refl _ _) rfl hM
      ·rw[if_neg (fun h=>h7 h.2)]
       have e7:((m.st:Int)==7)=false:=by simp;omega
       clear h93 h94 h92 c94 h7
       go_enter Tryz.func185,Tryz.ntmps185
       go_wp2
       go_ret
       exact NextP.yes fk rfl k
     ·rw[if_neg (fun h=>c45 h.1)]
      have n45:((c:Int)==45)=false:=by simp;omega
      clear h93 h94 h92 c94 c45
      go_enter Tryz.func185,Tryz.ntmps185
      go_wp2
      go_ret
      exact NextP.yes fk rfl k
theorem next_any (mb c:Nat) (m:Mind) (w:World) (hc:c<256) (hop:m.op≤1000) (hM:MindC w mb m.st m.op m.fr) :
  Calls Tryz.prog 114 #[.pointer (some ⟨mb,0,none⟩),.int .u8 c] w (NextP mb m.st (nextM m c) w):=by
 have ho:=outside_any mb c m w hc hop hM
 have hi:=inside_any mb c m w hc hM
 have c0:=hM.c0
 have c2:=hM.c2
 have z2:=hM.z2
 unfold nextM
 have E:∀ k:Nat,((m.st:Int)==(k:Int))=decide (m.st=k):=fun k=>by
  rw[Bool.eq_iff_iff];simp;omega
 have e0:=E 0
 have e1:=E 1
 have e2:=E 2
 have e6:=E 6
 have e8:=E 8
 have e9:=E 9
 clear E
 by_cases h01:m.st=0∨m.st=1
 ·rw[if_pos h01]
  generalize outM m c=nx at *
  rcases h01 with h | h
  ·rw[decide_eq_true h] at e0
   clear e1 e2 e6 e8 e9 h hi
   go_enter Tryz.func114,Tryz.ntmps114
   go_wp2_with fail
   refine ho.mono ?_
   rintro e w1 ⟨f1,h1⟩
   cases nx with
   | none=>subst h1;go_wp2;go_ret;exact NextP.no f1 rfl
   | some m'=>obtain⟨h1,h2⟩:=h1;subst h1;go_wp2;go_ret;exact NextP.yes f1 rfl h2
  ·rw[decide_eq_false (by omega)] at e0
   rw[decide_eq_true h] at e1
   clear e2 e6 e8 e9 h hi
   go_enter Tryz.func114,Tryz.ntmps114
   go_wp2_with fail
   refine ho.mono ?_
   rintro e w1 ⟨f1,h1⟩
   cases nx with
   | none=>subst h1;go_wp2;go_ret;exact NextP.no f1 rfl
   | some m'=>obtain⟨h1,h2⟩:=h1;subst h1;go_wp2;go_ret;exact NextP.yes f1 rfl h2
 ·rw[if_neg h01]
  rw[decide_eq_false (by omega)] at e0
  rw[decide_eq_false (by omega)] at e1
  clear ho
  by_cases h2:m.st=2
  ·rw[if_pos h2]
   rw[decide_eq_true h2] at e2
   clear e6 e8 e9 h01 hi h2
   go_enter Tryz.func114,Tryz.ntmps114
   go_wp2
   go_ret
   exact NextP.yes (Fr.refl _ _) rfl hM
  ·rw[if_neg h2]
   rw[decide_eq_false h2] at e2
   by_cases h6:m.st=6
   ·rw[if_pos h6]
    rw[decide_eq_true h6] at e6
    have k:=hM.set2 c
    have fk:Fr [mb] w (w.setCell ⟨mb,2,none⟩ (.int .u8 c)):=(Fr.refl _ _).setCell (p:=⟨mb,2,none⟩) (.inl (by simp)) _
    clear e8 e9 h01 hi h2 h6
    go_enter Tryz.func114,Tryz.ntmps114
    go_wp2
    go_ret
    exact NextP.yes fk rfl k
   ·rw[if_neg h6]
    rw[decide_eq_false h6] at e6
    by_cases h8:m.st=8
    ·rw[if_pos h8]
     rw[decide_eq_true h8] at e8
     clear e9 h01 hi h2 h6 h8
     by_cases c93:c=93
     ·subst c93
      rw[if_pos rfl]
      go_enter Tryz.func114,Tryz.ntmps114
      go_wp2
      go_ret
      exact NextP.yes (Fr.refl _ _) rfl hM
     ·rw[if_neg c93]
      have n93:((c:Int)==93)=false:=by simp;omega
      by_cases c92:c=92
      ·subst c92
       rw[if_pos rfl]
       clear c93
       go_enter Tryz.func114,Tryz.ntmps114
       go_wp2
       go_ret
       exact NextP.yes (Fr.refl _ _) rfl hM
      ·rw[if_neg c92]
       have n92:((c:Int)==92)=false:=by simp;omega
       by_cases cl:c<m.fr
       ·rw[if_pos cl]
        have gl:(c:Int)<m.fr:=by omega
        clear c93 c92
        go_enter Tryz.func114,Tryz.ntmps114
        go_wp2
        go_ret
        exact NextP.no (Fr.refl _ _) rfl
       ·rw[if_neg cl]
        have gl:¬ ((c:Int)<m.fr):=by omega
        clear c93 c92
        go_enter Tryz.func114,Tryz.ntmps114
        go_wp2
        go_ret
        exact NextP.yes (Fr.refl _ _) rfl hM
    ·rw[if_neg h8]
     rw[decide_eq_false h8] at e8
     by_cases h9:m.st=9
     ·rw[if_pos h9]
      rw[decide_eq_true h9] at e9
      clear h01 hi h2 h6 h8 h9
      by_cases cl:c<m.fr
      ·rw[if_pos cl]
       have gl:(c:Int)<m.fr:=by omega
       go_enter Tryz.func114,Tryz.ntmps114
       go_wp2
       go_ret
       exact NextP.no (Fr.refl _ _) rfl
      ·rw[if_neg cl]
       have gl:¬ ((c:Int)<m.fr):=by omega
       go_enter Tryz.func114,Tryz.ntmps114
       go_wp2
       go_ret
       exact NextP.yes (Fr.refl _ _) rfl hM
     ·rw[if_neg h9]
      rw[decide_eq_false h9] at e9
      generalize inM m c=nx at *
      clear h01 h2 h6 h8 h9
      go_enter Tryz.func114,Tryz.ntmps114
      go_wp2_with fail
      refine hi.mono ?_
      rintro e w1 ⟨f1,h1⟩
      cases nx with
      | none=>subst h1;go_wp2;go_ret;exact NextP.no f1 rfl
      | some m'=>obtain⟨h1,h2⟩:=h1;subst h1;go_wp2;go_ret;exact NextP.yes f1 rfl h2
theorem getN {t:ByteArray}{i:Nat} (h:i<t.size):(t[i].toNat:Int)=(byteN t i:Int):=by unfold byteN;rw[dif_pos h]
theorem next_op {m m':Mind}{c:Nat} (h:nextM m c=some m'):m'.op≤m.op+1:=by
 unfold nextM outM inM at h
 repeat' split at h
 all_goals first
  | (injection h with h;subst h;simp only;omega)
  | (injection h with h;subst h;simp)
  | cases h
theorem MindC.new (w:World):MindC (w.alloc (.cells #[.int .i64 0,.int .i64 0,.int .u8 0] 188)) w.heap.size 0 0 0:=by
 have hm:=World.alloc_heap_new w (.cells #[.int .i64 0,.int .i64 0,.int .u8 0] 188)
 refine⟨?_,?_,?_,?_,?_,?_⟩
 ·unfold World.cell?;rw[hm];simp
 ·unfold World.cell?;rw[hm];simp
 ·unfold World.cell?;rw[hm];simp
 ·unfold World.frozen?;rw[hm];simp
 ·unfold World.frozen?;rw[hm];simp
 ·unfold World.frozen?;rw[hm];simp
theorem lookR_long (t:ByteArray) (w:World) (h:50<t.size) (hm:t.size≤9223372036854775807):Calls Tryz.prog 42 #[.string t] w fun e w'=>e=.returned (.tuple #[.int .i64 0,.int .i64 1])∧w'=w:=by
 have g1:(50:Int)<t.size:=by omega
 go_enter Tryz.func42,Tryz.ntmps42
 go_wp2
 go_ret2
 exact⟨rfl,rfl⟩
theorem lookR_any (t:ByteArray) (w:World) (ht:t.size≤50) :
  Calls Tryz.prog 42 #[.string t] w fun e w'=>e=.returned (.tuple #[.int .i64 (lookR t).1,.int .i64 (if (lookR t).2=true then 2 else 0)])∧Fr [] w w':=by
 obtain⟨L,hL⟩:∃ L,lookL t t.size 0 ⟨0,0,0⟩=L:=⟨_,rfl⟩
 have hLr:lookR t=L:=hL
 rw[hLr]
 have g1:¬ ((50:Int)<t.size):=by omega
 have hnx:=fun (mb k:Nat) (m:Mind) (W:World) (hop:m.op≤1000) (h:MindC W mb m.st m.op m.fr)=>next_any mb (byteN t k) m W (byteN_lt t k) hop h
 have Hnx:Hid _:=hnx
 have HL:Hid (lookL t (t.size-0) 0 ⟨0,0,0⟩=L):=hL
 have J0:=MindC.new w
 have f0:Fr [] w (w.alloc (.cells #[.int .i64 0,.int .i64 0,.int .u8 0] 188)):=(Fr.refl [] w).alloc _
 clear hL hLr hnx
 go_enter Tryz.func42,Tryz.ntmps42
 go_wp2
 generalize w.alloc (.cells #[.int .i64 0,.int .i64 0,.int .u8 0] 188)=w2 at *
 go_loopw [5] (fun v wr=>∃ (k:Nat) (m:Mind),k≤t.size∧m.op≤k∧v=.int .i64 k∧MindC wr w.heap.size m.st m.op m.fr∧Fr [] w wr∧Hid (lookL t (t.size-k) k m=L)) (fun v _=>t.size-(intOf v).toNat)
 case atStart=>exact⟨0,⟨0,0,0⟩,by omega,by simp,rfl,J0,f0,HL⟩
 case round=>
  clear J0 f0 HL
  obtain⟨k,m,hk,hop,rfl,hM,hf,hL⟩:=hrel
  by_cases hlt:k<t.size
  ·have g2:(k:Int)<t.size:=by omega
   have gn:=getN hlt
   have hcall:=Hnx.out w.heap.size k m wr (by omega) hM
   rw[← gn] at hcall
   have hL':=hL.out
   obtain⟨f,hfe⟩:∃ f,t.size-k=f+1:=⟨t.size-k-1,by omega⟩
   rw[hfe,lookL] at hL'
   cases hnm:nextM m (byteN t k) with
   | none=>
    rw[hnm] at hcall hL'
    simp only at hL'
    subst hL'
    clear hL gn hfe hnm Hnx
    go_wp2_with fail
    refine hcall.mono ?_
    rintro e w3 ⟨f3,h3⟩
    subst h3
    clear hcall
    go_wp2
    go_ret2
    exact⟨rfl,hf.trans' f3 (by simp)⟩
   | some m'=>
    rw[hnm] at hcall hL'
    simp only at hL'
    have hop':=next_op hnm
    have HL2:Hid (lookL t (t.size-(k+1)) (k+1) m'=L):=by rw[show t.size-(k+1)=f by omega];exact hL'
    clear hL gn hfe hnm hL'
    go_wp2_with fail
    refine hcall.mono ?_
    rintro e w3 ⟨f3,h3,h4⟩
    subst h3
    clear hcall
    have s0:=h4.c0
    have s1:=h4.z0
    have n1:((m'.st:Int) == -1)=false:=by simp
    have J2:=h4.set0 m'.st
    have f4:Fr [] w (w3.setCell ⟨w.heap.size,0,none⟩ (.int .i64 m'.st)):=(hf.trans' f3 (by simp)).setCell (p:=⟨w.heap.size,0,none⟩) (.inr (by simp)) _
    clear h4 f3 hf hM
    go_wp2
    go_roundw
    case rel=>exact⟨k+1,m',by omega,by omega,by go_num,J2,f4,HL2⟩
    case measure=>simp[intOf];omega
  ·have g2:¬ ((k:Int)<t.size):=by omega
   have hL':=hL.out
   rw[show t.size-k=0 by omega,lookL] at hL'
   have c0:=hM.c0
   have c1:=hM.c1
   obtain rfl:k=t.size:=by omega
   by_cases h1:1<m.st
   ·rw[if_pos (.inl h1)] at hL'
    subst hL'
    have g3:(1:Int)<m.st:=by omega
    go_wp2
    go_ret2
    exact⟨rfl,hf⟩
   ·have g3:¬ ((1:Int)<m.st):=by omega
    by_cases h2:0<m.op
    ·rw[if_pos (.inr h2)] at hL'
     subst hL'
     have g4:(0:Int)<m.op:=by omega
     go_wp2
     go_ret2
     exact⟨rfl,hf⟩
    ·rw[if_neg (by omega)] at hL'
     subst hL'
     have g4:¬ ((0:Int)<m.op):=by omega
     go_wp2
     go_ret2
     exact⟨rfl,hf⟩
theorem lookR_ok (t:ByteArray) (w:World) (ht:t.size≤50) (hok:readOk t=true):Calls Tryz.prog 42 #[.string t] w fun e w'=>e=.returned (.tuple #[.int .i64 0,.int .i64 0])∧Fr [] w w':=by
 have h:=lookR_any t w ht
 rw[look_ref t ht,if_pos hok] at h
 exact h
theorem lookR_bad (t:ByteArray) (w:World) (ht:t.size≤50) (hok:readOk t=false):Calls Tryz.prog 42 #[.string t] w fun e w'=>e=.returned (.tuple #[.int .i64 (readF t).2.pos,.int .i64 2])∧Fr [] w w':=by
 have h:=lookR_any t w ht
 rw[look_ref t ht,if_neg (by rw[hok];decide)] at h
 exact h
open Wire
structure ModSm (m:Mo):Prop where
 t:m.texts.length≤9223372036854775807
 ts:∀ s ∈ m.texts,s.size≤9223372036854775807
 p:m.pats.length≤9223372036854775807
 ps:∀ s ∈ m.pats,s.size≤9223372036854775807
 f:m.fns.length≤9223372036854775807
 fs:∀ s ∈ m.fns,s.code.size≤9223372036854775807
theorem ModSm.sz {m:Mo} (h:ModSm m):ModSz m:=
 ⟨by have:=h.t;unfold maxLen;omega,fun s hs=>by have:=h.ts s hs;unfold maxLen;omega,by have:=h.p;unfold maxLen;omega,fun s hs=>by have:=h.ps s hs;unfold maxLen;omega,by have:=h.f;unfold maxLen;omega,fun s hs=>by have:=h.fs s hs;unfold maxLen;omega⟩
theorem lookR_ip (t:ByteArray) (hm:t.size≤9223372036854775807):∃ p e:Int,Hid (∀ W:World,Calls Tryz.prog 42 #[.string t] W fun r w'=>r=.returned (.tuple #[.int .i64 p,.int .i64 e])∧Fr [] W w') ∧
  ((ipF t=true∧e=0)∨(ipF t=false∧(e != 0)=true)):=by
 by_cases h:50<t.size
 ·refine⟨0,1,fun W=>(lookR_long t W h hm).mono fun e w' hh=>⟨hh.1,by rw[hh.2];exact Fr.refl [] W⟩,.inr ⟨?_,rfl⟩⟩
  unfold ipF
  rw[decide_eq_false (by omega)]
  rfl
 ·have e:ipF t=readOk t:=by unfold ipF;rw[decide_eq_true (by omega)];rfl
  cases hok:readOk t with
  | true=>exact⟨0,0,fun W=>lookR_ok t W (by omega) hok,.inl ⟨by rw[e,hok],rfl⟩⟩
  | false=>exact⟨_,2,fun W=>lookR_bad t W (by omega) hok,.inr ⟨by rw[e,hok],rfl⟩⟩
theorem withinR_any (mv:Value) (m:Mo) (w:World) (hM:ModIn w mv m) (hz:ModSm m):Calls Tryz.prog 21 #[mv] w fun e w'=>e=.returned (.bool (within ipF m))∧Fr [] w w':=by
 have hW:=Wire.within_iff (ip:=ipF) (m:=m)
 obtain⟨tv,pv,fv,rfl,hT1,hP,hF⟩:=hM.is
 obtain⟨z1,z2,z3,z4,z5,z6⟩:=hz
 obtain⟨texts,pats,globs,arrs,fns⟩:=m
 simp only at *
 obtain⟨ta,tc,tg,tz,rfl,tl,tha,thx⟩:=hT1
 obtain⟨pa,pc,pg,po,rfl,pl,pha,phx⟩:=hP
 obtain⟨fa,fc,fg,fo,rfl,fl,fha,fhx⟩:=hF
 generalize within ipF ⟨texts,pats,globs,arrs,fns⟩=R at *
 have HW:Hid _:=hW
 have Tz:Hid _:=z2
 have Pz:Hid _:=z4
 have Fz:Hid _:=z6
 have Ta:Hid _:=tha
 have Tx:Hid _:=thx
 have Pa:Hid _:=pha
 have Px:Hid _:=phx
 have Fa:Hid _:=fha
 have Fx:Hid _:=fhx
 clear hM z2 z4 z6 tha thx pha phx fha fhx hW
 have f0:Hid (∀ o,Fr [] w (w.alloc o)):=fun o=>(Fr.refl [] w).alloc o
 by_cases c1:(1000:Int)<texts.length
 ·obtain rfl:R=false:=by
   cases R with
   | false=>rfl
   | true=>have h:=HW.out.1 rfl;omega
  clear HW Tz Pz Fz Ta Tx Pa Px Fa Fx
  go_enter Tryz.func21,Tryz.ntmps21
  go_wp2
  go_ret
  exact⟨rfl,f0.out _⟩
 by_cases c2:(1000:Int)<pats.length
 ·obtain rfl:R=false:=by
   cases R with
   | false=>rfl
   | true=>have h:=HW.out.1 rfl;omega
  clear HW Tz Pz Fz Ta Tx Pa Px Fa Fx
  go_enter Tryz.func21,Tryz.ntmps21
  go_wp2
  go_ret
  exact⟨rfl,f0.out _⟩
 by_cases c3:(fns.length:Int)<3
 ·obtain rfl:R=false:=by
   cases R with
   | false=>rfl
   | true=>have h:=HW.out.1 rfl;omega
  clear HW Tz Pz Fz Ta Tx Pa Px Fa Fx
  go_enter Tryz.func21,Tryz.ntmps21
  go_wp2
  go_ret
  exact⟨rfl,f0.out _⟩
 by_cases c4:(1000:Int)<fns.length
 ·obtain rfl:R=false:=by
   cases R with
   | false=>rfl
   | true=>have h:=HW.out.1 rfl;omega
  clear HW Tz Pz Fz Ta Tx Pa Px Fa Fx
  go_enter Tryz.func21,Tryz.ntmps21
  go_wp2
  go_ret
  exact⟨rfl,f0.out _⟩
 by_cases c5:globs<0
 ·obtain rfl:R=false:=by
   cases R with
   | false=>rfl
   | true=>have h:=HW.out.1 rfl;omega
  clear HW Tz Pz Fz Ta Tx Pa Px Fa Fx
  go_enter Tryz.func21,Tryz.ntmps21
  go_wp2
  go_ret
  exact⟨rfl,f0.out _⟩
 by_cases c6:1000<globs
 ·obtain rfl:R=false:=by
   cases R with
   | false=>rfl
   | true=>have h:=HW.out.1 rfl;omega
  clear HW Tz Pz Fz Ta Tx Pa Px Fa Fx
  go_enter Tryz.func21,Tryz.ntmps21
  go_wp2
  go_ret
  exact⟨rfl,f0.out _⟩
 by_cases c7:arrs<0
 ·obtain rfl:R=false:=by
   cases R with
   | false=>rfl
   | true=>have h:=HW.out.1 rfl;omega
  clear HW Tz Pz Fz Ta Tx Pa Px Fa Fx
  go_enter Tryz.func21,Tryz.ntmps21
  go_wp2
  go_ret
  exact⟨rfl,f0.out _⟩
 by_cases c8:1000<arrs
 ·obtain rfl:R=false:=by
   cases R with
   | false=>rfl
   | true=>have h:=HW.out.1 rfl;omega
  clear HW Tz Pz Fz Ta Tx Pa Px Fa Fx
  go_enter Tryz.func21,Tryz.ntmps21
  go_wp2
  go_ret
  exact⟨rfl,f0.out _⟩
 have hnew:=World.alloc_heap_new w (.cells #[Value.slice ta texts.length tc,Value.slice pa pats.length pc,Value.int IntKind.i64 globs,Value.int IntKind.i64 arrs,Value.slice fa fns.length fc] 30)
 have hlt2:w.heap.size<(w.alloc (.cells #[Value.slice ta texts.length tc,Value.slice pa pats.length pc,Value.int IntKind.i64 globs,Value.int IntKind.i64 arrs,Value.slice fa fns.length fc] 30)).heap.size:=by simp
 have kept:∀ {W':World},Fr [] (w.alloc (.cells #[Value.slice ta texts.length tc,Value.slice pa pats.length pc,Value.int IntKind.i64 globs,Value.int IntKind.i64 arrs,Value.slice fa fns.length fc] 30)) W'→(W'.cell? ⟨w.heap.size,0,none⟩=some (Value.slice ta texts.length tc)∧W'.cell? ⟨w.heap.size,1,none⟩=some (Value.slice pa pats.length pc)∧W'.cell? ⟨w.heap.size,4,none⟩=some (Value.slice fa fns.length fc)):=by
  intro W' G
  have hb:=G.block _ hlt2 (by simp)
  rw[hnew] at hb
  refine⟨?_,?_,?_⟩ <;> (unfold World.cell?;rw[hb];rfl)
 have Hkept:Hid _:=@kept
 clear kept hnew hlt2
 go_enter Tryz.func21,Tryz.ntmps21
 go_wp2
 have F0:=f0.out (.cells #[Value.slice ta texts.length tc,Value.slice pa pats.length pc,Value.int IntKind.i64 globs,Value.int IntKind.i64 arrs,Value.slice fa fns.length fc] 30)
 generalize hWW:w.alloc (.cells #[Value.slice ta texts.length tc,Value.slice pa pats.length pc,Value.int IntKind.i64 globs,Value.int IntKind.i64 arrs,Value.slice fa fns.length fc] 30)=W at *
 clear hWW
 obtain⟨k0,k1,k4⟩:=Hkept.out (Fr.refl [] W)
 go_loop [3] (fun i=>∃ k:Nat,k≤texts.length∧i=.int .i64 k∧Hid (∀ s ∈ texts.take k,s.size≤100)) (fun i=>texts.length-(intOf i).toNat)
 case atStart=>exact⟨0,by omega,rfl,fun s hs=>by simp at hs⟩
 case round=>
  obtain⟨k,hk,rfl,hall⟩:=hrel
  by_cases hlt:k<texts.length
  ·have g1:(k:Int)<texts.length:=by omega
   obtain⟨rfl,hgl⟩:=Ta.out (by omega)
   obtain⟨x,hx⟩:∃ x,texts[k]?=some x:=⟨_,List.getElem?_eq_getElem hlt⟩
   have hxs:=Tz.out x (List.mem_of_getElem? hx)
   have c0:W.cell? ⟨tg,tz+k,none⟩=some (.string x):=(F0.cell (p:=⟨tg,tz+k,none⟩) hgl (by simp)).trans (Tx.out k x hx)
   by_cases hsz:x.size≤100
   ·have g2:¬ ((100:Int)<x.size):=by omega
    have hall2:Hid (∀ s ∈ texts.take (k+1),s.size≤100):=fun s hs=>by
     rw[List.take_succ_eq_append_getElem hlt] at hs
     rcases List.mem_append.1 hs with h | h
     ·exact hall.out s h
     ·have e:texts[k]=x:=by rw[List.getElem?_eq_getElem hlt] at hx;simpa using hx
      simp at h
      rw[h,e]
      exact hsz
    clear hx hsz hall
    go_wp2
    go_round
    case rel=>exact⟨k+1,by omega,by go_num,hall2⟩
    case measure=>simp[intOf];omega
   ·have g2:(100:Int)<x.size:=by omega
    obtain rfl:R=false:=by
     cases R with
     | false=>rfl
     | true=>
      have h:=(HW.out.1 rfl).2.2.2.2.2.2.2.2.1 x (List.mem_of_getElem? hx)
      omega
    clear hx hsz hall HW Hkept k1 k4
    go_wp2
    go_ret
    exact⟨rfl,F0⟩
  ·have g1:¬ ((k:Int)<texts.length):=by omega
   have hallT:Hid (∀ s ∈ texts,s.size≤100):=by
    have h:=hall.out
    rw[List.take_of_length_le (by omega)] at h
    exact h
   clear hall hlt hk
   go_wp2
   go_loopw [4] (fun i wr=>∃ k:Nat,k≤pats.length∧i=.int .i64 k∧Hid (∀ s ∈ pats.take k,ipF s=true)∧Fr [] W wr) (fun i _=>pats.length-(intOf i).toNat)
   case atStart=>exact⟨0,by omega,rfl,(fun s hs=>by simp at hs),Fr.refl _ _⟩
   case round=>
    clear g1 k0 k1 k4
    obtain⟨k,hk,rfl,hall,fr⟩:=hrel
    obtain⟨k0,k1,k4⟩:=Hkept.out fr
    by_cases hlt:k<pats.length
    ·have g1:(k:Int)<pats.length:=by omega
     obtain⟨rfl,hgl⟩:=Pa.out (by omega)
     obtain⟨x,hx⟩:∃ x,pats[k]?=some x:=⟨_,List.getElem?_eq_getElem hlt⟩
     have hxs:=Pz.out x (List.mem_of_getElem? hx)
     have c0:wr.cell? ⟨pg,po+k,none⟩=some (.string x):=((F0.trans fr).cell (p:=⟨pg,po+k,none⟩) hgl (by simp)).trans (Px.out k x hx)
     obtain⟨p,e0,hlk,hcase⟩:=lookR_ip x (by omega)
     go_wp2_with fail
     refine (hlk.out _).mono ?_
     rintro e w2 ⟨rfl,f2⟩
     have fr2:=fr.trans f2
     rcases hcase with ⟨hip,rfl⟩ | ⟨hip,hne⟩
     ·have hall2:Hid (∀ s ∈ pats.take (k+1),ipF s=true):=fun s hs=>by
       rw[List.take_succ_eq_append_getElem hlt] at hs
       rcases List.mem_append.1 hs with h | h
       ·exact hall.out s h
       ·have e:pats[k]=x:=by rw[List.getElem?_eq_getElem hlt] at hx;simpa using hx
        simp at h
        rw[h,e]
        exact hip
      clear hx hip hall hlk c0 k0 k1 k4
      go_wp2
      exact⟨⟨k+1,by omega,by go_num,hall2,fr2⟩,by simp[intOf];omega⟩
     ·obtain rfl:R=false:=by
       cases R with
       | false=>rfl
       | true=>
        have h:=((HW.out.1 rfl).2.2.2.2.2.2.2.2.2.1 x (List.mem_of_getElem? hx)).2
        rw[hip] at h
        cases h
      clear hx hip hall hlk c0 k0 k1 k4 HW
      go_wp2
      go_ret
      exact⟨rfl,F0.trans fr2⟩
    ·have g1:¬ ((k:Int)<pats.length):=by omega
     have hallP:Hid (∀ s ∈ pats,ipF s=true):=by
      have h:=hall.out
      rw[List.take_of_length_le (by omega)] at h
      exact h
     have F1:=F0.trans fr
     clear hall hlt hk
     go_wp2
     go_loopw [7] (fun i w3=>∃ k:Nat,k≤fns.length∧i=.int .i64 k∧Hid (lawfulAll (fns.take k) 0=true)∧Fr [] W w3) (fun i _=>fns.length-(intOf i).toNat)
     case atStart=>exact⟨0,by omega,rfl,(by show _=_;simp[lawfulAll]),fr⟩
     case round=>
      clear g1 k0 k1 k4 F1 fr
      obtain⟨k,hk,rfl,hall,fr⟩:=hrel
      obtain⟨k0,k1,k4⟩:=Hkept.out fr
      by_cases hlt:k<fns.length
      ·have g1:(k:Int)<fns.length:=by omega
       obtain⟨rfl,hgl⟩:=Fa.out (by omega)
       obtain⟨x,hx⟩:∃ x,fns[k]?=some x:=⟨_,List.getElem?_eq_getElem hlt⟩
       have hxs:=Fz.out x (List.mem_of_getElem? hx)
       obtain⟨y0,y1,y2⟩:=Fx.out k x hx
       have c0:=((F0.trans fr).cell (p:=⟨fg,fo+k*3,none⟩) hgl (by simp)).trans y0
       have c1:=((F0.trans fr).cell (p:=⟨fg,fo+k*3+1,none⟩) hgl (by simp)).trans y1
       have c2:=((F0.trans fr).cell (p:=⟨fg,fo+k*3+2,none⟩) hgl (by simp)).trans y2
       have ek:fns[k]=x:=by rw[List.getElem?_eq_getElem hlt] at hx;simpa using hx
       have e1:=lawfulAll_take fns k hlt hall.out
       have e2:=lawfulAll_stop fns k hlt
       rw[ek] at e1 e2
       obtain⟨p,l,co⟩:=x
       simp only at c0 c1 c2 hxs
       have hlw:=fun W=>lawfulR_any p l co k W (by omega) (by omega)
       have Hlw:Hid _:=hlw
       have E1:Hid _:=e1
       have E2:Hid _:=e2
       clear hlw e1 e2 ek hx y0 y1 y2
       generalize lawful ⟨p,l,co⟩ k=lb at *
       go_wp2_with fail
       refine (Hlw.out _).mono ?_
       rintro e w4 ⟨rfl,f4⟩
       have fr4:=fr.trans f4
       clear c0 c1 c2 Hlw k0 k1 k4
       cases lb with
       | true=>
        have hall2:Hid (lawfulAll (fns.take (k+1)) 0=true):=E1.out
        go_wp2
        exact⟨⟨k+1,by omega,by go_num,hall2,fr4⟩,by simp[intOf];omega⟩
       | false=>
        obtain rfl:R=false:=by
         cases R with
         | false=>rfl
         | true=>
          have h:=(HW.out.1 rfl).2.2.2.2.2.2.2.2.2.2
          rw[E2.out rfl] at h
          cases h
        clear HW
        go_wp2
        go_ret
        exact⟨rfl,F0.trans fr4⟩
      ·have g1:¬ ((k:Int)<fns.length):=by omega
       obtain rfl:R=true:=HW.out.2 ⟨by omega,by omega,by omega,by omega,by omega,by omega,by omega,by omega,hallT.out,(fun s hs=>⟨by have h:=hallP.out s hs;unfold ipF at h;simp at h;exact h.1,hallP.out s hs⟩),by have h:=hall.out;rw[List.take_of_length_le (by omega)] at h;exact h⟩
       clear HW
       go_wp2
       go_ret
       exact⟨rfl,F0.trans fr⟩
theorem head_fail {b:ByteArray}{f:Nat × Nat}{c:UInt8}{no:Nat}{s:Sta} (h:nextR (needR c no) (bl b) (.inl f)=s):s=.inl f:=h.symm
theorem headRf_any {w:World}{r:Nat}{b:ByteArray}{e:Nat} (h:RfO w r b (.inr (0,b.size)) 0 e) (hs:b.size≤40000) {s1 s2 s3:Sta}
  (k1:nextR (needR 71 5) (bl b) (.inr (0,b.size))=s1) (k2:nextR (needR 76 5) (bl b) s1=s2) (k3:nextR (needR 1 5) (bl b) s2=s3) :
  Calls Tryz.prog 48 #[.pointer (some ⟨r,0,none⟩)] w fun ee w'=>ee=.returned (.tuple #[])∧(∃ a',RfO w' r b s3 a' e)∧Fr [r] w w':=by
 have hm:Tryz.prog.follows Departure.mixedOrders=true:=by kernel_rfl
 have hL:=bl_length b
 have hle:=h.le
 have KC:=h.c
 simp only[stR,stP] at KC
 have hbad:∀ (W:World) (place:Nat),place≤b.size→RdC W r b 0 e 5 place→RfO W r b (.inl (5,place)) 0 e:=fun W place hp hc=>⟨hc,⟨by show 0<5;omega,by show 5≤100;omega,by show place≤(bl b).length;omega⟩,fun x hx=>(by cases hx),Nat.zero_le _,hle⟩
 have hfault:=fun (W:World) (place:Nat) (hW:RdC W r b 0 e 0 0)=>faultC_any W r b 0 e 0 0 place 5 hW
 -- what s3 is
 have no0:(∀ h:0<b.size,b[0]≠71)→s3=.inl (5,0):=fun hc=>by
  rw[need_no (Nat.zero_le _) hc] at k1
  subst k1
  have:=head_fail k2
  subst this
  exact head_fail k3
 have no1:∀ h0:0<b.size,b[0]=71→(∀ h:1<b.size,b[1]≠76)→s3=.inl (5,1):=fun h0 e0 hc=>by
  rw[need_yes h0 e0] at k1
  subst k1
  rw[need_no (by omega) hc] at k2
  subst k2
  exact head_fail k3
 have no2:∀ (h1:1<b.size),b[0]=71→b[1]=76→(∀ h:2<b.size,b[2]≠1)→s3=.inl (5,2):=fun h1 e0 e1 hc=>by
  rw[need_yes (by omega) e0] at k1
  subst k1
  rw[need_yes h1 e1] at k2
  subst k2
  rw[need_no (by omega) hc] at k3
  exact k3.symm
 have yes:∀ (h2:2<b.size),b[0]=71→b[1]=76→b[2]=1→s3=.inr (3,b.size):=fun h2 e0 e1 e2=>by
  rw[need_yes (by omega) e0] at k1
  subst k1
  rw[need_yes (by omega) e1] at k2
  subst k2
  rw[need_yes h2 e2] at k3
  exact k3.symm
 have HB:Hid _:=hbad
 have HF:Hid _:=hfault
 have HN0:Hid _:=no0
 have HN1:Hid _:=no1
 have HN2:Hid _:=no2
 have HY:Hid _:=yes
 clear hbad hfault no0 no1 no2 yes k1 k2 k3 h
 go_enter Tryz.func48,Tryz.ntmps48
 go_wp2
 go_loopw [3] (fun i W=>∃ k:Nat,k≤3∧i=.int .i64 k∧k≤b.size∧RdC W r b 0 e 0 0∧Fr [r] w W∧Hid ((∀ h:0<b.size,0<k→b[0]=71)∧(∀ h:1<b.size,1<k→b[1]=76)∧(∀ h:2<b.size,2<k→b[2]=1))) (fun i _=>3-(intOf i).toNat)
 case atStart=>exact⟨0,by omega,rfl,by omega,KC,Fr.refl [r] w,fun _ h=>absurd h (by omega),fun _ h=>absurd h (by omega),fun _ h=>absurd h (by omega)⟩
 case round=>
  clear KC
  obtain⟨k,hk3,rfl,hks,KC,FR,Hall⟩:=hrel
  obtain⟨a1,a2,a3⟩:=Hall.out
  obtain rfl | rfl | rfl | rfl:k=0∨k=1∨k=2∨k=3:=by omega
  ·by_cases hk0:0<b.size
   ·have z2:decide (b=ByteArray.empty)=false:=by simp only[decide_eq_false_iff_not];intro he;rw[he] at hk0;exact absurd hk0 (by decide)
    by_cases e0:b[0]=71
    ·have z3:((b[0].toNat:Int)!=((⟨#[71,76,1]⟩:ByteArray)[0]'(by decide)).toNat)=false:=by rw[e0];rfl
     have gI:(0:Int)<(b.size:Int):=by omega
     have KC':=KC
     obtain⟨c0,c1,c2,c3,c4,f1,f2,f3,f4⟩:=KC
     clear HB HF HN0 HN1 HN2 HY Hall
     have HA:Hid _:=And.intro a1 (And.intro a2 (And.intro a3 e0))
     clear a1 a2 a3 e0
     go_wp2
     go_quiet (fail)
     go_wp2
     obtain⟨a1,a2,a3,e0⟩:=HA.out
     refine⟨⟨1,by omega,rfl,by omega,KC'.of_block rfl,FR.drewN _,?_,?_,?_⟩,by decide⟩
     ·intro h _;exact e0
     ·intro h q;exact absurd q (by omega)
     ·intro h q;exact absurd q (by omega)
    ·have hs3:=HN0.out (fun _=>e0)
     subst hs3
     have z3:((b[0].toNat:Int)!=((⟨#[71,76,1]⟩:ByteArray)[0]'(by decide)).toNat)=true:=by
      simp only[bne_iff_ne,ne_eq]
      intro e'
      exact e0 (UInt8.toNat_inj.1 (Int.ofNat_inj.1 e'))
     have gI:(0:Int)<(b.size:Int):=by omega
     have KC':=KC
     obtain⟨c0,c1,c2,c3,c4,f1,f2,f3,f4⟩:=KC
     clear HN0 HN1 HN2 HY Hall a1 a2 a3 e0
     go_wp2
     go_quiet (fail)
     go_wp2_with fail
     refine (HF.out _ 0 ?hk).mono ?_
     case hk=>exact KC'.of_block rfl
     rintro ee w1 ⟨rfl,K1,F1⟩
     go_wp2
     refine bodyPost_ret (results_none rfl _ _ _) rfl ?_
     have F2:Fr [r] wr w1:=⟨F1.os,F1.tape,F1.output,F1.size,F1.block⟩
     exact⟨rfl,⟨0,HB.out _ 0 (by omega) K1⟩,FR.trans F2⟩
   ·have z2:decide (b=ByteArray.empty)=true:=by simp only[decide_eq_true_eq];exact ByteArray.ext (Array.eq_empty_of_size_eq_zero (show b.data.size=0 by have:b.size=b.data.size:=rfl;omega))
    have hs3:=HN0.out (fun h=>absurd h hk0)
    subst hs3
    have KC':=KC
    obtain⟨c0,c1,c2,c3,c4,f1,f2,f3,f4⟩:=KC
    clear HN0 HN1 HN2 HY Hall a1 a2 a3
    go_wp2
    go_quiet (fail)
    go_wp2_with fail
    refine (HF.out _ 0 ?hk).mono ?_
    case hk=>exact KC'.of_block rfl
    rintro ee w1 ⟨rfl,K1,F1⟩
    go_wp2
    refine bodyPost_ret (results_none rfl _ _ _) rfl ?_
    have F2:Fr [r] wr w1:=⟨F1.os,F1.tape,F1.output,F1.size,F1.block⟩
    exact⟨rfl,⟨0,HB.out _ 0 (by omega) K1⟩,FR.trans F2⟩
  ·by_cases hk0:1<b.size
   ·have z2:decide (b.size≤1)=false:=by simp;omega
    have z2i:decide ((b.size:Int)≤1)=false:=by simp;omega
    by_cases e0:b[1]=76
    ·have z3:((b[1].toNat:Int)!=((⟨#[71,76,1]⟩:ByteArray)[1]'(by decide)).toNat)=false:=by rw[e0];rfl
     have gI:(1:Int)<(b.size:Int):=by omega
     have KC':=KC
     obtain⟨c0,c1,c2,c3,c4,f1,f2,f3,f4⟩:=KC
     clear HB HF HN0 HN1 HN2 HY Hall
     have HA:Hid _:=And.intro a1 (And.intro a2 (And.intro a3 e0))
     clear a1 a2 a3 e0
     go_wp2
     go_quiet (fail)
     go_wp2
     obtain⟨a1,a2,a3,e0⟩:=HA.out
     refine⟨⟨2,by omega,rfl,by omega,KC'.of_block rfl,FR.drewN _,?_,?_,?_⟩,by decide⟩
     ·intro h _;exact a1 h (by omega)
     ·intro h _;exact e0
     ·intro h q;exact absurd q (by omega)
    ·have hs3:=HN1.out (by omega) (a1 (by omega) (by omega)) (fun _=>e0)
     subst hs3
     have z3:((b[1].toNat:Int)!=((⟨#[71,76,1]⟩:ByteArray)[1]'(by decide)).toNat)=true:=by
      simp only[bne_iff_ne,ne_eq]
      intro e'
      exact e0 (UInt8.toNat_inj.1 (Int.ofNat_inj.1 e'))
     have gI:(1:Int)<(b.size:Int):=by omega
     have KC':=KC
     obtain⟨c0,c1,c2,c3,c4,f1,f2,f3,f4⟩:=KC
     clear HN0 HN1 HN2 HY Hall a1 a2 a3 e0
     go_wp2
     go_quiet (fail)
     go_wp2_with fail
     refine (HF.out _ 1 ?hk).mono ?_
     case hk=>exact KC'.of_block rfl
     rintro ee w1 ⟨rfl,K1,F1⟩
     go_wp2
     refine bodyPost_ret (results_none rfl _ _ _) rfl ?_
     have F2:Fr [r] wr w1:=⟨F1.os,F1.tape,F1.output,F1.size,F1.block⟩
     exact⟨rfl,⟨0,HB.out _ 1 (by omega) K1⟩,FR.trans F2⟩
   ·have z2:decide (b.size≤1)=true:=by simp;omega
    have z2i:decide ((b.size:Int)≤1)=true:=by simp;omega
    have hs3:=HN1.out (by omega) (a1 (by omega) (by omega)) (fun h=>absurd h hk0)
    subst hs3
    have KC':=KC
    obtain⟨c0,c1,c2,c3,c4,f1,f2,f3,f4⟩:=KC
    clear HN0 HN1 HN2 HY Hall a1 a2 a3
    go_wp2
    go_quiet (fail)
    go_wp2_with fail
    refine (HF.out _ 1 ?hk).mono ?_
    case hk=>exact KC'.of_block rfl
    rintro ee w1 ⟨rfl,K1,F1⟩
    go_wp2
    refine bodyPost_ret (results_none rfl _ _ _) rfl ?_
    have F2:Fr [r] wr w1:=⟨F1.os,F1.tape,F1.output,F1.size,F1.block⟩
    exact⟨rfl,⟨0,HB.out _ 1 (by omega) K1⟩,FR.trans F2⟩
  ·by_cases hk0:2<b.size
   ·have z2:decide (b.size≤2)=false:=by simp;omega
    have z2i:decide ((b.size:Int)≤2)=false:=by simp;omega
    by_cases e0:b[2]=1
    ·have z3:((b[2].toNat:Int)!=((⟨#[71,76,1]⟩:ByteArray)[2]'(by decide)).toNat)=false:=by rw[e0];rfl
     have gI:(2:Int)<(b.size:Int):=by omega
     have KC':=KC
     obtain⟨c0,c1,c2,c3,c4,f1,f2,f3,f4⟩:=KC
     clear HB HF HN0 HN1 HN2 HY Hall
     have HA:Hid _:=And.intro a1 (And.intro a2 (And.intro a3 e0))
     clear a1 a2 a3 e0
     go_wp2
     go_quiet (fail)
     go_wp2
     obtain⟨a1,a2,a3,e0⟩:=HA.out
     refine⟨⟨3,by omega,rfl,by omega,KC'.of_block rfl,FR.drewN _,?_,?_,?_⟩,by decide⟩
     ·intro h _;exact a1 h (by omega)
     ·intro h _;exact a2 h (by omega)
     ·intro h _;exact e0
    ·have hs3:=HN2.out (by omega) (a1 (by omega) (by omega)) (a2 (by omega) (by omega)) (fun _=>e0)
     subst hs3
     have z3:((b[2].toNat:Int)!=((⟨#[71,76,1]⟩:ByteArray)[2]'(by decide)).toNat)=true:=by
      simp only[bne_iff_ne,ne_eq]
      intro e'
      exact e0 (UInt8.toNat_inj.1 (Int.ofNat_inj.1 e'))
     have gI:(2:Int)<(b.size:Int):=by omega
     have KC':=KC
     obtain⟨c0,c1,c2,c3,c4,f1,f2,f3,f4⟩:=KC
     clear HN0 HN1 HN2 HY Hall a1 a2 a3 e0
     go_wp2
     go_quiet (fail)
     go_wp2_with fail
     refine (HF.out _ 2 ?hk).mono ?_
     case hk=>exact KC'.of_block rfl
     rintro ee w1 ⟨rfl,K1,F1⟩
     go_wp2
     refine bodyPost_ret (results_none rfl _ _ _) rfl ?_
     have F2:Fr [r] wr w1:=⟨F1.os,F1.tape,F1.output,F1.size,F1.block⟩
     exact⟨rfl,⟨0,HB.out _ 2 (by omega) K1⟩,FR.trans F2⟩
   ·have z2:decide (b.size≤2)=true:=by simp;omega
    have z2i:decide ((b.size:Int)≤2)=true:=by simp;omega
    have hs3:=HN2.out (by omega) (a1 (by omega) (by omega)) (a2 (by omega) (by omega)) (fun h=>absurd h hk0)
    subst hs3
    have KC':=KC
    obtain⟨c0,c1,c2,c3,c4,f1,f2,f3,f4⟩:=KC
    clear HN0 HN1 HN2 HY Hall a1 a2 a3
    go_wp2
    go_quiet (fail)
    go_wp2_with fail
    refine (HF.out _ 2 ?hk).mono ?_
    case hk=>exact KC'.of_block rfl
    rintro ee w1 ⟨rfl,K1,F1⟩
    go_wp2
    refine bodyPost_ret (results_none rfl _ _ _) rfl ?_
    have F2:Fr [r] wr w1:=⟨F1.os,F1.tape,F1.output,F1.size,F1.block⟩
    exact⟨rfl,⟨0,HB.out _ 2 (by omega) K1⟩,FR.trans F2⟩
  ·have hs3:=HY.out (by omega) (a1 (by omega) (by omega)) (a2 (by omega) (by omega)) (a3 (by omega) (by omega))
   subst hs3
   have K1:RfO (wr.setCell ⟨r,1,none⟩ (.int .i64 3)) r b (.inr (3,b.size)) 3 e:=⟨KC.set1 3,⟨by show 3≤b.size;omega,by show b.size≤(bl b).length;omega⟩,fun x hx=>(by cases hx;exact⟨rfl,rfl⟩),by omega,hle⟩
   obtain⟨c0,c1,c2,c3,c4,f1,f2,f3,f4⟩:=KC
   clear HB HF HN0 HN1 HN2 HY Hall a1 a2 a3
   go_wp2
   go_end0
   exact⟨rfl,⟨3,K1⟩,FR.setCell (p:=⟨r,1,none⟩) (.inl (by simp)) _⟩
end Go.Proofs.YtclkgoigmgkffaaGreatDoor
