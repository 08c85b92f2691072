/-
  Texts Tt Gc Gi Gj Gk Gl Nq Gm Gn Ir Ob Jo Jp Ka Kb Kc Kd Ke.
-/
import Derived.Maps.AppendAt
import Derived.Deep.RegionHeld
import Derived.Test.YtgpamchpeamnfaaGreatDoorMA
import Derived.Test.YtgpamchpeamnfaaGreatDoorM23
import Derived.Test.YtgpamchpeamnfaaGreatDoorM22
import Derived.Test.YtgpamchpeamnfaaGreatDoorM12
import Derived.Test.YtgpamchpeamnfaaGreatDoorM13
import Derived.Test.YtgpamchpeamnfaaGreatDoorM04
import Derived.Test.YtgpamchpeamnfaaGreatDoorM18
set_option linter.unusedSimpArgs false
set_option linter.unusedVariables false
set_option maxRecDepth 100000
set_option maxHeartbeats 40000000
open _root_.Go.Proofs.Tryz
namespace Go.Proofs.YtgpamchpeamnfaaGreatDoor
open Go.RowKit
theorem bHj {t:ByteArray}{i:Nat} (h:i<t.size):(t[i].toNat:Int)=(aO t i:Int):=by unfold aO;rw[dif_pos h]
theorem aYb {m m':fM}{c:Nat} (h:gH m c=some m'):m'.op≤m.op+1:=by
 unfold gH tM inM at h
 repeat' split at h
 all_goals first
  | (injection h with h;subst h;simp only;omega)
  | (injection h with h;subst h;simp)
  | cases h
theorem jS.new (w:World):jS (w.alloc (.cells #[.int .i64 0,.int .i64 0,.int .u8 0] 103)) w.heap.size 0 0 0:=by
 have hm:=wan w (.cells #[.int .i64 0,.int .i64 0,.int .u8 0] 103)
 refine⟨?_,?_,?_,?_,?_,?_⟩
 ·unfold World.cell?;rw[hm];simp
 ·unfold World.cell?;rw[hm];simp
 ·unfold World.cell?;rw[hm];simp
 ·unfold World.frozen?;rw[hm];simp
 ·unfold World.frozen?;rw[hm];simp
 ·unfold World.frozen?;rw[hm];simp
theorem aLg (t:ByteArray)(w:World)(h:50<t.size)(hm:t.size≤9223372036854775807):Calls prog 20 #[.string t] w fun e w'=>e=.returned (.tuple #[.int .i64 0,.int .i64 1])∧w'=w:=by
 have g1:(50:Int)<t.size:=by omega
 go_enter func20,ntmps20
 go_wp2
 go_ret2
 exact⟨rfl,rfl⟩
theorem aBq (t:ByteArray)(w:World)(ht:t.size≤50) :
  Calls prog 20 #[.string t] w fun e w'=>e=.returned (.tuple #[.int .i64 (aNz t).1,.int .i64 (if (aNz t).2=true then 2 else 0)])∧Fr [] w w':=by
 obtain⟨L,hL⟩:=eX (qH t t.size 0 ⟨0,0,0⟩)
 have hLr:aNz t=L:=hL
 rw[hLr]
 have g1:¬ ((50:Int)<t.size):=by omega
 have hnx:=fun (mb k:Nat) (m:fM) (W:World) (hop:m.op≤1000) (h:jS W mb m.st m.op m.fr)=>aUn mb (aO t k) m W (aJg t k) hop h
 have Hnx:Hid _:=hnx
 have HL:Hid (qH t (t.size-0) 0 ⟨0,0,0⟩=L):=hL
 have J0:=jS.new w
 have f0:Fr [] w (w.alloc (.cells #[.int .i64 0,.int .i64 0,.int .u8 0] 103)):=(Fr.refl [] w).alloc _
 clear hL hLr hnx
 go_enter func20,ntmps20
 go_wp2
 generalize w.alloc (.cells #[.int .i64 0,.int .i64 0,.int .u8 0] 103)=w2 at *
 go_loopw [5] (fun v wr=>∃ (k:Nat) (m:fM),k≤t.size∧m.op≤k∧v=.int .i64 k∧jS wr w.heap.size m.st m.op m.fr∧Fr [] w wr∧Hid (qH t (t.size-k) k m=L)) (fun v _=>t.size-(intOf v).toNat)
 case atStart=>exact⟨0,⟨0,0,0⟩,by omega,by simp,rfl,J0,f0,HL⟩
 case round=>
  clear J0 f0 HL
  obtain⟨k,m,hk,hop,rfl,hM,hf,hL⟩:=hrel
  by_cases hlt:k<t.size
  ·have g2:(k:Int)<t.size:=by omega
   have gn:=bHj hlt
   have hcall:=Hnx.out w.heap.size k m wr (by omega) hM
   rw[← gn] at hcall
   have hL':=hL.out
   obtain⟨f,hfe⟩:∃ f,t.size-k=f+1:=⟨t.size-k-1,by omega⟩
   rw[hfe,qH] at hL'
   cases hnm:gH m (aO t k) with
   | none=>
    rw[hnm] at hcall hL'
    simp only at hL'
    subst hL'
    clear hL gn hfe hnm Hnx
    go_wp2_with fail
    refine hcall.mono ?_
    rintro e w3 ⟨f3,h3⟩
    subst h3
    clear hcall
    go_wp2
    go_ret2
    exact⟨rfl,hf.trans' f3 (by simp)⟩
   | some m'=>
    rw[hnm] at hcall hL'
    simp only at hL'
    have hop':=aYb hnm
    have HL2:Hid (qH t (t.size-(k+1)) (k+1) m'=L):=by rw[show t.size-(k+1)=f by omega];exact hL'
    clear hL gn hfe hnm hL'
    go_wp2_with fail
    refine hcall.mono ?_
    rintro e w3 ⟨f3,h3,h4⟩
    subst h3
    clear hcall
    have s0:=h4.c0
    have s1:=h4.z0
    have n1:((m'.st:Int) == -1)=false:=by simp
    have J2:=h4.set0 m'.st
    have f4:Fr [] w (w3.setCell ⟨w.heap.size,0,none⟩ (.int .i64 m'.st)):=(hf.trans' f3 (by simp)).setCell (p:=⟨w.heap.size,0,none⟩) (.inr (by simp)) _
    clear h4 f3 hf hM
    go_wp2
    go_roundw
    case rel=>exact⟨k+1,m',by omega,by omega,by go_num,J2,f4,HL2⟩
    case measure=>simp[intOf];omega
  ·have g2:¬ ((k:Int)<t.size):=by omega
   have hL':=hL.out
   rw[show t.size-k=0 by omega,qH] at hL'
   have c0:=hM.c0
   have c1:=hM.c1
   obtain rfl:k=t.size:=by omega
   by_cases h1:1<m.st
   ·rw[if_pos (.inl h1)] at hL'
    subst hL'
    have g3:(1:Int)<m.st:=by omega
    go_wp2
    go_ret2
    exact⟨rfl,hf⟩
   ·have g3:¬ ((1:Int)<m.st):=by omega
    by_cases h2:0<m.op
    ·rw[if_pos (.inr h2)] at hL'
     subst hL'
     have g4:(0:Int)<m.op:=by omega
     go_wp2
     go_ret2
     exact⟨rfl,hf⟩
    ·rw[if_neg (by omega)] at hL'
     subst hL'
     have g4:¬ ((0:Int)<m.op):=by omega
     go_wp2
     go_ret2
     exact⟨rfl,hf⟩
theorem aUu (t:ByteArray)(w:World)(ht:t.size≤50)(hok:gD t=true):Calls prog 20 #[.string t] w fun e w'=>e=.returned (.tuple #[.int .i64 0,.int .i64 0])∧Fr [] w w':=by
 have h:=aBq t w ht
 rw[aHs t ht,if_pos hok] at h
 exact h
theorem aQj (t:ByteArray)(w:World)(ht:t.size≤50)(hok:gD t=false):Calls prog 20 #[.string t] w fun e w'=>e=.returned (.tuple #[.int .i64 (eW t).2.pos,.int .i64 2])∧Fr [] w w':=by
 have h:=aBq t w ht
 rw[aHs t ht,if_neg (by rw[hok];decide)] at h
 exact h
open Wire
structure yP (m:Mo):Prop where
 t:m.texts.length≤9223372036854775807
 ts:∀ s ∈ m.texts,s.size≤9223372036854775807
 p:m.pats.length≤9223372036854775807
 ps:∀ s ∈ m.pats,s.size≤9223372036854775807
 f:m.fns.length≤9223372036854775807
 fs:∀ s ∈ m.fns,s.code.size≤9223372036854775807
theorem O7 (t:ByteArray)(hm:t.size≤9223372036854775807):∃ p e:Int,Hid (∀ W:World,Calls prog 20 #[.string t] W fun r w'=>r=.returned (.tuple #[.int .i64 p,.int .i64 e])∧Fr [] W w') ∧
  ((ipF t=true∧e=0)∨(ipF t=false∧(e != 0)=true)):=by
 by_cases h:50<t.size
 ·refine⟨0,1,fun W=>(aLg t W h hm).mono fun e w' hh=>⟨hh.1,by rw[hh.2];exact Fr.refl [] W⟩,.inr ⟨?_,rfl⟩⟩
  unfold ipF
  rw[decide_eq_false (by omega)]
  rfl
 ·have e:ipF t=gD t:=by unfold ipF;rw[decide_eq_true (by omega)];rfl
  cases hok:gD t with
  | true=>exact⟨0,0,fun W=>aUu t W (by omega) hok,.inl ⟨by rw[e,hok],rfl⟩⟩
  | false=>exact⟨_,2,fun W=>aQj t W (by omega) hok,.inr ⟨by rw[e,hok],rfl⟩⟩
theorem aFl (mv:Value)(m:Mo)(w:World)(hM:eR w mv m)(hz:yP m):Calls prog 12 #[mv] w fun e w'=>e=.returned (.bool (cE ipF m))∧Fr [] w w':=by
 have hW:=Wire.within_iff (ip:=ipF) (m:=m)
 obtain⟨tv,pv,fv,rfl,hT1,hP,hF⟩:=hM.is
 obtain⟨z1,z2,z3,z4,z5,z6⟩:=hz
 obtain⟨texts,pats,globs,arrs,fns⟩:=m
 simp only at *
 obtain⟨ta,tc,tg,tto,rfl,tl,tha,thx⟩:=hT1
 obtain⟨pa,pc,pg,po,rfl,pl,pha,phx⟩:=hP
 obtain⟨fa,fc,fg,fo,rfl,fl,fha,fhx⟩:=hF
 generalize cE ipF ⟨texts,pats,globs,arrs,fns⟩=R at *
 have HW:Hid _:=hW
 have Tz:Hid _:=z2
 have Pz:Hid _:=z4
 have Fz:Hid _:=z6
 have Ta:Hid _:=tha
 have Tx:Hid _:=thx
 have Pa:Hid _:=pha
 have Px:Hid _:=phx
 have Fa:Hid _:=fha
 have Fx:Hid _:=fhx
 clear hM z2 z4 z6 tha thx pha phx fha fhx hW
 have f0:Hid (∀ o,Fr [] w (w.alloc o)):=fun o=>(Fr.refl [] w).alloc o
 by_cases c1:(1000:Int)<texts.length
 ·obtain rfl:R=false:=by
   cases R with
   | false=>rfl
   | true=>have h:=HW.out.1 rfl;omega
  clear HW Tz Pz Fz Ta Tx Pa Px Fa Fx
  go_enter func12,ntmps12
  go_wp2
  go_ret
  exact⟨rfl,f0.out _⟩
 by_cases c2:(1000:Int)<pats.length
 ·obtain rfl:R=false:=by
   cases R with
   | false=>rfl
   | true=>have h:=HW.out.1 rfl;omega
  clear HW Tz Pz Fz Ta Tx Pa Px Fa Fx
  go_enter func12,ntmps12
  go_wp2
  go_ret
  exact⟨rfl,f0.out _⟩
 by_cases c3:(fns.length:Int)<3
 ·obtain rfl:R=false:=by
   cases R with
   | false=>rfl
   | true=>have h:=HW.out.1 rfl;omega
  clear HW Tz Pz Fz Ta Tx Pa Px Fa Fx
  go_enter func12,ntmps12
  go_wp2
  go_ret
  exact⟨rfl,f0.out _⟩
 by_cases c4:(1000:Int)<fns.length
 ·obtain rfl:R=false:=by
   cases R with
   | false=>rfl
   | true=>have h:=HW.out.1 rfl;omega
  clear HW Tz Pz Fz Ta Tx Pa Px Fa Fx
  go_enter func12,ntmps12
  go_wp2
  go_ret
  exact⟨rfl,f0.out _⟩
 by_cases c5:globs<0
 ·obtain rfl:R=false:=by
   cases R with
   | false=>rfl
   | true=>have h:=HW.out.1 rfl;omega
  clear HW Tz Pz Fz Ta Tx Pa Px Fa Fx
  go_enter func12,ntmps12
  go_wp2
  go_ret
  exact⟨rfl,f0.out _⟩
 by_cases c6:1000<globs
 ·obtain rfl:R=false:=by
   cases R with
   | false=>rfl
   | true=>have h:=HW.out.1 rfl;omega
  clear HW Tz Pz Fz Ta Tx Pa Px Fa Fx
  go_enter func12,ntmps12
  go_wp2
  go_ret
  exact⟨rfl,f0.out _⟩
 by_cases c7:arrs<0
 ·obtain rfl:R=false:=by
   cases R with
   | false=>rfl
   | true=>have h:=HW.out.1 rfl;omega
  clear HW Tz Pz Fz Ta Tx Pa Px Fa Fx
  go_enter func12,ntmps12
  go_wp2
  go_ret
  exact⟨rfl,f0.out _⟩
 by_cases c8:1000<arrs
 ·obtain rfl:R=false:=by
   cases R with
   | false=>rfl
   | true=>have h:=HW.out.1 rfl;omega
  clear HW Tz Pz Fz Ta Tx Pa Px Fa Fx
  go_enter func12,ntmps12
  go_wp2
  go_ret
  exact⟨rfl,f0.out _⟩
 have hnew:=wan w (.cells #[Value.slice ta texts.length tc,Value.slice pa pats.length pc,Value.int IntKind.i64 globs,Value.int IntKind.i64 arrs,Value.slice fa fns.length fc] 25)
 have hlt2:w.heap.size<(w.alloc (.cells #[Value.slice ta texts.length tc,Value.slice pa pats.length pc,Value.int IntKind.i64 globs,Value.int IntKind.i64 arrs,Value.slice fa fns.length fc] 25)).heap.size:=by simp
 have kept:∀ {W':World},Fr [] (w.alloc (.cells #[Value.slice ta texts.length tc,Value.slice pa pats.length pc,Value.int IntKind.i64 globs,Value.int IntKind.i64 arrs,Value.slice fa fns.length fc] 25)) W'→(W'.cell? ⟨w.heap.size,0,none⟩=some (Value.slice ta texts.length tc)∧W'.cell? ⟨w.heap.size,1,none⟩=some (Value.slice pa pats.length pc)∧W'.cell? ⟨w.heap.size,4,none⟩=some (Value.slice fa fns.length fc)):=by
  intro W' G
  have hb:=G.block _ hlt2 (by simp)
  rw[hnew] at hb
  refine⟨?_,?_,?_⟩ <;> (unfold World.cell?;rw[hb];rfl)
 have Hkept:Hid _:=@kept
 clear kept hnew hlt2
 go_enter func12,ntmps12
 go_wp2
 have F0:=f0.out (.cells #[Value.slice ta texts.length tc,Value.slice pa pats.length pc,Value.int IntKind.i64 globs,Value.int IntKind.i64 arrs,Value.slice fa fns.length fc] 25)
 generalize hWW:w.alloc (.cells #[Value.slice ta texts.length tc,Value.slice pa pats.length pc,Value.int IntKind.i64 globs,Value.int IntKind.i64 arrs,Value.slice fa fns.length fc] 25)=W at *
 clear hWW
 obtain⟨k0,k1,k4⟩:=Hkept.out (Fr.refl [] W)
 go_loop [3] (fun i=>∃ k:Nat,k≤texts.length∧i=.int .i64 k∧Hid (∀ s ∈ texts.take k,s.size≤100)) (fun i=>texts.length-(intOf i).toNat)
 case atStart=>exact⟨0,by omega,rfl,fun s hs=>by simp at hs⟩
 case round=>
  obtain⟨k,hk,rfl,hall⟩:=hrel
  by_cases hlt:k<texts.length
  ·have g1:(k:Int)<texts.length:=by omega
   obtain⟨rfl,hgl⟩:=Ta.out (by omega)
   obtain⟨x,hx⟩:∃ x,texts[k]?=some x:=⟨_,Lge hlt⟩
   have hxs:=Tz.out x (List.mem_of_getElem? hx)
   have c0:W.cell? ⟨tg,tto+k,none⟩=some (.string x):=(F0.cell (p:=⟨tg,tto+k,none⟩) hgl (by simp)).trans (Tx.out k x hx)
   by_cases hsz:x.size≤100
   ·have g2:¬ ((100:Int)<x.size):=by omega
    have hall2:Hid (∀ s ∈ texts.take (k+1),s.size≤100):=fun s hs=>by
     rw[List.take_succ_eq_append_getElem hlt] at hs
     rcases List.mem_append.1 hs with h | h
     ·exact hall.out s h
     ·have e:texts[k]=x:=by rw[Lge hlt] at hx;simpa using hx
      simp at h
      rw[h,e]
      exact hsz
    clear hx hsz hall
    go_wp2
    go_round
    case rel=>exact⟨k+1,by omega,by go_num,hall2⟩
    case measure=>simp[intOf];omega
   ·have g2:(100:Int)<x.size:=by omega
    obtain rfl:R=false:=by
     cases R with
     | false=>rfl
     | true=>
      have h:=(HW.out.1 rfl).2.2.2.2.2.2.2.2.1 x (List.mem_of_getElem? hx)
      omega
    clear hx hsz hall HW Hkept k1 k4
    go_wp2
    go_ret
    exact⟨rfl,F0⟩
  ·have g1:¬ ((k:Int)<texts.length):=by omega
   have hallT:Hid (∀ s ∈ texts,s.size≤100):=by
    have h:=hall.out
    rw[List.take_of_length_le (by omega)] at h
    exact h
   clear hall hlt hk
   go_wp2
   go_loopw [4] (fun i wr=>∃ k:Nat,k≤pats.length∧i=.int .i64 k∧Hid (∀ s ∈ pats.take k,ipF s=true)∧Fr [] W wr) (fun i _=>pats.length-(intOf i).toNat)
   case atStart=>exact⟨0,by omega,rfl,(fun s hs=>by simp at hs),Fr.refl _ _⟩
   case round=>
    clear g1 k0 k1 k4
    obtain⟨k,hk,rfl,hall,fr⟩:=hrel
    obtain⟨k0,k1,k4⟩:=Hkept.out fr
    by_cases hlt:k<pats.length
    ·have g1:(k:Int)<pats.length:=by omega
     obtain⟨rfl,hgl⟩:=Pa.out (by omega)
     obtain⟨x,hx⟩:∃ x,pats[k]?=some x:=⟨_,Lge hlt⟩
     have hxs:=Pz.out x (List.mem_of_getElem? hx)
     have c0:wr.cell? ⟨pg,po+k,none⟩=some (.string x):=((F0.trans fr).cell (p:=⟨pg,po+k,none⟩) hgl (by simp)).trans (Px.out k x hx)
     obtain⟨p,e0,hlk,hcase⟩:=O7 x (by omega)
     go_wp2_with fail
     refine (hlk.out _).mono ?_
     rintro e w2 ⟨rfl,f2⟩
     have fr2:=fr.trans f2
     rcases hcase with ⟨hip,rfl⟩ | ⟨hip,hne⟩
     ·have hall2:Hid (∀ s ∈ pats.take (k+1),ipF s=true):=fun s hs=>by
       rw[List.take_succ_eq_append_getElem hlt] at hs
       rcases List.mem_append.1 hs with h | h
       ·exact hall.out s h
       ·have e:pats[k]=x:=by rw[Lge hlt] at hx;simpa using hx
        simp at h
        rw[h,e]
        exact hip
      clear hx hip hall hlk c0 k0 k1 k4
      go_wp2
      exact⟨⟨k+1,by omega,by go_num,hall2,fr2⟩,by simp[intOf];omega⟩
     ·obtain rfl:R=false:=by
       cases R with
       | false=>rfl
       | true=>
        have h:=((HW.out.1 rfl).2.2.2.2.2.2.2.2.2.1 x (List.mem_of_getElem? hx)).2
        rw[hip] at h
        cases h
      clear hx hip hall hlk c0 k0 k1 k4 HW
      go_wp2
      go_ret
      exact⟨rfl,F0.trans fr2⟩
    ·have g1:¬ ((k:Int)<pats.length):=by omega
     have hallP:Hid (∀ s ∈ pats,ipF s=true):=by
      have h:=hall.out
      rw[List.take_of_length_le (by omega)] at h
      exact h
     have F1:=F0.trans fr
     clear hall hlt hk
     go_wp2
     go_loopw [7] (fun i w3=>∃ k:Nat,k≤fns.length∧i=.int .i64 k∧Hid (bC (fns.take k) 0=true)∧Fr [] W w3) (fun i _=>fns.length-(intOf i).toNat)
     case atStart=>exact⟨0,by omega,rfl,(by show _=_;simp[bC]),fr⟩
     case round=>
      clear g1 k0 k1 k4 F1 fr
      obtain⟨k,hk,rfl,hall,fr⟩:=hrel
      obtain⟨k0,k1,k4⟩:=Hkept.out fr
      by_cases hlt:k<fns.length
      ·have g1:(k:Int)<fns.length:=by omega
       obtain⟨rfl,hgl⟩:=Fa.out (by omega)
       obtain⟨x,hx⟩:∃ x,fns[k]?=some x:=⟨_,Lge hlt⟩
       have hxs:=Fz.out x (List.mem_of_getElem? hx)
       obtain⟨y0,y1,y2⟩:=Fx.out k x hx
       have c0:=((F0.trans fr).cell (p:=⟨fg,fo+k*3,none⟩) hgl (by simp)).trans y0
       have c1:=((F0.trans fr).cell (p:=⟨fg,fo+k*3+1,none⟩) hgl (by simp)).trans y1
       have c2:=((F0.trans fr).cell (p:=⟨fg,fo+k*3+2,none⟩) hgl (by simp)).trans y2
       have ek:fns[k]=x:=by rw[Lge hlt] at hx;simpa using hx
       have e1:=tR fns k hlt hall.out
       have e2:=tS fns k hlt
       rw[ek] at e1 e2
       obtain⟨p,l,co⟩:=x
       simp only at c0 c1 c2 hxs
       have hlw:=fun W=>aId p l co k W (by omega) (by omega)
       have Hlw:Hid _:=hlw
       have E1:Hid _:=e1
       have E2:Hid _:=e2
       clear hlw e1 e2 ek hx y0 y1 y2
       generalize fI ⟨p,l,co⟩ k=lb at *
       go_wp2_with fail
       refine (Hlw.out _).mono ?_
       rintro e w4 ⟨rfl,f4⟩
       have fr4:=fr.trans f4
       clear c0 c1 c2 Hlw k0 k1 k4
       cases lb with
       | true=>
        have hall2:Hid (bC (fns.take (k+1)) 0=true):=E1.out
        go_wp2
        exact⟨⟨k+1,by omega,by go_num,hall2,fr4⟩,by simp[intOf];omega⟩
       | false=>
        obtain rfl:R=false:=by
         cases R with
         | false=>rfl
         | true=>
          have h:=(HW.out.1 rfl).2.2.2.2.2.2.2.2.2.2
          rw[E2.out rfl] at h
          cases h
        clear HW
        go_wp2
        go_ret
        exact⟨rfl,F0.trans fr4⟩
      ·have g1:¬ ((k:Int)<fns.length):=by omega
       obtain rfl:R=true:=HW.out.2 ⟨by omega,by omega,by omega,by omega,by omega,by omega,by omega,by omega,hallT.out,(fun s hs=>⟨by have h:=hallP.out s hs;unfold ipF at h;simp at h;exact h.1,hallP.out s hs⟩),by have h:=hall.out;rw[List.take_of_length_le (by omega)] at h;exact h⟩
       clear HW
       go_wp2
       go_ret
       exact⟨rfl,F0.trans fr⟩
variable {B r mb : Nat} {o0 o1 : Option (List ByteArray)} {o2 o3 : Option Nat} {o4 : Option (List Wire.Fn)} {W W' : World}
open Wire Flow Mach
theorem aAj {l:List Wire.Fn}{i:Nat} (h:bC l i=true):∀ x ∈ l,0≤x.params∧x.params≤8∧0≤x.locs∧x.locs≤16∧x.code.size≤20000:=by
 induction l generalizing i with
 | nil=>intro x hx;cases hx
 | cons a l ih=>
  simp only[bC,Bool.and_eq_true] at h
  intro x hx
  rcases List.mem_cons.1 hx with rfl | hx
  ·have:=h.1
   simp only[fI,Bool.and_eq_true,decide_eq_true_eq] at this
   obtain⟨⟨⟨⟨⟨h1,h2⟩,h3⟩,h4⟩,h5⟩,-⟩:=this
   exact⟨h1,h2,by omega,h4,h5⟩
  ·exact ih h.2 x hx
theorem jB {ip:ByteArray→Bool}{m:Mo} (h:cE ip m=true):A9 m∧3≤m.fns.length:=by
 simp only[cE,Bool.and_eq_true,decide_eq_true_eq] at h
 obtain⟨⟨⟨⟨⟨⟨⟨⟨⟨⟨h1,h2⟩,h3⟩,h4⟩,h5⟩,h6⟩,h7⟩,h8⟩,-⟩,-⟩,h9⟩:=h
 refine⟨⟨⟨h4,fun x hx=>?_⟩,h1,h2,⟨h5,h6⟩,⟨h7,h8⟩⟩,h3⟩
 obtain⟨a,b,c,d,e⟩:=aAj h9 x hx
 exact⟨a,b,c,by omega,e⟩
def C6 (m:Mo) (k p e:Nat):Prop:=∃ x,m.fns[k]?=some x∧sO (bD m) m k x.locs.toNat (bl x.code) p e
theorem C6.unique {m:Mo}{k p e p' e':Nat} (h:C6 m k p e) (g:C6 m k p' e'):p=p'∧e=e':=by
 obtain⟨x,hx,h⟩:=h
 obtain⟨y,hy,g⟩:=g
 rw[hx] at hy
 cases hy
 exact X3 h g
def Y6 (m:Mo) (f p e:Nat):Prop:=
 (f=0∧p=0∧e=0∧∀ k,k<m.fns.length→∃ q,C6 m k q 0)∨(e≠0∧C6 m f p e∧∀ k,k<f→∃ q,C6 m k q 0)
theorem C6.lt {m:Mo}{k p e:Nat} (h:C6 m k p e):k<m.fns.length:=by
 obtain⟨x,hx,-⟩:=h
 exact (Lgs.1 hx).1
theorem Y6.unique {m:Mo}{f p e f' p' e':Nat} (h:Y6 m f p e) (g:Y6 m f' p' e'):f=f'∧p=p'∧e=e':=by
 rcases h with ⟨h1,h2,h3,h4⟩ | ⟨h1,h2,h3⟩
 ·rcases g with ⟨g1,g2,g3,g4⟩ | ⟨g1,g2,g3⟩
  ·exact⟨by omega,by omega,by omega⟩
  ·obtain⟨q,hq⟩:=h4 f' g2.lt
   exact absurd (hq.unique g2).2.symm g1
 ·rcases g with ⟨g1,g2,g3,g4⟩ | ⟨g1,g2,g3⟩
  ·obtain⟨q,hq⟩:=g4 f h2.lt
   exact absurd (hq.unique h2).2.symm h1
  ·rcases Nat.lt_trichotomy f f' with c | c | c
   ·obtain⟨q,hq⟩:=g3 f c
    exact absurd (hq.unique h2).2.symm h1
   ·subst c
    have:=h2.unique g2
    exact⟨rfl,this.1,this.2⟩
   ·obtain⟨q,hq⟩:=h3 f' c
    exact absurd (hq.unique g2).2.symm g1
def bGf (m:Mo) (w:World) (e:Ending) (w':World):Prop:=Fr [] w w'∧∃ f p x:Nat,e=.returned (.tuple #[.int .i64 f,.int .i64 p,.int .i64 x])∧Y6 m f p x∧x≤100
theorem aVz {par:Nat→Nat}{l:List Stp}{e:Ending} (h:bGj par l e):∃ b,e=.returned (.bool b)∧(b=true↔¬ Flow.Safe par l):=h
theorem U6 (mv:Value)(m:Mo)(w:World)(hM:eR w mv m)(hMo:A9 m)(h3:3≤m.fns.length):Calls prog 19 #[mv] w (bGf m w):=by
 have hM0:=hM
 have hrd:=fun (W:World) (hW:Fr [] w W) (k:Nat) (x:Wire.Fn) (hx:m.fns[k]?=some x)=>aPl mv m W k x (hM.fr hW) hMo hx
 obtain⟨tv,pv,fv,rfl,h1,h2,h4⟩:=hM.is
 obtain⟨ta,tc,-,-,rfl,-⟩:=h1
 obtain⟨pa,pc,-,-,rfl,-⟩:=h2
 obtain⟨a0,cap,g,off,rfl,hc,hx0,hxx⟩:=h4
 obtain⟨rfl,hgl⟩:=hx0 (by omega)
 have hn:=hMo.f.n
 have hpar:∀ a,a<m.fns.length→w.cell? ⟨g,off+a*3,none⟩=some (.int .i64 (bD m a:Nat))∧bD m a≤8:=fun a ha=>by
  obtain⟨x,hx⟩:∃ x,m.fns[a]?=some x:=⟨_,Lge ha⟩
  have hp:=hMo.f.p x (List.mem_of_getElem? hx)
  have e:bD m a=x.params.toNat:=by unfold bD T6;rw[List.getD_eq_getElem?_getD,hx];rfl
  refine⟨?_,by rw[e];omega⟩
  rw[(hxx a x hx).1,e]
  congr 2
  omega
 have hcg:=fun (W:World) (hW:Fr [] w W) (n acap:Nat) (aa:Option Addr) (l:List Stp) (T:List Nat) (hn1:n≤100000) (hln:l.length=n) (hA:0<n→∃ ga,aa=some ⟨ga,0,none⟩∧ga<W.heap.size∧rV W ga l T) (hJ:vV l T n) (hok:∀ s ∈ l,uA m s)=>
  aRs W ta pa m.texts.length tc m.pats.length pc m g off m.fns.length cap n acap aa hn1 l T hln hA hJ rfl (fun a ha=>⟨(hW.cell (p:=⟨g,off+a*3,none⟩) hgl (by simp)).trans (hpar a ha).1,(hpar a ha).2⟩) (Nll hgl hW.size) hn hok
 obtain⟨W1,hW1⟩:=eX (w.alloc (.cells #[.slice ta m.texts.length tc,.slice pa m.pats.length pc,.int .i64 m.globs,.int .i64 m.arrs,.slice (some ⟨g,off,none⟩) m.fns.length cap] 25))
 have FA:Fr [] w W1:=by rw[← hW1];exact (Fr.refl [] w).alloc _
 have k1:=wan w (.cells #[.slice ta m.texts.length tc,.slice pa m.pats.length pc,.int .i64 m.globs,.int .i64 m.arrs,.slice (some ⟨g,off,none⟩) m.fns.length cap] 25)
 rw[hW1] at k1
 have kl:=(Age.1 k1).1
 have hcs:∀ W,Fr [] W1 W→(W.cell? ⟨w.heap.size,0,none⟩=some (.slice ta m.texts.length tc)∧W.cell? ⟨w.heap.size,1,none⟩=some (.slice pa m.pats.length pc)∧W.cell? ⟨w.heap.size,2,none⟩=some (.int .i64 m.globs)∧W.cell? ⟨w.heap.size,3,none⟩=some (.int .i64 m.arrs)∧W.cell? ⟨w.heap.size,4,none⟩=some (.slice (some ⟨g,off,none⟩) m.fns.length cap)):=fun W hW=>by
  have e1:∀ j v,(#[.slice ta m.texts.length tc,.slice pa m.pats.length pc,.int .i64 m.globs,.int .i64 m.arrs,.slice (some ⟨g,off,none⟩) m.fns.length cap]:Array Value)[j]?=some v→W.cell? ⟨w.heap.size,j,none⟩=some v:=fun j v hv=>by
   unfold World.cell?
   rw[hW.block _ kl (by simp),k1]
   exact hv
  exact⟨e1 0 _ rfl,e1 1 _ rfl,e1 2 _ rfl,e1 3 _ rfl,e1 4 _ rfl⟩
 obtain⟨-,-,-,-,d4⟩:=hcs W1 (Fr.refl [] W1)
 have HRd:Hid _:=fun (_:Unit)=>hrd
 have HCg:Hid _:=fun (_:Unit)=>hcg
 have HCs:Hid _:=hcs
 have HFA:Hid _:=FA
 have hcode:∀ x ∈ m.fns,x.code.size≤20000:=fun x hx=>(hMo.f.p x hx).2.2.2.2
 have HCode:Hid _:=hcode
 clear hrd hcg hcs FA k1 kl hcode hM0 hM hMo hpar hxx hx0 h3
 generalize hnf:m.fns.length=nf at *
 go_enter func19,ntmps19
 go_wp2
 clear hW1 d4
 go_loopw [12] (fun i wr=>∃ k:Nat,i=.int .i64 (k:Nat)∧k≤nf∧Fr [] W1 wr∧Hid (∀ q,q<k→∃ r,C6 m q r 0)) (fun i _=>nf-(intOf i).toNat)
 case atStart=>exact⟨0,rfl,by omega,Fr.refl [] _,fun q hq=>absurd hq (by omega)⟩
 case round=>
  obtain⟨k,rfl,hk,FW,hA⟩:=hrel
  obtain⟨d0,d1,d2,d3,d4⟩:=HCs.out wr FW
  by_cases hlt:k<nf
  ·have g1:(k:Int)<(nf:Int):=by omega
   obtain⟨x,hx⟩:∃ x,m.fns[k]?=some x:=⟨_,Lge (by rw[hnf];exact hlt)⟩
   have hxc:=HCode.out x (List.mem_of_getElem? hx)
   have hcall:=HRd.out () wr (HFA.out.trans FW) k x hx
   have HCall:Hid _:=fun (_:Unit)=>hcall
   clear hcall
   go_wp2_with fail
   refine (HCall.out ()).mono ?_
   rintro ee w3 ⟨F3,(⟨j,y,rfl,y0,y20,hj,hbad⟩ | ⟨aa,acap,ga,l,T,rfl,hR,hbj,hlc,hgood⟩)⟩
   ·have q1:((y:Int)==0)=false:=by simp;omega
    have q2:((y:Int)!=0)=true:=by simp;omega
    have hans:C6 m k j y:=by
     refine⟨x,hx,?_⟩
     rcases hbad with hbad | ⟨l,h1,h2,rfl⟩
     ·exact .inl hbad
     ·exact .inr ⟨l,h1,.inl ⟨_,h2,rfl,rfl⟩⟩
    have HAn:Hid _:=hans
    clear hans hbad d0 d1 d2 d3 d4 HCall
    go_wp2
    go_ret3
    exact⟨(HFA.out.trans FW).trans F3,k,j,y,rfl,.inr ⟨y0,HAn.out,hA.out⟩,by omega⟩
   ·have hok:=dT.ok hR
    have hle:=dT.le hR (by omega)
    rw[aD] at hle
    obtain⟨n,hn2⟩:=eX (l.length)
    have F03:=(HFA.out.trans FW).trans F3
    have hcw:=HCg.out () w3 F03 n acap aa l T (by omega) hn2 (fun h0=>by obtain⟨e1,e2,-,e3,-⟩:=hgood (by omega);exact⟨ga,e1,e2,e3⟩) (fun i s hi hs hf=>by
     have hll:i<l.length:=by omega
     obtain⟨-,-,-,-,e5⟩:=hgood (by omega)
     exact e5 i s hll hs hf) hok
    have HCw:Hid _:=fun (_:Unit)=>hcw
    obtain⟨b0,b1,b2,b3,b4⟩:=HCs.out w3 (FW.trans F3)
    have HX:Hid _:=AI hR (AI hbj (AI hx F03))
    rw[hn2]
    clear hcw hR hbj hlc hgood hok hle F03 d0 d1 d2 d3 d4 HCall hx
    go_wp2_with fail
    refine (HCw.out ()).mono ?_
    rintro ee w4 ⟨hcp,F4⟩
    obtain⟨b,rfl,hb⟩:=aVz hcp
    clear hcp b0 b1 b2 b3 b4 HCw
    cases b with
    | true=>
     have hns:¬ Flow.Safe (bD m) l:=hb.1 rfl
     clear hb
     go_wp2
     go_ret3
     exact⟨HX.out.2.2.2.trans F4,k,0,12,rfl,.inr ⟨by omega,⟨x,HX.out.2.2.1,.inr ⟨l,HX.out.1,.inr ⟨HX.out.2.1,rfl,.inr ⟨hns,rfl⟩⟩⟩⟩,hA.out⟩,by omega⟩
    | false=>
     have hsf:Flow.Safe (bD m) l:=Classical.byContradiction fun h=>by have:=hb.2 h;cases this
     have HSf:Hid _:=hsf
     clear hb hsf
     go_wp2
     refine⟨⟨k+1,by go_num,by omega,(FW.trans F3).trans F4,fun q hq=>?_⟩,?_⟩
     ·by_cases e:q<k
      ·exact hA.out q e
      ·have e2:q=k:=by omega
       subst e2
       exact⟨0,x,HX.out.2.2.1,.inr ⟨l,HX.out.1,.inr ⟨HX.out.2.1,rfl,.inl ⟨HSf.out,rfl⟩⟩⟩⟩
     ·simp[intOf]
      omega
  ·have g1:¬ (k:Int)<(nf:Int):=by omega
   go_wp2
   go_ret3
   exact⟨HFA.out.trans FW,0,0,0,rfl,.inl ⟨rfl,rfl,rfl,fun q hq=>hA.out q (by omega)⟩,by omega⟩
theorem aHn (n:Int)(w:World):Calls prog 6 #[.int .i64 n] w fun e w'=>e=.returned (.int .i64 n)∧w'=w:=by
 go_enter func6,ntmps6
 go_wp2
 go_ret
 exact⟨rfl,rfl⟩
theorem eG {W W':World}{B:Nat}{e:TypeId}{k:Nat}{v:Value}{n:Nat}{xs:List Value} (h:W.ownsRow B e k v n xs) (hb:∀ g,v.ownBlock=some g→W'.heap[g]?=W.heap[g]?):W'.ownsRow B e k v n xs:=by
 refine⟨h.1,?_⟩
 rcases h.2 with h' | ⟨g,cap,cur,hv,hg,hh,r⟩
 ·exact .inl h'
 ·exact .inr ⟨g,cap,cur,hv,hg,by rw[hb g (by rw[hv];rfl)];exact hh,r⟩
theorem cF {o:Oper}{a:Act}{w w':World}{K:Act→World→Prop}{Q:Exit→Act→World→Prop} (s x:Operand) (t:TypeId) (ho:o.op=.call { callee:=.builtin .append,args:=#[s,x],argTypes:=#[t,t] }) (v u r:Value) (hs:a.eval s=v) (hx:a.eval x=u)
  (hr:(Builtin.append_ #[t,t] o.type #[v,u]).run prog w=.ok r w') (h:K (a.put o.dst r) w'):o.wp prog a w K Q:=by
 unfold Oper.wp execOp
 simp only[ho,resolve,invoke,builtin,Sem.run_bind,Sem.run_pure,Result.andThen_ok,List.map_toArray,List.map_cons,List.map_nil,hs,hx,hr]
 exact h
theorem jE (w:World)(v:Value)(t:TypeId):∀ j u,[v][j]?=some u→(w.alloc (.cells #[v] t)).cell? ((⟨w.heap.size,0,none⟩:Addr).add j)=some u:=by
 intro j u hj
 have hm:=wan w (.cells #[v] t)
 rw[iB]
 unfold World.cell?
 rw[hm]
 simpa using hj
theorem Q7:(prog.info? 9).map (fun i=>(i.zero,i.size,i.bytes))=some (some (.string ⟨#[]⟩),1,16):=by kernel_rfl
end Go.Proofs.YtgpamchpeamnfaaGreatDoor
