/-
  Texts Hg Ia Ib.
-/
import Derived.Test.YtclkgoigmgkffaaGreatDoorMA
import Derived.Test.YtclkgoigmgkffaaGreatDoorM02
import Derived.Test.YtclkgoigmgkffaaGreatDoorM01
import Derived.Test.YtclkgoigmgkffaaGreatDoorM00
set_option linter.unusedSimpArgs false
set_option linter.unusedVariables false
set_option maxRecDepth 100000
set_option maxHeartbeats 40000000
namespace Go.Proofs.YtclkgoigmgkffaaGreatDoor
open Go.RowKit
open Wire Flow
theorem orL_drop (s t:List Nat)(n:Nat):(orL s t).drop n=orL (s.drop n) (t.drop n):=by unfold orL;rw[List.drop_zipWith]
theorem orL_take (s t:List Nat)(n:Nat):(orL s t).take n=orL (s.take n) (t.take n):=by unfold orL;rw[List.take_zipWith]
theorem wdS_or {s t:List Nat}(hs:∀ x,x ∈ s→x<16)(ht:∀ x,x ∈ t→x<16)(hl:s.length=t.length)(j:Nat):wdS s j ||| wdS t j=wdS (orL s t) j:=by
 unfold wdS
 rw[orL_drop,orL_take,pk_or]
 ·exact fun y hy=>hs y (List.mem_of_mem_drop (List.mem_of_mem_take hy))
 ·exact fun y hy=>ht y (List.mem_of_mem_drop (List.mem_of_mem_take hy))
 ·simp[hl]
theorem orL_small {s t:List Nat}(hs:∀ x,x ∈ s→x<16)(ht:∀ x,x ∈ t→x<16):∀ x,x ∈ orL s t→x<16:=by
 intro x hx
 unfold orL at hx
 obtain⟨i,hi,rfl⟩:=List.mem_iff_getElem.1 hx
 rw[List.getElem_zipWith]
 have h1:=hs _ (List.getElem_mem (l:=s) (n:=i) (by simp at hi;omega))
 have h2:=ht _ (List.getElem_mem (l:=t) (n:=i) (by simp at hi;omega))
 exact Nat.or_lt_two_pow (n:=4) h1 h2
theorem wdS_inj {s t:List Nat}(hs:∀ x,x ∈ s→x<16)(ht:∀ x,x ∈ t→x<16)(hl:s.length=t.length)(h:∀ j,j<(s.length+15) / 16→wdS s j=wdS t j):s=t:=by
 apply List.ext_getElem hl
 intro i h1 h2
 have hj:=h (i / 16) (by omega)
 unfold wdS at hj
 have e:=pk_inj (s:=(s.drop (16*(i / 16))).take 16) (t:=(t.drop (16*(i / 16))).take 16) (fun y hy=>hs y (List.mem_of_mem_drop (List.mem_of_mem_take hy))) (fun y hy=>ht y (List.mem_of_mem_drop (List.mem_of_mem_take hy))) (by simp[hl]) hj
 have e2:=congrArg (fun l=>l[i % 16]?) e
 simp only[List.getElem?_take,List.getElem?_drop] at e2
 have hm:i % 16<16:=by omega
 rw[if_pos hm,if_pos hm,show 16*(i / 16)+i % 16=i by omega] at e2
 rw[Lge h1,Lge h2] at e2
 simpa using e2
structure MeetI (w:World) (sb:Nat) (s u:List Nat) (wr:Bool) (i:Nat):Prop where
 c0:w.cell? ⟨sb,0,none⟩=some (.int .i64 (s.length:Int))
 c1:w.cell? ⟨sb,1,none⟩=some (.bool wr)
 cw:∀ j,j<64→w.cell? ⟨sb,2+j,none⟩=some (.int .u64 ((if j<i then wdS u j else wdS s j:Nat):Int))
 fz:∀ i,w.frozen? ⟨sb,i,none⟩=false
theorem meet_any (w:World)(sb ob:Nat)(s t:List Nat)(wg wr2:Bool)(hS:StkC w sb s wg)(hT:StkC w ob t wr2)(hl:s.length=t.length)(hne:sb≠ob) :
  Calls Tryz.prog 182 #[.pointer (some ⟨sb,0,none⟩),.pointer (some ⟨ob,0,none⟩)] w fun e w'=>e=.returned (.bool (decide (orL s t≠s)))∧StkC w' sb (orL s t) wg∧Fr [sb] w w':=by
 have hm:Tryz.prog.follows Departure.mixedOrders=true:=by kernel_rfl
 have hhi:=hS.hi
 obtain⟨n,hn⟩:∃ n,s.length=n:=⟨_,rfl⟩
 obtain⟨m,hmm⟩:∃ m,(n+15) / 16=m:=⟨_,rfl⟩
 have hmI:((n:Int)+15).tdiv 16=(m:Int):=by rw[Int.tdiv_eq_ediv_of_nonneg (by omega)];omega
 have hmI2:((n:Int)+16-1).tdiv 16=(m:Int):=by rw[show (n:Int)+16-1=(n:Int)+15 by omega];exact hmI
 have hor:=fun j=>wdS_or hS.sm hT.sm hl j
 have hlt:=fun j=>wdS_lt hS.sm j
 have hlt2:=fun j=>wdS_lt hT.sm j
 have hsm:=orL_small hS.sm hT.sm
 have hol:(orL s t).length=s.length:=orL_length hl
 have hinj:=wdS_inj hS.sm hsm hol.symm
 obtain⟨u,hu⟩:∃ u,orL s t=u:=⟨_,rfl⟩
 rw[hu] at hor hsm hol hinj ⊢
 have c0:=hS.c0
 rw[hn] at c0
 have M0:MeetI w sb s u wg 0:=⟨hS.c0,hS.c1,fun j hj=>by rw[if_neg (by omega)];exact hS.cw j hj,hS.fz⟩
 have hzero:∀ j,m≤j→wdS u j=wdS s j:=fun j hj=>by
  unfold wdS
  rw[List.drop_eq_nil_of_le (by omega),List.drop_eq_nil_of_le (by omega)]
 have HT:Hid (∀ W:World,Fr [sb] w W→∀ j,j<64→W.cell? ⟨ob,2+j,none⟩=some (.int .u64 (wdS t j:Nat))):=fun W hW j hj=>(hW.cell (p:=⟨ob,2+j,none⟩) hT.lt (by simpa using fun e=>hne e.symm)).trans (hT.cw j hj)
 have HB:Hid (∀ j,bits .or .u64 (wdS s j:Int) (wdS t j:Int)=(wdS u j:Int)):=fun j=>by rw[bits_or_u64_nat _ _ (hlt j) (hlt2 j),hor j]
 have HI:Hid ((∀ j,j<m→wdS u j=wdS s j)↔u=s):=⟨fun h=>(hinj (fun j hj=>(h j (by omega)).symm)).symm,fun h j _=>by rw[h]⟩
 have HZ:Hid _:=hzero
 have HL:Hid _:=AI hol hsm
 clear hS hT hor hlt hlt2 hsm hol hinj hzero hu hl
 go_enter Tryz.func182,Tryz.ntmps182
 go_wp2
 go_loopw [5,15] (fun ch i W=>∃ (k:Nat) (c:Bool),k≤m∧i=.int .i64 k∧ch=.bool c∧MeetI W sb s u wg k∧Fr [sb] w W∧Hid (c=true↔∃ j,j<k∧wdS u j≠wdS s j)) (fun _ i _=>m-(intOf i).toNat)
 case atStart=>exact⟨0,false,by omega,rfl,rfl,M0,Fr.refl [sb] w,⟨fun h=>(by cases h),fun ⟨j,hj,_⟩=>absurd hj (by omega)⟩⟩
 case round=>
  clear M0
  obtain⟨k,c,hk,rfl,rfl,M,F,Hc⟩:=hrel
  have M':=M
  obtain⟨d0,d1,dw,dz⟩:=M
  by_cases hlt:k<m
  ·have g1:(k:Int)<m:=by omega
   have hk64:k<64:=by omega
   have e1:=dw k hk64
   rw[if_neg (by omega)] at e1
   have e2:=HT.out _ F k hk64
   have e3:=HB.out k
   have e4:=dz (2+k)
   obtain⟨A,hA⟩:∃ A,wdS s k=A:=⟨_,rfl⟩
   obtain⟨B,hB⟩:∃ B,wdS t k=B:=⟨_,rfl⟩
   obtain⟨C,hC⟩:∃ C,wdS u k=C:=⟨_,rfl⟩
   rw[hA] at e1 e3
   rw[hB] at e2 e3
   rw[hC] at e3
   have hbne:((C:Int)!=(A:Int))=decide (C≠A):=by
    by_cases q:C=A
    ·subst q;simp
    ·simp only[ne_eq,q,not_false_eq_true,decide_true,bne_iff_ne];omega
   have Knew:MeetI (wr.setCell ⟨sb,2+k,none⟩ (.int .u64 (C:Int))) sb s u wg (k+1):=by
    refine⟨(setCell_off (by omega)).trans d0,(setCell_off (by omega)).trans d1,fun j hj=>?_,fun i=>by rw[wfz];exact dz i⟩
    by_cases ej:j=k
    ·subst ej
     rw[World.cell?_setCell_same' _ _ _ (by rw[e1];rfl),if_pos (by omega),hC]
    ·rw[setCell_off (by omega),dw j hj]
     by_cases hjk:j<k
     ·rw[if_pos hjk,if_pos (by omega)]
     ·rw[if_neg hjk,if_neg (by omega)]
   have hcnew:∀ c2:Bool,(c2=true↔c=true∨C≠A)→(c2=true↔∃ j,j<k+1∧wdS u j≠wdS s j):=fun c2 h2=>by
    rw[h2,Hc.out]
    constructor
    ·rintro (⟨j,h3,h4⟩ | h3)
     ·exact⟨j,by omega,h4⟩
     ·exact⟨k,by omega,by rw[hC,hA];exact h3⟩
    ·rintro ⟨j,h3,h4⟩
     by_cases ej:j=k
     ·subst ej;rw[hC,hA] at h4;exact .inr h4
     ·exact .inl ⟨j,by omega,h4⟩
   have HK:Hid _:=Knew
   have HN:Hid _:=hcnew
   clear Knew hcnew hA hB hC d0 d1 dw dz M' HT HB HI HZ HL Hc
   cases c with
   | true=>
    go_wp2
    go_region
    go_wp2
    refine⟨⟨k+1,true,by omega,by go_num,rfl,⟨HK.out.c0,HK.out.c1,HK.out.cw,HK.out.fz⟩,(F.setCell (p:=⟨sb,2+k,none⟩) (.inl (by simp)) _).drew,HN.out true (by simp)⟩,by simp[intOf];omega⟩
   | false=>
    go_wp2
    go_region
    go_wp2
    refine⟨⟨k+1,!decide (C=A),by omega,by go_num,rfl,⟨HK.out.c0,HK.out.c1,HK.out.cw,HK.out.fz⟩,(F.setCell (p:=⟨sb,2+k,none⟩) (.inl (by simp)) _).drew,HN.out _ (by simp)⟩,by simp[intOf];omega⟩
  ·obtain rfl:k=m:=by omega
   have g1:¬ (k:Int)<k:=by omega
   have Kend:StkC wr sb u wg:=by
    obtain⟨q1,q2⟩:=HL.out
    refine⟨by rw[q1];exact d0,d1,fun j hj=>?_,dz,by omega,q2⟩
    rw[dw j hj]
    by_cases hjk:j<k
    ·rw[if_pos hjk]
    ·rw[if_neg hjk,HZ.out j (by omega)]
   have hc:c=decide (u≠s):=by
    rw[Bool.eq_iff_iff,Hc.out,decide_eq_true_eq,ne_eq,← HI.out]
    constructor
    ·rintro ⟨j,h1,h2⟩ h3
     exact h2 (h3 j h1)
    ·intro h3
     apply Classical.byContradiction
     intro h4
     apply h3
     intro j hj
     apply Classical.byContradiction
     intro h5
     exact h4 ⟨j,hj,h5⟩
   have HE:Hid _:=hc
   clear hc Hc HL HZ HI HB HT M' d0 d1 dw dz
   go_wp2
   go_ret
   refine⟨?_,Kend,F⟩
   have hE:c = !decide (u=s):=by rw[HE.out];simp
   rw[← hE]
   rfl
theorem u8_ne {a b:UInt8}(h:a≠b):((a.toNat:Int)==(b.toNat:Int))=false:=by
 simp only[beq_eq_false_iff_ne,ne_eq]
 intro e
 exact h (UInt8.toNat_inj.1 (by omega))
theorem leastR_any (a b:UInt8)(w:World):Calls Tryz.prog 186 #[.int .u8 a.toNat,.int .u8 b.toNat] w fun e w'=>e=.returned (.int .u8 (lst a b).toNat)∧w'=w:=by
 have h1:=a.toNat_lt
 have h2:=b.toNat_lt
 by_cases hab:a=b
 ·subst hab
  have hr:lst a a=a:=by unfold lst;rw[if_pos rfl]
  rw[hr]
  go_enter Tryz.func186,Tryz.ntmps186
  go_wp2
  go_ret
  exact⟨rfl,rfl⟩
 ·have g0:=u8_ne hab
  have fact:∀ (x:UInt8) (k:Nat) (hk:k<256),x=UInt8.ofNat k∨((x.toNat:Int)==(k:Int))=false:=fun x k hk=>by
   by_cases e:x=UInt8.ofNat k
   ·exact .inl e
   ·right
    simp only[beq_eq_false_iff_ne,ne_eq]
    intro e2
    exact e (UInt8.toNat_inj.1 (by simp[UInt8.toNat_ofNat];omega))
  by_cases hk:a=107∨b=107∨a=106∨b=106
  ·have hr:lst a b=106:=by unfold lst;rw[if_neg hab,if_pos hk]
   rw[hr]
   rcases fact a 107 (by omega) with ea | ea
   ·have ea':(a.toNat:Int)=107:=by rw[ea];rfl
    rw[ea'] at g0 ⊢
    clear fact hk hr hab ea h1
    go_enter Tryz.func186,Tryz.ntmps186
    go_wp2
    go_ret
    exact⟨rfl,rfl⟩
   ·change ((a.toNat:Int)==107)=false at ea
    rcases fact b 107 (by omega) with eb | eb
    ·have eb':(b.toNat:Int)=107:=by rw[eb];rfl
     rw[eb'] at g0 ⊢
     clear fact hk hr hab eb h2
     go_enter Tryz.func186,Tryz.ntmps186
     go_wp2
     go_ret
     exact⟨rfl,rfl⟩
    ·change ((b.toNat:Int)==107)=false at eb
     rcases fact a 106 (by omega) with ec | ec
     ·have ec':(a.toNat:Int)=106:=by rw[ec];rfl
      rw[ec'] at g0 ⊢
      clear fact hk hr hab ec h1 ea
      go_enter Tryz.func186,Tryz.ntmps186
      go_wp2
      go_ret
      exact⟨rfl,rfl⟩
     ·change ((a.toNat:Int)==106)=false at ec
      rcases fact b 106 (by omega) with ed | ed
      ·have ed':(b.toNat:Int)=106:=by rw[ed];rfl
       rw[ed'] at g0 ⊢
       clear fact hk hr hab ed h2 eb
       go_enter Tryz.func186,Tryz.ntmps186
       go_wp2
       go_ret
       exact⟨rfl,rfl⟩
      ·change ((b.toNat:Int)==106)=false at ed
       exfalso
       rcases hk with e | e | e | e <;> subst e
       ·exact absurd ea (by decide)
       ·exact absurd eb (by decide)
       ·exact absurd ec (by decide)
       ·exact absurd ed (by decide)
  ·have hr:lst a b=97:=by unfold lst;rw[if_neg hab,if_neg hk]
   rw[hr]
   have q1:((a.toNat:Int)==107)=false:=(fact a 107 (by omega)).resolve_left fun e=>hk (.inl e)
   have q2:((b.toNat:Int)==107)=false:=(fact b 107 (by omega)).resolve_left fun e=>hk (.inr (.inl e))
   have q3:((a.toNat:Int)==106)=false:=(fact a 106 (by omega)).resolve_left fun e=>hk (.inr (.inr (.inl e)))
   have q4:((b.toNat:Int)==106)=false:=(fact b 106 (by omega)).resolve_left fun e=>hk (.inr (.inr (.inr e)))
   clear fact hk hr hab
   go_enter Tryz.func186,Tryz.ntmps186
   go_wp2
   go_ret
   exact⟨rfl,rfl⟩
theorem suitsR_any (a b:UInt8)(w:World):Calls Tryz.prog 254 #[.int .u8 a.toNat,.int .u8 b.toNat] w fun e w'=>e=.returned (.bool (decide (lst a b=b)))∧w'=w:=by
 have hl:=leastR_any a b w
 have he:(((lst a b).toNat:Int)==(b.toNat:Int))=decide (lst a b=b):=by
  by_cases h:lst a b=b
  ·rw[h];simp
  ·rw[u8_ne h];simp[h]
 have h1:=(lst a b).toNat_lt
 have h2:=b.toNat_lt
 go_enter Tryz.func254,Tryz.ntmps254
 go_wp2_with fail
 refine hl.mono ?_
 rintro e w1 ⟨rfl,rfl⟩
 go_wp2
 go_ret
 rw[← he]
 exact⟨rfl,rfl⟩
theorem leS_all {s t:List UInt8}(hl:s.length=t.length):leS s t↔∀ i (h1:i<s.length) (h2:i<t.length),le s[i] t[i]:=by
 induction s generalizing t with
 | nil=>cases t with
  | nil=>exact⟨fun _ i h1=>absurd h1 (by simp),fun _=>trivial⟩
  | cons=>simp at hl
 | cons a s ih=>cases t with
  | nil=>simp at hl
  | cons b t=>
   have ih':=ih (t:=t) (by simpa using hl)
   constructor
   ·rintro ⟨h1,h2⟩ i h3 h4
    cases i with
    | zero=>exact h1
    | succ i=>exact ih'.1 h2 i (by simpa using h3) (by simpa using h4)
   ·intro h
    exact⟨h 0 (by simp) (by simp),ih'.2 fun i h3 h4=>by
     have q:=h (i+1) (by simpa using h3) (by simpa using h4)
     simp only[List.getElem_cons_succ] at q
     exact q⟩
def wdK (l:List UInt8):ByteArray:=⟨l.toArray⟩
theorem wdK_size (l:List UInt8):(wdK l).size=l.length:=by simp[wdK,ByteArray.size]
theorem bl_wdK (l:List UInt8):bl (wdK l)=l:=bl_mk l
theorem manyR_any (c:UInt8)(n:Nat)(w:World)(hn:n≤100000):Calls Tryz.prog 213 #[.string ⟨#[c]⟩,.int .i64 n] w fun e w'=>e=.returned (.string (wdK (List.replicate n c)))∧w'=w:=by
 go_enter Tryz.func213,Tryz.ntmps213
 go_wp2
 go_loop [5,6] (fun s i=>∃ (k:Nat) (S:ByteArray),k≤n∧s=.string S∧i=.int .i64 k∧S.size=k∧Hid (S=wdK (List.replicate k c))) (fun _ i=>n-(intOf i).toNat)
 case atStart=>exact⟨0,⟨#[]⟩,by omega,rfl,rfl,rfl,rfl⟩
 case round=>
  obtain⟨k,S,hk,rfl,rfl,hz,HS⟩:=hrel
  by_cases hlt:k<n
  ·have g1:(k:Int)<n:=by omega
   have hz1:(⟨#[c]⟩:ByteArray).size=1:=rfl
   have hz2:(S++⟨#[c]⟩).size=k+1:=by rw[ByteArray.size_append,hz,hz1]
   have hnew:S++⟨#[c]⟩=wdK (List.replicate (k+1) c):=by
    rw[HS.out]
    apply bl_inj
    rw[bl_wdK,List.replicate_succ']
    unfold bl wdK
    rw[ByteArray.data_append,Array.toList_append]
   have HN:Hid _:=hnew
   clear hnew HS
   go_wp2
   exact⟨⟨k+1,S++⟨#[c]⟩,by omega,rfl,by go_num,hz2,HN⟩,by simp[intOf];omega⟩
  ·obtain rfl:k=n:=by omega
   have g1:¬ (k:Int)<k:=by omega
   go_wp2
   go_ret
   exact⟨by rw[HS.out];rfl,rfl⟩
def takenS (S W:List UInt8):Option (List UInt8):=if S.length<W.length then none else if leSB (S.drop (S.length-W.length)) W=true then some (S.take (S.length-W.length)) else none
theorem takenR_any (st wt:ByteArray)(w:World)(h1:st.size≤1000000)(h2:wt.size≤1000000) :
  Calls Tryz.prog 214 #[.string st,.string wt] w fun e w'=>e=.returned (match takenS (bl st) (bl wt) with | none=>.tuple #[.string ⟨#[]⟩,.bool false] | some r=>.tuple #[.string (wdK r),.bool true])∧Fr [] w w':=by
 have hm:Tryz.prog.follows Departure.mixedOrders=true:=by kernel_rfl
 have hS:=bl_length st
 have hW:=bl_length wt
 by_cases hlt:st.size<wt.size
 ·have e0:takenS (bl st) (bl wt)=none:=by unfold takenS;rw[if_pos (by omega)]
  rw[e0]
  have g1:(st.size:Int)-(wt.size:Int)<0:=by omega
  go_enter Tryz.func214,Tryz.ntmps214
  go_wp2
  go_ret2
  exact⟨rfl,Fr.refl [] w⟩
 ·obtain⟨n,hn⟩:∃ n,st.size-wt.size=n:=⟨_,rfl⟩
  have hnI:(st.size:Int)-(wt.size:Int)=(n:Int):=by omega
  have hsz:n+wt.size=st.size:=by omega
  have e0:takenS (bl st) (bl wt)=if leSB ((bl st).drop n) (bl wt)=true then some ((bl st).take n) else none:=by unfold takenS;rw[if_neg (by omega),hS,hW,hn]
  rw[e0]
  have hall:leSB ((bl st).drop n) (bl wt)=true↔∀ i (h3:i<wt.size),lst (st[n+i]'(by omega)) wt[i]=wt[i]:=by
   rw[leSB_iff,leS_all (by rw[List.length_drop];omega)]
   have eg:∀ i (h3:i<wt.size),((bl st).drop n)[i]'(by rw[List.length_drop];omega)=st[n+i]'(by omega)∧(bl wt)[i]'(by omega)=wt[i]:=fun i h3=>by
    refine⟨?_,?_⟩
    ·simp only[List.getElem_drop,bl,Array.getElem_toList];rfl
    ·simp only[bl,Array.getElem_toList];rfl
   constructor
   ·intro h i h3
    have:=h i (by rw[List.length_drop];omega) (by omega)
    rw[(eg i h3).1,(eg i h3).2] at this
    exact this
   ·intro h i h3 h4
    rw[(eg i (by omega)).1,(eg i (by omega)).2]
    exact h i (by omega)
  have hex:wdK ((bl st).take n)=st.extract 0 n:=by
   apply bl_inj
   rw[bl_wdK]
   unfold bl
   rw[ByteArray.data_extract,Array.toList_extract]
   simp
  have HA:Hid _:=hall
  have hsu:=fun (a b:UInt8) (W:World)=>suitsR_any a b W
  have HU:Hid _:=hsu
  generalize hB:leSB ((bl st).drop n) (bl wt)=B at *
  have hres:(match (if B=true then some ((bl st).take n) else none:Option (List UInt8)) with | none=>Value.tuple #[.string ⟨#[]⟩,.bool false] | some r=>Value.tuple #[.string (wdK r),.bool true])=if B=true then Value.tuple #[.string (st.extract 0 n),.bool true] else Value.tuple #[.string ⟨#[]⟩,.bool false]:=by
   cases B with
   | false=>rfl
   | true=>simp only[if_true,hex]
  rw[hres]
  clear e0 hall hex hsu hn hB hres
  have gn:¬ ((n:Int)<0):=by omega
  go_enter Tryz.func214,Tryz.ntmps214
  go_wp2
  go_loopw [7] (fun i W=>∃ k:Nat,k≤wt.size∧i=.int .i64 k∧Hid (∀ i (h3:i<wt.size),i<k→lst (st[n+i]'(by omega)) wt[i]=wt[i])∧Fr [] w W) (fun i _=>wt.size-(intOf i).toNat)
  case atStart=>exact⟨0,by omega,rfl,fun i _ h=>absurd h (by omega),Fr.refl [] w⟩
  case round=>
   obtain⟨k,hk,rfl,Hk,F⟩:=hrel
   by_cases hlt2:k<wt.size
   ·have g1:(k:Int)<wt.size:=by omega
    obtain⟨j,hj⟩:∃ j,n+k=j:=⟨_,rfl⟩
    have hjI:(n:Int)+(k:Int)=(j:Int):=by omega
    have hjs:j<st.size:=by omega
    have g2:(j:Int)<st.size:=by omega
    have hu:=fun (W:World)=>HU.out st[j] wt[k] W
    have hkk:lst (st[n+k]'(by omega)) wt[k]=wt[k]↔lst st[j] wt[k]=wt[k]:=by simp only[hj]
    by_cases hs:lst st[j] wt[k]=wt[k]
    ·rw[decide_eq_true hs] at hu
     have hnew:∀ i (h3:i<wt.size),i<k+1→lst (st[n+i]'(by omega)) wt[i]=wt[i]:=fun i h3 h4=>by
      by_cases e:i=k
      ·subst e;exact hkk.2 hs
      ·exact Hk.out i h3 (by omega)
     have HN:Hid _:=hnew
     have HV:Hid _:=hu
     clear hnew hu hkk hs Hk HA HU hj
     go_wp2
     go_quiet (first | (go_at_call 254;refine Calls.quiet_of_same (HV.out _)))
     go_wp2
     exact⟨⟨k+1,by omega,by go_num,HN,F.drewN _⟩,by simp[intOf];omega⟩
    ·rw[decide_eq_false hs] at hu
     have hB:B=false:=by
      cases B with
      | false=>rfl
      | true=>exact absurd (hkk.1 (HA.out.1 rfl k hlt2)) hs
     subst hB
     have HV:Hid _:=hu
     clear hu hkk hs Hk HA HU hj
     go_wp2
     go_quiet (first | (go_at_call 254;refine Calls.quiet_of_same (HV.out _)))
     go_wp2
     go_ret2
     exact⟨rfl,F.drewN _⟩
   ·obtain rfl:k=wt.size:=by omega
    have g1:¬ (wt.size:Int)<wt.size:=by omega
    have hB:B=true:=HA.out.2 fun i h3=>Hk.out i h3 h3
    subst hB
    have g3:(0:Int)≤(n:Int):=by omega
    have g4:(n:Int)≤(st.size:Int):=by omega
    clear Hk HA HU
    go_wp2
    go_ret2
    exact⟨rfl,F⟩
end Go.Proofs.YtclkgoigmgkffaaGreatDoor
