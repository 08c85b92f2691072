/-
  Texts Ae.
-/
import Derived.Test.YtclkgoigmgkffaaGreatDoorM40
set_option linter.unusedSimpArgs false
set_option linter.unusedVariables false
set_option maxRecDepth 100000
set_option maxHeartbeats 40000000
namespace Go.Proofs.YtclkgoigmgkffaaGreatDoor
open Go.RowKit
open Wire Flow Mach
def tag0 (n:Nat):Nat→Nat:=fun k=>if k<n then 7 else if k=n then 0 else 6
def c0P (ms:Value):Nat→Value:=fun i=>if i=0 then ms else if i=1∨i=2 then .string ⟨#[]⟩ else if i=6 then .int .i64 0 else .slice none 0 0
theorem hst_start (w0:World) (ms:Value):Hst w0 (w0.alloc (Obj.cells #[ms,.string ⟨#[]⟩,.string ⟨#[]⟩,.slice none 0 0,.slice none 0 0,.slice none 0 0,.int .i64 0,.slice none 0 0,.slice none 0 0,.slice none 0 0,.slice none 0 0,.slice none 0 0,.slice none 0 0,.slice none 0 0,.slice none 0 0] 58)) w0.heap.size (tag0 w0.heap.size) (c0P ms) ms ⟨#[]⟩ (fun _=>0) (fun _=>[]) [] []:=by
 have k1:=World.alloc_heap_new w0 (.cells #[ms,.string ⟨#[]⟩,.string ⟨#[]⟩,.slice none 0 0,.slice none 0 0,.slice none 0 0,.int .i64 0,.slice none 0 0,.slice none 0 0,.slice none 0 0,.slice none 0 0,.slice none 0 0,.slice none 0 0,.slice none 0 0,.slice none 0 0] 58)
 have F1:Fr [] w0 (w0.alloc (Obj.cells #[ms,.string ⟨#[]⟩,.string ⟨#[]⟩,.slice none 0 0,.slice none 0 0,.slice none 0 0,.int .i64 0,.slice none 0 0,.slice none 0 0,.slice none 0 0,.slice none 0 0,.slice none 0 0,.slice none 0 0,.slice none 0 0,.slice none 0 0] 58)):=(Fr.refl [] w0).alloc _
 obtain⟨W1,hW1⟩:∃ W1,w0.alloc (.cells #[ms,.string ⟨#[]⟩,.string ⟨#[]⟩,.slice none 0 0,.slice none 0 0,.slice none 0 0,.int .i64 0,.slice none 0 0,.slice none 0 0,.slice none 0 0,.slice none 0 0,.slice none 0 0,.slice none 0 0,.slice none 0 0,.slice none 0 0] 58)=W1:=⟨_,rfl⟩
 rw[hW1] at k1 F1 ⊢
 have ce:∀ i,W1.cell? ⟨w0.heap.size,i,none⟩=(#[ms,.string ⟨#[]⟩,.string ⟨#[]⟩,.slice none 0 0,.slice none 0 0,.slice none 0 0,.int .i64 0,.slice none 0 0,.slice none 0 0,.slice none 0 0,.slice none 0 0,.slice none 0 0,.slice none 0 0,.slice none 0 0,.slice none 0 0]:Array Value)[i]?:=fun i=>by unfold World.cell?;rw[k1];simp
 refine⟨⟨⟨F1,fun k hk=>by simp[tag0,hk],Nat.le_refl _,by simp[tag0],fun i hi=>?_,fun i hi=>by unfold World.frozen?;rw[k1];simp⟩,rfl,rfl,rfl,rfl,fun i hi=>?_,⟨rfl,rfl⟩,⟨rfl,rfl⟩,fun x hx=>(by cases hx),fun x hx=>(by cases hx),by decide⟩,⟨rfl,fun i v u _ h=>(by cases h)⟩,⟨rfl,fun i v u _ h=>(by cases h)⟩⟩
 ·rw[ce]
  match i,hi with
  | 0,_=>rfl
  | 1,_=>rfl
  | 2,_=>rfl
  | 3,_=>rfl
  | 4,_=>rfl
  | 5,_=>rfl
  | 6,_=>rfl
  | 7,_=>rfl
  | 8,_=>rfl
  | 9,_=>rfl
  | 10,_=>rfl
  | 11,_=>rfl
  | 12,_=>rfl
  | 13,_=>rfl
  | 14,_=>rfl
  | i+15,h=>omega
 ·have:c0P ms i=.slice none 0 0:=by
   unfold isR at hi
   unfold c0P
   rw[if_neg (by omega),if_neg (by omega),if_neg (by omega)]
  rw[this]
  exact RowT.nil _ _ _ _ _ _
def PlD (w0 W:World) (b:Nat) (ms:Value) (T:Nat):Prop:=∃ tag,PlS w0 W b tag ms T
theorem PlD.fr {w0 W:World}{b:Nat}{ms:Value}{T:Nat} (h:PlD w0 W b ms T):Fr [] w0 W:=by
 obtain⟨tag,h⟩:=h
 exact h.low
theorem PlD.frm {w0 W W':World}{b:Nat}{ms:Value}{T:Nat} (h:PlD w0 W b ms T) (hf:Fr [] W W'):PlD w0 W' b ms T:=by
 obtain⟨tag,h⟩:=h
 exact⟨tag,h.fr hf⟩
theorem PlD.more {w0 W:World}{b:Nat}{ms:Value}{T T':Nat} (h:PlD w0 W b ms T) (hT:T≤T'):PlD w0 W b ms T':=by
 obtain⟨tag,h⟩:=h
 exact⟨tag,h.more hT⟩
theorem settle_pld (w0 W:World) (b:Nat) (ms:Value) (T:Nat) (P:PlD w0 W b ms T) (hp:PowTab w0) (hT:T≤50000000) :
  Calls Tryz.prog 17 #[.pointer (some ⟨b,0,none⟩)] W fun e W'=>e=.returned (.bool true)∧PlD w0 W' b ms T:=by
 obtain⟨tag,c,bs,N,X,bk,fk,H,h3,h4,h5⟩:=P
 refine (settleP_any w0 W b tag c ms bs N X bk fk H.I H.t H.f hp (by omega)).mono ?_
 rintro e W' ⟨he,tag',c',N',X',bk',fk',I',x1,x2,x3,x4,l1,l2,n3,n4⟩
 refine⟨he,tag',c',bs,N',X',bk',fk',⟨I',?_,?_⟩,by omega,by omega,?_⟩
 ·rw[x1,x2];exact⟨rfl,fun i v u _ h=>(by cases h)⟩
 ·rw[x3,x4];exact⟨rfl,fun i v u _ h=>(by cases h)⟩
 ·rw[x1,x3,l1,l2];simp;omega
theorem looks_pld (w0 W:World) (b:Nat) (ms:Value) (T:Nat) (P:PlD w0 W b ms T) (hT:T≤50000000) :
  Calls Tryz.prog 18 #[.pointer (some ⟨b,0,none⟩)] W fun e W'=>e=.returned (.bool true)∧PlD w0 W' b ms T:=by
 obtain⟨tag,c,bs,N,X,bk,fk,H,h3,h4,h5⟩:=P
 refine (looksP_any w0 W b tag c ms bs N X bk fk H.I (by omega) (by omega)).mono ?_
 rintro e W' ⟨he,hf⟩
 exact⟨he,tag,c,bs,N,X,bk,fk,H.fr hf,h3,h4,h5⟩
def HeadP (W:World) (g:Nat):Prop:=∀ i,i<11→∃ (k a b':Int) (s t u:ByteArray),OpC W g (i*6) k a b' s t u∧(k<8→k=1)∧k≠12∧s.size≤9223372036854775807
theorem HeadP.blk {W W':World}{g:Nat} (h:HeadP W g) (hb:W'.heap[g]?=W.heap[g]?):HeadP W' g:=fun i hi=>by
 obtain⟨k,a,b',s,t,u,h1,h2⟩:=h i hi
 exact⟨k,a,b',s,t,u,h1.blk hb,h2⟩
theorem headP_opens {W:World}{g:Nat}{f5:ByteArray} (h:W.heap[g]?=some (.cells (opens f5) 61)) (hf:f5.size≤9223372036854775807):HeadP W g:=by
 intro i hi
 obtain rfl | rfl | rfl | rfl | rfl | rfl | rfl | rfl | rfl | rfl | rfl:i=0∨i=1∨i=2∨i=3∨i=4∨i=5∨i=6∨i=7∨i=8∨i=9∨i=10:=by omega
 ·exact⟨_,_,_,_,_,_,opens_op h 0 rfl rfl rfl rfl rfl rfl,by decide,by decide,by decide⟩
 ·exact⟨_,_,_,_,_,_,opens_op h 6 rfl rfl rfl rfl rfl rfl,by decide,by decide,by decide⟩
 ·exact⟨_,_,_,_,_,_,opens_op h 12 rfl rfl rfl rfl rfl rfl,by decide,by decide,by decide⟩
 ·exact⟨_,_,_,_,_,_,opens_op h 18 rfl rfl rfl rfl rfl rfl,by decide,by decide,by decide⟩
 ·exact⟨_,_,_,_,_,_,opens_op h 24 rfl rfl rfl rfl rfl rfl,by decide,by decide,hf⟩
 ·exact⟨_,_,_,_,_,_,opens_op h 30 rfl rfl rfl rfl rfl rfl,by decide,by decide,by decide⟩
 ·exact⟨_,_,_,_,_,_,opens_op h 36 rfl rfl rfl rfl rfl rfl,by decide,by decide,by decide⟩
 ·exact⟨_,_,_,_,_,_,opens_op h 42 rfl rfl rfl rfl rfl rfl,by decide,by decide,by decide⟩
 ·exact⟨_,_,_,_,_,_,opens_op h 48 rfl rfl rfl rfl rfl rfl,by decide,by decide,by decide⟩
 ·exact⟨_,_,_,_,_,_,opens_op h 54 rfl rfl rfl rfl rfl rfl,by decide,by decide,by decide⟩
 ·exact⟨_,_,_,_,_,_,opens_op h 60 rfl rfl rfl rfl rfl rfl,by decide,by decide,by decide⟩
structure OpQ (k a b':Int) (s:ByteArray):Prop where
 a0:-9223372036854775808≤a
 a1:a≤9223372036854775807
 b0:-9223372036854775808≤b'
 b1:b'≤9223372036854775807
 s:s.size≤9223372036854775807
def OpsP (W:World) (g off n:Nat):Prop:=∀ i,i<n→∃ (k a b':Int) (s t u:ByteArray),OpC W g (off+i*6) k a b' s t u∧OpQ k a b' s
theorem playsP_any (ma:Option Addr) (mn mc:Nat) (a0:Option Addr) (n cap g off:Nat) (w0:World) (hM:MsI w0 (.slice ma mn mc)) (hTab:Tab w0) (hPow:PowTab w0) (hn:n≤2000000) (ha:0<n→a0=some ⟨g,off,none⟩∧g<w0.heap.size) (hops:OpsP w0 g off n) (hc:n≤cap) :
  Calls Tryz.prog 7 #[.slice ma mn mc,.slice a0 n cap,.int .i64 12,.int .i64 13] w0 fun e W'=>e=.returned (.bool true)∧Fr [] w0 W':=by
 have HS:Hid _:=hst_start w0 (.slice ma mn mc)
 have Ha:Hid _:=ha
 have Hops:Hid (OpsP w0 g off n):=hops
 have HM:Hid (MsI w0 (.slice ma mn mc)):=hM
 have HT:Hid _:=And.intro hTab hPow
 have hsz:(w0.alloc (Obj.cells #[.slice ma mn mc,.string ⟨#[]⟩,.string ⟨#[]⟩,.slice none 0 0,.slice none 0 0,.slice none 0 0,.int .i64 0,.slice none 0 0,.slice none 0 0,.slice none 0 0,.slice none 0 0,.slice none 0 0,.slice none 0 0,.slice none 0 0,.slice none 0 0] 58)).heap.size=w0.heap.size+1:=by simp
 have Hsz:Hid _:=hsz
 clear ha hops hTab hPow hM hsz
 go_enter Tryz.func7,Tryz.ntmps7
 go_wp2_with fail
 refine (openingC_any _).mono ?_
 rintro e W2 ⟨f5,g1,hf5,rfl,hg1,hh,f2⟩
 rw[Hsz.out] at hg1
 have hg2:g1<W2.heap.size:=(Array.getElem?_eq_some_iff.1 hh).1
 have S2:Hid (PlS w0 W2 w0.heap.size (tag0 w0.heap.size) (.slice ma mn mc) 0):=⟨_,_,_,_,_,_,HS.out.fr f2,Nat.zero_le _,Nat.zero_le _,Nat.zero_le _⟩
 have Hh:Hid _:=headP_opens hh hf5
 have h6:Hid (tag0 w0.heap.size g1=6):=by
  have h:tag0 w0.heap.size g1=6:=by unfold tag0;rw[if_neg (by omega),if_neg (by omega)]
  exact h
 clear HS f2 hh hg1 hf5 Hsz
 go_wp2
 go_loopw [11] (fun i wr=>∃ (k:Nat) (tag:Nat→Nat),k≤11∧i=.int .i64 k∧Hid (PlS w0 wr w0.heap.size tag (.slice ma mn mc) k)∧Hid (HeadP wr g1)∧g1<wr.heap.size∧Hid (tag g1=6)) (fun i _=>11-(intOf i).toNat)
 case atStart=>exact⟨0,_,by omega,rfl,S2,Hh,hg2,h6⟩
 case round=>
  clear S2 Hh hg2 h6
  obtain⟨k,tag,hk,rfl,I,H,hgl,ht6⟩:=hrel
  by_cases hlt:k<11
  ·have q1:(k:Int)<11:=by omega
   obtain⟨ok,oa,ob,os,ot,ou,h1,h3,h12,h4⟩:=H.out k hlt
   have e0:wr.cell? ⟨g1,k*6,none⟩=some (.int .i64 ok):=h1.k
   have e1:wr.cell? ⟨g1,k*6+1,none⟩=some (.int .i64 oa):=h1.a
   have e2:wr.cell? ⟨g1,k*6+2,none⟩=some (.int .i64 ob):=h1.b
   have e3:wr.cell? ⟨g1,k*6+3,none⟩=some (.string os):=h1.s
   have e4:wr.cell? ⟨g1,k*6+4,none⟩=some (.string ot):=h1.t
   have e5:wr.cell? ⟨g1,k*6+5,none⟩=some (.string ou):=h1.u
   clear h1
   by_cases h8:ok<8
   ·obtain rfl:ok=1:=h3 h8
    have hs:=stepP_bytes w0 wr w0.heap.size tag (.slice ma mn mc) k oa ob os ot ou I.out h4
    unfold opV at hs
    clear h3 h4 h8 h12
    go_wp2_with fail
    refine hs.mono ?_
    rintro e W3 ⟨rfl,tag',P3,hc3,hr3⟩
    have H3:Hid (HeadP W3 g1):=H.out.blk (hc3.block g1 hgl (by rw[ht6.out];simp))
    have hg3:=Nat.lt_of_lt_of_le hgl hc3.size
    have h63:Hid (tag' g1=6):=(hr3 g1 hgl).trans ht6.out
    have I3:Hid _:=P3
    clear hc3 hr3 P3 hs e0 e1 e2 e3 e4 e5 I H ht6
    go_wp2
    exact⟨⟨k+1,tag',by omega,by go_num,I3,H3,hg3,h63⟩,by simp[intOf];omega⟩
   ·have q8:¬ (ok<8):=h8
    by_cases h13:ok=13
    ·subst h13
     have hs:=stepP_unpack w0 wr w0.heap.size tag (.slice ma mn mc) k oa ob os ot ou I.out HT.out.1 (by omega)
     unfold opV at hs
     clear h3 h4 h8 h12 q8
     go_wp2_with fail
     refine hs.mono ?_
     rintro e W3 ⟨rfl,tag',P3,hc3,hr3⟩
     have H3:Hid (HeadP W3 g1):=H.out.blk (hc3.block g1 hgl (by rw[ht6.out];simp))
     have hg3:=Nat.lt_of_lt_of_le hgl hc3.size
     have h63:Hid (tag' g1=6):=(hr3 g1 hgl).trans ht6.out
     have I3:Hid _:=P3
     clear hc3 hr3 P3 hs e0 e1 e2 e3 e4 e5 I H ht6
     go_wp2
     exact⟨⟨k+1,tag',by omega,by go_num,I3,H3,hg3,h63⟩,by simp[intOf];omega⟩
    ·have Im:Hid _:=I.out.more (T':=k+1) (by omega)
     by_cases h15:ok<12
     ·have q9:¬ ((12:Int)≤ok):=by omega
      clear h3 h4 h8 h13 h15 h12 I
      go_wp2
      exact⟨⟨k+1,tag,by omega,by go_num,Im,H,hgl,ht6⟩,by simp[intOf];omega⟩
     ·have q9:(12:Int)≤ok:=by omega
      have q10:¬ (ok≤13):=by omega
      clear h3 h4 h8 h13 h15 h12 I
      go_wp2
      exact⟨⟨k+1,tag,by omega,by go_num,Im,H,hgl,ht6⟩,by simp[intOf];omega⟩
  ·have q1:¬ ((k:Int)<11):=by omega
   have P:Hid (PlD w0 wr w0.heap.size (.slice ma mn mc) (11+0)):=⟨tag,I.out.more (by omega)⟩
   clear I H hgl ht6 hk hlt
   go_wp2
   go_loopw [13] (fun i wr=>∃ k:Nat,k≤n∧i=.int .i64 k∧Hid (PlD w0 wr w0.heap.size (.slice ma mn mc) (11+k))) (fun i _=>n-(intOf i).toNat)
   case atStart=>exact⟨0,by omega,rfl,P⟩
   case round=>
    clear P q1
    obtain⟨k,hk,rfl,P⟩:=hrel
    by_cases hlt:k<n
    ·have q1:(k:Int)<n:=by omega
     have q2:(k:Int)<1152921504606846976:=by omega
     obtain⟨rfl,hgl⟩:=Ha.out (by omega)
     obtain⟨ok,oa,ob,os,ot,ou,h0,h2⟩:=Hops.out k hlt
     have h1:=h0.blk (P.out.fr.block g hgl (by simp))
     have e0:wr.cell? ⟨g,off+k*6,none⟩=some (.int .i64 ok):=h1.k
     have e1:wr.cell? ⟨g,off+k*6+1,none⟩=some (.int .i64 oa):=h1.a
     have e2:wr.cell? ⟨g,off+k*6+2,none⟩=some (.int .i64 ob):=h1.b
     have e3:wr.cell? ⟨g,off+k*6+3,none⟩=some (.string os):=h1.s
     have e4:wr.cell? ⟨g,off+k*6+4,none⟩=some (.string ot):=h1.t
     have e5:wr.cell? ⟨g,off+k*6+5,none⟩=some (.string ou):=h1.u
     have Hok:Hid _:=h2
     clear h0 h1 h2 hgl
     by_cases h14:ok<8∨ok=12∨ok=13
     ·obtain⟨tag,P0⟩:=P.out
      have hs:=stepP_any w0 _ w0.heap.size tag (.slice ma mn mc) (11+k) ok oa ob os ot ou (P0.fr ((Fr.refl [] wr).alloc (Obj.cells #[.int .i64 ok,.int .i64 oa,.int .i64 ob,.string os,.string ot,.string ou] 61))) HM.out HT.out.1 (by omega) h14 Hok.out.s Hok.out.a0 Hok.out.a1 Hok.out.b0 Hok.out.b1
      unfold opV at hs
      have Hs:Hid _:=fun (_:Unit)=>hs
      clear P hs P0
      rcases h14 with h8 | rfl | rfl
      ·have q8:¬ ((8:Int)≤ok):=by omega
       go_wp2_with fail
       refine (Hs.out ()).mono ?_
       rintro e W3 ⟨rfl,tag',P3,-,-⟩
       have HP3:Hid (PlD w0 W3 w0.heap.size (.slice ma mn mc) (12+k)):=⟨tag',by rw[show 12+k=11+k+1 by omega];exact P3⟩
       clear Hs P3 e0 e1 e2 e3 e4 e5 Hok
       by_cases h3:k % 3=2
       ·have q3:(k:Int).tmod 3=2:=by rw[Int.tmod_eq_emod_of_nonneg (by omega)];omega
        have hs2:=settle_pld w0 W3 w0.heap.size (.slice ma mn mc) (12+k) HP3.out HT.out.2 (by omega)
        clear h3
        go_wp2_with fail
        refine hs2.mono ?_
        rintro e W4 ⟨rfl,P4⟩
        have hs3:=looks_pld w0 W4 w0.heap.size (.slice ma mn mc) (12+k) P4 (by omega)
        clear hs2 P4 HP3
        go_wp2_with fail
        refine hs3.mono ?_
        rintro e W5 ⟨rfl,P5⟩
        have HP5:Hid (PlD w0 W5 w0.heap.size (.slice ma mn mc) (11+(k+1))):=by rw[show 11+(k+1)=12+k by omega];exact P5
        clear hs3 P5
        go_wp2
        exact⟨⟨k+1,by omega,by go_num,HP5⟩,by simp[intOf];omega⟩
       ·obtain⟨r,hr⟩:∃ r:Nat,r=k % 3:=⟨_,rfl⟩
        have q3:(k:Int).tmod 3=r:=by rw[Int.tmod_eq_emod_of_nonneg (by omega)];omega
        have q4:((r:Int)==2)=false:=by simp;omega
        have q5:r<3:=by omega
        clear hr
        have hs3:=looks_pld w0 W3 w0.heap.size (.slice ma mn mc) (12+k) HP3.out (by omega)
        clear h3 HP3
        go_wp2_with fail
        refine hs3.mono ?_
        rintro e W5 ⟨rfl,P5⟩
        have HP5:Hid (PlD w0 W5 w0.heap.size (.slice ma mn mc) (11+(k+1))):=by rw[show 11+(k+1)=12+k by omega];exact P5
        clear hs3 P5
        go_wp2
        exact⟨⟨k+1,by omega,by go_num,HP5⟩,by simp[intOf];omega⟩
      ·skip
       go_wp2_with fail
       refine (Hs.out ()).mono ?_
       rintro e W3 ⟨rfl,tag',P3,-,-⟩
       have HP3:Hid (PlD w0 W3 w0.heap.size (.slice ma mn mc) (12+k)):=⟨tag',by rw[show 12+k=11+k+1 by omega];exact P3⟩
       clear Hs P3 e0 e1 e2 e3 e4 e5 Hok
       by_cases h3:k % 3=2
       ·have q3:(k:Int).tmod 3=2:=by rw[Int.tmod_eq_emod_of_nonneg (by omega)];omega
        have hs2:=settle_pld w0 W3 w0.heap.size (.slice ma mn mc) (12+k) HP3.out HT.out.2 (by omega)
        clear h3
        go_wp2_with fail
        refine hs2.mono ?_
        rintro e W4 ⟨rfl,P4⟩
        have hs3:=looks_pld w0 W4 w0.heap.size (.slice ma mn mc) (12+k) P4 (by omega)
        clear hs2 P4 HP3
        go_wp2_with fail
        refine hs3.mono ?_
        rintro e W5 ⟨rfl,P5⟩
        have HP5:Hid (PlD w0 W5 w0.heap.size (.slice ma mn mc) (11+(k+1))):=by rw[show 11+(k+1)=12+k by omega];exact P5
        clear hs3 P5
        go_wp2
        exact⟨⟨k+1,by omega,by go_num,HP5⟩,by simp[intOf];omega⟩
       ·obtain⟨r,hr⟩:∃ r:Nat,r=k % 3:=⟨_,rfl⟩
        have q3:(k:Int).tmod 3=r:=by rw[Int.tmod_eq_emod_of_nonneg (by omega)];omega
        have q4:((r:Int)==2)=false:=by simp;omega
        have q5:r<3:=by omega
        clear hr
        have hs3:=looks_pld w0 W3 w0.heap.size (.slice ma mn mc) (12+k) HP3.out (by omega)
        clear h3 HP3
        go_wp2_with fail
        refine hs3.mono ?_
        rintro e W5 ⟨rfl,P5⟩
        have HP5:Hid (PlD w0 W5 w0.heap.size (.slice ma mn mc) (11+(k+1))):=by rw[show 11+(k+1)=12+k by omega];exact P5
        clear hs3 P5
        go_wp2
        exact⟨⟨k+1,by omega,by go_num,HP5⟩,by simp[intOf];omega⟩
      ·skip
       go_wp2_with fail
       refine (Hs.out ()).mono ?_
       rintro e W3 ⟨rfl,tag',P3,-,-⟩
       have HP3:Hid (PlD w0 W3 w0.heap.size (.slice ma mn mc) (12+k)):=⟨tag',by rw[show 12+k=11+k+1 by omega];exact P3⟩
       clear Hs P3 e0 e1 e2 e3 e4 e5 Hok
       by_cases h3:k % 3=2
       ·have q3:(k:Int).tmod 3=2:=by rw[Int.tmod_eq_emod_of_nonneg (by omega)];omega
        have hs2:=settle_pld w0 W3 w0.heap.size (.slice ma mn mc) (12+k) HP3.out HT.out.2 (by omega)
        clear h3
        go_wp2_with fail
        refine hs2.mono ?_
        rintro e W4 ⟨rfl,P4⟩
        have hs3:=looks_pld w0 W4 w0.heap.size (.slice ma mn mc) (12+k) P4 (by omega)
        clear hs2 P4 HP3
        go_wp2_with fail
        refine hs3.mono ?_
        rintro e W5 ⟨rfl,P5⟩
        have HP5:Hid (PlD w0 W5 w0.heap.size (.slice ma mn mc) (11+(k+1))):=by rw[show 11+(k+1)=12+k by omega];exact P5
        clear hs3 P5
        go_wp2
        exact⟨⟨k+1,by omega,by go_num,HP5⟩,by simp[intOf];omega⟩
       ·obtain⟨r,hr⟩:∃ r:Nat,r=k % 3:=⟨_,rfl⟩
        have q3:(k:Int).tmod 3=r:=by rw[Int.tmod_eq_emod_of_nonneg (by omega)];omega
        have q4:((r:Int)==2)=false:=by simp;omega
        have q5:r<3:=by omega
        clear hr
        have hs3:=looks_pld w0 W3 w0.heap.size (.slice ma mn mc) (12+k) HP3.out (by omega)
        clear h3 HP3
        go_wp2_with fail
        refine hs3.mono ?_
        rintro e W5 ⟨rfl,P5⟩
        have HP5:Hid (PlD w0 W5 w0.heap.size (.slice ma mn mc) (11+(k+1))):=by rw[show 11+(k+1)=12+k by omega];exact P5
        clear hs3 P5
        go_wp2
        exact⟨⟨k+1,by omega,by go_num,HP5⟩,by simp[intOf];omega⟩
     ·have q8:(8:Int)≤ok:=by omega
      have HP1:Hid _:=fun o=>(P.out.frm ((Fr.refl [] wr).alloc o)).more (T':=11+(k+1)) (by omega)
      clear Hok P
      by_cases h15:ok<12
      ·clear h14
       go_wp2
       exact⟨⟨k+1,by omega,by go_num,HP1.out _⟩,by simp[intOf];omega⟩
      ·have q10:¬ (ok<12):=h15
       have q11:(13:Int)<ok:=by omega
       clear h14
       go_wp2
       exact⟨⟨k+1,by omega,by go_num,HP1.out _⟩,by simp[intOf];omega⟩
    ·have q1:¬ ((k:Int)<n):=by omega
     have hs:=settle_pld w0 wr w0.heap.size (.slice ma mn mc) (11+k) P.out HT.out.2 (by omega)
     clear hlt
     go_wp2_with fail
     refine hs.mono ?_
     rintro e W4 ⟨rfl,P4⟩
     have hs2:=looks_pld w0 W4 w0.heap.size (.slice ma mn mc) (11+k) P4 (by omega)
     clear hs P4
     go_wp2_with fail
     refine hs2.mono ?_
     rintro e W5 ⟨rfl,P5⟩
     have f5:Hid _:=P5.fr
     clear hs2 P5
     go_wp2
     go_ret
     exact⟨rfl,f5.out⟩
theorem packs_any (ma:Option Addr) (mn mc:Nat) (a0:Option Addr) (n cap g off:Nat) (w0:World) (hM:MsI w0 (.slice ma mn mc)) (hTab:Tab w0) (hPow:PowTab w0) (hn:n≤2000000) (ha:0<n→a0=some ⟨g,off,none⟩∧g<w0.heap.size) (hops:OpsP w0 g off n) (hc:n≤cap) :
  Calls Tryz.prog 4 #[.slice ma mn mc,.slice a0 n cap] w0 fun e W'=>e=.returned (.bool true)∧Fr [] w0 W':=by
 have H:Hid _:=fun (_:Unit)=>playsP_any ma mn mc a0 n cap g off w0 hM hTab hPow hn ha hops hc
 clear hTab hPow ha hops hM
 go_enter Tryz.func4,Tryz.ntmps4
 go_wp2_with fail
 refine (H.out ()).mono ?_
 rintro e W1 ⟨rfl,f⟩
 go_wp2
 go_ret
 exact⟨rfl,f⟩
end Go.Proofs.YtclkgoigmgkffaaGreatDoor
