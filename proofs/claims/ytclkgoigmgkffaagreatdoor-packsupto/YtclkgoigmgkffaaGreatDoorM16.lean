/-
  Texts No Nj Nk.
-/
import Derived.Test.YtclkgoigmgkffaaGreatDoorM15
set_option linter.unusedSimpArgs false
set_option linter.unusedVariables false
set_option maxRecDepth 100000
set_option maxHeartbeats 40000000
namespace Go.Proofs.YtclkgoigmgkffaaGreatDoor
open Go.RowKit
open Wire
def sumR (l:List UInt8) (m:Mo):Rd Mo:=fun base c=>if c=sum3 (l.take (base-c.length)) then .inr (m,c) else .inl (8,base-c.length)
def restR (ip:ByteArray→Bool) (l:List UInt8):Rd Mo:=fun base c0=>
 bnd (sectR 1 base (listR (fun _=>true) 100) c0) fun a=>(fun (xa:List ByteArray)=>(fun base c1=>
 bnd (sectR 2 base (listR ip 50) c1) fun p=>(fun (xb:List ByteArray)=>(fun base c2=>
 bnd (sectR 3 base (numberR 0 1000) c2) fun c=>(fun (xc:Nat)=>(fun base c3=>
 bnd (sectR 4 base (numberR 0 1000) c3) fun d=>(fun (xd:Nat)=>(fun base c4=>
 bnd (sectR 5 base fnListR c4) fun e=>(fun (xe:List Wire.Fn)=>sumR l ⟨xa,xb,(xc:Int),(xd:Int),xe⟩) e.1 base e.2:Rd Mo)) d.1 base d.2:Rd Mo)) c.1 base c.2:Rd Mo)) p.1 base p.2:Rd Mo)) a.1 base a.2
theorem unpackR_rest (ip:ByteArray→Bool) (l l0:List UInt8) (h:headR l=.inr l0):unpackR ip l=bnd (restR ip l l.length l0) fun p=>.inr p.1:=by
 unfold unpackR restR
 rw[h]
 simp only[bnd]
 cases sectR 1 l.length (listR (fun _=>true) 100) l0 with
 | inl f=>rfl
 | inr a=>
  simp only
  cases sectR 2 l.length (listR ip 50) a.2 with
  | inl f=>rfl
  | inr p=>
   simp only
   cases sectR 3 l.length (numberR 0 1000) p.2 with
   | inl f=>rfl
   | inr c=>
    simp only
    cases sectR 4 l.length (numberR 0 1000) c.2 with
    | inl f=>rfl
    | inr d=>
     simp only
     cases sectR 5 l.length fnListR d.2 with
     | inl f=>rfl
     | inr e=>
      simp only[sumR]
      split <;> rfl
theorem head_next (b:ByteArray) {s1 s2 s3:Sta} (k1:nextR (needR 71 5) (bl b) (.inr (0,b.size))=s1) (k2:nextR (needR 76 5) (bl b) s1=s2) (k3:nextR (needR 1 5) (bl b) s2=s3) :
  (∃ f,headR (bl b)=.inl f∧s3=.inl f)∨∃ l0,headR (bl b)=.inr l0∧s3=.inr (b.size-l0.length,b.size)∧seg (bl b) (b.size-l0.length) b.size=l0∧l0.length≤b.size:=by
 have hL:=bl_length b
 have h0:seg (bl b) 0 b.size=bl b:=by unfold seg;rw[← hL,List.take_length];rfl
 have sf:=fun (p r:List UInt8) (e:bl b=p++r)=>seg_suffix (l:=bl b) (a:=0) (e:=b.size) (p:=p) (r:=r) (by rw[h0];exact e) (Nat.zero_le _) (by omega)
 cases hb:bl b with
 | nil=>
  have n1:needR 71 5 b.size (seg (bl b) 0 b.size)=.inl (5,b.size):=by rw[h0,hb];rfl
  have hz:b.size=0:=by rw[← hL,hb];rfl
  rw[nextR_inl n1] at k1
  subst k1
  have e2:s2=.inl (5,b.size):=k2.symm
  subst e2
  have e3:s3=.inl (5,b.size):=k3.symm
  exact .inl ⟨(5,0),rfl,by rw[e3,hz]⟩
 | cons x t=>
  have hxl:b.size=t.length+1:=by rw[← hL,hb];rfl
  by_cases hx:x=71
  ·have n1:needR 71 5 b.size (seg (bl b) 0 b.size)=.inr ((),t):=by rw[h0,hb];simp only[needR,if_pos hx]
   rw[nextR_inr n1] at k1
   obtain⟨g1,g2,g3⟩:=sf [x] t hb
   subst k1
   cases ht:t with
   | nil=>
    have n2:needR 76 5 b.size (seg (bl b) (b.size-t.length) b.size)=.inl (5,b.size):=by rw[g1,ht];rfl
    rw[nextR_inl n2] at k2
    subst k2
    have e3:s3=.inl (5,b.size):=k3.symm
    refine .inl ⟨(5,1),by simp[headR,hx],?_⟩
    rw[e3,hxl,ht]
    rfl
   | cons y u=>
    have htl:t.length=u.length+1:=by rw[ht];rfl
    by_cases hy:y=76
    ·have n2:needR 76 5 b.size (seg (bl b) (b.size-t.length) b.size)=.inr ((),u):=by rw[g1,ht];simp only[needR,if_pos hy]
     rw[nextR_inr n2] at k2
     obtain⟨g4,g5,g6⟩:=sf [x,y] u (by rw[hb,ht];rfl)
     subst k2
     cases hu:u with
     | nil=>
      have n3:needR 1 5 b.size (seg (bl b) (b.size-u.length) b.size)=.inl (5,b.size):=by rw[g4,hu];rfl
      rw[nextR_inl n3] at k3
      refine .inl ⟨(5,2),by simp[headR,hx,hy],?_⟩
      rw[← k3,hxl,htl,hu]
      rfl
     | cons z v=>
      have hul:u.length=v.length+1:=by rw[hu];rfl
      by_cases hz:z=1
      ·have n3:needR 1 5 b.size (seg (bl b) (b.size-u.length) b.size)=.inr ((),v):=by rw[g4,hu];simp only[needR,if_pos hz]
       rw[nextR_inr n3] at k3
       obtain⟨g7,g8,g9⟩:=sf [x,y,z] v (by rw[hb,ht,hu];rfl)
       refine .inr ⟨v,by simp[headR,hx,hy,hz],k3.symm,?_,g9⟩
       rw[hb,ht,hu] at g7
       exact g7
      ·have n3:needR 1 5 b.size (seg (bl b) (b.size-u.length) b.size)=.inl (5,b.size-u.length):=by rw[g4,hu];simp only[needR,if_neg hz]
       rw[nextR_inl n3] at k3
       refine .inl ⟨(5,2),by simp[headR,hx,hy,hz],?_⟩
       rw[← k3]
       congr 2 <;> omega
    ·have n2:needR 76 5 b.size (seg (bl b) (b.size-t.length) b.size)=.inl (5,b.size-t.length):=by rw[g1,ht];simp only[needR,if_neg hy]
     rw[nextR_inl n2] at k2
     subst k2
     have e3:s3=.inl (5,b.size-t.length):=k3.symm
     refine .inl ⟨(5,1),by simp[headR,hx,hy],?_⟩
     rw[e3]
     congr 2 <;> omega
  ·have n1:needR 71 5 b.size (seg (bl b) 0 b.size)=.inl (5,b.size-(seg (bl b) 0 b.size).length):=by rw[h0,hb];simp only[needR,if_neg hx]
   rw[nextR_inl n1] at k1
   subst k1
   have e2:s2=.inl (5,b.size-(seg (bl b) 0 b.size).length):=k2.symm
   subst e2
   have e3:s3=.inl (5,b.size-(seg (bl b) 0 b.size).length):=k3.symm
   refine .inl ⟨(5,0),by simp[headR,hx],?_⟩
   rw[e3,h0,hL,Nat.sub_self]
theorem sum_next (b:ByteArray) (m d:Mo) {s:Sta} (hok:okSta (bl b) s) (hend:∀ p,s=.inr p→p.2=b.size) :
  (b.extract (stA b.size s) b.size=mkB (sum3 (bl (b.extract 0 (stA b.size s))))→nextR (sumR (bl b) m) (bl b) s=s) ∧
  (b.extract (stA b.size s) b.size≠mkB (sum3 (bl (b.extract 0 (stA b.size s))))→nextR (sumR (bl b) m) (bl b) s=failS 8 (stA b.size s) s) ∧
  ((∃ p,nextR (sumR (bl b) m) (bl b) s=.inr p)→outR (sumR (bl b) m) (bl b) d s=m):=by
 have hL:=bl_length b
 rcases s with f | ⟨a,e⟩
 ·exact⟨fun _=>rfl,fun _=>rfl,fun ⟨p,hp⟩=>by cases hp⟩
 ·obtain⟨o1,o2⟩:=hok
  have he:e=b.size:=hend _ rfl
  subst he
  have e1:bl (b.extract 0 a)=(bl b).take (b.size-(seg (bl b) a b.size).length):=by
   rw[bl_extract,seg_length o2,show b.size-(b.size-a)=a by omega]
   rfl
  show (b.extract a b.size=mkB (sum3 (bl (b.extract 0 a)))→_)∧(b.extract a b.size≠mkB (sum3 (bl (b.extract 0 a)))→_)∧_
  rw[e1]
  by_cases hc:seg (bl b) a b.size=sum3 ((bl b).take (b.size-(seg (bl b) a b.size).length))
  ·have hs:sumR (bl b) m b.size (seg (bl b) a b.size)=.inr (m,seg (bl b) a b.size):=by simp only[sumR];rw[if_pos hc]
   have hx:b.extract a b.size=mkB (sum3 ((bl b).take (b.size-(seg (bl b) a b.size).length))):=by apply bl_inj;rw[bl_extract,bl_mkB];exact hc
   rw[nextR_inr hs,outR_inr hs]
   refine⟨fun _=>?_,fun h=>absurd hx h,fun _=>rfl⟩
   rw[seg_length o2,show b.size-(b.size-a)=a by omega]
  ·have hs:sumR (bl b) m b.size (seg (bl b) a b.size)=.inl (8,b.size-(seg (bl b) a b.size).length):=by simp only[sumR];rw[if_neg hc]
   rw[nextR_inl hs,outR_inl hs]
   refine⟨fun h=>absurd (by have:=congrArg bl h;rw[bl_extract,bl_mkB] at this;exact this) hc,fun _=>?_,fun ⟨p,hp⟩=>by cases hp⟩
   rw[seg_length o2,show b.size-(b.size-a)=a by omega]
   rfl
theorem sect_end {α:Type} (k:Nat) (f:Rd α) (b:ByteArray) {s:Sta} (hend:∀ p,s=.inr p→p.2=b.size):∀ p,nextR (fun base l=>sectR k base f l) (bl b) s=.inr p→p.2=b.size:=by
 intro p hp
 rcases s with g | ⟨a,e⟩
 ·cases hp
 ·have he:e=b.size:=hend _ rfl
  subst he
  cases hs:sectR k b.size f (seg (bl b) a b.size) with
  | inl g=>rw[nextR_inl (op:=fun base l=>sectR k base f l) hs] at hp;cases hp
  | inr q=>rw[nextR_inr (op:=fun base l=>sectR k base f l) (x:=q.1) (r:=q.2) hs] at hp;cases hp;rfl
theorem rest_next (ip:ByteArray→Bool) (b:ByteArray) (d:Mo) {s s1 s2 s3 s4 s5:Sta}{x1 x2:List ByteArray}{x3 x4:Nat}{x5:List Wire.Fn} (hok:okSta (bl b) s)
  (k1:nextR (fun base l=>sectR 1 base (listR (fun _=>true) 100) l) (bl b) s=s1) (h1:outR (fun base l=>sectR 1 base (listR (fun _=>true) 100) l) (bl b) [] s=x1)
  (k2:nextR (fun base l=>sectR 2 base (listR ip 50) l) (bl b) s1=s2) (h2:outR (fun base l=>sectR 2 base (listR ip 50) l) (bl b) [] s1=x2)
  (k3:nextR (fun base l=>sectR 3 base (numberR 0 1000) l) (bl b) s2=s3) (h3:outR (fun base l=>sectR 3 base (numberR 0 1000) l) (bl b) 0 s2=x3)
  (k4:nextR (fun base l=>sectR 4 base (numberR 0 1000) l) (bl b) s3=s4) (h4:outR (fun base l=>sectR 4 base (numberR 0 1000) l) (bl b) 0 s3=x4)
  (k5:nextR (fun base l=>sectR 5 base fnListR l) (bl b) s4=s5) (h5:outR (fun base l=>sectR 5 base fnListR l) (bl b) [] s4=x5) :
  okSta (bl b) s5∧nextR (restR ip (bl b)) (bl b) s=nextR (sumR (bl b) ⟨x1,x2,(x3:Int),(x4:Int),x5⟩) (bl b) s5∧outR (restR ip (bl b)) (bl b) d s=outR (sumR (bl b) ⟨x1,x2,(x3:Int),(x4:Int),x5⟩) (bl b) d s5:=by
 have t1:=sectR_tidy 1 (by omega) (listR_tidy (fun _=>true) 100)
 have t2:=sectR_tidy 2 (by omega) (listR_tidy ip 50)
 have t3:=sectR_tidy 3 (by omega) (numberR_tidy 0 1000)
 have t4:=sectR_tidy 4 (by omega) (numberR_tidy 0 1000)
 have t5:=sectR_tidy 5 (by omega) fnListR_tidy
 have ok1:okSta (bl b) s1:=k1 ▸ t1.next hok
 have ok2:okSta (bl b) s2:=k2 ▸ t2.next ok1
 have ok3:okSta (bl b) s3:=k3 ▸ t3.next ok2
 have ok4:okSta (bl b) s4:=k4 ▸ t4.next ok3
 have ok5:okSta (bl b) s5:=k5 ▸ t5.next ok4
 unfold restR
 obtain⟨a1,b1⟩:=comp_next (op1:=fun base l=>sectR 1 base (listR (fun _=>true) 100) l) (fun (xa:List ByteArray)=>(fun base c1=>
  bnd (sectR 2 base (listR ip 50) c1) fun p=>(fun (xb:List ByteArray)=>(fun base c2=>
  bnd (sectR 3 base (numberR 0 1000) c2) fun c=>(fun (xc:Nat)=>(fun base c3=>
  bnd (sectR 4 base (numberR 0 1000) c3) fun d=>(fun (xd:Nat)=>(fun base c4=>
  bnd (sectR 5 base fnListR c4) fun e=>(fun (xe:List Wire.Fn)=>sumR (bl b) ⟨xa,xb,(xc:Int),(xd:Int),xe⟩) e.1 base e.2:Rd Mo)) d.1 base d.2:Rd Mo)) c.1 base c.2:Rd Mo)) p.1 base p.2:Rd Mo)) t1 [] d hok
 rw[h1,k1] at a1 b1
 obtain⟨a2,b2⟩:=comp_next (op1:=fun base l=>sectR 2 base (listR ip 50) l) (fun (xb:List ByteArray)=>(fun base c2=>
  bnd (sectR 3 base (numberR 0 1000) c2) fun c=>(fun (xc:Nat)=>(fun base c3=>
  bnd (sectR 4 base (numberR 0 1000) c3) fun d=>(fun (xd:Nat)=>(fun base c4=>
  bnd (sectR 5 base fnListR c4) fun e=>(fun (xe:List Wire.Fn)=>sumR (bl b) ⟨x1,xb,(xc:Int),(xd:Int),xe⟩) e.1 base e.2:Rd Mo)) d.1 base d.2:Rd Mo)) c.1 base c.2:Rd Mo)) t2 [] d ok1
 rw[h2,k2] at a2 b2
 obtain⟨a3,b3⟩:=comp_next (op1:=fun base l=>sectR 3 base (numberR 0 1000) l) (fun (xc:Nat)=>(fun base c3=>
  bnd (sectR 4 base (numberR 0 1000) c3) fun d=>(fun (xd:Nat)=>(fun base c4=>
  bnd (sectR 5 base fnListR c4) fun e=>(fun (xe:List Wire.Fn)=>sumR (bl b) ⟨x1,x2,(xc:Int),(xd:Int),xe⟩) e.1 base e.2:Rd Mo)) d.1 base d.2:Rd Mo)) t3 0 d ok2
 rw[h3,k3] at a3 b3
 obtain⟨a4,b4⟩:=comp_next (op1:=fun base l=>sectR 4 base (numberR 0 1000) l) (fun (xd:Nat)=>(fun base c4=>
  bnd (sectR 5 base fnListR c4) fun e=>(fun (xe:List Wire.Fn)=>sumR (bl b) ⟨x1,x2,(x3:Int),(xd:Int),xe⟩) e.1 base e.2:Rd Mo)) t4 0 d ok3
 rw[h4,k4] at a4 b4
 obtain⟨a5,b5⟩:=comp_next (op1:=fun base l=>sectR 5 base fnListR l) (fun (xe:List Wire.Fn)=>sumR (bl b) ⟨x1,x2,(x3:Int),(x4:Int),xe⟩) t5 [] d ok4
 rw[h5,k5] at a5 b5
 exact⟨ok5,a1.trans (a2.trans (a3.trans (a4.trans a5))),b1.trans (b2.trans (b3.trans (b4.trans b5)))⟩
theorem good_back {α:Type}{op:Rd α}{l:List UInt8}{s:Sta} (h:∃ p,nextR op l s=.inr p):∃ p,s=.inr p:=by
 rcases s with f | p
 ·obtain⟨p,hp⟩:=h;cases hp
 ·exact⟨p,rfl⟩
theorem rest_unpack (ip:ByteArray→Bool) (b:ByteArray) (d:Mo) {s3:Sta}
  (hh:(∃ f,headR (bl b)=.inl f∧s3=.inl f)∨∃ l0,headR (bl b)=.inr l0∧s3=.inr (b.size-l0.length,b.size)∧seg (bl b) (b.size-l0.length) b.size=l0∧l0.length≤b.size) :
  (∃ f,unpackR ip (bl b)=.inl f∧nextR (restR ip (bl b)) (bl b) s3=.inl f)∨∃ p,unpackR ip (bl b)=.inr (outR (restR ip (bl b)) (bl b) d s3)∧nextR (restR ip (bl b)) (bl b) s3=.inr p:=by
 have hL:=bl_length b
 rcases hh with ⟨f,h1,rfl⟩ | ⟨l0,h1,rfl,h3,h4⟩
 ·exact .inl ⟨f,by unfold unpackR;rw[h1];rfl,rfl⟩
 ·rw[unpackR_rest ip (bl b) l0 h1,hL]
  cases hr:restR ip (bl b) b.size l0 with
  | inl f=>
   refine .inl ⟨f,rfl,?_⟩
   exact nextR_inl (by rw[h3];exact hr)
  | inr p=>
   obtain⟨m,c⟩:=p
   have hr2:restR ip (bl b) b.size (seg (bl b) (b.size-l0.length) b.size)=.inr (m,c):=by rw[h3];exact hr
   exact .inr ⟨_,by rw[outR_inr hr2];rfl,nextR_inr hr2⟩
theorem section62_any {α:Type}{w:World}{r:Nat}{b:ByteArray}{s:Sta} (k:Nat) {kI:Int} (hkI:kI=(k:Int)) (hk:k<256) (f:Rd α) (hf:Tidy f) (d:α) (rb mb:Nat) (I:World→Prop) (G:Option α→World→Prop)
  (hI:∀ W W',Fr [r] W W'→I W→I W') (hG:∀ o W W',Fr [r] W W'→G o W→G o W') (hN:∀ W,I W→G none W)
  (hc:∀ (W:World) (s:Sta),RdS W r b s→I W→Calls Tryz.prog 98 #[.pointer (some ⟨rb,0,none⟩),.pointer (some ⟨mb,0,none⟩)] W fun ee W'=>ee=.returned (.tuple #[])∧RdS W' r b (nextR f (bl b) s)∧(∃ o,G o W'∧((∃ p,nextR f (bl b) s=.inr p)→o=some (outR f (bl b) d s)))∧Fr [r,mb] W W')
  (h:RdS w r b s) (hs:b.size≤40000) (hend:∀ p,s=.inr p→p.2=b.size) (hIw:I w) :
  Calls Tryz.prog 97 #[.pointer (some ⟨r,0,none⟩),.int .u8 kI,.func (.func 98) #[] #[.pointer (some ⟨rb,0,none⟩),.pointer (some ⟨mb,0,none⟩)]] w fun ee w'=>
   ee=.returned (.tuple #[])∧RdS w' r b (nextR (fun base l=>sectR k base f l) (bl b) s)∧(∃ o,G o w'∧((∃ p,nextR (fun base l=>sectR k base f l) (bl b) s=.inr p)→o=some (outR (fun base l=>sectR k base f l) (bl b) d s)))∧Fr [r,mb] w w':=by
 have hm:Tryz.prog.follows Departure.mixedOrders=true:=by kernel_rfl
 subst hkI
 have hkc:(k:Int)=((UInt8.ofNat k).toNat:Int):=by simp[UInt8.toNat_ofNat];omega
 obtain⟨s1,k1⟩:∃ x,nextR (needR (UInt8.ofNat k) 7) (bl b) s=x:=⟨_,rfl⟩
 obtain⟨x,h2⟩:∃ x,outR numU (bl b) 0 s1=x:=⟨_,rfl⟩
 obtain⟨s2,k2⟩:∃ x,nextR numU (bl b) s1=x:=⟨_,rfl⟩
 obtain⟨p1,p2⟩:=sect_next k hk f hf d b h.ok hend k1 h2 k2
 have ok1:okSta (bl b) s1:=k1 ▸ (needR_tidy _ 7 (by omega) (by omega)).next h.ok
 have ok2:okSta (bl b) s2:=k2 ▸ numU_tidy.next ok1
 obtain⟨m1,m2⟩:=stA_le ok1
 obtain⟨n1,n2⟩:=stA_le ok2
 have hx:=numU_small b s1
 rw[h2] at hx
 have c1:=needU_any (no:=7) (nI:=7) hkc rfl h hs (by omega) (by omega)
 rw[k1] at c1
 have c2:=fun (W:World) (hW:RdS W r b s1)=>number_any hW hs
 simp only[h2,k2] at c2
 have C1:Hid _:=c1
 have C2:Hid _:=c2
 have HC:Hid _:=hc
 have Inc:∀ {W W':World},Fr [r] W W'→Fr [r,mb] W W':=fun f=>f.mono (by simp)
 clear c1 c2 hc hkc k1 h2 k2 hf
 by_cases q1:stE b.size s2-stA b.size s2<x
 ·have hnext:=p1 q1
  rw[hnext]
  have hne:∀ p,failS 7 (stA b.size s1) s2≠.inr p:=fun p=>by rcases s2 with g | g <;> simp[failS]
  have hfail:=fun (W:World) (hW:RdS W r b s2)=>failU_any (place:=stA b.size s1) (no:=7) rfl hW hs (by omega) (by omega) (by omega)
  have HF:Hid (∀ W:World,RdS W r b s2→Calls Tryz.prog 109 #[.pointer (some ⟨r,0,none⟩),.int .i64 (stA b.size s1),.int .i64 7] W fun ee w'=>ee=.returned (.tuple #[])∧RdS w' r b (failS 7 (stA b.size s1) s2)∧Fr [r] W w'):=hfail
  have HNE:Hid _:=hne
  have g1:(stE b.size s2:Int)-(stA b.size s2:Int)<x:=by omega
  clear p1 p2 hnext hfail hne q1 h
  go_enter Tryz.func97,Tryz.ntmps97
  go_wp2_with fail
  refine Calls.mono C1.out ?_
  rintro ee w1 ⟨rfl,K1,F1⟩
  have a1:=K1.c.c1
  go_wp2_with fail
  refine (C2.out w1 K1).mono ?_
  rintro ee w2 ⟨rfl,K2,F2⟩
  have b1:=K2.c.c1
  have b2:=K2.c.c2
  clear a1
  go_wp2
  go_quiet (fail)
  go_wp2_with fail
  refine (HF.out _ ?hk).mono ?_
  case hk=>exact K2.heap rfl
  rintro ee w3 ⟨rfl,K3,F3⟩
  have F3:Fr [r] w2 w3:=⟨F3.os,F3.tape,F3.output,F3.size,F3.block⟩
  go_wp2
  refine bodyPost_ret (results_none rfl _ _ _) rfl ?_
  have FF:=(F1.trans F2).trans F3
  exact⟨rfl,K3,⟨none,hN _ (hI _ _ FF hIw),fun ⟨p,hp⟩=>absurd hp (HNE.out p)⟩,Inc FF⟩
 ·obtain⟨hnext,hout⟩:=p2 q1
  rw[hnext]
  have HOUT:Hid _:=hout
  have ok3:okSta (bl b) (openS x s2):=by
   rcases s2 with g | ⟨a,e⟩
   ·exact ok2
   ·have:=bl_length b
    simp only[stA,stE] at q1 n1 n2
    exact⟨by simp only;omega,by simp only;omega⟩
  have hopen:∀ W:World,RdS W r b s2→RdS (W.setCell ⟨r,2,none⟩ (.int .i64 ((stA b.size s2+x:Nat):Int))) r b (openS x s2):=fun W hW=>by
   refine⟨?_,ok3⟩
   have:=hW.c.set2 (stA b.size s2+x)
   rcases s2 with g | ⟨a,e⟩
   ·have hx0:x=0:=by simp only[stA,stE] at q1;omega
    subst hx0
    exact this
   ·exact this
  have HOP:Hid _:=hopen
  have g1:¬ (stE b.size s2:Int)-(stA b.size s2:Int)<x:=by omega
  have g1b:(stA b.size s2:Int)+x≤40000:=by omega
  obtain⟨s3,hs3⟩:∃ s,openS x s2=s:=⟨_,rfl⟩
  obtain⟨s4,hs4⟩:∃ s,nextR f (bl b) s3=s:=⟨_,rfl⟩
  have hcc:=fun (W:World) (hW:RdS W r b s3) (hi:I W)=>HC.out W s3 hW hi
  simp only[hs4] at hcc
  rw[hs3] at HOP HOUT ok3 ⊢
  rw[hs4] at HOUT ⊢
  have HCC:Hid _:=hcc
  clear p1 p2 hnext hout hopen hcc hs3 h
  by_cases q2:stA b.size s4<stE b.size s4
  ·have esh:shutS b.size s4=failS 7 (stA b.size s4) s4:=by unfold shutS;rw[if_pos q2]
   rw[esh] at HOUT ⊢
   have hne:∀ p,endS b.size (failS 7 (stA b.size s4) s4)≠.inr p:=fun p=>by rcases s4 with g | g <;> simp[failS,endS]
   have HNE:Hid _:=hne
   have g2:(stA b.size s4:Int)<(stE b.size s4:Int):=by omega
   have e5:endS b.size (failS 7 (stA b.size s4) s4)=failS 7 (stA b.size s4) s4:=by rcases s4 with g | g <;> rfl
   have HF:Hid (∀ W:World,RdS W r b s4→Calls Tryz.prog 109 #[.pointer (some ⟨r,0,none⟩),.int .i64 (stA b.size s4),.int .i64 7] W fun ee w'=>ee=.returned (.tuple #[])∧RdS w' r b (failS 7 (stA b.size s4) s4)∧Fr [r] W w'):=fun W hW=>by
    have:=stA_le hW.ok
    exact failU_any (place:=stA b.size s4) (no:=7) rfl hW hs (by omega) (by omega) (by omega)
   have hlast:∀ W:World,RdS W r b (failS 7 (stA b.size s4) s4)→RdS (W.setCell ⟨r,2,none⟩ (.int .i64 b.size)) r b (failS 7 (stA b.size s4) s4):=fun W hW=>by
    refine⟨?_,hW.ok⟩
    have:=hW.c.set2 b.size
    rcases s4 with g | g <;> exact this
   have HL:Hid _:=hlast
   rw[e5] at HNE ⊢
   clear hne esh e5 hlast HOUT q2
   go_enter Tryz.func97,Tryz.ntmps97
   go_wp2_with fail
   refine Calls.mono C1.out ?_
   rintro ee w1 ⟨rfl,K1,F1⟩
   have a1:=K1.c.c1
   go_wp2_with fail
   refine (C2.out w1 K1).mono ?_
   rintro ee w2 ⟨rfl,K2,F2⟩
   have b1:=K2.c.c1
   have b2:=K2.c.c2
   have b3:=K2.c.f2
   clear a1
   go_wp2
   go_quiet (fail)
   go_wp2_with fail
   have K2':RdS (w2.drewN nq) r b s2:=K2.heap rfl
   have K3:=HOP.out _ K2'
   have F3:Fr [r] w2 ((w2.drewN nq).setCell ⟨r,2,none⟩ (.int .i64 ((stA b.size s2+x:Nat):Int))):=((Fr.refl [r] w2).drewN nq).setCell (p:=⟨r,2,none⟩) (.inl (by simp)) _
   rw[Int.natCast_add] at K3 F3
   have FF:=(F1.trans F2).trans F3
   refine (HCC.out _ K3 (hI _ _ FF hIw)).mono ?_
   rintro ee w4 ⟨rfl,K4,⟨o,hGo,ho⟩,F4⟩
   have d1:=K4.c.c1
   have d2:=K4.c.c2
   clear K2' K3 F3 K2 b1 b2 b3 F1 F2 K1
   go_wp2
   go_quiet (fail)
   go_wp2_with fail
   refine (HF.out _ ?hk).mono ?_
   case hk=>exact K4.heap rfl
   rintro ee w5 ⟨rfl,K5,F5⟩
   have F5:Fr [r] w4 w5:=⟨F5.os,F5.tape,F5.output,F5.size,F5.block⟩
   have e0:=K5.c.c0
   have e1:=K5.c.f2
   have e2:=K5.c.c2
   have K6:=HL.out _ K5
   have F6:Fr [r] w4 (w5.setCell ⟨r,2,none⟩ (.int .i64 b.size)):=F5.setCell (p:=⟨r,2,none⟩) (.inl (by simp)) _
   clear d1 d2 K4 K5
   go_wp2
   go_end0
   exact⟨rfl,K6,⟨o,hG _ _ _ F6 hGo,fun ⟨p,hp⟩=>absurd hp (HNE.out p)⟩,((Inc FF).trans F4).trans (Inc F6)⟩
  ·have esh:shutS b.size s4=s4:=by unfold shutS;rw[if_neg q2]
   rw[esh] at HOUT ⊢
   have g2:¬ (stA b.size s4:Int)<(stE b.size s4:Int):=by omega
   have hlast:∀ W:World,RdS W r b s4→RdS (W.setCell ⟨r,2,none⟩ (.int .i64 b.size)) r b (endS b.size s4):=fun W hW=>by
    have hc2:=hW.c.set2 b.size
    have hok:=hW.ok
    have:=bl_length b
    rcases s4 with g | ⟨a,e⟩
    ·exact⟨hc2,hok⟩
    ·exact⟨hc2,⟨Nat.le_trans hok.1 (by have h2:=hok.2;omega),by omega⟩⟩
   have HL:Hid _:=hlast
   clear esh hlast q2
   go_enter Tryz.func97,Tryz.ntmps97
   go_wp2_with fail
   refine Calls.mono C1.out ?_
   rintro ee w1 ⟨rfl,K1,F1⟩
   have a1:=K1.c.c1
   go_wp2_with fail
   refine (C2.out w1 K1).mono ?_
   rintro ee w2 ⟨rfl,K2,F2⟩
   have b1:=K2.c.c1
   have b2:=K2.c.c2
   have b3:=K2.c.f2
   clear a1
   go_wp2
   go_quiet (fail)
   go_wp2_with fail
   have K2':RdS (w2.drewN nq) r b s2:=K2.heap rfl
   have K3:=HOP.out _ K2'
   have F3:Fr [r] w2 ((w2.drewN nq).setCell ⟨r,2,none⟩ (.int .i64 ((stA b.size s2+x:Nat):Int))):=((Fr.refl [r] w2).drewN nq).setCell (p:=⟨r,2,none⟩) (.inl (by simp)) _
   rw[Int.natCast_add] at K3 F3
   have FF:=(F1.trans F2).trans F3
   refine (HCC.out _ K3 (hI _ _ FF hIw)).mono ?_
   rintro ee w4 ⟨rfl,K4,⟨o,hGo,ho⟩,F4⟩
   have d1:=K4.c.c1
   have d2:=K4.c.c2
   clear K2' K3 F3 K2 b1 b2 b3 F1 F2 K1
   go_wp2
   go_quiet (fail)
   have K4':RdS (w4.drewN nq) r b s4:=K4.heap rfl
   have e0:=K4'.c.c0
   have e1:=K4'.c.f2
   have e2:=K4'.c.c2
   have K6:=HL.out _ K4'
   have F6:Fr [r] w4 ((w4.drewN nq).setCell ⟨r,2,none⟩ (.int .i64 b.size)):=((Fr.refl [r] w4).drewN nq).setCell (p:=⟨r,2,none⟩) (.inl (by simp)) _
   clear d1 d2 K4 K4'
   go_wp2
   go_end0
   refine⟨rfl,K6,⟨o,hG _ _ _ F6 hGo,fun hp=>?_⟩,((Inc FF).trans F4).trans (Inc F6)⟩
   obtain⟨z1,z2⟩:=HOUT.out hp
   rw[z2]
   exact ho z1
theorem section65_any {α:Type}{w:World}{r:Nat}{b:ByteArray}{s:Sta} (k:Nat) {kI:Int} (hkI:kI=(k:Int)) (hk:k<256) (f:Rd α) (hf:Tidy f) (d:α) (rb mb:Nat) (I:World→Prop) (G:Option α→World→Prop)
  (hI:∀ W W',Fr [r] W W'→I W→I W') (hG:∀ o W W',Fr [r] W W'→G o W→G o W') (hN:∀ W,I W→G none W)
  (hc:∀ (W:World) (s:Sta),RdS W r b s→I W→Calls Tryz.prog 101 #[.pointer (some ⟨rb,0,none⟩),.pointer (some ⟨mb,0,none⟩)] W fun ee W'=>ee=.returned (.tuple #[])∧RdS W' r b (nextR f (bl b) s)∧(∃ o,G o W'∧((∃ p,nextR f (bl b) s=.inr p)→o=some (outR f (bl b) d s)))∧Fr [r,mb] W W')
  (h:RdS w r b s) (hs:b.size≤40000) (hend:∀ p,s=.inr p→p.2=b.size) (hIw:I w) :
  Calls Tryz.prog 97 #[.pointer (some ⟨r,0,none⟩),.int .u8 kI,.func (.func 101) #[] #[.pointer (some ⟨rb,0,none⟩),.pointer (some ⟨mb,0,none⟩)]] w fun ee w'=>
   ee=.returned (.tuple #[])∧RdS w' r b (nextR (fun base l=>sectR k base f l) (bl b) s)∧(∃ o,G o w'∧((∃ p,nextR (fun base l=>sectR k base f l) (bl b) s=.inr p)→o=some (outR (fun base l=>sectR k base f l) (bl b) d s)))∧Fr [r,mb] w w':=by
 have hm:Tryz.prog.follows Departure.mixedOrders=true:=by kernel_rfl
 subst hkI
 have hkc:(k:Int)=((UInt8.ofNat k).toNat:Int):=by simp[UInt8.toNat_ofNat];omega
 obtain⟨s1,k1⟩:∃ x,nextR (needR (UInt8.ofNat k) 7) (bl b) s=x:=⟨_,rfl⟩
 obtain⟨x,h2⟩:∃ x,outR numU (bl b) 0 s1=x:=⟨_,rfl⟩
 obtain⟨s2,k2⟩:∃ x,nextR numU (bl b) s1=x:=⟨_,rfl⟩
 obtain⟨p1,p2⟩:=sect_next k hk f hf d b h.ok hend k1 h2 k2
 have ok1:okSta (bl b) s1:=k1 ▸ (needR_tidy _ 7 (by omega) (by omega)).next h.ok
 have ok2:okSta (bl b) s2:=k2 ▸ numU_tidy.next ok1
 obtain⟨m1,m2⟩:=stA_le ok1
 obtain⟨n1,n2⟩:=stA_le ok2
 have hx:=numU_small b s1
 rw[h2] at hx
 have c1:=needU_any (no:=7) (nI:=7) hkc rfl h hs (by omega) (by omega)
 rw[k1] at c1
 have c2:=fun (W:World) (hW:RdS W r b s1)=>number_any hW hs
 simp only[h2,k2] at c2
 have C1:Hid _:=c1
 have C2:Hid _:=c2
 have HC:Hid _:=hc
 have Inc:∀ {W W':World},Fr [r] W W'→Fr [r,mb] W W':=fun f=>f.mono (by simp)
 clear c1 c2 hc hkc k1 h2 k2 hf
 by_cases q1:stE b.size s2-stA b.size s2<x
 ·have hnext:=p1 q1
  rw[hnext]
  have hne:∀ p,failS 7 (stA b.size s1) s2≠.inr p:=fun p=>by rcases s2 with g | g <;> simp[failS]
  have hfail:=fun (W:World) (hW:RdS W r b s2)=>failU_any (place:=stA b.size s1) (no:=7) rfl hW hs (by omega) (by omega) (by omega)
  have HF:Hid (∀ W:World,RdS W r b s2→Calls Tryz.prog 109 #[.pointer (some ⟨r,0,none⟩),.int .i64 (stA b.size s1),.int .i64 7] W fun ee w'=>ee=.returned (.tuple #[])∧RdS w' r b (failS 7 (stA b.size s1) s2)∧Fr [r] W w'):=hfail
  have HNE:Hid _:=hne
  have g1:(stE b.size s2:Int)-(stA b.size s2:Int)<x:=by omega
  clear p1 p2 hnext hfail hne q1 h
  go_enter Tryz.func97,Tryz.ntmps97
  go_wp2_with fail
  refine Calls.mono C1.out ?_
  rintro ee w1 ⟨rfl,K1,F1⟩
  have a1:=K1.c.c1
  go_wp2_with fail
  refine (C2.out w1 K1).mono ?_
  rintro ee w2 ⟨rfl,K2,F2⟩
  have b1:=K2.c.c1
  have b2:=K2.c.c2
  clear a1
  go_wp2
  go_quiet (fail)
  go_wp2_with fail
  refine (HF.out _ ?hk).mono ?_
  case hk=>exact K2.heap rfl
  rintro ee w3 ⟨rfl,K3,F3⟩
  have F3:Fr [r] w2 w3:=⟨F3.os,F3.tape,F3.output,F3.size,F3.block⟩
  go_wp2
  refine bodyPost_ret (results_none rfl _ _ _) rfl ?_
  have FF:=(F1.trans F2).trans F3
  exact⟨rfl,K3,⟨none,hN _ (hI _ _ FF hIw),fun ⟨p,hp⟩=>absurd hp (HNE.out p)⟩,Inc FF⟩
 ·obtain⟨hnext,hout⟩:=p2 q1
  rw[hnext]
  have HOUT:Hid _:=hout
  have ok3:okSta (bl b) (openS x s2):=by
   rcases s2 with g | ⟨a,e⟩
   ·exact ok2
   ·have:=bl_length b
    simp only[stA,stE] at q1 n1 n2
    exact⟨by simp only;omega,by simp only;omega⟩
  have hopen:∀ W:World,RdS W r b s2→RdS (W.setCell ⟨r,2,none⟩ (.int .i64 ((stA b.size s2+x:Nat):Int))) r b (openS x s2):=fun W hW=>by
   refine⟨?_,ok3⟩
   have:=hW.c.set2 (stA b.size s2+x)
   rcases s2 with g | ⟨a,e⟩
   ·have hx0:x=0:=by simp only[stA,stE] at q1;omega
    subst hx0
    exact this
   ·exact this
  have HOP:Hid _:=hopen
  have g1:¬ (stE b.size s2:Int)-(stA b.size s2:Int)<x:=by omega
  have g1b:(stA b.size s2:Int)+x≤40000:=by omega
  obtain⟨s3,hs3⟩:∃ s,openS x s2=s:=⟨_,rfl⟩
  obtain⟨s4,hs4⟩:∃ s,nextR f (bl b) s3=s:=⟨_,rfl⟩
  have hcc:=fun (W:World) (hW:RdS W r b s3) (hi:I W)=>HC.out W s3 hW hi
  simp only[hs4] at hcc
  rw[hs3] at HOP HOUT ok3 ⊢
  rw[hs4] at HOUT ⊢
  have HCC:Hid _:=hcc
  clear p1 p2 hnext hout hopen hcc hs3 h
  by_cases q2:stA b.size s4<stE b.size s4
  ·have esh:shutS b.size s4=failS 7 (stA b.size s4) s4:=by unfold shutS;rw[if_pos q2]
   rw[esh] at HOUT ⊢
   have hne:∀ p,endS b.size (failS 7 (stA b.size s4) s4)≠.inr p:=fun p=>by rcases s4 with g | g <;> simp[failS,endS]
   have HNE:Hid _:=hne
   have g2:(stA b.size s4:Int)<(stE b.size s4:Int):=by omega
   have e5:endS b.size (failS 7 (stA b.size s4) s4)=failS 7 (stA b.size s4) s4:=by rcases s4 with g | g <;> rfl
   have HF:Hid (∀ W:World,RdS W r b s4→Calls Tryz.prog 109 #[.pointer (some ⟨r,0,none⟩),.int .i64 (stA b.size s4),.int .i64 7] W fun ee w'=>ee=.returned (.tuple #[])∧RdS w' r b (failS 7 (stA b.size s4) s4)∧Fr [r] W w'):=fun W hW=>by
    have:=stA_le hW.ok
    exact failU_any (place:=stA b.size s4) (no:=7) rfl hW hs (by omega) (by omega) (by omega)
   have hlast:∀ W:World,RdS W r b (failS 7 (stA b.size s4) s4)→RdS (W.setCell ⟨r,2,none⟩ (.int .i64 b.size)) r b (failS 7 (stA b.size s4) s4):=fun W hW=>by
    refine⟨?_,hW.ok⟩
    have:=hW.c.set2 b.size
    rcases s4 with g | g <;> exact this
   have HL:Hid _:=hlast
   rw[e5] at HNE ⊢
   clear hne esh e5 hlast HOUT q2
   go_enter Tryz.func97,Tryz.ntmps97
   go_wp2_with fail
   refine Calls.mono C1.out ?_
   rintro ee w1 ⟨rfl,K1,F1⟩
   have a1:=K1.c.c1
   go_wp2_with fail
   refine (C2.out w1 K1).mono ?_
   rintro ee w2 ⟨rfl,K2,F2⟩
   have b1:=K2.c.c1
   have b2:=K2.c.c2
   have b3:=K2.c.f2
   clear a1
   go_wp2
   go_quiet (fail)
   go_wp2_with fail
   have K2':RdS (w2.drewN nq) r b s2:=K2.heap rfl
   have K3:=HOP.out _ K2'
   have F3:Fr [r] w2 ((w2.drewN nq).setCell ⟨r,2,none⟩ (.int .i64 ((stA b.size s2+x:Nat):Int))):=((Fr.refl [r] w2).drewN nq).setCell (p:=⟨r,2,none⟩) (.inl (by simp)) _
   rw[Int.natCast_add] at K3 F3
   have FF:=(F1.trans F2).trans F3
   refine (HCC.out _ K3 (hI _ _ FF hIw)).mono ?_
   rintro ee w4 ⟨rfl,K4,⟨o,hGo,ho⟩,F4⟩
   have d1:=K4.c.c1
   have d2:=K4.c.c2
   clear K2' K3 F3 K2 b1 b2 b3 F1 F2 K1
   go_wp2
   go_quiet (fail)
   go_wp2_with fail
   refine (HF.out _ ?hk).mono ?_
   case hk=>exact K4.heap rfl
   rintro ee w5 ⟨rfl,K5,F5⟩
   have F5:Fr [r] w4 w5:=⟨F5.os,F5.tape,F5.output,F5.size,F5.block⟩
   have e0:=K5.c.c0
   have e1:=K5.c.f2
   have e2:=K5.c.c2
   have K6:=HL.out _ K5
   have F6:Fr [r] w4 (w5.setCell ⟨r,2,none⟩ (.int .i64 b.size)):=F5.setCell (p:=⟨r,2,none⟩) (.inl (by simp)) _
   clear d1 d2 K4 K5
   go_wp2
   go_end0
   exact⟨rfl,K6,⟨o,hG _ _ _ F6 hGo,fun ⟨p,hp⟩=>absurd hp (HNE.out p)⟩,((Inc FF).trans F4).trans (Inc F6)⟩
  ·have esh:shutS b.size s4=s4:=by unfold shutS;rw[if_neg q2]
   rw[esh] at HOUT ⊢
   have g2:¬ (stA b.size s4:Int)<(stE b.size s4:Int):=by omega
   have hlast:∀ W:World,RdS W r b s4→RdS (W.setCell ⟨r,2,none⟩ (.int .i64 b.size)) r b (endS b.size s4):=fun W hW=>by
    have hc2:=hW.c.set2 b.size
    have hok:=hW.ok
    have:=bl_length b
    rcases s4 with g | ⟨a,e⟩
    ·exact⟨hc2,hok⟩
    ·exact⟨hc2,⟨Nat.le_trans hok.1 (by have h2:=hok.2;omega),by omega⟩⟩
   have HL:Hid _:=hlast
   clear esh hlast q2
   go_enter Tryz.func97,Tryz.ntmps97
   go_wp2_with fail
   refine Calls.mono C1.out ?_
   rintro ee w1 ⟨rfl,K1,F1⟩
   have a1:=K1.c.c1
   go_wp2_with fail
   refine (C2.out w1 K1).mono ?_
   rintro ee w2 ⟨rfl,K2,F2⟩
   have b1:=K2.c.c1
   have b2:=K2.c.c2
   have b3:=K2.c.f2
   clear a1
   go_wp2
   go_quiet (fail)
   go_wp2_with fail
   have K2':RdS (w2.drewN nq) r b s2:=K2.heap rfl
   have K3:=HOP.out _ K2'
   have F3:Fr [r] w2 ((w2.drewN nq).setCell ⟨r,2,none⟩ (.int .i64 ((stA b.size s2+x:Nat):Int))):=((Fr.refl [r] w2).drewN nq).setCell (p:=⟨r,2,none⟩) (.inl (by simp)) _
   rw[Int.natCast_add] at K3 F3
   have FF:=(F1.trans F2).trans F3
   refine (HCC.out _ K3 (hI _ _ FF hIw)).mono ?_
   rintro ee w4 ⟨rfl,K4,⟨o,hGo,ho⟩,F4⟩
   have d1:=K4.c.c1
   have d2:=K4.c.c2
   clear K2' K3 F3 K2 b1 b2 b3 F1 F2 K1
   go_wp2
   go_quiet (fail)
   have K4':RdS (w4.drewN nq) r b s4:=K4.heap rfl
   have e0:=K4'.c.c0
   have e1:=K4'.c.f2
   have e2:=K4'.c.c2
   have K6:=HL.out _ K4'
   have F6:Fr [r] w4 ((w4.drewN nq).setCell ⟨r,2,none⟩ (.int .i64 b.size)):=((Fr.refl [r] w4).drewN nq).setCell (p:=⟨r,2,none⟩) (.inl (by simp)) _
   clear d1 d2 K4 K4'
   go_wp2
   go_end0
   refine⟨rfl,K6,⟨o,hG _ _ _ F6 hGo,fun hp=>?_⟩,((Inc FF).trans F4).trans (Inc F6)⟩
   obtain⟨z1,z2⟩:=HOUT.out hp
   rw[z2]
   exact ho z1
theorem section67_any {α:Type}{w:World}{r:Nat}{b:ByteArray}{s:Sta} (k:Nat) {kI:Int} (hkI:kI=(k:Int)) (hk:k<256) (f:Rd α) (hf:Tidy f) (d:α) (rb mb:Nat) (I:World→Prop) (G:Option α→World→Prop)
  (hI:∀ W W',Fr [r] W W'→I W→I W') (hG:∀ o W W',Fr [r] W W'→G o W→G o W') (hN:∀ W,I W→G none W)
  (hc:∀ (W:World) (s:Sta),RdS W r b s→I W→Calls Tryz.prog 103 #[.pointer (some ⟨rb,0,none⟩),.pointer (some ⟨mb,0,none⟩)] W fun ee W'=>ee=.returned (.tuple #[])∧RdS W' r b (nextR f (bl b) s)∧(∃ o,G o W'∧((∃ p,nextR f (bl b) s=.inr p)→o=some (outR f (bl b) d s)))∧Fr [r,mb] W W')
  (h:RdS w r b s) (hs:b.size≤40000) (hend:∀ p,s=.inr p→p.2=b.size) (hIw:I w) :
  Calls Tryz.prog 97 #[.pointer (some ⟨r,0,none⟩),.int .u8 kI,.func (.func 103) #[] #[.pointer (some ⟨rb,0,none⟩),.pointer (some ⟨mb,0,none⟩)]] w fun ee w'=>
   ee=.returned (.tuple #[])∧RdS w' r b (nextR (fun base l=>sectR k base f l) (bl b) s)∧(∃ o,G o w'∧((∃ p,nextR (fun base l=>sectR k base f l) (bl b) s=.inr p)→o=some (outR (fun base l=>sectR k base f l) (bl b) d s)))∧Fr [r,mb] w w':=by
 have hm:Tryz.prog.follows Departure.mixedOrders=true:=by kernel_rfl
 subst hkI
 have hkc:(k:Int)=((UInt8.ofNat k).toNat:Int):=by simp[UInt8.toNat_ofNat];omega
 obtain⟨s1,k1⟩:∃ x,nextR (needR (UInt8.ofNat k) 7) (bl b) s=x:=⟨_,rfl⟩
 obtain⟨x,h2⟩:∃ x,outR numU (bl b) 0 s1=x:=⟨_,rfl⟩
 obtain⟨s2,k2⟩:∃ x,nextR numU (bl b) s1=x:=⟨_,rfl⟩
 obtain⟨p1,p2⟩:=sect_next k hk f hf d b h.ok hend k1 h2 k2
 have ok1:okSta (bl b) s1:=k1 ▸ (needR_tidy _ 7 (by omega) (by omega)).next h.ok
 have ok2:okSta (bl b) s2:=k2 ▸ numU_tidy.next ok1
 obtain⟨m1,m2⟩:=stA_le ok1
 obtain⟨n1,n2⟩:=stA_le ok2
 have hx:=numU_small b s1
 rw[h2] at hx
 have c1:=needU_any (no:=7) (nI:=7) hkc rfl h hs (by omega) (by omega)
 rw[k1] at c1
 have c2:=fun (W:World) (hW:RdS W r b s1)=>number_any hW hs
 simp only[h2,k2] at c2
 have C1:Hid _:=c1
 have C2:Hid _:=c2
 have HC:Hid _:=hc
 have Inc:∀ {W W':World},Fr [r] W W'→Fr [r,mb] W W':=fun f=>f.mono (by simp)
 clear c1 c2 hc hkc k1 h2 k2 hf
 by_cases q1:stE b.size s2-stA b.size s2<x
 ·have hnext:=p1 q1
  rw[hnext]
  have hne:∀ p,failS 7 (stA b.size s1) s2≠.inr p:=fun p=>by rcases s2 with g | g <;> simp[failS]
  have hfail:=fun (W:World) (hW:RdS W r b s2)=>failU_any (place:=stA b.size s1) (no:=7) rfl hW hs (by omega) (by omega) (by omega)
  have HF:Hid (∀ W:World,RdS W r b s2→Calls Tryz.prog 109 #[.pointer (some ⟨r,0,none⟩),.int .i64 (stA b.size s1),.int .i64 7] W fun ee w'=>ee=.returned (.tuple #[])∧RdS w' r b (failS 7 (stA b.size s1) s2)∧Fr [r] W w'):=hfail
  have HNE:Hid _:=hne
  have g1:(stE b.size s2:Int)-(stA b.size s2:Int)<x:=by omega
  clear p1 p2 hnext hfail hne q1 h
  go_enter Tryz.func97,Tryz.ntmps97
  go_wp2_with fail
  refine Calls.mono C1.out ?_
  rintro ee w1 ⟨rfl,K1,F1⟩
  have a1:=K1.c.c1
  go_wp2_with fail
  refine (C2.out w1 K1).mono ?_
  rintro ee w2 ⟨rfl,K2,F2⟩
  have b1:=K2.c.c1
  have b2:=K2.c.c2
  clear a1
  go_wp2
  go_quiet (fail)
  go_wp2_with fail
  refine (HF.out _ ?hk).mono ?_
  case hk=>exact K2.heap rfl
  rintro ee w3 ⟨rfl,K3,F3⟩
  have F3:Fr [r] w2 w3:=⟨F3.os,F3.tape,F3.output,F3.size,F3.block⟩
  go_wp2
  refine bodyPost_ret (results_none rfl _ _ _) rfl ?_
  have FF:=(F1.trans F2).trans F3
  exact⟨rfl,K3,⟨none,hN _ (hI _ _ FF hIw),fun ⟨p,hp⟩=>absurd hp (HNE.out p)⟩,Inc FF⟩
 ·obtain⟨hnext,hout⟩:=p2 q1
  rw[hnext]
  have HOUT:Hid _:=hout
  have ok3:okSta (bl b) (openS x s2):=by
   rcases s2 with g | ⟨a,e⟩
   ·exact ok2
   ·have:=bl_length b
    simp only[stA,stE] at q1 n1 n2
    exact⟨by simp only;omega,by simp only;omega⟩
  have hopen:∀ W:World,RdS W r b s2→RdS (W.setCell ⟨r,2,none⟩ (.int .i64 ((stA b.size s2+x:Nat):Int))) r b (openS x s2):=fun W hW=>by
   refine⟨?_,ok3⟩
   have:=hW.c.set2 (stA b.size s2+x)
   rcases s2 with g | ⟨a,e⟩
   ·have hx0:x=0:=by simp only[stA,stE] at q1;omega
    subst hx0
    exact this
   ·exact this
  have HOP:Hid _:=hopen
  have g1:¬ (stE b.size s2:Int)-(stA b.size s2:Int)<x:=by omega
  have g1b:(stA b.size s2:Int)+x≤40000:=by omega
  obtain⟨s3,hs3⟩:∃ s,openS x s2=s:=⟨_,rfl⟩
  obtain⟨s4,hs4⟩:∃ s,nextR f (bl b) s3=s:=⟨_,rfl⟩
  have hcc:=fun (W:World) (hW:RdS W r b s3) (hi:I W)=>HC.out W s3 hW hi
  simp only[hs4] at hcc
  rw[hs3] at HOP HOUT ok3 ⊢
  rw[hs4] at HOUT ⊢
  have HCC:Hid _:=hcc
  clear p1 p2 hnext hout hopen hcc hs3 h
  by_cases q2:stA b.size s4<stE b.size s4
  ·have esh:shutS b.size s4=failS 7 (stA b.size s4) s4:=by unfold shutS;rw[if_pos q2]
   rw[esh] at HOUT ⊢
   have hne:∀ p,endS b.size (failS 7 (stA b.size s4) s4)≠.inr p:=fun p=>by rcases s4 with g | g <;> simp[failS,endS]
   have HNE:Hid _:=hne
   have g2:(stA b.size s4:Int)<(stE b.size s4:Int):=by omega
   have e5:endS b.size (failS 7 (stA b.size s4) s4)=failS 7 (stA b.size s4) s4:=by rcases s4 with g | g <;> rfl
   have HF:Hid (∀ W:World,RdS W r b s4→Calls Tryz.prog 109 #[.pointer (some ⟨r,0,none⟩),.int .i64 (stA b.size s4),.int .i64 7] W fun ee w'=>ee=.returned (.tuple #[])∧RdS w' r b (failS 7 (stA b.size s4) s4)∧Fr [r] W w'):=fun W hW=>by
    have:=stA_le hW.ok
    exact failU_any (place:=stA b.size s4) (no:=7) rfl hW hs (by omega) (by omega) (by omega)
   have hlast:∀ W:World,RdS W r b (failS 7 (stA b.size s4) s4)→RdS (W.setCell ⟨r,2,none⟩ (.int .i64 b.size)) r b (failS 7 (stA b.size s4) s4):=fun W hW=>by
    refine⟨?_,hW.ok⟩
    have:=hW.c.set2 b.size
    rcases s4 with g | g <;> exact this
   have HL:Hid _:=hlast
   rw[e5] at HNE ⊢
   clear hne esh e5 hlast HOUT q2
   go_enter Tryz.func97,Tryz.ntmps97
   go_wp2_with fail
   refine Calls.mono C1.out ?_
   rintro ee w1 ⟨rfl,K1,F1⟩
   have a1:=K1.c.c1
   go_wp2_with fail
   refine (C2.out w1 K1).mono ?_
   rintro ee w2 ⟨rfl,K2,F2⟩
   have b1:=K2.c.c1
   have b2:=K2.c.c2
   have b3:=K2.c.f2
   clear a1
   go_wp2
   go_quiet (fail)
   go_wp2_with fail
   have K2':RdS (w2.drewN nq) r b s2:=K2.heap rfl
   have K3:=HOP.out _ K2'
   have F3:Fr [r] w2 ((w2.drewN nq).setCell ⟨r,2,none⟩ (.int .i64 ((stA b.size s2+x:Nat):Int))):=((Fr.refl [r] w2).drewN nq).setCell (p:=⟨r,2,none⟩) (.inl (by simp)) _
   rw[Int.natCast_add] at K3 F3
   have FF:=(F1.trans F2).trans F3
   refine (HCC.out _ K3 (hI _ _ FF hIw)).mono ?_
   rintro ee w4 ⟨rfl,K4,⟨o,hGo,ho⟩,F4⟩
   have d1:=K4.c.c1
   have d2:=K4.c.c2
   clear K2' K3 F3 K2 b1 b2 b3 F1 F2 K1
   go_wp2
   go_quiet (fail)
   go_wp2_with fail
   refine (HF.out _ ?hk).mono ?_
   case hk=>exact K4.heap rfl
   rintro ee w5 ⟨rfl,K5,F5⟩
   have F5:Fr [r] w4 w5:=⟨F5.os,F5.tape,F5.output,F5.size,F5.block⟩
   have e0:=K5.c.c0
   have e1:=K5.c.f2
   have e2:=K5.c.c2
   have K6:=HL.out _ K5
   have F6:Fr [r] w4 (w5.setCell ⟨r,2,none⟩ (.int .i64 b.size)):=F5.setCell (p:=⟨r,2,none⟩) (.inl (by simp)) _
   clear d1 d2 K4 K5
   go_wp2
   go_end0
   exact⟨rfl,K6,⟨o,hG _ _ _ F6 hGo,fun ⟨p,hp⟩=>absurd hp (HNE.out p)⟩,((Inc FF).trans F4).trans (Inc F6)⟩
  ·have esh:shutS b.size s4=s4:=by unfold shutS;rw[if_neg q2]
   rw[esh] at HOUT ⊢
   have g2:¬ (stA b.size s4:Int)<(stE b.size s4:Int):=by omega
   have hlast:∀ W:World,RdS W r b s4→RdS (W.setCell ⟨r,2,none⟩ (.int .i64 b.size)) r b (endS b.size s4):=fun W hW=>by
    have hc2:=hW.c.set2 b.size
    have hok:=hW.ok
    have:=bl_length b
    rcases s4 with g | ⟨a,e⟩
    ·exact⟨hc2,hok⟩
    ·exact⟨hc2,⟨Nat.le_trans hok.1 (by have h2:=hok.2;omega),by omega⟩⟩
   have HL:Hid _:=hlast
   clear esh hlast q2
   go_enter Tryz.func97,Tryz.ntmps97
   go_wp2_with fail
   refine Calls.mono C1.out ?_
   rintro ee w1 ⟨rfl,K1,F1⟩
   have a1:=K1.c.c1
   go_wp2_with fail
   refine (C2.out w1 K1).mono ?_
   rintro ee w2 ⟨rfl,K2,F2⟩
   have b1:=K2.c.c1
   have b2:=K2.c.c2
   have b3:=K2.c.f2
   clear a1
   go_wp2
   go_quiet (fail)
   go_wp2_with fail
   have K2':RdS (w2.drewN nq) r b s2:=K2.heap rfl
   have K3:=HOP.out _ K2'
   have F3:Fr [r] w2 ((w2.drewN nq).setCell ⟨r,2,none⟩ (.int .i64 ((stA b.size s2+x:Nat):Int))):=((Fr.refl [r] w2).drewN nq).setCell (p:=⟨r,2,none⟩) (.inl (by simp)) _
   rw[Int.natCast_add] at K3 F3
   have FF:=(F1.trans F2).trans F3
   refine (HCC.out _ K3 (hI _ _ FF hIw)).mono ?_
   rintro ee w4 ⟨rfl,K4,⟨o,hGo,ho⟩,F4⟩
   have d1:=K4.c.c1
   have d2:=K4.c.c2
   clear K2' K3 F3 K2 b1 b2 b3 F1 F2 K1
   go_wp2
   go_quiet (fail)
   have K4':RdS (w4.drewN nq) r b s4:=K4.heap rfl
   have e0:=K4'.c.c0
   have e1:=K4'.c.f2
   have e2:=K4'.c.c2
   have K6:=HL.out _ K4'
   have F6:Fr [r] w4 ((w4.drewN nq).setCell ⟨r,2,none⟩ (.int .i64 b.size)):=((Fr.refl [r] w4).drewN nq).setCell (p:=⟨r,2,none⟩) (.inl (by simp)) _
   clear d1 d2 K4 K4'
   go_wp2
   go_end0
   refine⟨rfl,K6,⟨o,hG _ _ _ F6 hGo,fun hp=>?_⟩,((Inc FF).trans F4).trans (Inc F6)⟩
   obtain⟨z1,z2⟩:=HOUT.out hp
   rw[z2]
   exact ho z1
end Go.Proofs.YtclkgoigmgkffaaGreatDoor
