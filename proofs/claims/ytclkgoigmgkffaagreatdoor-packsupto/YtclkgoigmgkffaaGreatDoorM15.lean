/-
  Texts Nh Ni Nm.
-/
import Derived.Test.YtclkgoigmgkffaaGreatDoorM14
set_option linter.unusedSimpArgs false
set_option linter.unusedVariables false
set_option maxRecDepth 100000
set_option maxHeartbeats 40000000
namespace Go.Proofs.YtclkgoigmgkffaaGreatDoor
open Go.RowKit
open Wire
theorem infoF:(Tryz.prog.info? 65).map (fun i=>(i.zero,i.size,i.bytes))=some (some (.agg #[.int .i64 0,.int .i64 0,.string ⟨#[]⟩]),3,32):=by kernel_rfl
def MidF (n:Nat) (l:List UInt8) (R:Sta × List Wire.Fn) (acc:List Wire.Fn):Sta→Prop
 | .inl f=>R.1=.inl f
 | .inr p=>finR acc p.2 (fnsR p.2 (n-acc.length) acc.length (seg l p.1 p.2))=R
theorem MidF.start (b:ByteArray) (s:Sta) (hok:okSta (bl b) s) :
  MidF (outR (numberR 3 1000) (bl b) 0 s) (bl b) (nextR fnListR (bl b) s,outR fnListR (bl b) [] s) [] (nextR (numberR 3 1000) (bl b) s):=by
 rcases s with ⟨f,y⟩ | ⟨a,e⟩
 ·rfl
 ·obtain⟨o1,o2⟩:=hok
  cases hn:numberR 3 1000 e (seg (bl b) a e) with
  | inl f=>
   have hl:fnListR e (seg (bl b) a e)=.inl f:=by simp only[fnListR,hn,bnd]
   rw[nextR_inl hn,nextR_inl hl]
   rfl
  | inr p=>
   obtain⟨n,q⟩:=p
   rw[nextR_inr hn,outR_inr hn]
   obtain⟨t1,t2,t3⟩:=(numberR_tidy 3 1000).seg o1 o2 hn
   simp only[MidF,t1,List.length_nil,Nat.sub_zero]
   have hl:fnListR e (seg (bl b) a e)=fnsR e n 0 q:=by simp only[fnListR,hn,bnd]
   cases ht:fnsR e n 0 q with
   | inl f=>
    rw[ht] at hl
    rw[nextR_inl hl,outR_inl hl]
    rfl
   | inr p=>
    obtain⟨x,y⟩:=p
    rw[ht] at hl
    rw[nextR_inr hl,outR_inr hl]
    rfl
theorem MidF.step {n:Nat}{b:ByteArray}{R:Sta × List Wire.Fn}{acc:List Wire.Fn}{s:Sta} (h:MidF n (bl b) R acc s) (hok:okSta (bl b) s) (hlt:acc.length<n) (o:Wire.Fn)
  (ho:(∃ p,nextR (fnR acc.length) (bl b) s=.inr p)→o=outR (fnR acc.length) (bl b) fn0 s):MidF n (bl b) R (acc++[o]) (nextR (fnR acc.length) (bl b) s):=by
 rcases s with f | ⟨a,e⟩
 ·exact h
 ·obtain⟨o1,o2⟩:=hok
  simp only[MidF] at h
  rw[show n-acc.length=(n-(acc.length+1))+1 by omega,fnsR] at h
  cases hn:fnR acc.length e (seg (bl b) a e) with
  | inl f=>
   rw[hn] at h
   simp only[bnd,finR] at h
   rw[nextR_inl hn,← h]
   rfl
  | inr p=>
   obtain⟨x,q⟩:=p
   rw[hn] at h
   have hox:o=x:=by rw[ho ⟨_,nextR_inr hn⟩,outR_inr hn]
   subst hox
   obtain⟨t1,t2,t3⟩:=(fnR_tidy acc.length).seg o1 o2 hn
   rw[nextR_inr hn]
   simp only[MidF,t1,List.length_append,List.length_cons,List.length_nil,Nat.zero_add]
   rw[← h]
   simp only[bnd]
   cases fnsR e (n-(acc.length+1)) (acc.length+1) q with
   | inl f=>rfl
   | inr p=>simp[finR]
theorem MidF.stop {n:Nat}{b:ByteArray}{R:Sta × List Wire.Fn}{acc:List Wire.Fn}{s:Sta} (h:MidF n (bl b) R acc s) (hok:okSta (bl b) s) (hd:acc.length=n∨∃ f,s=.inl f) :
  s=R.1∧((∃ p,R.1=.inr p)→acc=R.2):=by
 rcases s with f | ⟨a,e⟩
 ·simp only[MidF] at h
  exact⟨h.symm,fun ⟨p,hp⟩=>by rw[h] at hp;cases hp⟩
 ·obtain⟨o1,o2⟩:=hok
  rcases hd with hd | ⟨f,hf⟩
  ·simp only[MidF,hd,Nat.sub_self,fnsR,finR] at h
   rw[seg_length o2] at h
   rw[← h]
   refine⟨?_,fun _=>by simp⟩
   simp only
   congr 2
   omega
  ·cases hf
def fnC (f:Wire.Fn):List Value:=[.int .i64 f.params,.int .i64 f.locs,.string f.code]
theorem fnC_at (L:List Wire.Fn) (i t:Nat) (f:Wire.Fn) (hi:L[i]?=some f) (ht:t<3):(L.flatMap fnC)[i*3+t]?=(fnC f)[t]?:=by
 induction L generalizing i with
 | nil=>cases hi
 | cons a L ih=>
  rw[List.flatMap_cons]
  cases i with
  | zero=>
   simp at hi
   subst hi
   rw[List.getElem?_append_left (by simp[fnC];omega)]
   simp
  | succ i=>
   rw[List.getElem?_append_right (by simp[fnC];omega)]
   have e:(i+1)*3+t-(fnC a).length=i*3+t:=by simp[fnC];omega
   rw[e]
   exact ih i (by simpa using hi)
theorem fnC_len (L:List Wire.Fn):(L.flatMap fnC).length=L.length*3:=by
 induction L with
 | nil=>rfl
 | cons a L ih=>rw[List.flatMap_cons,List.length_append,ih,List.length_cons];simp[fnC];omega
structure OwnF (r:Nat) (w0:World) (L:List Wire.Fn) (v:Value) (W:World):Prop where
 own:W.ownsRow w0.heap.size 65 3 v L.length (L.flatMap fnC)
 fr:Fr [r] w0 W
theorem OwnF.start {r:Nat}{w0 w1:World} (hf:Fr [r] w0 w1):OwnF r w0 [] (.slice none 0 0) w1:=⟨World.ownsRow_nil _ _ _ _,hf⟩
theorem OwnF.kept {r:Nat}{w0:World}{L:List Wire.Fn}{v:Value}{W W':World} (h:OwnF r w0 L v W) (hr:r<w0.heap.size) (hf:Fr [r] W W'):OwnF r w0 L v W':=⟨own_kept h.own hr hf,h.fr.trans hf⟩
theorem OwnF.grown {r:Nat}{w0:World}{L:List Wire.Fn}{v v':Value}{W W':World}{s:Wire.Fn} (h:OwnF r w0 L v W) (hown:W'.ownsRow w0.heap.size 65 3 v' (L.length+1) (L.flatMap fnC++fnC s)) (hg:W.grownBy W' v.ownBlock):OwnF r w0 (L++[s]) v' W':=
 ⟨by rw[List.length_append,List.flatMap_append];simpa using hown,fr_grown h.own h.fr hg⟩
theorem OwnF.form {r:Nat}{w0:World}{L:List Wire.Fn}{v:Value}{W:World} (h:OwnF r w0 L v W):∃ a0 cap,v=.slice a0 L.length cap:=by
 rcases h.own.2 with ⟨hv,h0⟩ | ⟨g,cap,cur,hv,_⟩
 ·exact⟨none,0,by rw[hv,h0]⟩
 ·exact⟨_,cap,hv⟩
def FnsFar (B:Nat) (W:World) (v:Value) (L:List Wire.Fn):Prop:=
 ∃ (a0:Option Addr) (cap g off:Nat),v=.slice a0 L.length cap∧L.length≤cap∧(0<L.length→a0=some ⟨g,off,none⟩∧g<W.heap.size∧B≤g) ∧
  (∀ (i:Nat) (x:Wire.Fn),L[i]?=some x→W.cell? ⟨g,off+i*3,none⟩=some (.int .i64 x.params)∧W.cell? ⟨g,off+i*3+1,none⟩=some (.int .i64 x.locs)∧W.cell? ⟨g,off+i*3+2,none⟩=some (.string x.code))∧W.ownsRow B 65 3 v L.length (L.flatMap fnC)
theorem FnsFar.own {B:Nat}{W:World}{v:Value}{L:List Wire.Fn} (h:FnsFar B W v L):W.ownsRow B 65 3 v L.length (L.flatMap fnC):=by
 obtain⟨a0,cap,g,off,h1,h2,h3,h4,h5⟩:=h
 exact h5
theorem FnsFar.fr {B:Nat}{S:List Nat}{W W':World}{v:Value}{L:List Wire.Fn} (h:FnsFar B W v L) (hf:Fr S W W') (hS:∀ x,x ∈ S→x<B):FnsFar B W' v L:=by
 obtain⟨a0,cap,g,off,h1,h2,h3,h4,h5⟩:=h
 refine⟨a0,cap,g,off,h1,h2,fun h=>⟨(h3 h).1,Nat.lt_of_lt_of_le (h3 h).2.1 hf.size,(h3 h).2.2⟩,fun i x hi=>?_,own_fr h5 hf hS⟩
 have h0:0<L.length:=by have:=(List.getElem?_eq_some_iff.1 hi).1;omega
 have hn:g ∉ S:=fun hm=>by have:=hS g hm;have:=(h3 h0).2.2;omega
 obtain⟨x0,x1,x2⟩:=h4 i x hi
 exact⟨(hf.cell (p:=⟨g,off+i*3,none⟩) (h3 h0).2.1 hn).trans x0,(hf.cell (p:=⟨g,off+i*3+1,none⟩) (h3 h0).2.1 hn).trans x1,(hf.cell (p:=⟨g,off+i*3+2,none⟩) (h3 h0).2.1 hn).trans x2⟩
theorem add_plain0 (g j:Nat):(⟨g,0,none⟩:Addr).add j=⟨g,j,none⟩:=by cases j <;> simp[Addr.add]
theorem OwnF.far {r:Nat}{w0:World}{L:List Wire.Fn}{v:Value}{W:World} (h:OwnF r w0 L v W):FnsFar w0.heap.size W v L:=by
 rcases h.own.2 with ⟨hv,h0⟩ | ⟨g,cap,cur,hv,hb,hg,hn,_⟩
 ·have hL:=List.eq_nil_of_length_eq_zero h0
  subst hL
  exact⟨none,0,0,0,hv,Nat.le_refl _,fun h=>absurd h (Nat.lt_irrefl _),(fun i x hx=>by cases hx),h.own⟩
 ·refine⟨some ⟨g,0,none⟩,cap,g,0,hv,hn,fun _=>⟨rfl,(Array.getElem?_eq_some_iff.1 hg).1,hb⟩,fun i x hx=>?_,h.own⟩
  have hc:=fun t ht u hu=>h.own.cells (g:=g) (by rw[hv];rfl) (i*3+t) u ((fnC_at L i t x hx ht).trans hu)
  simp only[add_plain0] at hc
  simp only[Nat.zero_add]
  exact⟨hc 0 (by omega) _ rfl,hc 1 (by omega) _ rfl,hc 2 (by omega) _ rfl⟩
theorem fnC_one (f:Wire.Fn):∀ u ∈ fnC f,u.oneCell'=true:=by
 intro u hu
 simp only[fnC,List.mem_cons,List.not_mem_nil,or_false] at hu
 rcases hu with rfl | rfl | rfl <;> rfl
theorem fnC_new (w:World) (p l:Int) (c:ByteArray):∀ j u,[Value.int .i64 p,Value.int .i64 l,Value.string c][j]?=some u→(w.alloc (.cells #[.int .i64 p,.int .i64 l,.string c] 65)).cell? ((⟨w.heap.size,0,none⟩:Addr).add j)=some u:=by
 intro j u hj
 have hm:=World.alloc_heap_new w (.cells #[.int .i64 p,.int .i64 l,.string c] 65)
 rw[add_plain0]
 unfold World.cell?
 rw[hm]
 simpa using hj
theorem funcs_any {w:World}{r:Nat}{b:ByteArray}{s:Sta} (h:RdS w r b s) (hs:b.size≤40000) :
  Calls Tryz.prog 107 #[.pointer (some ⟨r,0,none⟩)] w fun ee w'=>
   (∃ v L,ee=.returned v∧FnsFar w.heap.size w' v L∧((∃ p,nextR fnListR (bl b) s=.inr p)→L=outR fnListR (bl b) [] s))∧RdS w' r b (nextR fnListR (bl b) s)∧Fr [r] w w':=by
 obtain⟨i0,hi,hz0,hz1,hz2⟩:=info_parts infoF
 have hlm:=limited_any (lo:=3) (hi:=1000) rfl rfl h hs (by omega) (by omega)
 change Calls Tryz.prog 104 #[.pointer (some ⟨r,0,none⟩),.int .i64 3,.int .i64 1000] w _ at hlm
 have M0:=MidF.start b s h.ok
 have hn:=outN_le2 3 1000 b s
 have hrl:=h.lt
 generalize outR (numberR 3 1000) (bl b) 0 s=n at *
 generalize nextR (numberR 3 1000) (bl b) s=s1 at *
 generalize outR fnListR (bl b) [] s=RL at *
 generalize nextR fnListR (bl b) s=RS at *
 have HM0:Hid _:=M0
 clear M0 h
 go_enter Tryz.func107,Tryz.ntmps107
 go_wp2_with fail
 refine hlm.mono ?_
 rintro ee w1 ⟨rfl,K1,F1⟩
 clear hlm
 go_wp2
 go_loopw [3] (fun u wr=>∃ (acc:List Wire.Fn) (sj:Sta),acc.length≤n∧RdS wr r b sj∧OwnF r w acc u wr∧Hid (MidF n (bl b) (RS,RL) acc sj)) (fun u _=>n-slLen u)
 case atStart=>exact⟨[],s1,by simp,K1,OwnF.start F1,HM0⟩
 case round=>
  clear HM0 K1 F1
  obtain⟨acc,sj,hacc,K,J,hM⟩:=hrel
  obtain⟨a0,cap,rfl⟩:=J.form
  obtain⟨d0,d1,d2,d3,d4,f1,f2,f3,f4⟩:=K.c
  by_cases hlt:acc.length<n
  ·have g1:(acc.length:Int)<n:=by omega
   rcases sj with ⟨x,y⟩ | ⟨a,e⟩
   ·have k0:0<x:=K.ok.1
    simp only[stR] at d4
    have g2:((x:Int)==0)=false:=by simp;omega
    obtain⟨q1,q2⟩:=hM.out.stop K.ok (.inr ⟨_,rfl⟩)
    simp only at q1 q2
    subst q1
    have Q2:Hid _:=q2
    clear q2 hM
    go_wp2
    go_ret
    exact⟨⟨_,acc,rfl,J.far,Q2.out⟩,K,J.fr⟩
   ·simp only[stR] at d4
    have g2:(((0:Nat):Int)==0)=true:=by simp
    go_wp2_with fail
    refine (function_any acc.length K hs (by omega)).mono ?_
    rintro ee w2 ⟨⟨o,rfl,ho⟩,K2,F2⟩
    have J2:=J.kept hrl F2
    have M2:=hM.out.step K.ok hlt o ho
    have HM2:Hid _:=M2
    have hown:=J2.own
    have hsz2:=J2.fr.size
    have ha1000:acc.length≤1000:=by omega
    clear M2 ho hM K J F2 d0 d1 d2 d3 d4 f1 f2 f3 f4
    generalize nextR (fnR acc.length) (bl b) (Sum.inr (a,e))=s2 at *
    obtain⟨op,ol,oc⟩:=o
    simp only
    go_wp2_with (at_builtin;refine wpList_append_own _ rfl _ _ 28 rfl w.heap.size 65 i0 (.agg #[.int .i64 0,.int .i64 0,.string ⟨#[]⟩]) 3 32 Tryz.underlying28 hi hz0 hz1 hz2 rfl (by decide) _ _ _ rfl (hown.alloc _) ⟨w2.heap.size,0,none⟩ 1 1 [.int .i64 op,.int .i64 ol,.string oc] rfl rfl (fnC_new _ _ _ _) (fnC_one ⟨op,ol,oc⟩) (by unfold maxLen;omega) (by omega) (le_alloc _ hsz2) ?_)
    intro v' w3 hown' hgrow _
    have J3:=(J2.kept hrl ((Fr.refl [r] w2).alloc _)).grown (s:=⟨op,ol,oc⟩) hown' hgrow
    have K3:RdS w3 r b s2:=by
     refine⟨K2.c.of_block ?_,K2.ok⟩
     rw[hgrow.block r (by have:=K2.lt;simp;omega) (fun e=>by have:=(hown.lt r e.symm).1;omega)]
     exact Below.heap_alloc _ _ _ K2.lt
    clear hown hown' hgrow J2 K2
    have hl3:(acc++[(⟨op,ol,oc⟩:Wire.Fn)]).length=acc.length+1:=by simp
    obtain⟨b0,cap3,rfl⟩:=J3.form
    go_wp2
    have hmid:MidF n (bl b) (RS,RL) (acc++[(⟨op,ol,oc⟩:Wire.Fn)]) s2:=HM2.out
    refine⟨⟨acc++[(⟨op,ol,oc⟩:Wire.Fn)],s2,by omega,K3,J3,hmid⟩,?_⟩
    simp[slLen]
    omega
  ·obtain rfl:n=acc.length:=by omega
   have g1:¬ (acc.length:Int)<acc.length:=by omega
   obtain⟨q1,q2⟩:=hM.out.stop K.ok (.inl rfl)
   simp only at q1 q2
   subst q1
   have Q2:Hid _:=q2
   clear q2 hM
   go_wp2
   go_ret
   exact⟨⟨_,rfl,acc,J.far,fun x y hxy=>Q2.out ⟨_,hxy⟩⟩,K,J.fr⟩
def openS (x:Nat):Sta→Sta
 | .inl f=>.inl f
 | .inr p=>.inr (p.1,p.1+x)
def shutS (n:Nat) (s:Sta):Sta:=if stA n s<stE n s then failS 7 (stA n s) s else s
def endS (n:Nat):Sta→Sta
 | .inl f=>.inl f
 | .inr p=>.inr (p.1,n)
theorem shutS_bad (n:Nat) (f:Nat × Nat):shutS n (.inl f)=.inl f:=by
 unfold shutS
 rw[if_neg (by show ¬ n<n;omega)]
theorem sect_next {α:Type} (k:Nat) (hk:k<256) (f:Rd α) (hf:Tidy f) (d:α) (b:ByteArray) {s s1 s2:Sta}{x:Nat} (hok:okSta (bl b) s) (hend:∀ p,s=.inr p→p.2=b.size)
  (k1:nextR (needR (UInt8.ofNat k) 7) (bl b) s=s1) (h2:outR numU (bl b) 0 s1=x) (k2:nextR numU (bl b) s1=s2) :
  (stE b.size s2-stA b.size s2<x→nextR (fun base l=>sectR k base f l) (bl b) s=failS 7 (stA b.size s1) s2) ∧
  (¬ stE b.size s2-stA b.size s2<x→nextR (fun base l=>sectR k base f l) (bl b) s=endS b.size (shutS b.size (nextR f (bl b) (openS x s2))) ∧
   ((∃ p,endS b.size (shutS b.size (nextR f (bl b) (openS x s2)))=.inr p)→(∃ p,nextR f (bl b) (openS x s2)=.inr p)∧outR (fun base l=>sectR k base f l) (bl b) d s=outR f (bl b) d (openS x s2))):=by
 have hL:=bl_length b
 have bad:∀ g,s1=.inl g→nextR (fun base l=>sectR k base f l) (bl b) s=.inl g →
   (stE b.size s2-stA b.size s2<x→nextR (fun base l=>sectR k base f l) (bl b) s=failS 7 (stA b.size s1) s2) ∧
   (¬ stE b.size s2-stA b.size s2<x→nextR (fun base l=>sectR k base f l) (bl b) s=endS b.size (shutS b.size (nextR f (bl b) (openS x s2))) ∧
   ((∃ p,endS b.size (shutS b.size (nextR f (bl b) (openS x s2)))=.inr p)→(∃ p,nextR f (bl b) (openS x s2)=.inr p)∧outR (fun base l=>sectR k base f l) (bl b) d s=outR f (bl b) d (openS x s2))):=by
  intro g hg hn
  subst hg
  have e2:s2=.inl g:=k2.symm
  have ex:x=0:=h2.symm
  subst e2 ex
  refine⟨fun h=>absurd h (by omega),fun _=>⟨?_,?_⟩⟩
  ·rw[hn]
   show _=endS b.size (shutS b.size (.inl g))
   rw[shutS_bad]
   rfl
  ·rintro ⟨p,hp⟩
   change endS b.size (shutS b.size (.inl g))=.inr p at hp
   rw[shutS_bad] at hp
   cases hp
 rcases s with g | ⟨a,e⟩
 ·exact bad g k1.symm rfl
 ·obtain⟨o1,o2⟩:=hok
  have he:e=b.size:=hend _ rfl
  subst he
  cases hc:seg (bl b) a b.size with
  | nil=>
   have hN:needR (UInt8.ofNat k) 7 b.size (seg (bl b) a b.size)=.inl (7,b.size):=by rw[hc];rfl
   have hS:sectR k b.size f (seg (bl b) a b.size)=.inl (7,b.size):=by rw[hc];rfl
   exact bad (7,b.size) (k1.symm.trans (nextR_inl hN)) (nextR_inl hS)
  | cons h t=>
   have hcl:=congrArg List.length hc
   rw[seg_length o2,List.length_cons] at hcl
   by_cases hh:h=UInt8.ofNat k
   ·have hhk:h.toNat=k:=by rw[hh];simp[UInt8.toNat_ofNat];omega
    have hN:needR (UInt8.ofNat k) 7 b.size (seg (bl b) a b.size)=.inr ((),t):=by rw[hc];simp only[needR,if_pos hh]
    have e1:s1=.inr (b.size-t.length,b.size):=k1.symm.trans (nextR_inr hN)
    have hseg:seg (bl b) (b.size-t.length) b.size=t:=(seg_suffix (p:=[h]) (by rw[hc];rfl) o1 o2).1
    subst e1
    cases hn:num t with
    | none=>
     have hU:numU b.size (seg (bl b) (b.size-t.length) b.size)=.inl (6,b.size-t.length):=by rw[hseg];simp only[numU,hn]
     have hS:sectR k b.size f (seg (bl b) a b.size)=.inl (6,b.size-t.length):=by
      rw[hc];simp only[sectR,openR,hhk,hn,bnd,ne_eq,not_true_eq_false,if_false]
     have e2:s2=.inl (6,b.size-t.length):=k2.symm.trans (nextR_inl hU)
     have ex:x=0:=h2.symm.trans (outR_inl hU)
     rw[nextR_inl hS]
     subst e2 ex
     refine⟨fun h=>absurd h (by omega),fun _=>⟨?_,?_⟩⟩
     ·show _=endS b.size (shutS b.size (.inl _))
      rw[shutS_bad]
      rfl
     ·rintro ⟨p,hp⟩
      change endS b.size (shutS b.size (.inl _))=.inr p at hp
      rw[shutS_bad] at hp
      cases hp
    | some q=>
     obtain⟨n,u⟩:=q
     obtain⟨ht,-⟩:=num_some hn
     have htl:=congrArg List.length ht
     rw[List.length_append] at htl
     have hU:numU b.size (seg (bl b) (b.size-t.length) b.size)=.inr (n,u):=by rw[hseg];simp only[numU,hn]
     have e2:s2=.inr (b.size-u.length,b.size):=k2.symm.trans (nextR_inr hU)
     have ex:x=n:=h2.symm.trans (outR_inr hU)
     have hsu:seg (bl b) (b.size-u.length) b.size=u:=(numU_tidy.seg (by omega) o2 hU).1
     subst e2 ex
     simp only[stA,stE]
     by_cases hx:u.length<x
     ·have hS:sectR k b.size f (seg (bl b) a b.size)=.inl (7,b.size-t.length):=by
       rw[hc];simp only[sectR,openR,hhk,hn,bnd,ne_eq,not_true_eq_false,if_false,if_pos hx]
      rw[nextR_inl hS]
      exact⟨fun _=>rfl,fun h=>absurd (by omega) h⟩
     ·refine⟨fun h=>absurd h (by omega),fun _=>?_⟩
      have hop:openR k b.size (seg (bl b) a b.size)=.inr (u.take x,u.drop x):=by
       rw[hc];simp only[openR,hhk,hn,ne_eq,not_true_eq_false,if_false,if_neg hx]
      have hbase:b.size-(u.drop x).length=b.size-u.length+x:=by rw[List.length_drop];omega
      have htk:u.take x=seg (bl b) (b.size-u.length) (b.size-u.length+x):=by
       rw[← seg_take (bl b) _ b.size x (by omega),hsu]
      have hS:sectR k b.size f (seg (bl b) a b.size)=bnd (f (b.size-u.length+x) (seg (bl b) (b.size-u.length) (b.size-u.length+x))) fun q=>bnd (shutR (b.size-u.length+x) q) fun a=>.inr (a,u.drop x):=by
       simp only[sectR,hop,bnd,hbase,htk]
      simp only[openS]
      cases hff:f (b.size-u.length+x) (seg (bl b) (b.size-u.length) (b.size-u.length+x)) with
      | inl g=>
       rw[hff] at hS
       simp only[bnd] at hS
       rw[nextR_inl hS,nextR_inl hff,shutS_bad]
       exact⟨rfl,fun ⟨p,hp⟩=>by cases hp⟩
      | inr y=>
       obtain⟨y,v⟩:=y
       rw[hff] at hS
       simp only[bnd,shutR] at hS
       have hvl:=hf.seg (by omega) (by omega) hff
       rw[nextR_inr hff,outR_inr hff]
       by_cases hv:v=[]
       ·rw[if_pos hv] at hS
        subst hv
        rw[nextR_inr hS,outR_inr hS]
        have hsh:shutS b.size (.inr (b.size-u.length+x-([]:List UInt8).length,b.size-u.length+x))=.inr (b.size-u.length+x,b.size-u.length+x):=by
         unfold shutS
         rw[if_neg (by simp[stA,stE])]
         rfl
        rw[hsh,hbase]
        exact⟨rfl,fun _=>⟨⟨_,rfl⟩,rfl⟩⟩
       ·rw[if_neg hv] at hS
        rw[nextR_inl hS]
        have hvl2:0<v.length:=by
         cases v with
         | nil=>exact absurd rfl hv
         | cons a r=>simp
        have hsh:shutS b.size (.inr (b.size-u.length+x-v.length,b.size-u.length+x))=.inl (7,b.size-u.length+x-v.length):=by
         unfold shutS
         rw[if_pos (by simp only[stA,stE];omega)]
         rfl
        rw[hsh]
        exact⟨rfl,fun ⟨p,hp⟩=>by cases hp⟩
   ·have hhk:h.toNat≠k:=fun e=>hh (by rw[← e];simp)
    have hN:needR (UInt8.ofNat k) 7 b.size (seg (bl b) a b.size)=.inl (7,b.size-(seg (bl b) a b.size).length):=by rw[hc];simp only[needR,if_neg hh]
    have hS:sectR k b.size f (seg (bl b) a b.size)=.inl (7,b.size-(seg (bl b) a b.size).length):=by rw[hc];simp only[sectR,openR,if_pos hhk,bnd]
    exact bad _ (k1.symm.trans (nextR_inl hN)) (nextR_inl hS)
structure BoxI (B:Nat) (r rb mb:Nat) (o0 o1:Option (List ByteArray)) (o2 o3:Option Nat) (o4:Option (List Wire.Fn)) (W:World):Prop where
 tab:Tab W
 rc:W.cell? ⟨rb,0,none⟩=some (.pointer (some ⟨r,0,none⟩))
 m0:∃ v L,W.cell? ⟨mb,0,none⟩=some v∧StrsFar B W v L∧∀ X,o0=some X→L=X
 m1:∃ v L,W.cell? ⟨mb,1,none⟩=some v∧StrsFar B W v L∧∀ X,o1=some X→L=X
 m2:∃ n:Nat,W.cell? ⟨mb,2,none⟩=some (.int .i64 n)∧∀ X,o2=some X→n=X
 m3:∃ n:Nat,W.cell? ⟨mb,3,none⟩=some (.int .i64 n)∧∀ X,o3=some X→n=X
 m4:∃ v L,W.cell? ⟨mb,4,none⟩=some v∧FnsFar B W v L∧∀ X,o4=some X→L=X
 fz:∀ i,W.frozen? ⟨mb,i,none⟩=false
 dis:∀ v0 v1 g,W.cell? ⟨mb,0,none⟩=some v0→W.cell? ⟨mb,1,none⟩=some v1→v0.ownBlock=some g→v1.ownBlock=some g→False
 n0:r≠6
 n1:mb≠6
 n2:r≠mb
 n3:r≠rb
 n4:mb≠rb
 lr:r<B
 lm:mb<B
 lB:B≤W.heap.size
variable {B r rb mb : Nat} {o0 o1 : Option (List ByteArray)} {o2 o3 : Option Nat} {o4 : Option (List Wire.Fn)} {W W' : World}
theorem BoxI.ltm (h:BoxI B r rb mb o0 o1 o2 o3 o4 W):mb<W.heap.size:=Nat.lt_of_lt_of_le h.lm h.lB
theorem BoxI.ltr (h:BoxI B r rb mb o0 o1 o2 o3 o4 W):rb<W.heap.size:=lt_of_cell (a:=⟨rb,0,none⟩) h.rc
theorem BoxI.fr (h:BoxI B r rb mb o0 o1 o2 o3 o4 W) (hf:Fr [r] W W'):BoxI B r rb mb o0 o1 o2 o3 o4 W':=by
 have hS:∀ x,x ∈ [r]→x<B:=fun x hx=>by have:=h.lr;simp at hx;omega
 have cm:∀ i,W'.cell? ⟨mb,i,none⟩=W.cell? ⟨mb,i,none⟩:=fun i=>hf.cell (p:=⟨mb,i,none⟩) h.ltm (by simpa using fun e=>h.n2 e.symm)
 obtain⟨v0,L0,a0,b0,c0⟩:=h.m0
 obtain⟨v1,L1,a1,b1,c1⟩:=h.m1
 obtain⟨n2,a2,c2⟩:=h.m2
 obtain⟨n3,a3,c3⟩:=h.m3
 obtain⟨v4,L4,a4,b4,c4⟩:=h.m4
 refine⟨h.tab.fr hf (by simpa using fun e=>h.n0 e.symm),(hf.cell (p:=⟨rb,0,none⟩) h.ltr (by simpa using fun e=>h.n3 e.symm)).trans h.rc,⟨v0,L0,(cm 0).trans a0,b0.fr hf hS,c0⟩,⟨v1,L1,(cm 1).trans a1,b1.fr hf hS,c1⟩,
  ⟨n2,(cm 2).trans a2,c2⟩,⟨n3,(cm 3).trans a3,c3⟩,⟨v4,L4,(cm 4).trans a4,b4.fr hf hS,c4⟩,fun i=>(hf.frozen (p:=⟨mb,i,none⟩) h.ltm (by simpa using fun e=>h.n2 e.symm)).trans (h.fz i),fun w0 w1 g j0 j1=>h.dis w0 w1 g ((cm 0).symm.trans j0) ((cm 1).symm.trans j1),h.n0,h.n1,h.n2,h.n3,h.n4,h.lr,h.lm,Nat.le_trans h.lB hf.size⟩
theorem fr_set (W:World) (mb i:Nat) (v:Value):Fr [mb] W (W.setCell ⟨mb,i,none⟩ v):=(Fr.refl [mb] W).setCell (p:=⟨mb,i,none⟩) (.inl (by simp)) _
theorem BoxI.set (h:BoxI B r rb mb o0 o1 o2 o3 o4 W) (i:Nat) (v:Value) (q0 q1:Option (List ByteArray)) (q2 q3:Option Nat) (q4:Option (List Wire.Fn))
  (h0:∃ v' L,(W.setCell ⟨mb,i,none⟩ v).cell? ⟨mb,0,none⟩=some v'∧StrsFar B W v' L∧∀ X,q0=some X→L=X)
  (h1:∃ v' L,(W.setCell ⟨mb,i,none⟩ v).cell? ⟨mb,1,none⟩=some v'∧StrsFar B W v' L∧∀ X,q1=some X→L=X)
  (h2:∃ n:Nat,(W.setCell ⟨mb,i,none⟩ v).cell? ⟨mb,2,none⟩=some (.int .i64 n)∧∀ X,q2=some X→n=X)
  (h3:∃ n:Nat,(W.setCell ⟨mb,i,none⟩ v).cell? ⟨mb,3,none⟩=some (.int .i64 n)∧∀ X,q3=some X→n=X)
  (h4:∃ v' L,(W.setCell ⟨mb,i,none⟩ v).cell? ⟨mb,4,none⟩=some v'∧FnsFar B W v' L∧∀ X,q4=some X→L=X)
  (hd:∀ v0 v1 g,(W.setCell ⟨mb,i,none⟩ v).cell? ⟨mb,0,none⟩=some v0→(W.setCell ⟨mb,i,none⟩ v).cell? ⟨mb,1,none⟩=some v1→v0.ownBlock=some g→v1.ownBlock=some g→False):BoxI B r rb mb q0 q1 q2 q3 q4 (W.setCell ⟨mb,i,none⟩ v):=by
 have hf:=fr_set W mb i v
 have hS:∀ x,x ∈ [mb]→x<B:=fun x hx=>by have:=h.lm;simp at hx;omega
 obtain⟨v0,L0,a0,b0,c0⟩:=h0
 obtain⟨v1,L1,a1,b1,c1⟩:=h1
 obtain⟨v4,L4,a4,b4,c4⟩:=h4
 exact⟨h.tab.fr hf (by simpa using fun e=>h.n1 e.symm),(hf.cell (p:=⟨rb,0,none⟩) h.ltr (by simpa using fun e=>h.n4 e.symm)).trans h.rc,⟨v0,L0,a0,b0.fr hf hS,c0⟩,⟨v1,L1,a1,b1.fr hf hS,c1⟩,h2,h3,⟨v4,L4,a4,b4.fr hf hS,c4⟩,
  fun j=>by rw[World.frozen?_setCell];exact h.fz j,hd,h.n0,h.n1,h.n2,h.n3,h.n4,h.lr,h.lm,Nat.le_trans h.lB hf.size⟩
theorem StrsFar.base {B B':Nat}{W:World}{v:Value}{L:List ByteArray} (h:StrsFar B W v L) (hb:B'≤B):StrsFar B' W v L:=by
 obtain⟨a0,cap,g,off,h1,h2,h3,h4,h5⟩:=h
 exact⟨a0,cap,g,off,h1,h2,fun h=>⟨(h3 h).1,(h3 h).2.1,Nat.le_trans hb (h3 h).2.2⟩,h4,own_low h5 hb⟩
theorem FnsFar.base {B B':Nat}{W:World}{v:Value}{L:List Wire.Fn} (h:FnsFar B W v L) (hb:B'≤B):FnsFar B' W v L:=by
 obtain⟨a0,cap,g,off,h1,h2,h3,h4,h5⟩:=h
 exact⟨a0,cap,g,off,h1,h2,fun h=>⟨(h3 h).1,(h3 h).2.1,Nat.le_trans hb (h3 h).2.2⟩,h4,own_low h5 hb⟩
theorem set_same (h:BoxI B r rb mb o0 o1 o2 o3 o4 W) (i:Nat) (hi:i<5) (v:Value):(W.setCell ⟨mb,i,none⟩ v).cell? ⟨mb,i,none⟩=some v:=by
 obtain⟨v0,L0,a0,-⟩:=h.m0
 obtain⟨v1,L1,a1,-⟩:=h.m1
 obtain⟨n2,a2,-⟩:=h.m2
 obtain⟨n3,a3,-⟩:=h.m3
 obtain⟨v4,L4,a4,-⟩:=h.m4
 obtain rfl | rfl | rfl | rfl | rfl:i=0∨i=1∨i=2∨i=3∨i=4:=by omega
 ·exact cell_set a0
 ·exact cell_set a1
 ·exact cell_set a2
 ·exact cell_set a3
 ·exact cell_set a4
theorem BoxI.set0 (h:BoxI B r rb mb o0 o1 o2 o3 o4 W) (v:Value) (L:List ByteArray) (q:Option (List ByteArray)) (hv:StrsFar B W v L) (hq:∀ X,q=some X→L=X) (hn:∀ v1 g,W.cell? ⟨mb,1,none⟩=some v1→v.ownBlock=some g→v1.ownBlock=some g→False):BoxI B r rb mb q o1 o2 o3 o4 (W.setCell ⟨mb,0,none⟩ v):=by
 obtain⟨v1,L1,a1,b1⟩:=h.m1
 obtain⟨n2,a2,c2⟩:=h.m2
 obtain⟨n3,a3,c3⟩:=h.m3
 obtain⟨v4,L4,a4,b4⟩:=h.m4
 exact h.set 0 v q o1 o2 o3 o4 ⟨v,L,set_same h 0 (by omega) v,hv,hq⟩ ⟨v1,L1,(setCell_off (by decide)).trans a1,b1⟩ ⟨n2,(setCell_off (by decide)).trans a2,c2⟩ ⟨n3,(setCell_off (by decide)).trans a3,c3⟩ ⟨v4,L4,(setCell_off (by decide)).trans a4,b4⟩
  (fun w0 w1 g j0 j1 e0 e1=>by rw[set_same h 0 (by omega) v] at j0;cases j0;exact hn w1 g ((setCell_off (by decide)).symm.trans j1) e0 e1)
theorem BoxI.set1 (h:BoxI B r rb mb o0 o1 o2 o3 o4 W) (v:Value) (L:List ByteArray) (q:Option (List ByteArray)) (hv:StrsFar B W v L) (hq:∀ X,q=some X→L=X) (hn:∀ v1 g,W.cell? ⟨mb,0,none⟩=some v1→v.ownBlock=some g→v1.ownBlock=some g→False):BoxI B r rb mb o0 q o2 o3 o4 (W.setCell ⟨mb,1,none⟩ v):=by
 obtain⟨v0,L0,a0,b0⟩:=h.m0
 obtain⟨n2,a2,c2⟩:=h.m2
 obtain⟨n3,a3,c3⟩:=h.m3
 obtain⟨v4,L4,a4,b4⟩:=h.m4
 exact h.set 1 v o0 q o2 o3 o4 ⟨v0,L0,(setCell_off (by decide)).trans a0,b0⟩ ⟨v,L,set_same h 1 (by omega) v,hv,hq⟩ ⟨n2,(setCell_off (by decide)).trans a2,c2⟩ ⟨n3,(setCell_off (by decide)).trans a3,c3⟩ ⟨v4,L4,(setCell_off (by decide)).trans a4,b4⟩
  (fun w0 w1 g j0 j1 e0 e1=>by rw[set_same h 1 (by omega) v] at j1;cases j1;exact hn w0 g ((setCell_off (by decide)).symm.trans j0) e1 e0)
theorem BoxI.set2 (h:BoxI B r rb mb o0 o1 o2 o3 o4 W) (n:Nat) (q:Option Nat) (hq:∀ X,q=some X→n=X):BoxI B r rb mb o0 o1 q o3 o4 (W.setCell ⟨mb,2,none⟩ (.int .i64 n)):=by
 obtain⟨v0,L0,a0,b0⟩:=h.m0
 obtain⟨v1,L1,a1,b1⟩:=h.m1
 obtain⟨n3,a3,c3⟩:=h.m3
 obtain⟨v4,L4,a4,b4⟩:=h.m4
 exact h.set 2 _ o0 o1 q o3 o4 ⟨v0,L0,(setCell_off (by decide)).trans a0,b0⟩ ⟨v1,L1,(setCell_off (by decide)).trans a1,b1⟩ ⟨n,set_same h 2 (by omega) _,hq⟩ ⟨n3,(setCell_off (by decide)).trans a3,c3⟩ ⟨v4,L4,(setCell_off (by decide)).trans a4,b4⟩
  (fun w0 w1 g j0 j1=>h.dis w0 w1 g ((setCell_off (by decide)).symm.trans j0) ((setCell_off (by decide)).symm.trans j1))
theorem BoxI.set3 (h:BoxI B r rb mb o0 o1 o2 o3 o4 W) (n:Nat) (q:Option Nat) (hq:∀ X,q=some X→n=X):BoxI B r rb mb o0 o1 o2 q o4 (W.setCell ⟨mb,3,none⟩ (.int .i64 n)):=by
 obtain⟨v0,L0,a0,b0⟩:=h.m0
 obtain⟨v1,L1,a1,b1⟩:=h.m1
 obtain⟨n2,a2,c2⟩:=h.m2
 obtain⟨v4,L4,a4,b4⟩:=h.m4
 exact h.set 3 _ o0 o1 o2 q o4 ⟨v0,L0,(setCell_off (by decide)).trans a0,b0⟩ ⟨v1,L1,(setCell_off (by decide)).trans a1,b1⟩ ⟨n2,(setCell_off (by decide)).trans a2,c2⟩ ⟨n,set_same h 3 (by omega) _,hq⟩ ⟨v4,L4,(setCell_off (by decide)).trans a4,b4⟩
  (fun w0 w1 g j0 j1=>h.dis w0 w1 g ((setCell_off (by decide)).symm.trans j0) ((setCell_off (by decide)).symm.trans j1))
theorem BoxI.set4 (h:BoxI B r rb mb o0 o1 o2 o3 o4 W) (v:Value) (L:List Wire.Fn) (q:Option (List Wire.Fn)) (hv:FnsFar B W v L) (hq:∀ X,q=some X→L=X):BoxI B r rb mb o0 o1 o2 o3 q (W.setCell ⟨mb,4,none⟩ v):=by
 obtain⟨v0,L0,a0,b0⟩:=h.m0
 obtain⟨v1,L1,a1,b1⟩:=h.m1
 obtain⟨n2,a2,c2⟩:=h.m2
 obtain⟨n3,a3,c3⟩:=h.m3
 exact h.set 4 v o0 o1 o2 o3 q ⟨v0,L0,(setCell_off (by decide)).trans a0,b0⟩ ⟨v1,L1,(setCell_off (by decide)).trans a1,b1⟩ ⟨n2,(setCell_off (by decide)).trans a2,c2⟩ ⟨n3,(setCell_off (by decide)).trans a3,c3⟩ ⟨v,L,set_same h 4 (by omega) v,hv,hq⟩
  (fun w0 w1 g j0 j1=>h.dis w0 w1 g ((setCell_off (by decide)).symm.trans j0) ((setCell_off (by decide)).symm.trans j1))
theorem oneR_text (most:Nat):oneR (fun _=>true) most=bytesR most:=by
 funext base c
 unfold oneR
 cases bytesR most base c with
 | inl f=>rfl
 | inr p=>simp[bnd]
theorem closure62 {b:ByteArray} (hs:b.size≤40000) (W:World) (s:Sta) (h:RdS W r b s) (hB:BoxI B r rb mb o0 o1 o2 o3 o4 W) :
  Calls Tryz.prog 98 #[.pointer (some ⟨rb,0,none⟩),.pointer (some ⟨mb,0,none⟩)] W fun ee W'=>ee=.returned (.tuple #[])∧RdS W' r b (nextR (listR (fun _=>true) 100) (bl b) s) ∧
   (∃ o,BoxI B r rb mb o o1 o2 o3 o4 W'∧((∃ p,nextR (listR (fun _=>true) 100) (bl b) s=.inr p)→o=some (outR (listR (fun _=>true) 100) (bl b) [] s)))∧Fr [r,mb] W W':=by
 have hone:∀ (W:World) (s:Sta),RdS W r b s→Tab W→Calls Tryz.prog 100 #[.pointer (some ⟨r,0,none⟩)] W fun ee w'=>(∃ o,ee=.returned (.string o)∧((∃ p,nextR (oneR (fun _=>true) 100) (bl b) s=.inr p)→o=outR (oneR (fun _=>true) 100) (bl b) ⟨#[]⟩ s))∧RdS w' r b (nextR (oneR (fun _=>true) 100) (bl b) s)∧Fr [r] W w':=fun W s hW _=>by
  rw[oneR_text]
  refine (text_any hW hs).mono ?_
  rintro ee w' ⟨rfl,K,F⟩
  exact⟨⟨_,rfl,fun _=>rfl⟩,K,F⟩
 have ht:=texts64_any (fun _=>true) 100 h hs hB.tab hB.n0 hone
 have rc:=hB.rc
 have hlB:=hB.lB
 generalize outR (listR (fun _=>true) 100) (bl b) [] s=RL at *
 generalize nextR (listR (fun _=>true) 100) (bl b) s=RS at *
 clear hone h
 go_enter Tryz.func98,Tryz.ntmps98
 go_wp2_with fail
 refine ht.mono ?_
 rintro ee w1 ⟨⟨v,L,rfl,hv,hL⟩,K1,F1⟩
 have hB1:=hB.fr F1
 have fz:=hB1.fz
 obtain⟨v0,L0,z0,-⟩:=hB1.m0
 have hB2:=hB1.set0 v L (some L) (hv.base hlB) (fun X hX=>by cases hX;rfl) (fun v1 g j e0 e1=>by
  obtain⟨v1',L1,k1,k2,-⟩:=hB.m1
  have j':=(F1.cell (p:=⟨mb,1,none⟩) hB.ltm (by simpa using fun e=>hB.n2 e.symm)).symm.trans j
  rw[k1] at j'
  cases j'
  have:=(k2.own.lt g e1).2
  have:=(hv.own.lt g e0).1
  omega)
 have F2:Fr [r,mb] W (w1.setCell ⟨mb,0,none⟩ v):=(F1.mono (by simp)).setCell (p:=⟨mb,0,none⟩) (.inl (by simp)) _
 have K2:=K1.fr (fr_set w1 mb 0 v) (by simpa using hB.n2)
 have HL:Hid _:=hL
 obtain⟨a0,cap,g,off,rfl,-⟩:=hv
 clear ht hL rc
 go_wp2
 go_end0
 refine⟨rfl,K2,⟨_,hB2,fun hp=>?_⟩,F2⟩
 rw[HL.out hp]
theorem closure65 {b:ByteArray} (hs:b.size≤40000) (W:World) (s:Sta) (h:RdS W r b s) (hB:BoxI B r rb mb o0 o1 o2 o3 o4 W) :
  Calls Tryz.prog 101 #[.pointer (some ⟨rb,0,none⟩),.pointer (some ⟨mb,0,none⟩)] W fun ee W'=>ee=.returned (.tuple #[])∧RdS W' r b (nextR (listR ipF 50) (bl b) s) ∧
   (∃ o,BoxI B r rb mb o0 o o2 o3 o4 W'∧((∃ p,nextR (listR ipF 50) (bl b) s=.inr p)→o=some (outR (listR ipF 50) (bl b) [] s)))∧Fr [r,mb] W W':=by
 have ht:=texts66_any ipF 50 h hs hB.tab hB.n0 (fun W s hW hT=>pattern_any hW hs hT hB.n0)
 have rc:=hB.rc
 have hlB:=hB.lB
 generalize outR (listR ipF 50) (bl b) [] s=RL at *
 generalize nextR (listR ipF 50) (bl b) s=RS at *
 clear h
 go_enter Tryz.func101,Tryz.ntmps101
 go_wp2_with fail
 refine ht.mono ?_
 rintro ee w1 ⟨⟨v,L,rfl,hv,hL⟩,K1,F1⟩
 have hB1:=hB.fr F1
 have fz:=hB1.fz
 obtain⟨v0,L0,z0,-⟩:=hB1.m1
 have hB2:=hB1.set1 v L (some L) (hv.base hlB) (fun X hX=>by cases hX;rfl) (fun v1 g j e0 e1=>by
  obtain⟨v1',L1,k1,k2,-⟩:=hB.m0
  have j':=(F1.cell (p:=⟨mb,0,none⟩) hB.ltm (by simpa using fun e=>hB.n2 e.symm)).symm.trans j
  rw[k1] at j'
  cases j'
  have:=(k2.own.lt g e1).2
  have:=(hv.own.lt g e0).1
  omega)
 have F2:Fr [r,mb] W (w1.setCell ⟨mb,1,none⟩ v):=(F1.mono (by simp)).setCell (p:=⟨mb,1,none⟩) (.inl (by simp)) _
 have K2:=K1.fr (fr_set w1 mb 1 v) (by simpa using hB.n2)
 have HL:Hid _:=hL
 obtain⟨a0,cap,g,off,rfl,-⟩:=hv
 clear ht hL rc
 go_wp2
 go_end0
 refine⟨rfl,K2,⟨_,hB2,fun hp=>?_⟩,F2⟩
 rw[HL.out hp]
theorem closure67 {b:ByteArray} (hs:b.size≤40000) (W:World) (s:Sta) (h:RdS W r b s) (hB:BoxI B r rb mb o0 o1 o2 o3 o4 W) :
  Calls Tryz.prog 103 #[.pointer (some ⟨rb,0,none⟩),.pointer (some ⟨mb,0,none⟩)] W fun ee W'=>ee=.returned (.tuple #[])∧RdS W' r b (nextR (numberR 0 1000) (bl b) s) ∧
   (∃ o,BoxI B r rb mb o0 o1 o o3 o4 W'∧((∃ p,nextR (numberR 0 1000) (bl b) s=.inr p)→o=some (outR (numberR 0 1000) (bl b) 0 s)))∧Fr [r,mb] W W':=by
 have ht:=limited_any (lo:=0) (hi:=1000) rfl rfl h hs (by omega) (by omega)
 change Calls Tryz.prog 104 #[.pointer (some ⟨r,0,none⟩),.int .i64 0,.int .i64 1000] W _ at ht
 have rc:=hB.rc
 generalize outR (numberR 0 1000) (bl b) 0 s=n at *
 generalize nextR (numberR 0 1000) (bl b) s=RS at *
 clear h
 go_enter Tryz.func103,Tryz.ntmps103
 go_wp2_with fail
 refine ht.mono ?_
 rintro ee w1 ⟨rfl,K1,F1⟩
 have hB1:=hB.fr F1
 have fz:=hB1.fz
 obtain⟨n0,z0,-⟩:=hB1.m2
 have hB2:=hB1.set2 n (some n) (fun X hX=>by cases hX;rfl)
 have F2:Fr [r,mb] W (w1.setCell ⟨mb,2,none⟩ (.int .i64 n)):=(F1.mono (by simp)).setCell (p:=⟨mb,2,none⟩) (.inl (by simp)) _
 have K2:=K1.fr (fr_set w1 mb 2 (.int .i64 n)) (by simpa using hB.n2)
 clear ht rc
 go_wp2
 go_end0
 exact⟨rfl,K2,⟨_,hB2,fun hp=>rfl⟩,F2⟩
theorem closure69 {b:ByteArray} (hs:b.size≤40000) (W:World) (s:Sta) (h:RdS W r b s) (hB:BoxI B r rb mb o0 o1 o2 o3 o4 W) :
  Calls Tryz.prog 105 #[.pointer (some ⟨rb,0,none⟩),.pointer (some ⟨mb,0,none⟩)] W fun ee W'=>ee=.returned (.tuple #[])∧RdS W' r b (nextR (numberR 0 1000) (bl b) s) ∧
   (∃ o,BoxI B r rb mb o0 o1 o2 o o4 W'∧((∃ p,nextR (numberR 0 1000) (bl b) s=.inr p)→o=some (outR (numberR 0 1000) (bl b) 0 s)))∧Fr [r,mb] W W':=by
 have ht:=limited_any (lo:=0) (hi:=1000) rfl rfl h hs (by omega) (by omega)
 change Calls Tryz.prog 104 #[.pointer (some ⟨r,0,none⟩),.int .i64 0,.int .i64 1000] W _ at ht
 have rc:=hB.rc
 generalize outR (numberR 0 1000) (bl b) 0 s=n at *
 generalize nextR (numberR 0 1000) (bl b) s=RS at *
 clear h
 go_enter Tryz.func105,Tryz.ntmps105
 go_wp2_with fail
 refine ht.mono ?_
 rintro ee w1 ⟨rfl,K1,F1⟩
 have hB1:=hB.fr F1
 have fz:=hB1.fz
 obtain⟨n0,z0,-⟩:=hB1.m3
 have hB2:=hB1.set3 n (some n) (fun X hX=>by cases hX;rfl)
 have F2:Fr [r,mb] W (w1.setCell ⟨mb,3,none⟩ (.int .i64 n)):=(F1.mono (by simp)).setCell (p:=⟨mb,3,none⟩) (.inl (by simp)) _
 have K2:=K1.fr (fr_set w1 mb 3 (.int .i64 n)) (by simpa using hB.n2)
 clear ht rc
 go_wp2
 go_end0
 exact⟨rfl,K2,⟨_,hB2,fun hp=>rfl⟩,F2⟩
theorem closure70 {b:ByteArray} (hs:b.size≤40000) (W:World) (s:Sta) (h:RdS W r b s) (hB:BoxI B r rb mb o0 o1 o2 o3 o4 W) :
  Calls Tryz.prog 106 #[.pointer (some ⟨rb,0,none⟩),.pointer (some ⟨mb,0,none⟩)] W fun ee W'=>ee=.returned (.tuple #[])∧RdS W' r b (nextR fnListR (bl b) s) ∧
   (∃ o,BoxI B r rb mb o0 o1 o2 o3 o W'∧((∃ p,nextR fnListR (bl b) s=.inr p)→o=some (outR fnListR (bl b) [] s)))∧Fr [r,mb] W W':=by
 have ht:=funcs_any h hs
 have rc:=hB.rc
 have hlB:=hB.lB
 generalize outR fnListR (bl b) [] s=RL at *
 generalize nextR fnListR (bl b) s=RS at *
 clear h
 go_enter Tryz.func106,Tryz.ntmps106
 go_wp2_with fail
 refine ht.mono ?_
 rintro ee w1 ⟨⟨v,L,rfl,hv,hL⟩,K1,F1⟩
 have hB1:=hB.fr F1
 have fz:=hB1.fz
 obtain⟨v0,L0,z0,-⟩:=hB1.m4
 have hB2:=hB1.set4 v L (some L) (hv.base hlB) (fun X hX=>by cases hX;rfl)
 have F2:Fr [r,mb] W (w1.setCell ⟨mb,4,none⟩ v):=(F1.mono (by simp)).setCell (p:=⟨mb,4,none⟩) (.inl (by simp)) _
 have K2:=K1.fr (fr_set w1 mb 4 v) (by simpa using hB.n2)
 have HL:Hid _:=hL
 obtain⟨a0,cap,g,off,rfl,-⟩:=hv
 clear ht hL rc
 go_wp2
 go_end0
 refine⟨rfl,K2,⟨_,hB2,fun hp=>?_⟩,F2⟩
 rw[HL.out hp]
end Go.Proofs.YtclkgoigmgkffaaGreatDoor
