/-
  Texts Jm.
-/
import Derived.Test.YtclkgoigmgkffaaGreatDoorMA
import Derived.Test.YtclkgoigmgkffaaGreatDoorM31
set_option linter.unusedSimpArgs false
set_option linter.unusedVariables false
set_option maxRecDepth 100000
set_option maxHeartbeats 40000000
namespace Go.Proofs.YtclkgoigmgkffaaGreatDoor
open Go.RowKit
open Wire Flow Mach
theorem InsM.of_block {W W':World}{g:Nat}{L:List Stp}{T:List Nat} (h:InsM W g L T) (hb:W'.heap[g]?=W.heap[g]?):InsM W' g L T:=by
 have e:∀ j,W'.cell? ⟨g,j,none⟩=W.cell? ⟨g,j,none⟩:=fun j=>by unfold World.cell?;rw[hb]
 refine⟨h.len,fun i s t hs ht=>?_,fun k=>?_⟩
 ·obtain⟨h0,h1,h2,h3,h4⟩:=h.cell i s t hs ht
  exact⟨(e _).trans h0,(e _).trans h1,(e _).trans h2,(e _).trans h3,(e _).trans h4⟩
 ·have:=h.fz k
  unfold World.frozen? at this ⊢
  rw[hb]
  exact this
def RnR (par:Nat→Nat) (l:List Stp) (G0 G:List (Option (List Nat))) (Q:List Bool) (more wrong:Bool) (i:Nat):Prop:=
 (wrong=true∧¬ Flow.Safe par l)∨(wrong=false∧FSt par l G Q∧((more=false∧G=G0∧∀ j:Nat,j<i→Q[j]?≠some true)∨(more=true∧leftB G<leftB G0)))
theorem RnR.skip {par:Nat→Nat}{l:List Stp}{G0 G:List (Option (List Nat))}{Q:List Bool}{more wrong:Bool}{i:Nat} (h:RnR par l G0 G Q more wrong i) (hq:wrong=true∨Q[i]?=some false):RnR par l G0 G Q more wrong (i+1):=by
 rcases h with h | ⟨h1,h2,h3⟩
 ·exact .inl h
 ·refine .inr ⟨h1,h2,?_⟩
  rcases h3 with ⟨a,b,c⟩ | h3
  ·refine .inl ⟨a,b,fun j hj=>?_⟩
   by_cases e:j<i
   ·exact c j e
   ·have e2:j=i:=by omega
    subst e2
    rcases hq with hq | hq
    ·rw[h1] at hq;cases hq
    ·rw[hq];simp
  ·exact .inr h3
theorem FSt.at_ {par:Nat→Nat}{l:List Stp}{G:List (Option (List Nat))}{Q:List Bool} (h:FSt par l G Q) (i:Nat):FSi par l G (Q.set i false) i:=by
 refine⟨h.low,h.z,fun j hj hq=>?_,fun j hq=>?_⟩
 ·rw[List.getElem?_set_ne (fun e=>hj e.symm)] at hq
  exact h.done j hq
 ·by_cases e:j=i
  ·subst e
   rw[List.getElem?_set] at hq
   split at hq
   ·split at hq
    ·cases hq
    ·cases hq
   ·rename_i hx;exact absurd rfl hx
  ·rw[List.getElem?_set_ne (fun e2=>e e2.symm)] at hq
   exact h.known j hq
theorem RnR.pass {par:Nat→Nat}{l:List Stp}{G0 G G':List (Option (List Nat))}{Q Q':List Bool}{more more' wrong':Bool}{i:Nat} (h:RnR par l G0 G Q more false i) (hl:i<Q.length) (hp:PsR par l G (Q.set i false) more false G' Q' more' wrong'):RnR par l G0 G' Q' more' wrong' (i+1):=by
 rcases h with ⟨h,-⟩ | ⟨-,h2,h3⟩
 ·cases h
 ·rcases hp with hp | ⟨p1,p2,p3⟩
  ·exact .inl hp
  ·refine .inr ⟨p1,p2,?_⟩
   rcases p3 with ⟨rfl,rfl,rfl⟩ | ⟨p3,p4⟩
   ·rcases h3 with ⟨a,b,c⟩ | h3
    ·refine .inl ⟨a,b,fun j hj=>?_⟩
     by_cases e:j=i
     ·subst e
      rw[List.getElem?_set_self hl]
      simp
     ·rw[List.getElem?_set_ne (fun e2=>e e2.symm)]
      exact c j (by omega)
    ·exact .inr h3
   ·right
    refine⟨p3,?_⟩
    rcases h3 with ⟨a,rfl,c⟩ | ⟨a,b⟩
    ·exact p4
    ·omega
def RndP (B fb kb qb n:Nat) (av mf:Value) (par:Nat→Nat) (l:List Stp) (G:List (Option (List Nat))) (W':World):Prop:=
 ∃ G' Q' more' wrong' P',FloC W' B fb kb qb n av mf G' Q' more' wrong' P'∧RnR par l G G' Q' more' wrong' n
theorem round_any (W:World)(B fb kb qb n ga acap gf off nf cap:Nat)(m:Mo)(l:List Stp)(T:List Nat)(G:List (Option (List Nat)))(Q:List Bool)(P:Nat→Nat)
  (h:FloC W B fb kb qb n (.slice (some ⟨ga,0,none⟩) n acap) (.slice (some ⟨gf,off,none⟩) nf cap) G Q false false P) (hn:n≤100000) (hln:l.length=n) (hI:InsM W ga l T) (hga:ga<B) (hJ:Joined l T n)
  (hnf:nf=m.fns.length) (hpar:∀ a,a<nf→W.cell? ⟨gf,off+a*3,none⟩=some (.int .i64 (parOf m a:Nat))∧parOf m a≤8) (hgf:gf<B) (hnf2:nf≤1000) (hok:∀ s ∈ l,StpOk m s) (hF:FSt (parOf m) l G Q) :
  Calls Tryz.prog 113 #[.pointer (some ⟨fb,0,none⟩)] W fun e W'=>e=.returned (.tuple #[])∧FrB B W W'∧RndP B fb kb qb n (.slice (some ⟨ga,0,none⟩) n acap) (.slice (some ⟨gf,off,none⟩) nf cap) (parOf m) l G W':=by
 have hps:=fun (W1:World) (G1:List (Option (List Nat))) (Q1:List Bool) (m1 w1:Bool) (P1:Nat→Nat) (h1:FloC W1 B fb kb qb n (.slice (some ⟨ga,0,none⟩) n acap) (.slice (some ⟨gf,off,none⟩) nf cap) G1 Q1 m1 w1 P1) (hFr:FrB B W W1) (i:Nat) (hi:i<n) (st:List Nat) (hG:G1[i]?=some (some st)) (hFi:FSi (parOf m) l G1 Q1 i)=>
  pass_any W1 B fb kb qb n ga acap gf off nf cap m l T G1 Q1 m1 w1 P1 h1 hn hln (hI.of_block (hFr.block ga hga)) hga hJ hnf (fun a ha=>⟨by unfold World.cell?;rw[hFr.block gf hgf];exact (hpar a ha).1,(hpar a ha).2⟩) hgf hnf2 hok i hi st hG hFi
 have HPs:Hid _:=fun (_:Unit)=>hps
 have c5:=h.c5
 have HF:Hid _:=AI h hF
 clear hps h hI hJ hpar hok hF hnf hln hga hgf hnf2
 go_enter Tryz.func113,Tryz.ntmps113
 go_wp2
 go_loopw [8] (fun j wr=>∃ (i:Nat) (G1:List (Option (List Nat))) (Q1:List Bool) (m1 w1:Bool) (P1:Nat→Nat),j=.int .i64 (i:Nat)∧i≤n∧FrB B W wr∧FloC wr B fb kb qb n (.slice (some ⟨ga,0,none⟩) n acap) (.slice (some ⟨gf,off,none⟩) nf cap) G1 Q1 m1 w1 P1∧Hid (RnR (parOf m) l G G1 Q1 m1 w1 i)) (fun j _=>n-(intOf j).toNat)
 case atStart=>exact⟨0,G,Q,false,false,P,rfl,by omega,FrB.refl _ _,HF.out.1,.inr ⟨rfl,HF.out.2,.inl ⟨rfl,rfl,fun j hj=>absurd hj (by omega)⟩⟩⟩
 case round=>
  clear c5
  obtain⟨i,G1,Q1,m1,w1,P1,rfl,hi,R1,F1,hR⟩:=hrel
  have d7:=F1.c7
  have d9:=F1.c9
  by_cases hlt:i<n
  ·have g1:(i:Int)<(n:Int):=by omega
   obtain⟨b,hb⟩:∃ b,Q1[i]?=some b:=⟨_,Lge (by rw[F1.ql];exact hlt)⟩
   have di:=F1.qs i b hb
   have zi:=F1.zq i
   cases b with
   | false=>
    have HX:Hid _:=AI F1 (AI R1 hb)
    clear F1 R1 hb HPs
    go_wp2
    refine⟨⟨i+1,G1,Q1,m1,w1,P1,by go_num,by omega,HX.out.2.1,HX.out.1,hR.out.skip (.inr HX.out.2.2)⟩,?_⟩
    simp[intOf]
    omega
   | true=>
    cases w1 with
    | true=>
     have HX:Hid _:=AI F1 R1
     clear F1 R1 hb HPs
     go_wp2
     refine⟨⟨i+1,G1,Q1,m1,true,P1,by go_num,by omega,HX.out.2,HX.out.1,hR.out.skip (.inl rfl)⟩,?_⟩
     simp[intOf]
     omega
    | false=>
     have hFs:FSt (parOf m) l G1 Q1:=by
      rcases hR.out with ⟨h,-⟩ | ⟨-,h,-⟩
      ·cases h
      ·exact h
     obtain⟨st,hst⟩:=hFs.known i hb
     have F2:=F1.setWait hlt false
     have R2:=R1.trans (frB_set (W:=wr) (j:=i) (v:=.bool false) F1.bq)
     have HP:Hid _:=fun (_:Unit)=>HPs.out () _ G1 (Q1.set i false) m1 false P1 F2 R2 i hlt st hst (hFs.at_ i)
     have HX:Hid _:=AI F1 R2
     clear F1 R1 hb HPs hFs hst F2 R2
     go_wp2_with fail
     refine (HP.out ()).mono ?_
     rintro e w2 ⟨rfl,R3,G2,Q2,m2,w2',P2,F3,hp⟩
     have hql:=HX.out.1.ql
     go_wp2
     refine⟨⟨i+1,G2,Q2,m2,w2',P2,by go_num,by omega,HX.out.2.trans R3,F3,hR.out.pass (by omega) hp⟩,?_⟩
     simp[intOf]
     omega
  ·have g1:¬ (i:Int)<(n:Int):=by omega
   have HX:Hid _:=AI F1 R1
   clear F1 R1
   go_wp2
   go_end0
   have e:i=n:=by omega
   subst e
   exact⟨rfl,HX.out.2,G1,Q1,m1,w1,P1,HX.out.1,hR.out⟩
end Go.Proofs.YtclkgoigmgkffaaGreatDoor
