/-
  Texts Je Ip Ij.
-/
import Derived.Test.YtgpamchpeamnfaaGreatDoorMA
import Derived.Test.YtgpamchpeamnfaaGreatDoorM15
import Derived.Test.YtgpamchpeamnfaaGreatDoorM02
import Derived.Test.YtgpamchpeamnfaaGreatDoorM14
import Derived.Test.YtgpamchpeamnfaaGreatDoorM13
import Derived.Test.YtgpamchpeamnfaaGreatDoorM05
set_option linter.unusedSimpArgs false
set_option linter.unusedVariables false
set_option maxRecDepth 100000
set_option maxHeartbeats 40000000
open _root_.Go.Proofs.Tryz
namespace Go.Proofs.YtgpamchpeamnfaaGreatDoor
open Go.RowKit
open Wire Flow Mach
theorem rV.set {W:World}{g:Nat}{L:List Stp}{T:List Nat} (h:rV W g L T) {k:Nat} (hk:k<L.length) (v:Nat):rV (W.setCell ⟨g,k*5+4,none⟩ (.int .i64 (v:Nat))) g L (T.set k v):=by
 refine⟨by rw[List.length_set];exact h.len,fun i s t hs ht=>?_,fun j=>by rw[wfz];exact h.fz j⟩
 by_cases e:i=k
 ·subst e
  rw[List.getElem?_set_self (by rw[h.len];exact hk)] at ht
  obtain⟨t0,ht0⟩:∃ t0,T[i]?=some t0:=⟨_,Lge (by rw[h.len];exact hk)⟩
  obtain⟨h0,h1,h2,h3,h4⟩:=h.cell i s t0 hs ht0
  cases ht
  exact⟨(aA (by omega)).trans h0,(aA (by omega)).trans h1,(aA (by omega)).trans h2,(aA (by omega)).trans h3,aP h4⟩
 ·rw[List.getElem?_set_ne (fun e2=>e e2.symm)] at ht
  obtain⟨h0,h1,h2,h3,h4⟩:=h.cell i s t hs ht
  exact⟨(aA (by omega)).trans h0,(aA (by omega)).trans h1,(aA (by omega)).trans h2,(aA (by omega)).trans h3,(aA (by omega)).trans h4⟩
theorem aQe {L:List Stp}{a:Nat} (h:∀ s ∈ L,s.pl<20000):dY L (min a 2000000000)=dY L a:=by
 by_cases e:a≤2000000000
 ·rw[Nat.min_eq_left e]
 ·have h1:∀ p,20000≤p→dY L p=none:=fun p hp=>by
   cases hq:dY L p with
   | none=>rfl
   | some q=>
    obtain⟨s,hs,hpl⟩:=rK hq
    have:=h s (List.mem_of_getElem? hs)
    omega
  rw[h1 _ (by omega),h1 _ (by omega)]
def vV (L:List Stp) (T:List Nat) (k:Nat):Prop:=∀ i s,i<k→L[i]?=some s→far s.op=true→∃ t,T[i]?=some t∧dY L s.a=some t
def bGg (w:World) (g:Nat) (L:List Stp) (e:Ending) (w':World):Prop:=
 Fr [g] w w'∧((∃ q,dE L L=some q∧q≤20000∧e=.returned (.tuple #[.int .i64 q,.int .i64 11])) ∨
  (dE L L=none∧e=.returned (.tuple #[.int .i64 0,.int .i64 0])∧∃ T,rV w' g L T∧vV L T L.length))
theorem aQv (g:Nat)(L:List Stp)(T:List Nat)(cap:Nat)(h0:0<L.length)(hn2:L.length≤20000)(w:World)(hg:g<w.heap.size)(hI:rV w g L T)(hs:nP 0 L)(hpl:∀ s ∈ L,s.pl<20000)(hop:∀ s ∈ L,s.op<54) :
  Calls prog 104 #[.slice (some ⟨g,0,none⟩) L.length cap] w (bGg w g L):=by
 obtain⟨n,hn⟩:=eX (L.length)
 have hsr:=fun (W:World) (TT:List Nat) (p:Nat) (hW:g<W.heap.size) (hI:rV W g L TT)=>aKr g L TT n cap p hn (by omega) (by omega) W hW hI hs
 have HS:Hid _:=fun (_:Unit)=>hsr
 have HI:Hid _:=hI
 have HP:Hid _:=AI hpl (AI hop hn)
 rw[hn] at h0 hn2 ⊢
 clear hsr hI hs hpl hop hn
 go_enter func104,ntmps104
 go_wp2
 go_loopw [10] (fun j wr=>∃ (k:Nat) (TT:List Nat),j=.int .i64 (k:Nat)∧k≤n∧Fr [g] w wr∧Hid (rV wr g L TT∧dE L L=dE L (L.drop k)∧vV L TT k)) (fun j _=>n-(intOf j).toNat)
 case atStart=>exact⟨0,T,rfl,by omega,Fr.refl _ _,HI.out,rfl,fun i s hi=>absurd hi (by omega)⟩
 case round=>
  obtain⟨k,TT,rfl,hk,F1,hQ⟩:=hrel
  have hgw:g<wr.heap.size:=Nll hg F1.size
  by_cases hlt:k<n
  ·have g1:(k:Int)<(n:Int):=by omega
   obtain⟨s,hs⟩:∃ s,L[k]?=some s:=⟨_,Lge (by rw[HP.out.2.2];omega)⟩
   obtain⟨t,ht⟩:∃ t,TT[k]?=some t:=⟨_,Lge (by rw[hQ.out.1.len,HP.out.2.2];omega)⟩
   have hmem:=List.mem_of_getElem? hs
   have hpl:=HP.out.1 s hmem
   have hop:=HP.out.2.1 s hmem
   obtain⟨x0,x1,x2,x3,x4⟩:=hQ.out.1.cell k s t hs ht
   have fz4:=hQ.out.1.fz (k*5+4)
   have hdrop:L.drop k=s :: L.drop (k+1):=by
    rw[List.drop_eq_getElem_cons (by rw[HP.out.2.2];exact hlt)]
    congr 1
    exact (Lgs.1 hs).2
   have hbj:dE L L=if far s.op=true∧dY L s.a=none then some s.pl else dE L (L.drop (k+1)):=by rw[hQ.out.2.1,hdrop];rfl
   have hcl:=aQe (a:=s.a) HP.out.1
   have HB:Hid _:=AI hbj (AI hcl (AI hs ht))
   have HNm:Hid _:=fun (_:Unit)=>aQh s.op (by omega) wr
   have HSr:Hid _:=fun (_:Unit)=>HS.out () wr TT (min s.a 2000000000) hgw hQ.out.1
   obtain⟨sa,hsa⟩:=eX (min s.a 2000000000)
   obtain⟨sb,hsb⟩:=eX (min s.b 2000000000)
   rw[hsa] at x2 HSr HB
   rw[hsb] at x3
   have HF:Hid _:=F1
   clear hbj hcl hs ht hdrop hsa hsb F1 HS HI hmem
   cases hf:far s.op with
   | false=>
    rw[hf] at HNm
    go_wp2_with fail
    refine (HNm.out ()).mono ?_
    rintro e w2 ⟨rfl,hw⟩
    replace hw:=hw.symm
    subst hw
    clear x0 x1 x2 x3 x4
    go_wp2
    refine⟨⟨k+1,TT,by go_num,by omega,HF.out,hQ.out.1,?_,?_⟩,?_⟩
    ·rw[HB.out.1,if_neg (fun h=>by rw[hf] at h;exact absurd h.1 (by decide))]
    ·intro i s' hi hs' hfar
     by_cases e:i<k
     ·exact hQ.out.2.2 i s' e hs' hfar
     ·have e2:i=k:=by omega
      subst e2
      rw[HB.out.2.2.1] at hs'
      cases hs'
      rw[hf] at hfar
      cases hfar
    ·simp[intOf]
     omega
   | true=>
    rw[hf] at HNm
    go_wp2_with fail
    refine (HNm.out ()).mono ?_
    rintro e w2 ⟨rfl,hw⟩
    replace hw:=hw.symm
    subst hw
    go_wp2_with fail
    refine (HSr.out ()).mono ?_
    rintro e w3 ⟨F3,q,b,rfl,hq,hb⟩
    have hI3:=hQ.out.1.fr hgw F3 (by simp)
    obtain⟨y0,y1,y2,y3,y4⟩:=hI3.cell k s t HB.out.2.2.1 HB.out.2.2.2
    have fz3:=hI3.fz (k*5+4)
    clear x0 x1 x2 x3 x4 fz4 y2 y3 HNm HSr
    rcases hb with ⟨rfl,hb⟩ | ⟨rfl,hb⟩
    ·have HY:Hid _:=AI hI3 (AI hb F3)
     clear hI3 hb F3
     go_wp2
     refine⟨⟨k+1,TT.set k q,by go_num,by omega,?_,HY.out.1.set (by rw[HP.out.2.2];exact hlt) q,?_,?_⟩,?_⟩
     ·exact (HF.out.trans (HY.out.2.2.mono (by simp))).setCell (p:=⟨g,k*5+4,none⟩) (.inl (by simp)) _
     ·rw[HB.out.1,if_neg (fun h=>by rw[← HB.out.2.1,HY.out.2.1] at h;cases h.2)]
     ·intro i s' hi hs' hfar
      by_cases e:i<k
      ·obtain⟨t',ht',hn'⟩:=hQ.out.2.2 i s' e hs' hfar
       exact⟨t',by rw[List.getElem?_set_ne (by omega)];exact ht',hn'⟩
      ·have e2:i=k:=by omega
       subst e2
       rw[HB.out.2.2.1] at hs'
       cases hs'
       exact⟨q,List.getElem?_set_self (by rw[hQ.out.1.len,HP.out.2.2];exact hlt),by rw[← HB.out.2.1];exact HY.out.2.1⟩
     ·simp[intOf]
      omega
    ·have HY:Hid _:=AI hI3 (AI hb F3)
     clear hI3 hb F3
     go_wp2
     go_ret2
     refine⟨HF.out.trans (HY.out.2.2.mono (by simp)),.inl ⟨s.pl,?_,by omega,rfl⟩⟩
     rw[HB.out.1,if_pos ⟨hf,by rw[← HB.out.2.1];exact HY.out.2.1⟩]
  ·have g1:¬ (k:Int)<(n:Int):=by omega
   go_wp2
   go_ret2
   refine⟨F1,.inr ⟨?_,rfl,TT,hQ.out.1,?_⟩⟩
   ·rw[hQ.out.2.1,List.drop_eq_nil_of_le (by rw[HP.out.2.2];omega)]
    rfl
   ·rw[HP.out.2.2,show n=k by omega]
    exact hQ.out.2.2
structure rT {α:Type} (e:TypeId) (k:Nat) (cs:α→List Value) (w0:World) (L:List α) (v:Value) (W:World):Prop where
 own:W.ownsRow w0.heap.size e k v L.length (L.flatMap cs)
 fr:Fr [] w0 W
theorem rT.start {α:Type}{e:TypeId}{k:Nat}{cs:α→List Value}{w0 w1:World} (hf:Fr [] w0 w1):rT e k cs w0 [] (.slice none 0 0) w1:=⟨World.ownsRow_nil _ _ _ _,hf⟩
theorem rT.kept {α:Type}{e:TypeId}{k:Nat}{cs:α→List Value}{w0:World}{L:List α}{v:Value}{W W':World} (h:rT e k cs w0 L v W) (hf:Fr [] W W'):rT e k cs w0 L v W':=⟨vK h.own hf (by simp),h.fr.trans hf⟩
theorem aRe {w0 W W':World}{e:TypeId}{size n:Nat}{xs:List Value}{v:Value} (h:W.ownsRow w0.heap.size e size v n xs) (hf:Fr [] w0 W) (hg:W.grownBy W' v.ownBlock):Fr [] w0 W':=by
 refine⟨hg.os.trans hf.os,hg.tape.trans hf.tape,hg.output.trans hf.output,Nat.le_trans hf.size hg.size,fun k hk hn=>?_⟩
 have h1:=hf.size
 rw[hg.block k (by omega) (fun e=>by have:=(h.lt k e.symm).1;omega),hf.block k hk hn]
theorem rT.grown {α:Type}{e:TypeId}{k:Nat}{cs:α→List Value}{w0:World}{L:List α}{v v':Value}{W W':World}{s:α} (h:rT e k cs w0 L v W) (hown:W'.ownsRow w0.heap.size e k v' (L.length+1) (L.flatMap cs++cs s)) (hg:W.grownBy W' v.ownBlock):rT e k cs w0 (L++[s]) v' W':=
 ⟨by rw[Lla,List.flatMap_append];simpa using hown,aRe h.own h.fr hg⟩
theorem rT.form {α:Type}{e:TypeId}{k:Nat}{cs:α→List Value}{w0:World}{L:List α}{v:Value}{W:World} (h:rT e k cs w0 L v W):∃ a0 cap,v=.slice a0 L.length cap:=by
 rcases h.own.2 with ⟨hv,h0⟩ | ⟨g,cap,cur,hv,_⟩
 ·exact⟨none,0,by rw[hv,h0]⟩
 ·exact⟨_,cap,hv⟩
theorem aZb {α:Type}{k:Nat}{cs:α→List Value} (hk:∀ x,(cs x).length=k) (L:List α) (i t:Nat) (f:α) (hi:L[i]?=some f) (ht:t<k):(L.flatMap cs)[i*k+t]?=(cs f)[t]?:=by
 induction L generalizing i with
 | nil=>cases hi
 | cons a L ih=>
  rw[List.flatMap_cons]
  cases i with
  | zero=>
   simp at hi
   subst hi
   rw[List.getElem?_append_left (by rw[hk];omega)]
   simp
  | succ i=>
   have e1:(i+1)*k+t=i*k+t+k:=by rw[Nat.succ_mul];omega
   rw[List.getElem?_append_right (by rw[hk,e1];omega)]
   have e:(i+1)*k+t-(cs a).length=i*k+t:=by rw[hk,e1];omega
   rw[e]
   exact ih i (by simpa using hi)
theorem rT.cells {α:Type}{e:TypeId}{k:Nat}{cs:α→List Value} (hk:∀ x,(cs x).length=k) {w0:World}{L:List α}{v:Value}{W:World} (h:rT e k cs w0 L v W) :
  ∃ (a0:Option Addr) (cap g:Nat),v=.slice a0 L.length cap∧L.length≤cap∧(0<L.length→a0=some ⟨g,0,none⟩∧g<W.heap.size∧w0.heap.size≤g) ∧
   ∀ (i:Nat) (x:α) (t:Nat) (u:Value),L[i]?=some x→t<k→(cs x)[t]?=some u→W.cell? ⟨g,i*k+t,none⟩=some u:=by
 rcases h.own.2 with ⟨hv,h0⟩ | ⟨g,cap,cur,hv,hb,hg,hn,_⟩
 ·have hL:=List.eq_nil_of_length_eq_zero h0
  subst hL
  exact⟨none,0,0,hv,Nat.le_refl _,fun h=>absurd h (Nat.lt_irrefl _),(fun i x _ _ hx=>by cases hx)⟩
 ·refine⟨some ⟨g,0,none⟩,cap,g,hv,hn,fun _=>⟨rfl,(Age.1 hg).1,hb⟩,fun i x t u hx ht hu=>?_⟩
  have hc:=h.own.cells (g:=g) (by rw[hv];rfl) (i*k+t) u ((aZb hk L i t x hx ht).trans hu)
  simp only[iB] at hc
  exact hc
def stC (s:Stp):List Value:=[.int .i64 (s.pl:Nat),.int .i64 (s.nx:Nat),.int .i64 (s.op:Nat),.int .i64 (s.a:Nat),.int .i64 (s.b:Nat)]
theorem aXm (s:Stp):(stC s).length=5:=rfl
theorem aXk (f:Stp):∀ u ∈ stC f,u.oneCell'=true:=by
 intro u hu
 simp only[stC,List.mem_cons,List.not_mem_nil,or_false] at hu
 rcases hu with rfl | rfl | rfl | rfl | rfl <;> rfl
theorem aXl (w:World)(s:Stp):∀ j u,[Value.int .i64 (s.pl:Nat),Value.int .i64 (s.nx:Nat),Value.int .i64 (s.op:Nat),Value.int .i64 (s.a:Nat),Value.int .i64 (s.b:Nat)][j]?=some u→(w.alloc (.cells #[.int .i64 (s.pl:Nat),.int .i64 (s.nx:Nat),.int .i64 (s.op:Nat),.int .i64 (s.a:Nat),.int .i64 (s.b:Nat)] 84)).cell? ((⟨w.heap.size,0,none⟩:Addr).add j)=some u:=by
 intro j u hj
 have hm:=wan w (.cells #[.int .i64 (s.pl:Nat),.int .i64 (s.nx:Nat),.int .i64 (s.op:Nat),.int .i64 (s.a:Nat),.int .i64 (s.b:Nat)] 84)
 rw[iB]
 unfold World.cell?
 rw[hm]
 simpa using hj
theorem rT.steps {w0:World}{L:List Stp}{v:Value}{W:World} (h:rT 84 5 stC w0 L v W):sN W v L:=by
 obtain⟨a0,cap,g,hv,hc,hg,hx⟩:=h.cells aXm
 refine⟨a0,cap,g,0,hv,hc,fun h0=>⟨(hg h0).1,(hg h0).2.1⟩,fun i x hi=>?_⟩
 simp only[Nat.zero_add]
 exact⟨hx i x 0 _ hi (by omega) rfl,hx i x 1 _ hi (by omega) rfl,hx i x 2 _ hi (by omega) rfl,hx i x 3 _ hi (by omega) rfl,hx i x 4 _ hi (by omega) rfl⟩
theorem bBx:(prog.info? 84).map (fun i=>(i.zero,i.size,i.bytes))=some (some (.agg #[.int .i64 0,.int .i64 0,.int .i64 0,.int .i64 0,.int .i64 0]),5,40):=by kernel_rfl
theorem j7 (mv:Value)(m:Mo)(w:World)(f i:Nat)(x:Wire.Fn)(hT:pY w)(hM:eR w mv m)(hMo:A9 m)(hx:m.fns[f]?=some x)(hi:i<x.code.size) :
  Calls prog 37 #[mv,.int .i64 f,.int .i64 i] w (C8 m f x.locs.toNat x.code i w):=by
 have hM0:=hM
 obtain⟨tv,pv,fv,rfl,h1,h2,h3⟩:=hM.is
 obtain⟨a0,cap,g,off,hv,hc,hx0,hxx⟩:=h3
 have hf:=(Lgs.1 hx).1
 obtain⟨c0,c1,c2⟩:=hxx f x hx
 have hp:=hMo.f.p x (List.mem_of_getElem? hx)
 obtain⟨rfl,hgl⟩:=hx0 (by omega)
 have hn:=hMo.f.n
 have c1':w.cell? ⟨g,off+f*3+1,none⟩=some (.int .i64 (x.locs.toNat:Nat)):=by rw[c1];congr 2;omega
 have hL:x.locs.toNat≤1000:=by omega
 by_cases hz:x.code[i].toNat<54∧x.code[i].toNat≠51∧x.code[i].toNat≠52∧dH.getD x.code[i].toNat 0≠0
 ·exact aRr tv pv fv m w f _ i x.code hi hp.2.2.2.2 g off _ cap hf hn hv hgl c2 c1' hL hT hMo hM0 hz.1 hz.2.1 hz.2.2.1 _ rfl hz.2.2.2
 ·refine aMb tv pv fv m w f _ i x.code hi hp.2.2.2.2 g off _ cap hf hn hv hgl c2 c1' hL hT ?_
  have h1:x.code[i].toNat=51→dH.getD x.code[i].toNat 0=0:=fun h=>by rw[h];rfl
  have h2:x.code[i].toNat=52→dH.getD x.code[i].toNat 0=0:=fun h=>by rw[h];rfl
  omega
def bDp (m:Mo) (f L:Nat) (c:ByteArray) (w:World) (e:Ending) (w':World):Prop:=
 Fr [] w w'∧((∃ j x:Nat,e=.returned (.tuple #[.slice none 0 0,.int .i64 j,.int .i64 x])∧zO m f L (bl c) j x∧x≠0∧x≤20∧j≤20000) ∨
  (∃ v l,e=.returned (.tuple #[v,.int .i64 (0:Nat),.int .i64 (0:Nat)])∧sN w' v l∧uC m f L (bl c) l))
theorem aKm (mv:Value)(m:Mo)(w:World)(f:Nat)(x:Wire.Fn)(hT:pY w)(hM:eR w mv m)(hMo:A9 m)(hx:m.fns[f]?=some x) :
  Calls prog 33 #[mv,.int .i64 f] w (bDp m f x.locs.toNat x.code w):=by
 obtain⟨i0,hi,hz0,hz1,hz2⟩:=info_parts bBx
 have hdec:=fun (W:World) (hW:Fr [] w W) (j:Nat) (hj:j<x.code.size)=>j7 mv m W f j x (hT.fr hW) (hM.fr hW) hMo hx hj
 obtain⟨tv,pv,fv,rfl,h1,h2,h3⟩:=hM.is
 obtain⟨a0,cap,g,off,rfl,hc,hx0,hxx⟩:=h3
 have hf:=(Lgs.1 hx).1
 obtain⟨c0,c1,c2⟩:=hxx f x hx
 have hp:=hMo.f.p x (List.mem_of_getElem? hx)
 obtain⟨rfl,hgl⟩:=hx0 (by omega)
 have hn:=hMo.f.n
 have hs:x.code.size≤20000:=hp.2.2.2.2
 generalize m.fns.length=nf at *
 generalize x.code=c at *
 generalize x.locs.toNat=L at *
 have g2:(f:Int)<(nf:Int):=by omega
 obtain⟨W1,hW1⟩:=eX (w.alloc (.cells #[tv,pv,.int .i64 m.globs,.int .i64 m.arrs,.slice (some ⟨g,off,none⟩) nf cap] 25))
 have FA:Fr [] w W1:=by rw[← hW1];exact (Fr.refl [] w).alloc _
 have k1:=wan w (.cells #[tv,pv,.int .i64 m.globs,.int .i64 m.arrs,.slice (some ⟨g,off,none⟩) nf cap] 25)
 rw[hW1] at k1
 have kl:=(Age.1 k1).1
 have hst:∀ W,Fr [] W1 W→(W.cell? ⟨w.heap.size,0,none⟩=some tv∧W.cell? ⟨w.heap.size,1,none⟩=some pv∧W.cell? ⟨w.heap.size,2,none⟩=some (.int .i64 m.globs)∧W.cell? ⟨w.heap.size,3,none⟩=some (.int .i64 m.arrs)∧W.cell? ⟨w.heap.size,4,none⟩=some (.slice (some ⟨g,off,none⟩) nf cap))∧W.cell? ⟨g,off+f*3+2,none⟩=some (.string c):=fun W hW=>by
  have e1:∀ j v,(#[tv,pv,.int .i64 m.globs,.int .i64 m.arrs,.slice (some ⟨g,off,none⟩) nf cap]:Array Value)[j]?=some v→W.cell? ⟨w.heap.size,j,none⟩=some v:=fun j v hv=>by
   unfold World.cell?
   rw[hW.block _ kl (by simp),k1]
   exact hv
  exact⟨⟨e1 0 _ rfl,e1 1 _ rfl,e1 2 _ rfl,e1 3 _ rfl,e1 4 _ rfl⟩,((FA.trans hW).cell (p:=⟨g,off+f*3+2,none⟩) hgl (by simp)).trans c2⟩
 have HD:Hid _:=fun (_:Unit)=>hdec
 have HS:Hid _:=hst
 have HFA:Hid _:=FA
 clear hdec hst hT hM hMo hx h1 h2 hxx c0 c1 c2 hp hx0 k1 FA hc hf kl
 go_enter func33,ntmps33
 go_wp2
 clear hW1
 go_loopw [7,8] (fun u p wr=>∃ (acc:List Stp) (j:Nat),p=.int .i64 (j:Nat)∧j≤c.size∧rT 84 5 stC W1 acc u wr∧Hid (dT m f L (bl c) 0 acc j)) (fun _ p _=>c.size-(intOf p).toNat)
 case atStart=>exact⟨[],0,rfl,by omega,rT.start (Fr.refl [] _),rfl⟩
 case round=>
  obtain⟨acc,j,rfl,hj,J,hC⟩:=hrel
  obtain⟨⟨m0,m1,m2,m3,m4⟩,m5⟩:=HS.out wr J.fr
  obtain⟨b0,bcap,rfl⟩:=J.form
  by_cases hlt:j<c.size
  ·have g1:(j:Int)<(c.size:Int):=by omega
   have F0:=HFA.out.trans J.fr
   have HJ:Hid _:=J
   go_wp2_with fail
   refine (HD.out () wr F0 j hlt).mono ?_
   rintro e w2 ⟨F2,s,y,rfl,hy⟩
   have hl:=hC.out.le (by rw[aD];omega)
   rw[aD] at hl
   obtain⟨W3,hW3⟩:=eX (w2.alloc (.cells #[.int .i64 (s.pl:Nat),.int .i64 (s.nx:Nat),.int .i64 (s.op:Nat),.int .i64 (s.a:Nat),.int .i64 (s.b:Nat)] 84))
   have F3':Fr [] w2 W3:=by rw[← hW3];exact (Fr.refl [] w2).alloc _
   have F3:=F2.trans F3'
   have k3:=wan w2 (.cells #[.int .i64 (s.pl:Nat),.int .i64 (s.nx:Nat),.int .i64 (s.op:Nat),.int .i64 (s.a:Nat),.int .i64 (s.b:Nat)] 84)
   rw[hW3] at k3
   have kl:=(Age.1 k3).1
   have F2':=F2
   clear F2 F3' m0 m1 m2 m3 m4 m5 HD HS
   rcases hy with ⟨y0,y20,hd⟩ | ⟨rfl,hd⟩
   ·have q1:((y:Int)==0)=false:=by simp;omega
    have q2:((y:Int)!=0)=true:=by simp;omega
    have HX:Hid _:=AI F3 (AI hd (AI y0 (AI k3 J)))
    clear F3 hd y0 k3 J F2'
    go_wp2
    go_ret3
    obtain⟨F3,hd,y0,k3,J⟩:=HX.out
    exact⟨F0.trans F3,.inl ⟨j,y,rfl,⟨acc,hC.out,by rw[aD];exact hlt,hd⟩,y0,y20,by omega⟩⟩
   ·have hob:∀ k,(Value.slice b0 acc.length bcap).ownBlock=some k→k<wr.heap.size:=fun k hk=>(J.own.lt k hk).2
    have hw2:wr.heap.size≤w2.heap.size:=F2'.size
    have J3:=J.kept F3
    have hown:=J3.own
    have hsz3:=J3.fr.size
    have hnx:=cW (by rw[aD];exact hlt) hd
    have hC2:=hC.out.snoc (by rw[aD];exact hlt) hd
    rw[aD] at hnx
    have e0:W3.cell? ⟨w2.heap.size,0,none⟩=some (.int .i64 (s.pl:Nat)):=cof k3 rfl
    have e1:W3.cell? ⟨w2.heap.size,1,none⟩=some (.int .i64 (s.nx:Nat)):=cof k3 rfl
    have e2:W3.cell? ⟨w2.heap.size,2,none⟩=some (.int .i64 (s.op:Nat)):=cof k3 rfl
    have e3:W3.cell? ⟨w2.heap.size,3,none⟩=some (.int .i64 (s.a:Nat)):=cof k3 rfl
    have e4:W3.cell? ⟨w2.heap.size,4,none⟩=some (.int .i64 (s.b:Nat)):=cof k3 rfl
    have hfn:=aXl W3 s
    have HX:Hid _:=AI F3 (AI k3 (AI J3 (AI hnx (AI hC2 (AI kl (AI hob hw2))))))
    clear F3 hd k3 J J3 hnx hC2 hC HJ kl hob hw2 F2'
    go_wp2_with (at_builtin;refine wpList_append_own _ rfl _ _ 79 rfl W1.heap.size 84 i0 (.agg #[.int .i64 0,.int .i64 0,.int .i64 0,.int .i64 0,.int .i64 0]) 5 40 underlying79 hi hz0 hz1 hz2 rfl (by decide) _ _ _ rfl (hown.alloc _) ⟨W3.heap.size,0,none⟩ 1 1 (stC s) rfl rfl hfn (aXk s) (by unfold maxLen;omega) (by omega) (dD _ hsz3) ?_)
    intro v' w5 hown' hgrow _
    obtain⟨F3,k3,J3,hnx,hC2,kl,hob,hw2⟩:=HX.out
    have J4:=(J3.kept ((Fr.refl [] W3).alloc (.cells #[.int .i64 (s.pl:Nat),.int .i64 (s.nx:Nat),.int .i64 (s.op:Nat),.int .i64 (s.a:Nat),.int .i64 (s.b:Nat)] 84))).grown (s:=s) hown' hgrow
    have k5:w5.heap[w2.heap.size]?=some (.cells #[.int .i64 (s.pl:Nat),.int .i64 (s.nx:Nat),.int .i64 (s.op:Nat),.int .i64 (s.a:Nat),.int .i64 (s.b:Nat)] 84):=by
     rw[hgrow.block w2.heap.size (by simp;omega) ?_,Below.heap_alloc _ _ _ kl]
     ·exact k3
     ·intro ee
      have:=hob _ ee.symm
      omega
    have e5:w5.cell? ⟨w2.heap.size,1,none⟩=some (.int .i64 (s.nx:Nat)):=cof k5 rfl
    obtain⟨d0,dcap,rfl⟩:=J4.form
    have HJ4:Hid _:=J4
    have HC2:Hid _:=hC2
    clear F3 k3 J3 hC2 kl hob hw2 hown hown' hgrow e0 e1 e2 e3 e4 hfn J4 HX k5
    go_wp2
    refine⟨⟨acc++[s],s.nx,rfl,by omega,HJ4.out,HC2⟩,?_⟩
    simp[intOf]
    omega
  ·have g1:¬ (j:Int)<(c.size:Int):=by omega
   go_wp2
   go_ret3
   have ej:j=c.size:=by omega
   refine⟨HFA.out.trans J.fr,.inr ⟨_,acc,rfl,J.steps,?_⟩⟩
   have:=hC.out
   rw[ej,← aD c] at this
   exact this
theorem aBu {G:List (Option (List UInt8))}{k:Nat}{st:List UInt8} (hk:k<G.length) (hst:st.length≤1024) (hh:∀ t,G[k]?=some (some t)→t.length=st.length) (hne:laid G k st≠G):left (laid G k st)<left G:=
 aQk hk hst hh fun h=>hne (yZ h)
theorem kS.out {par:Nat→Nat}{op a:Nat}{st:List UInt8}{e:Ending} (h:kS par op a st e) :
  ∃ x y b,e=.returned (.tuple #[.string x,.string y,.bool b])∧((b=false∧after par op a st=none)∨(b=true∧∃ o r,after par op a st=some (o,r)∧x=wdK o∧y=wdK r)):=by
 unfold kS at h
 cases ha:after par op a st with
 | none=>rw[ha] at h;obtain⟨x,y,h⟩:=h;exact⟨x,y,false,h,.inl ⟨rfl,rfl⟩⟩
 | some q=>rw[ha] at h;exact⟨_,_,true,h,.inr ⟨rfl,q.1,q.2,rfl,rfl,rfl⟩⟩
theorem uN {l:List Stp}{p k:Nat} (h:dY l p=some k):k<l.length:=by
 induction l generalizing k with
 | nil=>simp[dY] at h
 | cons s l ih=>
  rw[dY] at h
  split at h
  ·cases h;simp
  ·cases hq:dY l p with
   | none=>rw[hq] at h;simp at h
   | some q=>
    rw[hq] at h
    simp only[Option.map_some,Option.some.injEq] at h
    have:=ih hq
    simp only[List.length_cons]
    omega
theorem sN.fr {W W':World}{v:Value}{L:List Stp} (h:sN W v L) (hf:Fr [] W W'):sN W' v L:=by
 obtain⟨a0,cap,g,off,hv,hc,ha,hx⟩:=h
 refine⟨a0,cap,g,off,hv,hc,fun h0=>⟨(ha h0).1,Nll (ha h0).2 hf.size⟩,fun i x hi=>?_⟩
 have h0:0<L.length:=by have:=(Lgs.1 hi).1;omega
 have hg:=(ha h0).2
 obtain⟨x0,x1,x2,x3,x4⟩:=hx i x hi
 exact⟨(hf.cell (p:=⟨g,off+i*5,none⟩) hg (by simp)).trans x0,(hf.cell (p:=⟨g,off+i*5+1,none⟩) hg (by simp)).trans x1,(hf.cell (p:=⟨g,off+i*5+2,none⟩) hg (by simp)).trans x2,(hf.cell (p:=⟨g,off+i*5+3,none⟩) hg (by simp)).trans x3,(hf.cell (p:=⟨g,off+i*5+4,none⟩) hg (by simp)).trans x4⟩
def bAq (G:List (Option (List UInt8))) (i:Int) (st:List UInt8):Prop:=(i<0∨(G.length:Int)≤i)∨∃ k:Nat,i=k∧∃ t,G[k]?=some (some t)∧t.length≠st.length
theorem aVt {par:Nat→Nat}{l:List Stp}{G:List (Option (List UInt8))} (h:Low par l G) {i:Nat}{st o r:List UInt8}{s:Stp} (hi:G[i]?=some (some st)) (hs:l[i]?=some s)
  (ha:after par s.op s.a st=some (o,r)) (hf:far s.op=true) (hn:bAq G (qG (dY l s.a)) r):¬ Flow.Safe par l:=by
 intro hS
 have hS0:=hS
 obtain⟨T,hT⟩:=hS
 obtain⟨o',r',ha',h1,-⟩:=h.says hi hs hT
 obtain⟨k,hk,-⟩:=h1 hf
 have hkl:=uN hk
 rw[hk] at hn
 unfold qG at hn
 rcases hn with hn | ⟨k',e,t,ht,hne⟩
 ·have:=h.size;simp only at hn;omega
 ·simp only at e
  obtain rfl:k=k':=by omega
  exact h.farHigh hi hs ha hf hk ht hne hS0
theorem aDr {par:Nat→Nat}{l:List Stp}{G G1:List (Option (List UInt8))} (h:Low par l G) (h1:Low par l G1) {i:Nat}{st o r:List UInt8}{s:Stp} (hi:G[i]?=some (some st)) (hs:l[i]?=some s)
  (ha:after par s.op s.a st=some (o,r)) (hf:cS s.op=false) (hn:bAq G1 ((i:Int)+1) o):¬ Flow.Safe par l:=by
 have hil:=(Lgs.1 hs).1
 rcases hn with hn | ⟨k',e,t,ht,hne⟩
 ·have:=h1.size
  exact h.nextEnd hi hs hf (by omega)
 ·obtain rfl:k'=i+1:=by omega
  exact h.nextHigh h1 hi hs ha hf ht hne
theorem mM {G:List (Option (List UInt8))}{k:Nat}{st:List UInt8} (h0:G[0]?=some (some [])) (hh:∀ t,G[k]?=some (some t)→t.length=st.length):(laid G k st)[0]?=some (some []):=
 aLk h0 fun e=>by
  subst e
  have:=hh [] h0
  exact List.length_eq_zero_iff.1 this.symm
theorem gF {par:Nat→Nat}{l:List Stp}{G G1 G2:List (Option (List UInt8))}{i:Nat}{st o r:List UInt8}{s:Stp} (hi:G[i]?=some (some st)) (hs:l[i]?=some s)
  (ha:after par s.op s.a st=some (o,r)) (ho:o.length≤1024) (hr:r.length≤1024)
  (f1:far s.op=true→∃ k,dY l s.a=some k∧k<G.length∧(∀ t,G[k]?=some (some t)→t.length=r.length)∧G1=laid G k r) (f2:far s.op=false→G1=G)
  (f3:cS s.op=false→i+1<G1.length∧(∀ t,G1[i+1]?=some (some t)→t.length=o.length)∧G2=laid G1 (i+1) o) (f4:cS s.op=true→G2=G1) :
  (G1=G∧G2=G∧oH par l G i)∨((G1≠G∨G2≠G1)∧left G2<left G):=by
 have l1:G1=G∨(G1≠G∧left G1<left G):=by
  by_cases e:G1=G
  ·exact .inl e
  ·refine .inr ⟨e,?_⟩
   cases hf:far s.op with
   | false=>exact absurd (f2 hf) e
   | true=>
    obtain⟨k,-,hk,hh,rfl⟩:=f1 hf
    exact aBu hk hr hh e
 have l2:G2=G1∨(G2≠G1∧left G2<left G1):=by
  by_cases e:G2=G1
  ·exact .inl e
  ·refine .inr ⟨e,?_⟩
   cases hf:cS s.op with
   | true=>exact absurd (f4 hf) e
   | false=>
    obtain⟨hk,hh,rfl⟩:=f3 hf
    exact aBu hk ho hh e
 rcases l1 with e1 | ⟨e1,q1⟩
 ·rcases l2 with e2 | ⟨e2,q2⟩
  ·left
   refine⟨e1,by rw[e2,e1],oH.passed hi hs ha (fun hf=>?_) (fun hf=>?_)⟩
   ·obtain⟨k,hk,hkl,hh,e⟩:=f1 hf
    refine⟨k,hk,?_⟩
    have:=tU hkl hh
    rw[← e,e1] at this
    exact this
   ·obtain⟨hkl,hh,e⟩:=f3 hf
    have:=tU hkl hh
    rw[← e,e2,e1] at this
    exact this
  ·right
   exact⟨.inr e2,by rw[← e1];exact q2⟩
 ·right
  refine⟨.inl e1,?_⟩
  rcases l2 with e2 | ⟨e2,q2⟩
  ·rw[e2];exact q1
  ·omega
def jG (par:Nat→Nat) (l:List Stp) (w:World) (gb hb sb:Nat) (G:List (Option (List UInt8))) (c:Bool) (i:Nat) (e:Ending) (w':World):Prop:=
 Fr [gb,hb,sb] w w' ∧
 ((e=.returned (.bool false)∧¬ Flow.Safe par l) ∨
   (e=.returned (.bool true)∧∃ G' c',kK w' gb hb sb G' c'∧Low par l G'∧G'[0]?=some (some [])∧((c'=c∧G'=G∧oH par l G i)∨(c'=true∧left G'<left G))))
theorem xR {par:Nat→Nat}{l:List Stp}{w w':World}{gb hb sb:Nat}{G:List (Option (List UInt8))}{c:Bool}{i:Nat} (F:Fr [gb,hb,sb] w w') (h:¬ Flow.Safe par l):jG par l w gb hb sb G c i (.returned (.bool false)) w':=by
 unfold jG
 exact⟨F,.inl ⟨rfl,h⟩⟩
theorem iI {par:Nat→Nat}{l:List Stp}{w w':World}{gb hb sb:Nat}{G G1 G2:List (Option (List UInt8))}{c c':Bool}{i:Nat} (F:Fr [gb,hb,sb] w w') (K:kK w' gb hb sb G2 c') (L:Low par l G2) (Z:G2[0]?=some (some []))
  (hc:c'=((c || decide (G1≠G)) || decide (G2≠G1))) (h:(G1=G∧G2=G∧oH par l G i)∨((G1≠G∨G2≠G1)∧left G2<left G)):jG par l w gb hb sb G c i (.returned (.bool true)) w':=by
 unfold jG
 refine⟨F,.inr ⟨rfl,G2,c',K,L,Z,?_⟩⟩
 rcases h with ⟨rfl,rfl,h⟩ | ⟨h,h2⟩
 ·left
  exact⟨by rw[hc];simp,rfl,h⟩
 ·right
  refine⟨?_,h2⟩
  rw[hc]
  rcases h with h | h
  ·rw[decide_eq_true h];simp
  ·rw[decide_eq_true h];simp
theorem aHj (l:List Stp)(p:Nat)(hn:l.length≤1000000):-5000000≤qG (dY l p)∧qG (dY l p)≤5000000:=by
 cases h:dY l p with
 | none=>simp[qG]
 | some k=>have:=uN h;simp only[qG];omega
theorem lC {op:Nat}(h:op=48∨op=51∨op=52∨op=53):cS op=true:=by
 unfold cS
 rcases h with rfl | rfl | rfl | rfl <;> rfl
theorem aIn {op:Nat}(h1:op≠48)(h2:op≠51)(h3:op≠52)(h4:op≠53):cS op=false:=by
 unfold cS
 simp[h1,h2,h3,h4]
end Go.Proofs.YtgpamchpeamnfaaGreatDoor
