/-
  Texts Lm Ln Lo Lp Lq Lr.
-/
import Derived.BigQuiet
import Derived.Test.YtclkgoigmgkffaaGreatDoorM31
set_option linter.unusedSimpArgs false
set_option linter.unusedVariables false
set_option maxRecDepth 100000
set_option maxHeartbeats 40000000
namespace Go.Proofs.YtclkgoigmgkffaaGreatDoor
open Go.RowKit
open Wire Flow Mach
theorem fill_set3 (xs ys:List Value) (n j:Nat) (u v w:Value) (hx:xs.length=n*3) (hy:(n+j)*3+2<ys.length):(((xs++(repsZ j [u,v,w]++ys.drop ((n+j)*3))).set ((n+j)*3) u).set ((n+j)*3+1) v).set ((n+j)*3+2) w=xs++(repsZ (j+1) [u,v,w]++ys.drop ((n+(j+1))*3)):=by
 have hl:(repsZ j [u,v,w]).length=j*3:=by rw[repsZ_len];simp
 have h:=repsZ_set3 (ys.drop (n*3)) j u v w (by simp;omega)
 rw[List.drop_drop,List.drop_drop] at h
 have e1:n*3+j*3=(n+j)*3:=by omega
 have e2:n*3+(j+1)*3=(n+(j+1))*3:=by omega
 rw[e1,e2] at h
 rw[List.set_append_right _ _ (by omega),List.set_append_right _ _ (by omega),List.set_append_right _ _ (by omega),hx]
 have a0:(n+j)*3-n*3=j*3:=by omega
 have a1:(n+j)*3+1-n*3=j*3+1:=by omega
 have a2:(n+j)*3+2-n*3=j*3+2:=by omega
 rw[a0,a1,a2,h]
theorem lentF_some (ad:Addr) (n c:Nat) (xs:List Value) (W:World) (hn:n≤2000000) (hc:n≤c) (hl:xs.length=n*3) (h1:∀ x ∈ xs,x.oneCell'=true) (hx:∀ j x,xs[j]?=some x→W.cell? (ad.add j)=some x) (hb:0<n→ad.spot=none∧ad.block<W.heap.size) :
  Calls Tryz.prog 164 #[.slice (some ad) n c] W fun e W'=>∃ g,e=.returned (.slice (some ⟨g,0,none⟩) n (n+8))∧Fr [] W W'∧W'.ownsRow W.heap.size 65 3 (.slice (some ⟨g,0,none⟩) (n+8) (n+8)) (n+8) (xs++repsZ 8 (elF beyS)):=by
 obtain⟨i0,ti⟩:=tyF
 have hi:=ti.hi
 have hz0:=ti.hz0
 have hz1:=ti.hz1
 have hz2:=ti.hz2
 have hnil:∀ W,(binOp .eql 28 (.slice (some ad) n c) (.slice none 0 0)).run Tryz.prog W=.ok (.bool false) W:=fun W=>by
  have:=Lib.run_eql_slice_nil (P:=Tryz.prog) W 28 65 (some ad) n c 0 0 Tryz.underlying28
  simpa using this
 have HX:Hid _:=And.intro hx (And.intro hb h1)
 clear hx hb h1
 go_enter Tryz.func164,Tryz.ntmps164
 go_wp2_with (at_make;refine wpList_make_full _ rfl _ _ 28 rfl W.heap.size 65 i0 (.agg #[.int .i64 0,.int .i64 0,.string ⟨#[]⟩]) 3 Tryz.underlying28 hi hz0 hz1 .i64 .i64 _ _ (n+8) rfl rfl (by first | rfl | omega | simp) (by first | rfl | omega | simp) ?b2 ?b3 ?b4 ?_)
 case b2=>rw[hz2];omega
 case b3=>unfold maxLen;omega
 case b4=>exact Nat.le_refl _
 intro W1 own1 hg1
 have f1:Fr [] W W1:=⟨hg1.os,hg1.tape,hg1.output,hg1.size,fun k hk _=>hg1.block k hk (by simp)⟩
 obtain⟨ys,own1⟩:∃ ys,W1.ownsRow W.heap.size 65 3 (.slice (some ⟨W.heap.size,0,none⟩) (n+8) (n+8)) (n+8) ys:=⟨_,own1⟩
 have hyl:=own1.1
 have hsrc:0<n→∃ a,some ad=some a∧∀ j v,xs[j]?=some v→W1.cell? (a.add j)=some v:=fun h0=>⟨ad,rfl,SrcZ.cells (c:=c) HX.out.1 hl fun h0=>f1.block _ (HX.out.2.1 h0).2 (by simp)⟩
 have Hown:Hid (W1.ownsRow W.heap.size 65 3 (.slice (some ⟨W.heap.size,0,none⟩) (n+8) (n+8)) (n+8) ys):=own1
 have Hsrc:Hid _:=hsrc
 have Hf1:Hid _:=f1
 clear own1 hg1 hsrc f1
 obtain⟨W2,hrun,own2,f2⟩:=copyZ_run ti W1 3 W.heap.size n (n+8) c (some ad) (by omega) W.heap.size xs ys hl HX.out.2.2 Hsrc.out Hown.out
 have Hown2:Hid (W2.ownsRow W.heap.size 65 3 (.slice (some ⟨W.heap.size,0,none⟩) (n+8) (n+8)) (n+8) (xs++(repsZ 0 (elF beyS)++ys.drop ((n+0)*3)))):=by
  have h:=own2
  have e:xs++(repsZ 0 (elF beyS)++ys.drop ((n+0)*3))=xs++ys.drop (n*3):=by simp[repsZ]
  rw[← e] at h
  exact h
 have Hf2:Hid (Fr [] W W2):=Hf1.out.trans' f2 (fun x hx=>.inr (by simp at hx;omega))
 clear own2 f2 Hown Hsrc Hf1
 go_wp2
 go_loopw [5] (fun i wr=>∃ j:Nat,j≤8∧i=.int .i64 ((n+j:Nat):Int)∧Hid (wr.ownsRow W.heap.size 65 3 (.slice (some ⟨W.heap.size,0,none⟩) (n+8) (n+8)) (n+8) (xs++(repsZ j (elF beyS)++ys.drop ((n+j)*3))))∧Hid (Fr [] W wr)) (fun i _=>n+8-(intOf i).toNat)
 case atStart=>exact⟨0,by omega,by simp,Hown2,Hf2⟩
 case round=>
  clear Hown2 Hf2
  obtain⟨j,hj,rfl,ow,fw⟩:=hrel
  obtain⟨q,hq⟩:∃ q,n+j=q:=⟨_,rfl⟩
  by_cases hlt:j<8
  ·have g1:(q:Int)<(n:Int)+8:=by omega
   have hst0:=(ow.out.stored ((n+j)*3) (.int .i64 (-1))).1
   have hst1:=(hst0.stored ((n+j)*3+1) (.int .i64 (-1))).1
   have hst:=(hst1.stored ((n+j)*3+2) (.string beyS)).1
   have hset:=fill_set3 xs ys n j (.int .i64 (-1)) (.int .i64 (-1)) (.string beyS) hl (by omega)
   have hset':((((xs++(repsZ j (elF beyS)++ys.drop ((n+j)*3))).set ((n+j)*3) (.int .i64 (-1))).set ((n+j)*3+1) (.int .i64 (-1))).set ((n+j)*3+2) (.string beyS))=xs++(repsZ (j+1) (elF beyS)++ys.drop ((n+(j+1))*3)):=hset
   rw[hset'] at hst
   have hcl:∀ i,i<(n+8)*3→∃ y,wr.cell? ⟨W.heap.size,i,none⟩=some y:=fun i hi=>by
    have hc:=ow.out.cellAt i (by have:=ow.out.1;omega)
    exact⟨_,hc.trans (List.getElem?_eq_getElem (by have:=ow.out.1;omega))⟩
   obtain⟨y0,hy0⟩:=hcl ((n+j)*3) (by omega)
   obtain⟨y1,hy1⟩:=hcl ((n+j)*3+1) (by omega)
   obtain⟨y2,hy2⟩:=hcl ((n+j)*3+2) (by omega)
   have hfz:=ow.out.frozenAt
   have hlw:=(ow.out.lt W.heap.size rfl).2
   rw[hq] at hst hy0 hy1 hy2 ⊢
   have Hst:Hid _:=And.intro ow.out (And.intro fw.out (And.intro hset' hq))
   have HY:Hid _:=And.intro hy0 (And.intro hy1 hy2)
   have e1:(⟨#[98,101,121,111,110,100]⟩:ByteArray)=beyS:=rfl
   clear hst hst0 hst1 hset hset' hcl hy0 hy1 hy2 ow fw hfz
   go_wp2_with fail
   refine (farP_any _ _).mono ?_
   rintro e w3 ⟨rfl,f3⟩
   have ow3:=own_fr Hst.out.1 f3 (by simp)
   have fw3:=Hst.out.2.1.trans f3
   have hy0:=(f3.cell (p:=⟨W.heap.size,q*3,none⟩) hlw (by simp)).trans HY.out.1
   have hy1:=(f3.cell (p:=⟨W.heap.size,q*3+1,none⟩) hlw (by simp)).trans HY.out.2.1
   have hy2:=(f3.cell (p:=⟨W.heap.size,q*3+2,none⟩) hlw (by simp)).trans HY.out.2.2
   have hz0:=ow3.frozenAt (q*3)
   have hz1':=ow3.frozenAt (q*3+1)
   have hz2':=ow3.frozenAt (q*3+2)
   have hst0:=(ow3.stored ((n+j)*3) (.int .i64 (-1))).1
   have hst1:=(hst0.stored ((n+j)*3+1) (.int .i64 (-1))).1
   have hst:=(hst1.stored ((n+j)*3+2) (.string beyS)).1
   rw[Hst.out.2.2.1,Hst.out.2.2.2] at hst
   have Hfin:Hid _:=And.intro hst (((fw3.setCell (p:=⟨W.heap.size,q*3,none⟩) (.inr (Nat.le_refl _)) (.int .i64 (-1))).setCell (p:=⟨W.heap.size,q*3+1,none⟩) (.inr (Nat.le_refl _)) (.int .i64 (-1))).setCell (p:=⟨W.heap.size,q*3+2,none⟩) (.inr (Nat.le_refl _)) (.string beyS))
   clear hst hst0 hst1 ow3 fw3 f3 Hst HY
   go_wp2
   exact⟨⟨j+1,by omega,by go_num,Hfin.out.1,Hfin.out.2⟩,by simp[intOf];omega⟩
  ·obtain rfl:j=8:=by omega
   have g1:¬ ((q:Int)<(n:Int)+8):=by omega
   have hq2:(q:Int)=(n:Int)+8:=by omega
   have Hfin:Hid _:=And.intro ow.out fw.out
   rw[hq]
   clear ow fw
   go_wp2
   go_ret
   refine⟨W.heap.size,rfl,Hfin.out.2,?_⟩
   have h:=Hfin.out.1
   rw[List.drop_of_length_le (by omega),List.append_nil,hq] at h
   exact h
theorem lentT_nil (W:World):Calls Tryz.prog 80 #[.slice none 0 0] W fun e W'=>e=.returned (.slice none 0 0)∧W'=W:=by
 have hnil:∀ W,(binOp .eql 27 (.slice none 0 0) (.slice none 0 0)).run Tryz.prog W=.ok (.bool true) W:=fun W=>by
  have:=Lib.run_eql_slice_nil (P:=Tryz.prog) W 27 9 none 0 0 0 0 Tryz.underlying27
  simpa using this
 go_enter Tryz.func80,Tryz.ntmps80
 go_wp2
 go_ret
 exact⟨rfl,rfl⟩
theorem lentF_nil (W:World):Calls Tryz.prog 164 #[.slice none 0 0] W fun e W'=>e=.returned (.slice none 0 0)∧W'=W:=by
 have hnil:∀ W,(binOp .eql 28 (.slice none 0 0) (.slice none 0 0)).run Tryz.prog W=.ok (.bool true) W:=fun W=>by
  have:=Lib.run_eql_slice_nil (P:=Tryz.prog) W 28 65 none 0 0 0 0 Tryz.underlying28
  simpa using this
 go_enter Tryz.func164,Tryz.ntmps164
 go_wp2
 go_ret
 exact⟨rfl,rfl⟩
def LentP (W:World) (e:TypeId) (bey:List Value) (v:Value) (n:Nat) (xs:List Value) (ee:Ending) (W':World):Prop:=
 ∃ v',ee=.returned v'∧Fr [] W W'∧Lent W.heap.size W' e bey v v' n xs
theorem lentT_any (v:Value) (n:Nat) (xs:List Value) (W:World) (h:SrcZ W v n 1 xs) (hn:n≤2000000):Calls Tryz.prog 80 #[v] W (LentP W 9 (elT beyS) v n xs):=by
 rcases h.at_ with ⟨rfl,rfl⟩ | ⟨ad,c,rfl,hc,hb,hx⟩
 ·obtain rfl:xs=[]:=List.eq_nil_of_length_eq_zero (by have:=h.len;omega)
  exact (lentT_nil W).mono fun e W' ⟨he,hw⟩=>⟨_,he,by rw[hw];exact Fr.refl _ _,.inl ⟨rfl,rfl,rfl,rfl⟩⟩
 ·exact (lentT_some ad n c xs W hn hc h.len h.one hx hb).mono fun e W' ⟨g,he,hf,ho⟩=>⟨_,he,hf,.inr ⟨g,ad,c,rfl,rfl,ho⟩⟩
theorem lentF_any (v:Value) (n:Nat) (xs:List Value) (W:World) (h:SrcZ W v n 3 xs) (hn:n≤2000000):Calls Tryz.prog 164 #[v] W (LentP W 65 (elF beyS) v n xs):=by
 rcases h.at_ with ⟨rfl,rfl⟩ | ⟨ad,c,rfl,hc,hb,hx⟩
 ·obtain rfl:xs=[]:=List.eq_nil_of_length_eq_zero (by have:=h.len;omega)
  exact (lentF_nil W).mono fun e W' ⟨he,hw⟩=>⟨_,he,by rw[hw];exact Fr.refl _ _,.inl ⟨rfl,rfl,rfl,rfl⟩⟩
 ·exact (lentF_some ad n c xs W hn hc h.len h.one hx hb).mono fun e W' ⟨g,he,hf,ho⟩=>⟨_,he,hf,.inr ⟨g,ad,c,rfl,rfl,ho⟩⟩
theorem startW {B:Nat}{W:World}{e:TypeId}{z:Nat}{v:Value}{n:Nat}{m xs:List Value} (h:W.ownsRow B e z v n xs):Hid (W.ownsRow B e z v n (repsZ 0 m++xs.drop 0)):=by
 have e1:repsZ 0 m++xs.drop 0=xs:=by simp[repsZ]
 rw[e1]
 exact h
theorem addr_plain (g off k:Nat):(⟨g,off,none⟩:Addr).add k=⟨g,off+k,none⟩:=by
 unfold Addr.add
 split <;> simp_all
theorem wholeT_some (g:Nat) (ad:Addr) (c B:Nat) (L:List ByteArray) (W:World) (hn:L.length≤2000000) (hc:L.length≤c) (own:W.ownsRow B 9 1 (.slice (some ⟨g,0,none⟩) (L.length+8) (L.length+8)) (L.length+8) (L.map .string++repsZ 8 (elT beyS)))
  (hb:0<L.length→ad.spot=none∧ad.block<W.heap.size∧ad.block≠g) (hx:∀ j x,(L.map Value.string)[j]?=some x→W.cell? (ad.add j)=some x) :
  Calls Tryz.prog 84 #[.slice (some ⟨g,0,none⟩) L.length (L.length+8),.slice (some ad) L.length c] W fun e W'=>e=.returned (.bool true)∧Fr [g] W W'∧W'.ownsRow B 9 1 (.slice (some ⟨g,0,none⟩) (L.length+8) (L.length+8)) (L.length+8) (repsZ (L.length+8) (elT spoS)):=by
 have hnil:∀ W,(binOp .eql 27 (.slice (some ad) L.length c) (.slice none 0 0)).run Tryz.prog W=.ok (.bool false) W:=fun W=>by
  have:=Lib.run_eql_slice_nil (P:=Tryz.prog) W 27 9 (some ad) L.length c 0 0 Tryz.underlying27
  simpa using this
 obtain⟨n,hnn⟩:∃ n,L.length=n:=⟨_,rfl⟩
 obtain⟨xs,hxs⟩:∃ xs,L.map Value.string++repsZ 8 (elT beyS)=xs:=⟨_,rfl⟩
 have hxl:xs.length=n+8:=by rw[← hxs,← hnn];simp[repsZ_len,elT]
 have hs:∀ k,k<n+8→∃ s:ByteArray,xs[k]?=some (.string s)∧(k<n→(L.map Value.string)[k]?=some (.string s))∧(¬ k<n→s=beyS):=fun k hk=>by
  by_cases h:k<n
  ·obtain⟨s,hsL⟩:∃ s,L[k]?=some s:=⟨_,List.getElem?_eq_getElem (by omega)⟩
   have e:(L.map Value.string)[k]?=some (.string s):=by rw[List.getElem?_map,hsL];rfl
   exact⟨s,by rw[← hxs,List.getElem?_append_left (by simp;omega)];exact e,fun _=>e,fun h'=>absurd h h'⟩
  ·refine⟨beyS,?_,fun h'=>absurd h' h,fun _=>rfl⟩
   rw[← hxs,List.getElem?_append_right (by simp;omega)]
   have:=repsZ_get 8 (elT beyS) (k-n) 0 (by omega) (by simp[elT])
   simp[elT] at this
   simp[hnn,elT,this]
 rw[hxs,hnn] at own
 rw[hnn] at hn hc hb hnil ⊢
 have Hs:Hid _:=hs
 have HX:Hid _:=And.intro hx hb
 have HO:Hid _:=own
 have hown0:=own
 clear hs hx hb own hxs hnn
 go_enter Tryz.func84,Tryz.ntmps84
 go_wp2
 go_loopw [7,8] (fun ok i wr=>∃ k:Nat,k≤n+8∧ok=.bool true∧i=.int .i64 k∧Hid (wr.ownsRow B 9 1 (.slice (some ⟨g,0,none⟩) (n+8) (n+8)) (n+8) (repsZ k (elT spoS)++xs.drop k))∧Hid (Fr [g] W wr)) (fun _ i _=>n+8-(intOf i).toNat)
 case atStart=>exact⟨0,by omega,rfl,rfl,startW HO.out,Fr.refl _ _⟩
 case round=>
  obtain⟨k,hk,rfl,rfl,ow,fw⟩:=hrel
  by_cases hlt:k<n+8
  ·have g1:(k:Int)<(n:Int)+8:=by omega
   obtain⟨s,hs1,hs2,hs3⟩:=Hs.out k hlt
   have hst:=(ow.out.stored k (.string spoS)).1
   have hset:(repsZ k (elT spoS)++xs.drop k).set k (.string spoS)=repsZ (k+1) (elT spoS)++xs.drop (k+1):=repsZ_set1 xs k (.string spoS) (by omega)
   rw[hset] at hst
   have hcl:wr.cell? ⟨g,k,none⟩=some (.string s):=by
    refine (ow.out.cellAt k (by have:=ow.out.1;omega)).trans ?_
    rw[List.getElem?_append_right (by simp[repsZ_len,elT]),List.getElem?_drop]
    have e:k+(k-(repsZ k (elT spoS)).length)=k:=by simp[repsZ_len,elT]
    rw[e]
    exact hs1
   have hfz:=ow.out.frozenAt k
   have e1:(⟨#[98,101,121,111,110,100]⟩:ByteArray)=beyS:=rfl
   have e2:(⟨#[115,112,111,105,108,116]⟩:ByteArray)=spoS:=rfl
   have Hst:Hid _:=And.intro hst (fw.out.setCell (p:=⟨g,k,none⟩) (.inl (by simp)) (.string spoS))
   by_cases hkn:k<n
   ·have g2:(k:Int)<n:=by omega
    obtain⟨hsp,hbl,hne⟩:=HX.out.2 (by omega)
    obtain⟨g0,off,spot⟩:=ad
    simp only at hsp hbl hne
    subst hsp
    have hcs:wr.cell? ⟨g0,off+k,none⟩=some (.string s):=by
     have h0:=HX.out.1 k _ (hs2 hkn)
     have h1:W.cell? ⟨g0,off+k,none⟩=some (.string s):=by rw[addr_plain] at h0;exact h0
     exact (fw.out.cell (p:=⟨g0,off+k,none⟩) hbl (by simpa using hne)).trans h1
    clear hst hset ow fw hs1 hs2 hs3 Hs HX HO hown0
    go_wp2
    exact⟨⟨k+1,by omega,rfl,by go_num,Hst.out.1,Hst.out.2⟩,by simp[intOf];omega⟩
   ·have g2:¬ ((k:Int)<n):=by omega
    obtain rfl:=hs3 hkn
    clear hst hset ow fw hs1 hs2 hs3 Hs HX HO hown0
    go_wp2
    exact⟨⟨k+1,by omega,rfl,by go_num,Hst.out.1,Hst.out.2⟩,by simp[intOf];omega⟩
  ·have g1:¬ ((k:Int)<(n:Int)+8):=by omega
   obtain rfl:k=n+8:=by omega
   have Hfin:Hid _:=And.intro ow.out fw.out
   clear ow fw HO hown0 Hs HX
   go_wp2
   go_ret
   have h:=Hfin.out.1
   rw[List.drop_of_length_le (by omega),List.append_nil] at h
   exact⟨rfl,Hfin.out.2,h⟩
theorem startW3 {B:Nat}{W:World}{e:TypeId}{z:Nat}{v:Value}{n:Nat}{m xs:List Value} (h:W.ownsRow B e z v n xs):Hid (W.ownsRow B e z v n (repsZ 0 m++xs.drop (0*3))):=by
 have e1:repsZ 0 m++xs.drop (0*3)=xs:=by simp[repsZ]
 rw[e1]
 exact h
theorem wholeF_some (g:Nat) (ad:Addr) (c B:Nat) (L:List Wire.Fn) (W:World) (hn:L.length≤2000000) (hc:L.length≤c) (own:W.ownsRow B 65 3 (.slice (some ⟨g,0,none⟩) (L.length+8) (L.length+8)) (L.length+8) (L.flatMap fnC++repsZ 8 (elF beyS)))
  (hb:0<L.length→ad.spot=none∧ad.block<W.heap.size∧ad.block≠g) (hx:∀ j x,(L.flatMap fnC)[j]?=some x→W.cell? (ad.add j)=some x) :
  Calls Tryz.prog 166 #[.slice (some ⟨g,0,none⟩) L.length (L.length+8),.slice (some ad) L.length c] W fun e W'=>e=.returned (.bool true)∧Fr [g] W W'∧W'.ownsRow B 65 3 (.slice (some ⟨g,0,none⟩) (L.length+8) (L.length+8)) (L.length+8) (repsZ (L.length+8) (elF spoS)):=by
 have hnil:∀ W,(binOp .eql 28 (.slice (some ad) L.length c) (.slice none 0 0)).run Tryz.prog W=.ok (.bool false) W:=fun W=>by
  have:=Lib.run_eql_slice_nil (P:=Tryz.prog) W 28 65 (some ad) L.length c 0 0 Tryz.underlying28
  simpa using this
 obtain⟨n,hnn⟩:∃ n,L.length=n:=⟨_,rfl⟩
 obtain⟨xs,hxs⟩:∃ xs,L.flatMap fnC++repsZ 8 (elF beyS)=xs:=⟨_,rfl⟩
 have hfl:=fnC_len L
 have hxl:xs.length=(n+8)*3:=by rw[← hxs];simp[repsZ_len,elF,hfl,hnn];omega
 have hs:∀ k,k<n+8→∃ (p l:Int) (s:ByteArray),(xs[k*3]?=some (.int .i64 p)∧xs[k*3+1]?=some (.int .i64 l)∧xs[k*3+2]?=some (.string s))∧(k<n→(L.flatMap fnC)[k*3]?=some (.int .i64 p)∧(L.flatMap fnC)[k*3+1]?=some (.int .i64 l)∧(L.flatMap fnC)[k*3+2]?=some (.string s))∧(¬ k<n→p = -1∧l = -1∧s=beyS):=fun k hk=>by
  by_cases h:k<n
  ·obtain⟨⟨p,l,s⟩,hsL⟩:∃ s,L[k]?=some s:=⟨_,List.getElem?_eq_getElem (by omega)⟩
   have e0:=fnC_at L k 0 _ hsL (by decide)
   have e1:=fnC_at L k 1 _ hsL (by decide)
   have e2:=fnC_at L k 2 _ hsL (by decide)
   simp only[fnC] at e0 e1 e2
   refine⟨p,l,s,⟨?_,?_,?_⟩,fun _=>⟨e0,e1,e2⟩,fun h'=>absurd h h'⟩
   ·rw[← hxs,List.getElem?_append_left (by omega)];exact e0
   ·rw[← hxs,List.getElem?_append_left (by omega)];exact e1
   ·rw[← hxs,List.getElem?_append_left (by omega)];exact e2
  ·have r0:=repsZ_get 8 (elF beyS) (k-n) 0 (by omega) (by simp[elF])
   have r1:=repsZ_get 8 (elF beyS) (k-n) 1 (by omega) (by simp[elF])
   have r2:=repsZ_get 8 (elF beyS) (k-n) 2 (by omega) (by simp[elF])
   have z3:(elF beyS).length=3:=rfl
   rw[z3] at r0 r1 r2
   refine⟨-1,-1,beyS,⟨?_,?_,?_⟩,fun h'=>absurd h' h,fun _=>⟨rfl,rfl,rfl⟩⟩
   ·rw[← hxs,List.getElem?_append_right (by omega),show k*3-(L.flatMap fnC).length=(k-n)*3+0 by omega];exact r0
   ·rw[← hxs,List.getElem?_append_right (by omega),show k*3+1-(L.flatMap fnC).length=(k-n)*3+1 by omega];exact r1
   ·rw[← hxs,List.getElem?_append_right (by omega),show k*3+2-(L.flatMap fnC).length=(k-n)*3+2 by omega];exact r2
 rw[hxs,hnn] at own
 rw[hnn] at hn hc hb hnil ⊢
 have Hs:Hid _:=hs
 have HX:Hid _:=And.intro hx hb
 have HO:Hid _:=own
 clear hs hx hb own hxs hnn hfl
 go_enter Tryz.func166,Tryz.ntmps166
 go_wp2
 go_loopw [7,8] (fun ok i wr=>∃ k:Nat,k≤n+8∧ok=.bool true∧i=.int .i64 k∧Hid (wr.ownsRow B 65 3 (.slice (some ⟨g,0,none⟩) (n+8) (n+8)) (n+8) (repsZ k (elF spoS)++xs.drop (k*3)))∧Hid (Fr [g] W wr)) (fun _ i _=>n+8-(intOf i).toNat)
 case atStart=>exact⟨0,by omega,rfl,rfl,startW3 HO.out,Fr.refl _ _⟩
 case round=>
  obtain⟨k,hk,rfl,rfl,ow,fw⟩:=hrel
  by_cases hlt:k<n+8
  ·have g1:(k:Int)<(n:Int)+8:=by omega
   obtain⟨p,l,s,⟨x0,x1,x2⟩,hs2,hs3⟩:=Hs.out k hlt
   have e1:(⟨#[98,101,121,111,110,100]⟩:ByteArray)=beyS:=rfl
   have e2:(⟨#[115,112,111,105,108,116]⟩:ByteArray)=spoS:=rfl
   have hgl:=(ow.out.lt g rfl).2
   have rl:(repsZ k (elF spoS)).length=k*3:=by rw[repsZ_len];rfl
   have cl:∀ t v,xs[k*3+t]?=some v→wr.cell? ⟨g,k*3+t,none⟩=some v:=fun t v hv=>by
    have hlen:=(List.getElem?_eq_some_iff.1 hv).1
    refine (ow.out.cellAt (k*3+t) (by have:=ow.out.1;omega)).trans ?_
    rw[List.getElem?_append_right (by omega),List.getElem?_drop,rl,show k*3+(k*3+t-k*3)=k*3+t by omega]
    exact hv
   have c0:=cl 0 _ x0
   have c1:=cl 1 _ x1
   have c2:=cl 2 _ x2
   rw[Nat.add_zero] at c0
   have HH:Hid _:=And.intro ow.out (And.intro fw.out (And.intro c0 (And.intro c1 c2)))
   clear ow fw x0 x1 x2 cl c0 c1 c2 HO rl
   go_wp2_with fail
   refine (farP_any _ _).mono ?_
   rintro e w1 ⟨rfl,f1⟩
   have hb1:=f1.size
   by_cases hkn:k<n
   ·have g2:(k:Int)<n:=by omega
    obtain⟨hsp,hbl,hne⟩:=HX.out.2 (by omega)
    obtain⟨g0,off,spot⟩:=ad
    simp only at hsp hbl hne
    subst hsp
    obtain⟨s0,s1,s2⟩:=hs2 hkn
    have src:∀ t v,(L.flatMap fnC)[k*3+t]?=some v→∀ w2,Fr [] wr w2→w2.cell? ⟨g0,off+k*3+t,none⟩=some v:=fun t v hv w2 hw=>by
     have h0:=HX.out.1 (k*3+t) _ hv
     rw[addr_plain,← Nat.add_assoc] at h0
     exact (hw.cell (p:=⟨g0,off+k*3+t,none⟩) (Nat.lt_of_lt_of_le hbl HH.out.2.1.size) (by simp)).trans ((HH.out.2.1.cell (p:=⟨g0,off+k*3+t,none⟩) hbl (by simpa using hne)).trans h0)
    have fa:Fr [] wr (w1.alloc (Obj.cells #[.int .i64 (-1),.int .i64 (-1),.string beyS] 65)):=f1.alloc _
    have t0:=src 0 _ s0 _ fa
    have t1:=src 1 _ s1 _ fa
    have t2:=src 2 _ s2 _ fa
    rw[Nat.add_zero] at t0
    have kk:=World.alloc_heap_new w1 (Obj.cells #[.int .i64 (-1),.int .i64 (-1),.string beyS] 65)
    obtain⟨W2,hW2⟩:∃ W2,w1.alloc (Obj.cells #[.int .i64 (-1),.int .i64 (-1),.string beyS] 65)=W2:=⟨_,rfl⟩
    rw[hW2] at t0 t1 t2 fa kk
    have m0:W2.cell? ⟨w1.heap.size,0,none⟩=some (.int .i64 (-1)):=by unfold World.cell?;rw[kk];rfl
    have m1:W2.cell? ⟨w1.heap.size,1,none⟩=some (.int .i64 (-1)):=by unfold World.cell?;rw[kk];rfl
    have m2:W2.cell? ⟨w1.heap.size,2,none⟩=some (.string beyS):=by unfold World.cell?;rw[kk];rfl
    have z0:∀ i,W2.frozen? ⟨w1.heap.size,i,none⟩=false:=fun i=>by unfold World.frozen?;rw[kk];simp
    have z00:=z0 0
    have z01:=z0 1
    have z02:=z0 2
    obtain⟨W3,hW3⟩:∃ W3,((W2.setCell ⟨w1.heap.size,0,none⟩ (.int .i64 p)).setCell ⟨w1.heap.size,1,none⟩ (.int .i64 l)).setCell ⟨w1.heap.size,2,none⟩ (.string s)=W3:=⟨_,rfl⟩
    have F3:Hid (Fr [] wr W3):=by
     have h:Fr [] wr W3:=by rw[← hW3];exact ((fa.setCell (.inr hb1) _).setCell (.inr hb1) _).setCell (.inr hb1) _
     exact h
    have d0:=(F3.out.cell (p:=⟨g,k*3,none⟩) hgl (by simp)).trans HH.out.2.2.1
    have d1:=(F3.out.cell (p:=⟨g,k*3+1,none⟩) hgl (by simp)).trans HH.out.2.2.2.1
    have d2:=(F3.out.cell (p:=⟨g,k*3+2,none⟩) hgl (by simp)).trans HH.out.2.2.2.2
    have b0:W3.cell? ⟨w1.heap.size,0,none⟩=some (.int .i64 p):=by rw[← hW3];exact (setCell_off (by decide)).trans ((setCell_off (by decide)).trans (cell_set m0))
    have b1:W3.cell? ⟨w1.heap.size,1,none⟩=some (.int .i64 l):=by rw[← hW3];exact (setCell_off (by decide)).trans (cell_set ((setCell_off (by decide)).trans m1))
    have b2:W3.cell? ⟨w1.heap.size,2,none⟩=some (.string s):=by rw[← hW3];exact cell_set ((setCell_off (by decide)).trans ((setCell_off (by decide)).trans m2))
    have HF3:Hid _:=fa
    have hgo:True:=trivial
    have hFl:True:=trivial
    clear kk fa src s0 s1 s2 hs2 hs3 f1 z0 Hs HX
    go_wp2
    go_quiet (fail)
    clear HF3 hgo hFl
    go_wp2_with fail
    refine (farP_any _ _).mono ?_
    rintro e w4 ⟨rfl,f4⟩
    have F4:Fr [] wr w4:=by first | exact F3.out.drew.trans f4 | exact (F3.out.drewN _).trans f4 | exact F3.out.trans f4
    have ow4:=own_fr HH.out.1 F4 (by simp)
    have fw4:Fr [g] W w4:=HH.out.2.1.trans (F4.mono (by simp))
    have y0:=(F4.cell (p:=⟨g,k*3,none⟩) hgl (by simp)).trans HH.out.2.2.1
    have y1:=(F4.cell (p:=⟨g,k*3+1,none⟩) hgl (by simp)).trans HH.out.2.2.2.1
    have y2:=(F4.cell (p:=⟨g,k*3+2,none⟩) hgl (by simp)).trans HH.out.2.2.2.2
    have u0:=ow4.frozenAt (k*3)
    have u1:=ow4.frozenAt (k*3+1)
    have u2:=ow4.frozenAt (k*3+2)
    have hst0:=(ow4.stored (k*3) (.int .i64 (-1))).1
    have hst1:=(hst0.stored (k*3+1) (.int .i64 (-1))).1
    have hst:=(hst1.stored (k*3+2) (.string spoS)).1
    have hset:(((repsZ k (elF spoS)++xs.drop (k*3)).set (k*3) (.int .i64 (-1))).set (k*3+1) (.int .i64 (-1))).set (k*3+2) (.string spoS)=repsZ (k+1) (elF spoS)++xs.drop ((k+1)*3):=repsZ_set3 xs k _ _ _ (by omega)
    rw[hset] at hst
    have Hfin:Hid _:=And.intro hst (((fw4.setCell (p:=⟨g,k*3,none⟩) (.inl (by simp)) (.int .i64 (-1))).setCell (p:=⟨g,k*3+1,none⟩) (.inl (by simp)) (.int .i64 (-1))).setCell (p:=⟨g,k*3+2,none⟩) (.inl (by simp)) (.string spoS))
    clear hst hst0 hst1 hset ow4 fw4 F4 f4 F3 HH
    go_wp2
    exact⟨⟨k+1,by omega,rfl,by go_num,Hfin.out.1,Hfin.out.2⟩,by simp[intOf];omega⟩
   ·have g2:¬ ((k:Int)<n):=by omega
    obtain⟨rfl,rfl,rfl⟩:=hs3 hkn
    have kk:=FmAt.new w1 beyS
    obtain⟨W3,hW3⟩:∃ W3,w1.alloc (Obj.cells #[.int .i64 (-1),.int .i64 (-1),.string beyS] 65)=W3:=⟨_,rfl⟩
    rw[hW3] at kk
    have F3:Hid (Fr [] wr W3):=by
     have h:Fr [] wr W3:=by rw[← hW3];exact f1.alloc _
     exact h
    have d0:=(F3.out.cell (p:=⟨g,k*3,none⟩) hgl (by simp)).trans HH.out.2.2.1
    have d1:=(F3.out.cell (p:=⟨g,k*3+1,none⟩) hgl (by simp)).trans HH.out.2.2.2.1
    have d2:=(F3.out.cell (p:=⟨g,k*3+2,none⟩) hgl (by simp)).trans HH.out.2.2.2.2
    have b0:=kk.c0
    have b1:=kk.c1
    have b2:=kk.c2
    have HF3:Hid _:=kk
    have hgo:True:=trivial
    have hFl:True:=trivial
    clear kk hs2 hs3 f1 Hs HX
    go_wp2
    go_quiet (fail)
    clear HF3 hgo hFl
    go_wp2_with fail
    refine (farP_any _ _).mono ?_
    rintro e w4 ⟨rfl,f4⟩
    have F4:Fr [] wr w4:=by first | exact F3.out.drew.trans f4 | exact (F3.out.drewN _).trans f4 | exact F3.out.trans f4
    have ow4:=own_fr HH.out.1 F4 (by simp)
    have fw4:Fr [g] W w4:=HH.out.2.1.trans (F4.mono (by simp))
    have y0:=(F4.cell (p:=⟨g,k*3,none⟩) hgl (by simp)).trans HH.out.2.2.1
    have y1:=(F4.cell (p:=⟨g,k*3+1,none⟩) hgl (by simp)).trans HH.out.2.2.2.1
    have y2:=(F4.cell (p:=⟨g,k*3+2,none⟩) hgl (by simp)).trans HH.out.2.2.2.2
    have u0:=ow4.frozenAt (k*3)
    have u1:=ow4.frozenAt (k*3+1)
    have u2:=ow4.frozenAt (k*3+2)
    have hst0:=(ow4.stored (k*3) (.int .i64 (-1))).1
    have hst1:=(hst0.stored (k*3+1) (.int .i64 (-1))).1
    have hst:=(hst1.stored (k*3+2) (.string spoS)).1
    have hset:(((repsZ k (elF spoS)++xs.drop (k*3)).set (k*3) (.int .i64 (-1))).set (k*3+1) (.int .i64 (-1))).set (k*3+2) (.string spoS)=repsZ (k+1) (elF spoS)++xs.drop ((k+1)*3):=repsZ_set3 xs k _ _ _ (by omega)
    rw[hset] at hst
    have Hfin:Hid _:=And.intro hst (((fw4.setCell (p:=⟨g,k*3,none⟩) (.inl (by simp)) (.int .i64 (-1))).setCell (p:=⟨g,k*3+1,none⟩) (.inl (by simp)) (.int .i64 (-1))).setCell (p:=⟨g,k*3+2,none⟩) (.inl (by simp)) (.string spoS))
    clear hst hst0 hst1 hset ow4 fw4 F4 f4 F3 HH
    go_wp2
    exact⟨⟨k+1,by omega,rfl,by go_num,Hfin.out.1,Hfin.out.2⟩,by simp[intOf];omega⟩
  ·have g1:¬ ((k:Int)<(n:Int)+8):=by omega
   obtain rfl:k=n+8:=by omega
   have Hfin:Hid _:=And.intro ow.out fw.out
   clear ow fw HO Hs HX
   go_wp2
   go_ret
   have h:=Hfin.out.1
   rw[List.drop_of_length_le (by omega),List.append_nil] at h
   exact⟨rfl,Hfin.out.2,h⟩
theorem Lent.form {B:Nat}{W:World}{e:TypeId}{bey:List Value}{v v':Value}{n:Nat}{xs:List Value} (h:Lent B W e bey v v' n xs):∃ o c,v'=.slice o n c:=by
 rcases h with ⟨-,rfl,rfl,-⟩ | ⟨g,ad,c,-,rfl,-⟩
 ·exact⟨_,_,rfl⟩
 ·exact⟨_,_,rfl⟩
theorem Lent.lt {B:Nat}{W:World}{e:TypeId}{bey:List Value}{v v':Value}{n:Nat}{xs:List Value} (h:Lent B W e bey v v' n xs):∀ g,v'.ownBlock=some g→B≤g∧g<W.heap.size:=by
 intro g hg
 rcases h with ⟨-,rfl,rfl,-⟩ | ⟨g',ad,c,-,rfl,ho⟩
 ·cases hg
 ·obtain rfl:g'=g:=by simpa [Value.ownBlock] using hg
  exact ho.lt g' rfl
theorem Lent.blk {B:Nat}{W W':World}{e:TypeId}{bey:List Value}{v v':Value}{n:Nat}{xs:List Value} (h:Lent B W e bey v v' n xs) (hb:∀ g,v'.ownBlock=some g→W'.heap[g]?=W.heap[g]?):Lent B W' e bey v v' n xs:=by
 rcases h with h | ⟨g,ad,c,h1,h2,ho⟩
 ·exact .inl h
 ·subst h2
  exact .inr ⟨g,ad,c,h1,rfl,own_of_block ho fun g' hg'=>by
   obtain rfl:g=g':=by simpa [Value.ownBlock] using hg'
   exact hb g rfl⟩
theorem Lent.base {B B':Nat}{W:World}{e:TypeId}{bey:List Value}{v v':Value}{n:Nat}{xs:List Value} (h:Lent B W e bey v v' n xs) (hB:B'≤B):Lent B' W e bey v v' n xs:=by
 rcases h with h | ⟨g,ad,c,h1,h2,ho⟩
 ·exact .inl h
 ·refine .inr ⟨g,ad,c,h1,h2,ho.1,?_⟩
  rcases ho.2 with h' | ⟨g',cap,cur,a,b,r⟩
  ·exact .inl h'
  ·exact .inr ⟨g',cap,cur,a,Nat.le_trans hB b,r⟩
theorem SrcZ.form {W:World}{v:Value}{n z:Nat}{xs:List Value} (h:SrcZ W v n z xs):∃ o c,v=.slice o n c:=by
 rcases h.at_ with ⟨rfl,rfl⟩ | ⟨ad,c,rfl,_⟩
 ·exact⟨_,_,rfl⟩
 ·exact⟨_,_,rfl⟩
structure LentM (B:Nat) (W:World) (tv pv fv tv' pv' fv':Value) (nt np nf:Nat) (xt xp xf:List Value):Prop where
 t:Lent B W 9 (elT beyS) tv tv' nt xt
 p:Lent B W 9 (elT beyS) pv pv' np xp
 f:Lent B W 65 (elF beyS) fv fv' nf xf
 tp:∀ g,tv'.ownBlock=some g→pv'.ownBlock≠some g
 tf:∀ g,tv'.ownBlock=some g→fv'.ownBlock≠some g
 pf:∀ g,pv'.ownBlock=some g→fv'.ownBlock≠some g
def LentMP (W:World) (tv pv fv:Value) (gn an:Int) (nt np nf:Nat) (xt xp xf:List Value) (ee:Ending) (W':World):Prop:=
 ∃ tv' pv' fv',ee=.returned (.agg #[tv',pv',.int .i64 gn,.int .i64 an,fv'])∧Fr [] W W'∧LentM W.heap.size W' tv pv fv tv' pv' fv' nt np nf xt xp xf
theorem lentM_any (tv pv fv:Value) (gn an:Int) (nt np nf:Nat) (xt xp xf:List Value) (W:World) (ht:SrcZ W tv nt 1 xt) (hp:SrcZ W pv np 1 xp) (hf:SrcZ W fv nf 3 xf) (h1:nt≤2000000) (h2:np≤2000000) (h3:nf≤2000000) :
  Calls Tryz.prog 75 #[.agg #[tv,pv,.int .i64 gn,.int .i64 an,fv]] W (LentMP W tv pv fv gn an nt np nf xt xp xf):=by
 obtain⟨ta,tc,rfl⟩:=ht.form
 obtain⟨po,pc,rfl⟩:=hp.form
 obtain⟨fo,fc,rfl⟩:=hf.form
 obtain⟨W1,hW1⟩:∃ W1,(W.alloc (.cells #[.slice ta nt tc,.slice po np pc,.int .i64 gn,.int .i64 an,.slice fo nf fc] 30)).alloc (.cells #[.slice none 0 0,.slice none 0 0,.int .i64 0,.int .i64 0,.slice none 0 0] 30)=W1:=⟨_,rfl⟩
 have F1:Fr [] W W1:=by rw[← hW1];exact ((Fr.refl [] W).alloc _).alloc _
 have k1:=World.alloc_heap_new W (.cells #[.slice ta nt tc,.slice po np pc,.int .i64 gn,.int .i64 an,.slice fo nf fc] 30)
 have hl1:=(Array.getElem?_eq_some_iff.1 k1).1
 have k1':W1.heap[W.heap.size]?=some (.cells #[.slice ta nt tc,.slice po np pc,.int .i64 gn,.int .i64 an,.slice fo nf fc] 30):=by
  rw[← hW1];exact (((Fr.refl [] _).alloc _).block W.heap.size hl1 (by simp)).trans k1
 have k2:=World.alloc_heap_new (W.alloc (.cells #[.slice ta nt tc,.slice po np pc,.int .i64 gn,.int .i64 an,.slice fo nf fc] 30)) (.cells #[.slice none 0 0,.slice none 0 0,.int .i64 0,.int .i64 0,.slice none 0 0] 30)
 rw[hW1] at k2
 have hsz:(W.alloc (.cells #[.slice ta nt tc,.slice po np pc,.int .i64 gn,.int .i64 an,.slice fo nf fc] 30)).heap.size=W.heap.size+1:=by simp
 rw[hsz] at k2
 have l1:=(Array.getElem?_eq_some_iff.1 k1').1
 have l2:=(Array.getElem?_eq_some_iff.1 k2).1
 have c0:W1.cell? ⟨W.heap.size,0,none⟩=some (.slice ta nt tc):=by unfold World.cell?;rw[k1'];rfl
 have c1:W1.cell? ⟨W.heap.size,1,none⟩=some (.slice po np pc):=by unfold World.cell?;rw[k1'];rfl
 have c2:W1.cell? ⟨W.heap.size,2,none⟩=some (.int .i64 gn):=by unfold World.cell?;rw[k1'];rfl
 have c3:W1.cell? ⟨W.heap.size,3,none⟩=some (.int .i64 an):=by unfold World.cell?;rw[k1'];rfl
 have c4:W1.cell? ⟨W.heap.size,4,none⟩=some (.slice fo nf fc):=by unfold World.cell?;rw[k1'];rfl
 have z:∀ i,W1.frozen? ⟨W.heap.size,i,none⟩=false:=fun i=>by unfold World.frozen?;rw[k1'];simp
 have r:∀ i,i<5→∃ y,W1.cell? ⟨W.heap.size+1,i,none⟩=some y:=fun i hi=>by
  unfold World.cell?;rw[k2];exact⟨_,Array.getElem?_eq_getElem (by simpa using hi)⟩
 have rz:∀ i,W1.frozen? ⟨W.heap.size+1,i,none⟩=false:=fun i=>by unfold World.frozen?;rw[k2];simp
 have H1:=lentT_any _ nt xt W1 (ht.fr F1) h1
 have HH:Hid _:=And.intro F1 (And.intro hp hf)
 have HC:Hid _:=And.intro c1 (And.intro c2 (And.intro c3 (And.intro c4 (And.intro z (And.intro r rz)))))
 have HL:Hid _:=And.intro l1 l2
 have HE:Hid _:=hW1
 clear ht hp hf k1 k1' k2 hl1 hsz l1 l2 F1 c1 c2 c3 c4 z r rz
 have S1:∀ x,x ∈ [W.heap.size,W.heap.size+1]→x ∈ [W.heap.size,W.heap.size+1]∨W.heap.size≤x:=fun x hx=>.inl hx
 go_enter Tryz.func75,Tryz.ntmps75
 go_wp2_with fail
 refine H1.mono ?_
 rintro e W2 ⟨tv',rfl,f2,L2⟩
 obtain⟨ta',tc',rfl⟩:=L2.form
 obtain⟨F1,hp,hf⟩:=HH.out
 obtain⟨c1,c2,c3,c4,z,r,rz⟩:=HC.out
 obtain⟨l1,l2⟩:=HL.out
 have b0:=(f2.cell (p:=⟨W.heap.size,0,none⟩) l1 (by simp)).trans c0
 have z0:=(f2.frozen (p:=⟨W.heap.size,0,none⟩) l1 (by simp)).trans (z 0)
 obtain⟨W2a,hW2a⟩:∃ W2a,W2.setCell ⟨W.heap.size,0,none⟩ (.slice ta' nt tc')=W2a:=⟨_,rfl⟩
 have G2:Fr [W.heap.size,W.heap.size+1] W2 W2a:=by rw[← hW2a];exact (Fr.refl _ _).setCell (.inl (by simp)) _
 have F2a:Fr [] W W2a:=by rw[← hW2a];exact (F1.trans f2).setCell (.inr (Nat.le_refl _)) _
 have e:∀ i,i≠0→W2a.cell? ⟨W.heap.size,i,none⟩=W1.cell? ⟨W.heap.size,i,none⟩:=fun i hi=>by rw[← hW2a];exact (setCell_off (fun h=>hi h.symm)).trans (f2.cell (p:=⟨W.heap.size,i,none⟩) l1 (by simp))
 have b1:=(e 1 (by decide)).trans c1
 have H2:=lentT_any _ np xp W2a (hp.fr F2a) h2
 have K2:Hid _:=And.intro L2 (And.intro G2 (And.intro F2a (And.intro f2 (And.intro e hf))))
 have a0:Hid (W2a.cell? ⟨W.heap.size,0,none⟩=some (.slice ta' nt tc')):=by
  have h:W2a.cell? ⟨W.heap.size,0,none⟩=some (.slice ta' nt tc'):=by rw[← hW2a];exact cell_set b0
  exact h
 clear L2 G2 F2a e c0 H1 HH c1 c2 c3 c4 z r rz F1 hp hf f2
 go_wp2_with fail
 refine H2.mono ?_
 rintro e W3 ⟨pv',rfl,f3,L3⟩
 obtain⟨pa',pc',rfl⟩:=L3.form
 obtain⟨L2,G2,F2a,f2,e,hf⟩:=K2.out
 obtain⟨c1,c2,c3,c4,z,r,rz⟩:=HC.out
 have l1a:W.heap.size<W2a.heap.size:=by have:=f2.size;have:=G2.size;omega
 have za:∀ i,W2a.frozen? ⟨W.heap.size,i,none⟩=false:=fun i=>by rw[← hW2a,World.frozen?_setCell];exact (f2.frozen (p:=⟨W.heap.size,i,none⟩) l1 (by simp)).trans (z i)
 have d1:=(f3.cell (p:=⟨W.heap.size,1,none⟩) l1a (by simp)).trans ((e 1 (by decide)).trans c1)
 have z1:=(f3.frozen (p:=⟨W.heap.size,1,none⟩) l1a (by simp)).trans (za 1)
 obtain⟨W3a,hW3a⟩:∃ W3a,W3.setCell ⟨W.heap.size,1,none⟩ (.slice pa' np pc')=W3a:=⟨_,rfl⟩
 have G3:Fr [W.heap.size,W.heap.size+1] W3 W3a:=by rw[← hW3a];exact (Fr.refl _ _).setCell (.inl (by simp)) _
 have F3a:Fr [] W W3a:=by rw[← hW3a];exact (F2a.trans f3).setCell (.inr (Nat.le_refl _)) _
 have e3:∀ i,i≠1→W3a.cell? ⟨W.heap.size,i,none⟩=W2a.cell? ⟨W.heap.size,i,none⟩:=fun i hi=>by rw[← hW3a];exact (setCell_off (fun h=>hi h.symm)).trans (f3.cell (p:=⟨W.heap.size,i,none⟩) l1a (by simp))
 have b4:=(e3 4 (by decide)).trans ((e 4 (by decide)).trans c4)
 have H3:=lentF_any _ nf xf W3a (hf.fr F3a) h3
 have a1:W3a.cell? ⟨W.heap.size,1,none⟩=some (.slice pa' np pc'):=by rw[← hW3a];exact cell_set d1
 have a0':=(e3 0 (by decide)).trans a0.out
 have a2':=(e3 2 (by decide)).trans ((e 2 (by decide)).trans c2)
 have a3':=(e3 3 (by decide)).trans ((e 3 (by decide)).trans c3)
 have zb:∀ i,W3a.frozen? ⟨W.heap.size,i,none⟩=false:=fun i=>by rw[← hW3a,World.frozen?_setCell];exact (f3.frozen (p:=⟨W.heap.size,i,none⟩) l1a (by simp)).trans (za i)
 have K3:Hid _:=And.intro L2 (And.intro L3 (And.intro G2 (And.intro G3 (And.intro F3a (And.intro f2 (And.intro f3 (And.intro a0' (And.intro a1 (And.intro a2' (And.intro a3' (And.intro b4 zb)))))))))))
 clear L2 L3 G2 G3 F2a F3a e e3 c1 c2 c3 c4 z r rz hf f2 f3 za H2 K2 a0 a0' a1 a2' a3' zb b0 b1 z0
 go_wp2_with fail
 refine H3.mono ?_
 rintro e W4 ⟨fv',rfl,f4,L4⟩
 obtain⟨fa',fc',rfl⟩:=L4.form
 obtain⟨L2,L3,G2,G3,F3a,f2,f3,a0,a1,a2,a3,a4,zb⟩:=K3.out
 obtain⟨c1,c2,c3,c4,z,r,rz⟩:=HC.out
 have l1b:W.heap.size<W3a.heap.size:=by have:=f2.size;have:=G2.size;have:=f3.size;have:=G3.size;omega
 have t:∀ i,W4.cell? ⟨W.heap.size,i,none⟩=W3a.cell? ⟨W.heap.size,i,none⟩:=fun i=>f4.cell (p:=⟨W.heap.size,i,none⟩) l1b (by simp)
 have d4:=(t 4).trans a4
 have z4:=(f4.frozen (p:=⟨W.heap.size,4,none⟩) l1b (by simp)).trans (zb 4)
 obtain⟨W4a,hW4a⟩:∃ W4a,W4.setCell ⟨W.heap.size,4,none⟩ (.slice fa' nf fc')=W4a:=⟨_,rfl⟩
 have G4:Fr [W.heap.size,W.heap.size+1] W4 W4a:=by rw[← hW4a];exact (Fr.refl _ _).setCell (.inl (by simp)) _
 have F4a:Fr [] W W4a:=by rw[← hW4a];exact (F3a.trans f4).setCell (.inr (Nat.le_refl _)) _
 have u:∀ i,i≠4→W4a.cell? ⟨W.heap.size,i,none⟩=W3a.cell? ⟨W.heap.size,i,none⟩:=fun i hi=>by rw[← hW4a];exact (setCell_off (fun h=>hi h.symm)).trans (t i)
 have y0:=(u 0 (by decide)).trans a0
 have y1:=(u 1 (by decide)).trans a1
 have y2:=(u 2 (by decide)).trans a2
 have y3:=(u 3 (by decide)).trans a3
 have y4:W4a.cell? ⟨W.heap.size,4,none⟩=some (.slice fa' nf fc'):=by rw[← hW4a];exact cell_set d4
 have s2:=f2.size
 have s2':=G2.size
 have s3:=f3.size
 have s3':=G3.size
 have s4:=f4.size
 have rb:W4a.heap[W.heap.size+1]?=W1.heap[W.heap.size+1]?:=by
  rw[← hW4a,setCell_block (by omega),f4.block _ (by omega) (by simp),← hW3a,setCell_block (by omega),f3.block _ (by omega) (by simp),← hW2a,setCell_block (by omega),f2.block _ (by omega) (by simp)]
 have rc:∀ i,W4a.cell? ⟨W.heap.size+1,i,none⟩=W1.cell? ⟨W.heap.size+1,i,none⟩:=fun i=>World.cell?_of_block (w:=W1) (a:=⟨W.heap.size+1,i,none⟩) rb
 have rf:∀ i,W4a.frozen? ⟨W.heap.size+1,i,none⟩=false:=fun i=>(World.frozen?_of_block (w:=W1) (a:=⟨W.heap.size+1,i,none⟩) rb).trans (rz i)
 obtain⟨r0,hr0⟩:=r 0 (by decide)
 obtain⟨r1,hr1⟩:=r 1 (by decide)
 obtain⟨r2,hr2⟩:=r 2 (by decide)
 obtain⟨r3,hr3⟩:=r 3 (by decide)
 obtain⟨r4,hr4⟩:=r 4 (by decide)
 have x0:=(rc 0).trans hr0
 have x1:=(rc 1).trans hr1
 have x2:=(rc 2).trans hr2
 have x3:=(rc 3).trans hr3
 have x4:=(rc 4).trans hr4
 have v0:=rf 0
 have v1:=rf 1
 have v2:=rf 2
 have v3:=rf 3
 have v4:=rf 4
 obtain⟨Wf,hWf⟩:∃ Wf,((((W4a.setCell ⟨W.heap.size+1,0,none⟩ (.slice ta' nt tc')).setCell ⟨W.heap.size+1,1,none⟩ (.slice pa' np pc')).setCell ⟨W.heap.size+1,2,none⟩ (.int .i64 gn)).setCell ⟨W.heap.size+1,3,none⟩ (.int .i64 an)).setCell ⟨W.heap.size+1,4,none⟩ (.slice fa' nf fc')=Wf:=⟨_,rfl⟩
 have G5:Fr [W.heap.size,W.heap.size+1] W4a Wf:=by rw[← hWf];exact (((((Fr.refl _ _).setCell (.inl (by simp)) _).setCell (.inl (by simp)) _).setCell (.inl (by simp)) _).setCell (.inl (by simp)) _).setCell (.inl (by simp)) _
 have F5:Fr [] W Wf:=by rw[← hWf];exact ((((F4a.setCell (.inr (by simp)) _).setCell (.inr (by simp)) _).setCell (.inr (by simp)) _).setCell (.inr (by simp)) _).setCell (.inr (by simp)) _
 have q0:Wf.cell? ⟨W.heap.size+1,0,none⟩=some (.slice ta' nt tc'):=by rw[← hWf];exact (setCell_off (by decide)).trans ((setCell_off (by decide)).trans ((setCell_off (by decide)).trans ((setCell_off (by decide)).trans (cell_set x0))))
 have q1:Wf.cell? ⟨W.heap.size+1,1,none⟩=some (.slice pa' np pc'):=by rw[← hWf];exact (setCell_off (by decide)).trans ((setCell_off (by decide)).trans ((setCell_off (by decide)).trans (cell_set ((setCell_off (by decide)).trans x1))))
 have q2:Wf.cell? ⟨W.heap.size+1,2,none⟩=some (.int .i64 gn):=by rw[← hWf];exact (setCell_off (by decide)).trans ((setCell_off (by decide)).trans (cell_set ((setCell_off (by decide)).trans ((setCell_off (by decide)).trans x2))))
 have q3:Wf.cell? ⟨W.heap.size+1,3,none⟩=some (.int .i64 an):=by rw[← hWf];exact (setCell_off (by decide)).trans (cell_set ((setCell_off (by decide)).trans ((setCell_off (by decide)).trans ((setCell_off (by decide)).trans x3))))
 have q4:Wf.cell? ⟨W.heap.size+1,4,none⟩=some (.slice fa' nf fc'):=by rw[← hWf];exact cell_set ((setCell_off (by decide)).trans ((setCell_off (by decide)).trans ((setCell_off (by decide)).trans ((setCell_off (by decide)).trans x4))))
 have M:LentM W.heap.size Wf (.slice ta nt tc) (.slice po np pc) (.slice fo nf fc) (.slice ta' nt tc') (.slice pa' np pc') (.slice fa' nf fc') nt np nf xt xp xf:=by
  have i1:W.heap.size+1<W1.heap.size:=HL.out.2
  refine⟨(L2.blk fun g hg=>?_).base (by omega),(L3.blk fun g hg=>?_).base (by omega),(L4.blk fun g hg=>?_).base (by omega),fun g hg hg'=>?_,fun g hg hg'=>?_,fun g hg hg'=>?_⟩
  ·have:=L2.lt g hg
   rw[G5.block g (by have:=G4.size;omega) (by simp;omega),G4.block g (by omega) (by simp;omega),f4.block g (by omega) (by simp),G3.block g (by omega) (by simp;omega),f3.block g (by omega) (by simp),G2.block g (by omega) (by simp;omega)]
  ·have:=L3.lt g hg
   rw[G5.block g (by have:=G4.size;omega) (by simp;omega),G4.block g (by omega) (by simp;omega),f4.block g (by omega) (by simp),G3.block g (by omega) (by simp;omega)]
  ·have:=L4.lt g hg
   rw[G5.block g (by have:=G4.size;omega) (by simp;omega),G4.block g (by omega) (by simp;omega)]
  ·have:=L2.lt g hg;have:=L3.lt g hg';omega
  ·have:=L2.lt g hg;have:=L4.lt g hg';omega
  ·have:=L3.lt g hg;have:=L4.lt g hg';omega
 have HM:Hid _:=And.intro F5 M
 clear L2 L3 L4 G2 G3 G4 G5 F3a F4a F5 M f2 f3 f4 K3 t u rb rc rf r rz zb z c1 c2 c3 c4 hr0 hr1 hr2 hr3 hr4 H3 HC HL HE a0 a1 a2 a3 a4
 go_wp2
 refine bodyPost_ret (v:=.agg #[.slice ta' nt tc',.slice pa' np pc',.int .i64 gn,.int .i64 an,.slice fa' nf fc']) (by simp[results,Tryz.results75,go_sem,q0,q1,q2,q3,q4]) rfl ?_
 exact⟨_,_,_,rfl,HM.out.1,HM.out.2⟩
def blks (v:Value):List Nat:=match v.ownBlock with | some g=>[g] | none=>[]
theorem blks_mem {v:Value}{g:Nat} (h:g ∈ blks v):v.ownBlock=some g:=by
 unfold blks at h
 split at h
 ·rename_i g' hg
  simp at h
  rw[hg,h]
 ·cases h
def Spo (B:Nat) (W:World) (e:TypeId) (m:List Value) (v':Value) (n:Nat):Prop:=
 (v'=.slice none 0 0∧n=0)∨∃ g,v'=.slice (some ⟨g,0,none⟩) n (n+8)∧W.ownsRow B e m.length (.slice (some ⟨g,0,none⟩) (n+8) (n+8)) (n+8) (repsZ (n+8) m)
theorem wholeT_nil (o:Option Addr) (n c:Nat) (W:World):Calls Tryz.prog 84 #[.slice o n c,.slice none 0 0] W fun e W'=>e=.returned (.bool true)∧W'=W:=by
 have hnil:∀ W,(binOp .eql 27 (.slice none 0 0) (.slice none 0 0)).run Tryz.prog W=.ok (.bool true) W:=fun W=>by
  have:=Lib.run_eql_slice_nil (P:=Tryz.prog) W 27 9 none 0 0 0 0 Tryz.underlying27
  simpa using this
 go_enter Tryz.func84,Tryz.ntmps84
 go_wp2
 go_ret
 exact⟨rfl,rfl⟩
theorem wholeF_nil (o:Option Addr) (n c:Nat) (W:World):Calls Tryz.prog 166 #[.slice o n c,.slice none 0 0] W fun e W'=>e=.returned (.bool true)∧W'=W:=by
 have hnil:∀ W,(binOp .eql 28 (.slice none 0 0) (.slice none 0 0)).run Tryz.prog W=.ok (.bool true) W:=fun W=>by
  have:=Lib.run_eql_slice_nil (P:=Tryz.prog) W 28 65 none 0 0 0 0 Tryz.underlying28
  simpa using this
 go_enter Tryz.func166,Tryz.ntmps166
 go_wp2
 go_ret
 exact⟨rfl,rfl⟩
def WholeP (B:Nat) (W:World) (e:TypeId) (m:List Value) (v':Value) (n:Nat) (ee:Ending) (W':World):Prop:=
 ee=.returned (.bool true)∧Fr (blks v') W W'∧Spo B W' e m v' n
theorem wholeT_any (B:Nat) (v v':Value) (L:List ByteArray) (W:World) (h:Lent B W 9 (elT beyS) v v' L.length (L.map .string)) (hs:SrcZ W v L.length 1 (L.map .string)) (hb:∀ g,v.ownBlock=some g→0<L.length→g<B) (hbk:∀ ad n c,v=.slice (some ad) n c→0<L.length→ad.block<B) (hn:L.length≤2000000) :
  Calls Tryz.prog 84 #[v',v] W (WholeP B W 9 (elT spoS) v' L.length):=by
 rcases h with ⟨rfl,rfl,hl,hx⟩ | ⟨g,ad,c,rfl,rfl,ho⟩
 ·exact (wholeT_nil none 0 0 W).mono fun e W' ⟨he,hw⟩=>⟨he,by rw[hw];exact Fr.refl _ _,.inl ⟨rfl,hl⟩⟩
 ·rcases hs.at_ with ⟨h0,_⟩ | ⟨ad',c',hv,hc,hbb,hxx⟩
  ·cases h0
  ·simp only[Value.slice.injEq,Option.some.injEq,true_and] at hv
   obtain⟨rfl,rfl⟩:=hv
   have hB:=(ho.lt g rfl).1
   refine (wholeT_some g ad c B L W hn hc ho (fun h0=>⟨(hbb h0).1,(hbb h0).2,by have:=hbk ad _ _ rfl h0;omega⟩) hxx).mono fun e W' ⟨he,hf,ho'⟩=>⟨he,?_,.inr ⟨g,rfl,ho'⟩⟩
   exact hf
theorem wholeF_any (B:Nat) (v v':Value) (L:List Wire.Fn) (W:World) (h:Lent B W 65 (elF beyS) v v' L.length (L.flatMap fnC)) (hs:SrcZ W v L.length 3 (L.flatMap fnC)) (hbk:∀ ad n c,v=.slice (some ad) n c→0<L.length→ad.block<B) (hn:L.length≤2000000) :
  Calls Tryz.prog 166 #[v',v] W (WholeP B W 65 (elF spoS) v' L.length):=by
 rcases h with ⟨rfl,rfl,hl,hx⟩ | ⟨g,ad,c,rfl,rfl,ho⟩
 ·exact (wholeF_nil none 0 0 W).mono fun e W' ⟨he,hw⟩=>⟨he,by rw[hw];exact Fr.refl _ _,.inl ⟨rfl,hl⟩⟩
 ·rcases hs.at_ with ⟨h0,_⟩ | ⟨ad',c',hv,hc,hbb,hxx⟩
  ·cases h0
  ·simp only[Value.slice.injEq,Option.some.injEq,true_and] at hv
   obtain⟨rfl,rfl⟩:=hv
   have hB:=(ho.lt g rfl).1
   refine (wholeF_some g ad c B L W hn hc ho (fun h0=>⟨(hbb h0).1,(hbb h0).2,by have:=hbk ad _ _ rfl h0;omega⟩) hxx).mono fun e W' ⟨he,hf,ho'⟩=>⟨he,?_,.inr ⟨g,rfl,ho'⟩⟩
   exact hf
end Go.Proofs.YtclkgoigmgkffaaGreatDoor
