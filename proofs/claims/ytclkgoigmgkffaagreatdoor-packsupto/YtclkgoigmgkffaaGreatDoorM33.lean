/-
  Texts Ls Lt.
-/
import Derived.Test.YtclkgoigmgkffaaGreatDoorM32
set_option linter.unusedSimpArgs false
set_option linter.unusedVariables false
set_option maxRecDepth 100000
set_option maxHeartbeats 40000000
namespace Go.Proofs.YtclkgoigmgkffaaGreatDoor
open Go.RowKit
open Wire Flow Mach
def Low (B:Nat) (v:Value) (n:Nat):Prop:=∀ ad m c,v=.slice (some ad) m c→0<n→ad.block<B
theorem SrcZ.frS {S:List Nat}{W W':World}{v:Value}{n z B:Nat}{xs:List Value} (h:SrcZ W v n z xs) (hf:Fr S W W') (hl:Low B v n) (hS:∀ x,x ∈ S→B≤x):SrcZ W' v n z xs:=by
 refine⟨h.len,h.one,?_⟩
 rcases h.at_ with h' | ⟨ad,c,hv,hc,hb,hx⟩
 ·exact .inl h'
 ·exact .inr ⟨ad,c,hv,hc,fun h0=>⟨(hb h0).1,Nat.lt_of_lt_of_le (hb h0).2 hf.size⟩,SrcZ.cells (c:=c) hx h.len fun h0=>hf.block _ (hb h0).2 (fun hm=>by have:=hS _ hm;have:=hl ad _ _ hv h0;omega)⟩
theorem Spo.blk {B:Nat}{W W':World}{e:TypeId}{m:List Value}{v':Value}{n:Nat} (h:Spo B W e m v' n) (hb:∀ g,v'.ownBlock=some g→W'.heap[g]?=W.heap[g]?):Spo B W' e m v' n:=by
 rcases h with h | ⟨g,h2,ho⟩
 ·exact .inl h
 ·subst h2
  exact .inr ⟨g,rfl,own_of_block ho fun g' hg'=>by
   obtain rfl:g=g':=by simpa [Value.ownBlock] using hg'
   exact hb g rfl⟩
def WholeMP (B:Nat) (W:World) (tv' pv' fv':Value) (nt np nf:Nat) (ee:Ending) (W':World):Prop:=
 ee=.returned (.bool true)∧Fr (blks tv'++(blks pv'++blks fv')) W W'∧Spo B W' 9 (elT spoS) tv' nt∧Spo B W' 9 (elT spoS) pv' np∧Spo B W' 65 (elF spoS) fv' nf
theorem wholeM_any (B:Nat) (tv pv fv tv' pv' fv':Value) (gn an:Int) (LT LP:List ByteArray) (LF:List Wire.Fn) (W:World) (hM:LentM B W tv pv fv tv' pv' fv' LT.length LP.length LF.length (LT.map .string) (LP.map .string) (LF.flatMap fnC))
  (ht:SrcZ W tv LT.length 1 (LT.map .string)) (hp:SrcZ W pv LP.length 1 (LP.map .string)) (hf:SrcZ W fv LF.length 3 (LF.flatMap fnC)) (bt:Low B tv LT.length) (bp:Low B pv LP.length) (bf:Low B fv LF.length) (h1:LT.length≤2000000) (h2:LP.length≤2000000) (h3:LF.length≤2000000) :
  Calls Tryz.prog 77 #[.agg #[tv',pv',.int .i64 gn,.int .i64 an,fv'],.agg #[tv,pv,.int .i64 gn,.int .i64 an,fv]] W (WholeMP B W tv' pv' fv' LT.length LP.length LF.length):=by
 have lt_t:=hM.t.lt
 have lt_p:=hM.p.lt
 have lt_f:=hM.f.lt
 obtain⟨o1,c1,rfl⟩:=hM.t.form
 obtain⟨o2,c2,rfl⟩:=hM.p.form
 obtain⟨o3,c3,rfl⟩:=hM.f.form
 obtain⟨o4,c4,rfl⟩:=ht.form
 obtain⟨o5,c5,rfl⟩:=hp.form
 obtain⟨o6,c6,rfl⟩:=hf.form
 obtain⟨W1,hW1⟩:∃ W1,(W.alloc (.cells #[.slice o1 LT.length c1,.slice o2 LP.length c2,.int .i64 gn,.int .i64 an,.slice o3 LF.length c3] 30)).alloc (.cells #[.slice o4 LT.length c4,.slice o5 LP.length c5,.int .i64 gn,.int .i64 an,.slice o6 LF.length c6] 30)=W1:=⟨_,rfl⟩
 have F1:Fr [] W W1:=by rw[← hW1];exact ((Fr.refl [] W).alloc _).alloc _
 have k1:=World.alloc_heap_new W (.cells #[.slice o1 LT.length c1,.slice o2 LP.length c2,.int .i64 gn,.int .i64 an,.slice o3 LF.length c3] 30)
 have hl1:=(Array.getElem?_eq_some_iff.1 k1).1
 have k1':W1.heap[W.heap.size]?=some (.cells #[.slice o1 LT.length c1,.slice o2 LP.length c2,.int .i64 gn,.int .i64 an,.slice o3 LF.length c3] 30):=by
  rw[← hW1];exact (((Fr.refl [] _).alloc _).block W.heap.size hl1 (by simp)).trans k1
 have k2:=World.alloc_heap_new (W.alloc (.cells #[.slice o1 LT.length c1,.slice o2 LP.length c2,.int .i64 gn,.int .i64 an,.slice o3 LF.length c3] 30)) (.cells #[.slice o4 LT.length c4,.slice o5 LP.length c5,.int .i64 gn,.int .i64 an,.slice o6 LF.length c6] 30)
 rw[hW1] at k2
 have hsz:(W.alloc (.cells #[.slice o1 LT.length c1,.slice o2 LP.length c2,.int .i64 gn,.int .i64 an,.slice o3 LF.length c3] 30)).heap.size=W.heap.size+1:=by simp
 rw[hsz] at k2
 have l1:=(Array.getElem?_eq_some_iff.1 k1').1
 have l2:=(Array.getElem?_eq_some_iff.1 k2).1
 have B1:∀ S W' i,Fr S W1 W'→(∀ x,x ∈ S→x<W.heap.size)→W'.cell? ⟨W.heap.size,i,none⟩=(#[Value.slice o1 LT.length c1,.slice o2 LP.length c2,.int .i64 gn,.int .i64 an,.slice o3 LF.length c3]:Array Value)[i]?:=fun S W' i hf hS=>(hf.cell (p:=⟨W.heap.size,i,none⟩) l1 (fun hm=>by have:=hS _ hm;simp at this)).trans (by unfold World.cell?;rw[k1'];rfl)
 have B2:∀ S W' i,Fr S W1 W'→(∀ x,x ∈ S→x<W.heap.size)→W'.cell? ⟨W.heap.size+1,i,none⟩=(#[Value.slice o4 LT.length c4,.slice o5 LP.length c5,.int .i64 gn,.int .i64 an,.slice o6 LF.length c6]:Array Value)[i]?:=fun S W' i hf hS=>(hf.cell (p:=⟨W.heap.size+1,i,none⟩) l2 (fun hm=>by have:=hS _ hm;simp at this;omega)).trans (by unfold World.cell?;rw[k2];rfl)
 have St:∀ x,x ∈ blks (.slice o1 LT.length c1)→B≤x∧x<W.heap.size:=fun x hx=>lt_t x (blks_mem hx)
 have Sp:∀ x,x ∈ blks (.slice o2 LP.length c2)→B≤x∧x<W.heap.size:=fun x hx=>lt_p x (blks_mem hx)
 have Sf:∀ x,x ∈ blks (.slice o3 LF.length c3)→B≤x∧x<W.heap.size:=fun x hx=>lt_f x (blks_mem hx)
 have M1:LentM B W1 (.slice o4 LT.length c4) (.slice o5 LP.length c5) (.slice o6 LF.length c6) (.slice o1 LT.length c1) (.slice o2 LP.length c2) (.slice o3 LF.length c3) LT.length LP.length LF.length (LT.map .string) (LP.map .string) (LF.flatMap fnC):=
  ⟨hM.t.blk fun g hg=>F1.block g (lt_t g hg).2 (by simp),hM.p.blk fun g hg=>F1.block g (lt_p g hg).2 (by simp),hM.f.blk fun g hg=>F1.block g (lt_f g hg).2 (by simp),hM.tp,hM.tf,hM.pf⟩
 have H1:=wholeT_any B _ _ LT W1 M1.t (ht.fr F1) (fun g hg h0=>by
  rcases ht.at_ with ⟨hh,_⟩ | ⟨ad,c,hh,_⟩
  ·rw[hh] at hg;cases hg
  ·rw[hh] at hg
   obtain rfl:ad.block=g:=by simpa [Value.ownBlock] using hg
   exact bt ad _ _ hh h0) bt h1
 have a0:=B1 [] W1 0 (Fr.refl _ _) (by simp)
 have b0:=B2 [] W1 0 (Fr.refl _ _) (by simp)
 simp at a0 b0
 have HB:Hid _:=And.intro B1 B2
 have HS:Hid _:=And.intro St (And.intro Sp Sf)
 have HM:Hid _:=And.intro M1 (And.intro (hp.fr F1) (And.intro (hf.fr F1) (And.intro bp bf)))
 have HF:Hid _:=F1
 clear B1 B2 k1 k1' k2 hl1 l1 l2 hsz F1 M1 hM ht hp hf lt_t lt_p lt_f St Sp Sf bt bp bf
 go_enter Tryz.func77,Tryz.ntmps77
 go_wp2_with fail
 refine H1.mono ?_
 rintro e W2 ⟨rfl,f2,S2⟩
 obtain⟨M1,hp,hf,bp,bf⟩:=HM.out
 obtain⟨St,Sp,Sf⟩:=HS.out
 have a1:=HB.out.1 _ W2 1 f2 (fun x hx=>(St x hx).2)
 have b1:=HB.out.2 _ W2 1 f2 (fun x hx=>(St x hx).2)
 simp at a1 b1
 have P2:Lent B W2 9 (elT beyS) (.slice o5 LP.length c5) (.slice o2 LP.length c2) LP.length (LP.map .string):=M1.p.blk fun g hg=>f2.block g (M1.p.lt g hg).2 (fun hm=>M1.tp g (blks_mem hm) hg)
 have Q2:Lent B W2 65 (elF beyS) (.slice o6 LF.length c6) (.slice o3 LF.length c3) LF.length (LF.flatMap fnC):=M1.f.blk fun g hg=>f2.block g (M1.f.lt g hg).2 (fun hm=>M1.tf g (blks_mem hm) hg)
 have hp2:=hp.frS f2 bp (fun x hx=>(St x hx).1)
 have hf2:=hf.frS f2 bf (fun x hx=>(St x hx).1)
 have H2:=wholeT_any B _ _ LP W2 P2 hp2 (fun g hg h0=>by
  rcases hp2.at_ with ⟨hh,_⟩ | ⟨ad,c,hh,_⟩
  ·rw[hh] at hg;cases hg
  ·rw[hh] at hg
   obtain rfl:ad.block=g:=by simpa [Value.ownBlock] using hg
   exact bp ad _ _ hh h0) bp h2
 have K2:Hid _:=And.intro f2 (And.intro S2 (And.intro Q2 hf2))
 clear M1 hp hf bp bf St Sp Sf P2 Q2 hp2 hf2 f2 S2 a0 b0 H1 hW1
 go_wp2_with fail
 refine H2.mono ?_
 rintro e W3 ⟨rfl,f3,S3⟩
 obtain⟨f2,S2,Q2,hf2⟩:=K2.out
 obtain⟨M1,hp,hf,bp,bf⟩:=HM.out
 obtain⟨St,Sp,Sf⟩:=HS.out
 have f23:Fr (blks (.slice o1 LT.length c1)++blks (.slice o2 LP.length c2)) W1 W3:=(f2.mono (fun x hx=>List.mem_append_left _ hx)).trans (f3.mono (fun x hx=>List.mem_append_right _ hx))
 have hS23:∀ x,x ∈ blks (.slice o1 LT.length c1)++blks (.slice o2 LP.length c2)→B≤x∧x<W.heap.size:=fun x hx=>by
  rcases List.mem_append.1 hx with h | h
  ·exact St x h
  ·exact Sp x h
 have a4:=HB.out.1 _ W3 4 f23 (fun x hx=>(hS23 x hx).2)
 have b4:=HB.out.2 _ W3 4 f23 (fun x hx=>(hS23 x hx).2)
 simp at a4 b4
 have Q3:Lent B W3 65 (elF beyS) (.slice o6 LF.length c6) (.slice o3 LF.length c3) LF.length (LF.flatMap fnC):=Q2.blk fun g hg=>f3.block g (Q2.lt g hg).2 (fun hm=>M1.pf g (blks_mem hm) hg)
 have hf3:=hf2.frS f3 bf (fun x hx=>(Sp x hx).1)
 have H3:=wholeF_any B _ _ LF W3 Q3 hf3 bf h3
 have S2':Spo B W3 9 (elT spoS) (.slice o1 LT.length c1) LT.length:=S2.blk fun g hg=>f3.block g (by have:=f2.size;have:=HF.out.size;have:=(St g (by unfold blks;rw[hg];simp)).2;omega) (fun hm=>M1.tp g hg (blks_mem hm))
 have K3:Hid _:=And.intro f23 (And.intro S2' (And.intro S3 (And.intro M1 (And.intro St Sp))))
 clear M1 hp hf bp bf St Sp Sf Q2 Q3 hf2 hf3 f2 f3 f23 S2 S2' S3 a1 b1 H2 K2 hS23
 go_wp2_with fail
 refine H3.mono ?_
 rintro e W4 ⟨rfl,f4,S4⟩
 obtain⟨f23,S2,S3,M1,St,Sp⟩:=K3.out
 have F4:Fr (blks (.slice o1 LT.length c1)++(blks (.slice o2 LP.length c2)++blks (.slice o3 LF.length c3))) W W4:=by
  have g1:=HF.out.mono (S':=blks (.slice o1 LT.length c1)++(blks (.slice o2 LP.length c2)++blks (.slice o3 LF.length c3))) (by simp)
  have g2:=f23.mono (S':=blks (.slice o1 LT.length c1)++(blks (.slice o2 LP.length c2)++blks (.slice o3 LF.length c3))) (fun x hx=>by simp at hx ⊢;rcases hx with h | h <;> simp[h])
  have g3:=f4.mono (S':=blks (.slice o1 LT.length c1)++(blks (.slice o2 LP.length c2)++blks (.slice o3 LF.length c3))) (fun x hx=>by simp[hx])
  exact (g1.trans g2).trans g3
 have e2:Spo B W4 9 (elT spoS) (.slice o1 LT.length c1) LT.length:=S2.blk fun g hg=>f4.block g (by have:=f23.size;have:=HF.out.size;have:=(St g (by unfold blks;rw[hg];simp)).2;omega) (fun hm=>M1.tf g hg (blks_mem hm))
 have e3:Spo B W4 9 (elT spoS) (.slice o2 LP.length c2) LP.length:=S3.blk fun g hg=>f4.block g (by have:=f23.size;have:=HF.out.size;have:=(Sp g (by unfold blks;rw[hg];simp)).2;omega) (fun hm=>M1.pf g hg (blks_mem hm))
 have HZ:Hid _:=And.intro F4 (And.intro e2 (And.intro e3 S4))
 clear f23 S2 S3 M1 St Sp f4 S4 F4 e2 e3 K3 HM HS HB HF H3
 go_wp2
 go_ret
 exact⟨rfl,HZ.out.1,HZ.out.2.1,HZ.out.2.2.1,HZ.out.2.2.2⟩
structure ScG (w0 W:World) (b:Nat) (cc:Nat→Value) (ms:Value) (bs:ByteArray) (r d:Value) (xs ys:List Value):Prop where
 fr:FrB w0.heap.size w0 W
 c0:W.cell? ⟨b,0,none⟩=some ms
 c1:W.cell? ⟨b,1,none⟩=some (.string bs)
 c2:W.cell? ⟨b,2,none⟩=some (.string ⟨#[]⟩)
 c3:W.cell? ⟨b,3,none⟩=some r
 c4:W.cell? ⟨b,4,none⟩=some d
 c5:∀ j,5≤j→j<15→W.cell? ⟨b,j,none⟩=some (cc j)
 fz:∀ j,j<15→W.frozen? ⟨b,j,none⟩=false
 lb:w0.heap.size≤b
 rr:W.ownsRow w0.heap.size 9 1 r xs.length xs
 rd:W.ownsRow w0.heap.size 3 1 d ys.length ys
 n1:r.ownBlock≠some b
 n2:d.ownBlock≠some b
 n3:∀ g,r.ownBlock=some g→d.ownBlock≠some g
 sz:bs.size≤9223372036854775807
theorem ScG.lt {w0 W:World}{b:Nat}{cc:Nat→Value}{ms:Value}{bs:ByteArray}{r d:Value}{xs ys:List Value} (h:ScG w0 W b cc ms bs r d xs ys):b<W.heap.size:=lt_of_cell h.c1
theorem ScG.keep {w0 W W':World}{b:Nat}{cc:Nat→Value}{ms:Value}{bs:ByteArray}{r d:Value}{xs ys:List Value} (h:ScG w0 W b cc ms bs r d xs ys) (hf:Fr [] W W'):ScG w0 W' b cc ms bs r d xs ys:=by
 have e:∀ j,W'.cell? ⟨b,j,none⟩=W.cell? ⟨b,j,none⟩:=fun j=>hf.cell (p:=⟨b,j,none⟩) h.lt (by simp)
 have hB:w0.heap.size≤W.heap.size:=h.fr.size
 refine⟨h.fr.trans (FrB.of hf hB (by simp)),(e _).trans h.c0,(e _).trans h.c1,(e _).trans h.c2,(e _).trans h.c3,(e _).trans h.c4,fun j h1 h2=>(e j).trans (h.c5 j h1 h2),fun j hj=>(hf.frozen (p:=⟨b,j,none⟩) h.lt (by simp)).trans (h.fz j hj),h.lb,own_fr h.rr hf (by simp),own_fr h.rd hf (by simp),h.n1,h.n2,h.n3,h.sz⟩
theorem ScG.bytes {w0 W:World}{b:Nat}{cc:Nat→Value}{ms:Value}{bs:ByteArray}{r d:Value}{xs ys:List Value} (h:ScG w0 W b cc ms bs r d xs ys) (s:ByteArray) (hs:s.size≤9223372036854775807):ScG w0 (W.setCell ⟨b,1,none⟩ (.string s)) b cc ms s r d xs ys:=by
 refine⟨h.fr.trans (frB_set h.lb),(setCell_off (by decide)).trans h.c0,cell_set h.c1,(setCell_off (by decide)).trans h.c2,(setCell_off (by decide)).trans h.c3,(setCell_off (by decide)).trans h.c4,fun j h1 h2=>(setCell_off (by omega)).trans (h.c5 j h1 h2),fun j hj=>by rw[World.frozen?_setCell];exact h.fz j hj,h.lb,own_of_block h.rr (fun g hg=>setCell_block (fun e=>h.n1 (by rw[hg,e]))),own_of_block h.rd (fun g hg=>setCell_block (fun e=>h.n2 (by rw[hg,e]))),h.n1,h.n2,h.n3,hs⟩
theorem ScG.bare {w0 W:World}{b:Nat}{cc:Nat→Value}{ms:Value}{bs:ByteArray}{r d:Value}{xs ys:List Value} (h:ScG w0 W b cc ms bs r d xs ys):ScG w0 ((W.setCell ⟨b,3,none⟩ (.slice none 0 0)).setCell ⟨b,4,none⟩ (.slice none 0 0)) b cc ms bs (.slice none 0 0) (.slice none 0 0) [] []:=by
 refine⟨(h.fr.trans (frB_set h.lb)).trans (frB_set h.lb),(setCell_off (by decide)).trans ((setCell_off (by decide)).trans h.c0),(setCell_off (by decide)).trans ((setCell_off (by decide)).trans h.c1),(setCell_off (by decide)).trans ((setCell_off (by decide)).trans h.c2),(setCell_off (by decide)).trans (cell_set h.c3),cell_set ((setCell_off (by decide)).trans h.c4),fun j h1 h2=>(setCell_off (by omega)).trans ((setCell_off (by omega)).trans (h.c5 j h1 h2)),fun j hj=>by rw[World.frozen?_setCell,World.frozen?_setCell];exact h.fz j hj,h.lb,World.ownsRow_nil _ _ _ _,World.ownsRow_nil _ _ _ _,(by intro e;cases e),(by intro e;cases e),fun g e=>(by cases e),h.sz⟩
structure OwK (W:World) (b:Nat) (r d:Value) (W':World) (r' d':Value):Prop where
 size:W.heap.size≤W'.heap.size
 blk:∀ k,k<W.heap.size→k≠b→r.ownBlock≠some k→d.ownBlock≠some k→W'.heap[k]?=W.heap[k]?
 nr:∀ g,r'.ownBlock=some g→r.ownBlock=some g∨W.heap.size≤g
 nd:∀ g,d'.ownBlock=some g→d.ownBlock=some g∨W.heap.size≤g
theorem OwK.fr {W W':World}{b:Nat}{r d:Value} (h:Fr [] W W'):OwK W b r d W' r d:=⟨h.size,fun k hk _ _ _=>h.block k hk (by simp),fun g hg=>.inl hg,fun g hg=>.inl hg⟩
theorem OwK.set {W W':World}{b i:Nat}{r d r' d' v:Value} (h:OwK W b r d W' r' d'):OwK W b r d (W'.setCell ⟨b,i,none⟩ v) r' d':=
 ⟨by have:=h.size;simpa [World.setCell] using this,fun k hk h1 h2 h3=>(setCell_block (fun e=>h1 (by omega))).trans (h.blk k hk h1 h2 h3),h.nr,h.nd⟩
theorem OwK.bare {W W':World}{b:Nat}{r d r' d':Value} (h:OwK W b r d W' r' d'):OwK W b r d W' (.slice none 0 0) (.slice none 0 0):=⟨h.size,h.blk,fun g hg=>(by cases hg),fun g hg=>(by cases hg)⟩
theorem OwK.row3 {W W2 W3:World}{b:Nat}{r d v':Value} (F:Fr [] W W2) (hg:W2.grownBy W3 r.ownBlock) (hwh:v'.ownBlock=r.ownBlock∨v'.ownBlock=some W2.heap.size):OwK W b r d W3 v' d:=
 ⟨Nat.le_trans F.size hg.size,fun k hk h1 h2 h3=>(hg.block k (Nat.lt_of_lt_of_le hk F.size) (fun e=>h2 e.symm)).trans (F.block k hk (by simp)),fun g hg2=>by
  rcases hwh with h | h
  ·rw[h] at hg2;exact .inl hg2
  ·rw[h] at hg2;cases hg2;exact .inr F.size,fun g hg2=>.inl hg2⟩
theorem OwK.row4 {W W2 W3:World}{b:Nat}{r d v':Value} (F:Fr [] W W2) (hg:W2.grownBy W3 d.ownBlock) (hwh:v'.ownBlock=d.ownBlock∨v'.ownBlock=some W2.heap.size):OwK W b r d W3 r v':=
 ⟨Nat.le_trans F.size hg.size,fun k hk h1 h2 h3=>(hg.block k (Nat.lt_of_lt_of_le hk F.size) (fun e=>h3 e.symm)).trans (F.block k hk (by simp)),fun g hg2=>.inl hg2,fun g hg2=>by
  rcases hwh with h | h
  ·rw[h] at hg2;exact .inl hg2
  ·rw[h] at hg2;cases hg2;exact .inr F.size⟩
def OwnG (w0:World) (b:Nat) (cc:Nat→Value) (ms:Value) (W:World) (r d:Value) (xn yn:Nat) (e:Ending) (W':World):Prop:=
 e=.returned (.tuple #[])∧∃ bs r' d' xs ys,ScG w0 W' b cc ms bs r' d' xs ys∧xs.length≤xn+1∧ys.length≤yn+1∧OwK W b r d W' r' d'
theorem ownG_bytes (w0 W:World) (b:Nat) (cc:Nat→Value) (ms:Value) (bs:ByteArray) (r d:Value) (xs ys:List Value) (a b':Int) (s t u:ByteArray) (h:ScG w0 W b cc ms bs r d xs ys) (hs:s.size≤9223372036854775807) :
  Calls Tryz.prog 27 #[.pointer (some ⟨b,0,none⟩),opV 1 a b' s t u] W (OwnG w0 b cc ms W r d xs.length ys.length):=by
 unfold opV
 obtain⟨W1,hW1⟩:∃ W1,W.alloc (.cells #[.int .i64 1,.int .i64 a,.int .i64 b',.string s,.string t,.string u] 61)=W1:=⟨_,rfl⟩
 have F1:Fr [] W W1:=by rw[← hW1];exact (Fr.refl [] W).alloc _
 have k1:=World.alloc_heap_new W (.cells #[.int .i64 1,.int .i64 a,.int .i64 b',.string s,.string t,.string u] 61)
 rw[hW1] at k1
 have c0:W1.cell? ⟨W.heap.size,0,none⟩=some (.int .i64 1):=by unfold World.cell?;rw[k1];rfl
 have c3:W1.cell? ⟨W.heap.size,3,none⟩=some (.string s):=by unfold World.cell?;rw[k1];rfl
 have h1:=h.keep F1
 have e1:=h1.c1
 have z1:=h1.fz 1 (by decide)
 have HX:Hid _:=h1
 have HF:Hid (Fr [] W W1):=F1
 clear h h1 F1 k1
 go_enter Tryz.func27,Tryz.ntmps27
 go_wp2
 go_end0
 exact⟨rfl,s,r,d,xs,ys,HX.out.bytes s hs,by omega,by omega,(OwK.fr HF.out).set⟩
theorem ownG_made (w0 W:World) (b:Nat) (cc:Nat→Value) (ms:Value) (bs:ByteArray) (r d:Value) (xs ys:List Value) (a b':Int) (s t u:ByteArray) (h:ScG w0 W b cc ms bs r d xs ys) :
  Calls Tryz.prog 27 #[.pointer (some ⟨b,0,none⟩),opV 4 a b' s t u] W (OwnG w0 b cc ms W r d xs.length ys.length):=by
 unfold opV
 obtain⟨W1,hW1⟩:∃ W1,W.alloc (.cells #[.int .i64 4,.int .i64 a,.int .i64 b',.string s,.string t,.string u] 61)=W1:=⟨_,rfl⟩
 have F1:Fr [] W W1:=by rw[← hW1];exact (Fr.refl [] W).alloc _
 have k1:=World.alloc_heap_new W (.cells #[.int .i64 4,.int .i64 a,.int .i64 b',.string s,.string t,.string u] 61)
 rw[hW1] at k1
 have c0:W1.cell? ⟨W.heap.size,0,none⟩=some (.int .i64 4):=by unfold World.cell?;rw[k1];rfl
 have h1:=h.keep F1
 have e1:=h1.c1
 have e2:=h1.c2
 have z1:=h1.fz 1 (by decide)
 have HX:Hid _:=h1
 have HF:Hid (Fr [] W W1):=F1
 clear h h1 F1 k1
 go_enter Tryz.func27,Tryz.ntmps27
 go_wp2
 go_end0
 exact⟨rfl,_,r,d,xs,ys,HX.out.bytes ⟨#[]⟩ (by decide),by omega,by omega,(OwK.fr HF.out).set⟩
theorem ownG_none (w0 W:World) (b:Nat) (cc:Nat→Value) (ms:Value) (bs:ByteArray) (r d:Value) (xs ys:List Value) (a b':Int) (s t u:ByteArray) (h:ScG w0 W b cc ms bs r d xs ys) :
  Calls Tryz.prog 27 #[.pointer (some ⟨b,0,none⟩),opV 7 a b' s t u] W (OwnG w0 b cc ms W r d xs.length ys.length):=by
 unfold opV
 obtain⟨W1,hW1⟩:∃ W1,W.alloc (.cells #[.int .i64 7,.int .i64 a,.int .i64 b',.string s,.string t,.string u] 61)=W1:=⟨_,rfl⟩
 have F1:Fr [] W W1:=by rw[← hW1];exact (Fr.refl [] W).alloc _
 have k1:=World.alloc_heap_new W (.cells #[.int .i64 7,.int .i64 a,.int .i64 b',.string s,.string t,.string u] 61)
 rw[hW1] at k1
 have c0:W1.cell? ⟨W.heap.size,0,none⟩=some (.int .i64 7):=by unfold World.cell?;rw[k1];rfl
 have h1:=h.keep F1
 have e3:=h1.c3
 have z3:=h1.fz 3 (by decide)
 have e4:(W1.setCell ⟨b,3,none⟩ (.slice none 0 0)).cell? ⟨b,4,none⟩=some d:=(setCell_off (by decide)).trans h1.c4
 have z4:(W1.setCell ⟨b,3,none⟩ (.slice none 0 0)).frozen? ⟨b,4,none⟩=false:=by rw[World.frozen?_setCell];exact h1.fz 4 (by decide)
 have HX:Hid _:=h1
 have HF:Hid (Fr [] W W1):=F1
 clear h h1 F1 k1
 go_enter Tryz.func27,Tryz.ntmps27
 go_wp2
 go_end0
 exact⟨rfl,bs,_,_,[],[],HX.out.bare,by simp,by simp,(OwK.fr HF.out).set.set.bare⟩
end Go.Proofs.YtclkgoigmgkffaaGreatDoor
