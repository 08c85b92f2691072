/-
  Texts Ct Ea Ec.
-/
import Derived.Test.YtgpamchpeamnfaaGreatDoorMA
import Derived.Test.YtgpamchpeamnfaaGreatDoorM29
set_option linter.unusedSimpArgs false
set_option linter.unusedVariables false
set_option maxRecDepth 100000
set_option maxHeartbeats 40000000
open _root_.Go.Proofs.Tryz
namespace Go.Proofs.YtgpamchpeamnfaaGreatDoor
open Go.RowKit
open Wire Flow Mach
structure OwE (w0:World) (q:Nat) (xs:List Value) (v:Value) (W:World):Prop where
 own:W.ownsRow w0.heap.size 171 4 v q xs
 els:vA q xs
 fr:Fr [] w0 W
theorem OwE.start (w:World):OwE w 0 [] (.slice none 0 0) w:=⟨World.ownsRow_nil _ _ _ _,⟨rfl,by decide,fun i hi=>by omega⟩,Fr.refl _ _⟩
theorem OwE.grown {w0 W W':World}{q:Nat}{xs:List Value}{v v':Value}{k s:ByteArray}{d m:Int}{o:Obj} (h:OwE w0 q xs v W) (hq:q<30) (hk:k.size≤1048576) (hs:SzN m s) (hown:W'.ownsRow w0.heap.size 171 4 v' (q+1) (xs++[.string k,.int .i64 d,.int .i64 m,.string s])) (hg:(W.alloc o).grownBy W' v.ownBlock):OwE w0 (q+1) (xs++[.string k,.int .i64 d,.int .i64 m,.string s]) v' W':=by
 refine⟨hown,h.els.push hq hk hs,⟨hg.os.trans h.fr.os,hg.tape.trans h.fr.tape,hg.output.trans h.fr.output,?_,fun k hk hn=>?_⟩⟩
 ·have:=hg.size
  have:=h.fr.size
  simp at *
  omega
 ·have hkW:k<W.heap.size:=Nll hk h.fr.size
  refine (hg.block k (by simp;omega) (fun e=>?_)).trans ((((Fr.refl [] W).alloc o).block k hkW (by simp)).trans (h.fr.block k hk hn))
  have:=(h.own.lt k e.symm).1
  omega
theorem MT.rearr {E:Ev}{ks:List UInt8}{tag:Nat→Nat}{W W':World} (h:MT E ks tag W) {a:Nat} (ha:(a:Int)<E.m.arrs) {q:Nat}{xs:List Value}{v:Value} (J:OwE W q xs v W'):(W'.frozen? ⟨E.O (200+2*a),0,none⟩=false∧W'.cell? ⟨E.O (200+2*a),0,none⟩=some (E.C (200+2*a) 0))∧MW E ks tag W (W'.setCell ⟨E.O (200+2*a),0,none⟩ v):=by
 obtain⟨R,sv,h⟩:=h
 obtain⟨hz,hl,n',ys,hR,hE⟩:=h.B.ae a ha
 have S1:=h.S.new (i:=201+2*a) (by
  rcases Nat.eq_zero_or_pos (E.sz (201+2*a)) with h0 | h0
  ·exact h0
  ·exact (h.S.far _ hl h0).elim) (by omega) J.fr (D1 J.own h.S.fr.size) (fun g hg=>(J.own.lt g hg).1)
 rw[show up E.lv (201+2*a) true=E.lv from funext fun i=>by
  by_cases e:i=201+2*a
  ·subst e;rw[bG,hl]
  ·rw[aJ _ _ e]] at S1
 have S2:=S1.set (i:=200+2*a) (j:=0) (by omega) v
 have MM:=h.arr S2 a (fun i j hi=>bJ _ _ (by omega)) (fun i hi=>aJ _ _ hi) ⟨q,xs,by rw[bG,fS],J.els⟩
 have ob:=h.S.objs (200+2*a) (by omega)
 refine⟨⟨S1.oz (i:=200+2*a) (j:=0) (by omega),S1.oc (i:=200+2*a) (j:=0) (by omega)⟩,upC E.C (200+2*a) 0 v,fun j=>bJ _ _ (by omega),_,⟨_,sv,MM⟩,(Kp.of_fr J.fr (fun k hk=>aI hk)).trans (Kp.set ?_)⟩
 rw[aI ob.2.1,ob.2.2.1]
 omega
theorem bDm (E:Ev)(ks:List UInt8)(tag:Nat→Nat)(W:World)(h:MT E ks tag W)(a:Nat)(ha:(a:Int)<E.m.arrs)(k:ByteArray):Calls prog 74 #[ptr (E.O (200+2*a)),.string k] W fun e W'=>e=.returned (.tuple #[])∧MW E ks tag W W':=by
 obtain⟨i0,hi,hz0,hz1,hz2⟩:=info_parts aVf
 obtain⟨o,n,c,eC,AI1⟩:=h.ar ha
 have HA:Hid _:=AI1.c
 have hn:=AI1.le
 have Fin:Hid _:=fun (W':World) (q:Nat) (xs:List Value) (v:Value) (J:OwE W q xs v W')=>h.rearr ha J
 rw[eC] at Fin
 obtain⟨R,sv,h2⟩:=h
 obtain⟨hz,hl,n',xs,hR,hE⟩:=h2.B.ae a ha
 have own:=(h2.S.row hl hR).own
 have hnn:n'=n:=by
  obtain⟨o',c',e'⟩:=cN own
  rw[eC] at e'
  simp only[Value.slice.injEq] at e'
  omega
 subst hnn
 rw[eC] at own
 have Cl:Hid _:=(show ∀ i,i<n'→∃ (g:Nat) (k:ByteArray) (d m:Int) (s:ByteArray),o=some ⟨g,0,none⟩∧g<W.heap.size∧k.size≤1048576∧SzN m s∧W.cell? ⟨g,i*4,none⟩=some (.string k)∧W.cell? ⟨g,i*4+1,none⟩=some (.int .i64 d)∧W.cell? ⟨g,i*4+2,none⟩=some (.int .i64 m)∧W.cell? ⟨g,i*4+3,none⟩=some (.string s) from fun i hi=>by
  obtain⟨g,cap,eg,-,hg⟩:=fG own (by omega)
  simp only[Value.slice.injEq,true_and] at eg
  obtain⟨rfl,rfl⟩:=eg
  obtain⟨k,d,m,s,hk,hs,h0,h1,h2,h3⟩:=hE.2.2 i hi
  exact⟨g,k,d,m,s,rfl,hg,hk,hs,bV own h0,bV own h1,bV own h2,bV own h3⟩)
 clear h2 own hE hR eC AI1 hz hl
 generalize E.O (200+2*a)=A at *
 go_enter func74,ntmps74
 go_wp2
 go_loopw [4,5] (fun l i wr=>∃ (j q:Nat) (xs:List Value),i=.int .i64 j∧j≤n'∧q≤j∧OwE W q xs l wr) (fun _ i _=>n' - (intOf i).toNat)
 case atStart=>exact⟨0,0,[],rfl,by omega,by omega,OwE.start W⟩
 case round=>
  obtain⟨j,q,xs,rfl,hj,hq,J⟩:=hrel
  have hA:=HA.out
  replace hA:=(J.fr.cell (p:=⟨A,0,none⟩) (aC hA) (by simp)).trans hA
  have hsz:=J.fr.size
  by_cases hlt:j<n'
  ·have g1:(j:Int)<n':=by omega
   obtain⟨g,k',d,m,s,rfl,hg,hks,hs,h0,h1,h2,h3⟩:=Cl.out j hlt
   replace h0:=(J.fr.cell (p:=⟨g,j*4,none⟩) hg (by simp)).trans h0
   replace h1:=(J.fr.cell (p:=⟨g,j*4+1,none⟩) hg (by simp)).trans h1
   replace h2:=(J.fr.cell (p:=⟨g,j*4+2,none⟩) hg (by simp)).trans h2
   replace h3:=(J.fr.cell (p:=⟨g,j*4+3,none⟩) hg (by simp)).trans h3
   have hown:=J.own
   go_wp2_with (at_builtin;refine wpList_append_own _ rfl _ _ 59 rfl W.heap.size 171 i0 _ 4 48 underlying59 hi hz0 hz1 hz2 rfl (by decide) _ _ _ rfl (hown.alloc _) ⟨wr.heap.size,0,none⟩ 1 1 [.string k',.int .i64 d,.int .i64 m,.string s] rfl rfl (oQ wr _ 171) (fun u hu=>by simp at hu;rcases hu with rfl | rfl | rfl | rfl <;> rfl) (by unfold maxLen;omega) (by omega) (by simp;omega) ?_)
   ·intro v' w3 hown' hgrow _
    have J3:=J.grown (by omega) hks hs hown' hgrow
    clear hown hown' hgrow J Cl HA Fin
    go_wp2
    exact⟨⟨j+1,q+1,_,by go_num,by omega,by omega,J3⟩,by simp[intOf];omega⟩
   ·exact⟨⟨j+1,q,xs,by go_num,by omega,by omega,J⟩,by simp[intOf];omega⟩
  ·have g1:¬ ((j:Int)<n'):=by omega
   obtain⟨o6,c6,e6⟩:=cN J.own
   subst e6
   obtain⟨⟨z0,y0⟩,Z⟩:=Fin.out _ _ _ _ J
   have HZ:Hid _:=Z
   clear Z J Cl Fin HA y0
   go_wp2
   go_end0
   exact⟨rfl,HZ.out⟩
abbrev spV (pl nx op a b:Int):Value:=.agg #[.int .i64 pl,.int .i64 nx,.int .i64 op,.int .i64 a,.int .i64 b]
abbrev spO (pl nx op a b:Int):Obj:=.cells #[.int .i64 pl,.int .i64 nx,.int .i64 op,.int .i64 a,.int .i64 b] 84
def ML (E:Ev) (ks:List UInt8) (T0:Nat→Nat) (W0:World) (bs:List (Nat × Obj)) (W:World):Prop:=
 ∃ C s K tag,((0≤s∧s≤9)∧∀ j,j<9→C 0 j=E.C 0 j)∧MT { E with C:=C,st:=s,K:=K } ks tag W∧Kp T0 tag W0 W∧∀ x ∈ bs,x.1<W.heap.size∧tag x.1=6∧W.heap[x.1]?=some x.2
def OpP (E:Ev) (ks:List UInt8) (tag:Nat→Nat) (W:World) (e:Ending) (W':World):Prop:=e=.returned (.tuple #[])∧ML E ks tag W [] W'
section
variable {E : Ev} {ks : List UInt8} {T0 : Nat → Nat} {W0 W W' : World} {bs : List (Nat × Obj)}
theorem ML.start {tag:Nat→Nat}(h:MT E ks tag W)(hs:0≤E.st∧E.st≤9):ML E ks tag W [] W:=⟨E.C,E.st,E.K,tag,⟨hs,fun _ _=>rfl⟩,h,Kp.refl _ _,by simp⟩
theorem ML.frm (h:ML E ks T0 W0 bs W)(hf:Fr [] W W'):ML E ks T0 W0 bs W':=by
 obtain⟨C,s,K,tag,hs,hM,kp,hb⟩:=h
 exact⟨C,s,K,_,hs,hM.frm hf,kp.frm hf,fun x hx=>⟨Nll (hb x hx).1 hf.size,by rw[aI (hb x hx).1];exact (hb x hx).2.1,(hf.block _ (hb x hx).1 (by simp)).trans (hb x hx).2.2⟩⟩
theorem ML.new (h:ML E ks T0 W0 bs W)(o:Obj):ML E ks T0 W0 ((W.heap.size,o) :: bs) (W.alloc o):=by
 obtain⟨C,s,K,tag,hs,hM,kp,hb⟩:=h
 have hf:Fr [] W (W.alloc o):=(Fr.refl [] W).alloc o
 refine⟨C,s,K,_,hs,hM.frm hf,kp.frm hf,fun x hx=>?_⟩
 rcases List.mem_cons.1 hx with rfl | hx
 ·exact⟨by simp,cX (Nat.le_refl _),wan W o⟩
 ·exact⟨Nll (hb x hx).1 hf.size,by rw[aI (hb x hx).1];exact (hb x hx).2.1,(hf.block _ (hb x hx).1 (by simp)).trans (hb x hx).2.2⟩
theorem ML.of {C:Nat→Nat→Value}{s:Int}{K:Value→Prop}{tag:Nat→Nat}{ks':List UInt8} (hs:(0≤s∧s≤9)∧∀ j,j<9→C 0 j=E.C 0 j) (kp:Kp T0 tag W0 W) (hb:∀ x ∈ bs,x.1<W.heap.size∧tag x.1=6∧W.heap[x.1]?=some x.2) (h:MK { E with C:=C,st:=s,K:=K } ks' tag W W'):ML E ks' T0 W0 bs W':=by
 obtain⟨tag',hM,k2⟩:=h
 exact⟨C,s,K,tag',hs,hM,kp.trans k2,fun x hx=>⟨Nll (hb x hx).1 k2.size,by rw[k2.ret _ (hb x hx).1];exact (hb x hx).2.1,(k2.blk _ (hb x hx).1 (hb x hx).2.1).trans (hb x hx).2.2⟩⟩
theorem ML.drop (h:ML E ks T0 W0 bs W):ML E ks T0 W0 [] W:=by
 obtain⟨C,s,K,tag,hs,hM,kp,hb⟩:=h
 exact⟨C,s,K,tag,hs,hM,kp,by simp⟩
theorem ML.sub {bs':List (Nat × Obj)}(h:ML E ks T0 W0 bs W)(hs:∀ x ∈ bs',x ∈ bs):ML E ks T0 W0 bs' W:=by
 obtain⟨C,s,K,tag,hs',hM,kp,hb⟩:=h
 exact⟨C,s,K,tag,hs',hM,kp,fun x hx=>hb x (hs x hx)⟩
theorem ML.cell (h:ML E ks T0 W0 bs W){B:Nat}{cs:Array Value}{t:TypeId} (hm:(B,Obj.cells cs t) ∈ bs) (j:Nat):W.cell? ⟨B,j,none⟩=cs[j]?:=by
 obtain⟨C,s,K,tag,hs,hM,kp,hb⟩:=h
 have:=(hb _ hm).2.2
 unfold World.cell?;rw[this];rfl
theorem ML.fr (h:ML E ks T0 W0 bs W):Fr [] E.w0 W:=by
 obtain⟨C,s,K,tag,hs,hM,kp,hb⟩:=h
 exact hM.fr
theorem ML.mc (h:ML E ks T0 W0 bs W):W.cell? ⟨E.X,5,none⟩=some (ptr (E.O 1))∧W.cell? ⟨E.X,12,none⟩=some (.bool false)∧∃ s:Int,W.cell? ⟨E.X,9,none⟩=some (.int .i64 s)∧0≤s∧s≤9:=by
 obtain⟨C,s,K,tag,hs,⟨R,sv,h⟩,kp,hb⟩:=h
 have hX:=h.B.x
 have e:=fun j (hj:j<13)=>h.S.oc (i:=0) (j:=j) (by rw[hX.2.1];exact hj)
 have h0:E.O 0=E.X:=hX.1
 rw[← h0]
 exact⟨(e 5 (by decide)).trans (congrArg some h.B.w),(e 12 (by decide)).trans (congrArg some h.B.sk),s,(e 9 (by decide)).trans (congrArg some h.B.st),hs.1.1,hs.1.2⟩
theorem ML.value {k:UInt8}(h:ML E (ks++[k]) T0 W0 bs W)(hk:k≠107):Calls prog 57 #[ptr E.X] W fun e W'=>∃ (d n:Int) (s:ByteArray),e=.returned (vlV d n s)∧aAp k d n s∧ML E ks T0 W0 bs W':=by
 obtain⟨C,s,K,tag,hs,hM,kp,hb⟩:=h
 exact (aKf _ ks k tag W hM hk).mono fun e W' ⟨d,n,t,he,hv,hm⟩=>⟨d,n,t,he,hv,ML.of hs kp hb hm⟩
theorem ML.number (h:ML E (ks++[110]) T0 W0 bs W):Calls prog 59 #[ptr E.X] W fun e W'=>∃ n:Int,e=.returned (.int .i64 n)∧(-9223372036854775808≤n∧n≤9223372036854775807)∧ML E ks T0 W0 bs W':=by
 obtain⟨C,s,K,tag,hs,hM,kp,hb⟩:=h
 exact (aXy _ ks tag W hM).mono fun e W' ⟨n,he,hv,hm⟩=>⟨n,he,hv,ML.of hs kp hb hm⟩
theorem ML.text (h:ML E (ks++[116]) T0 W0 bs W):Calls prog 66 #[ptr E.X] W fun e W'=>∃ s:ByteArray,e=.returned (.string s)∧s.size≤1048576∧ML E ks T0 W0 bs W':=by
 obtain⟨C,s,K,tag,hs,hM,kp,hb⟩:=h
 exact (bEk _ ks tag W hM).mono fun e W' ⟨n,he,hv,hm⟩=>⟨n,he,hv,ML.of hs kp hb hm⟩
theorem ML.put {d n:Int}{t:ByteArray} (h:ML E ks T0 W0 bs W) (k:UInt8) (hm:Flow.Met k) (hc:aAp k d n t) (hk:ks.length<1024):Calls prog 54 #[ptr E.X,vlV d n t] W fun e W'=>e=.returned (.tuple #[])∧ML E (ks++[k]) T0 W0 bs W':=by
 obtain⟨C,s,K,tag,hs,hM,kp,hb⟩:=h
 exact (bGz _ ks k tag W d n t hM hm hc hk).mono fun e W' ⟨he,hm⟩=>⟨he,ML.of hs kp hb hm⟩
theorem ML.pop {k:UInt8}(h:ML E (ks++[k]) T0 W0 bs W):Calls prog 58 #[ptr E.X] W fun e W'=>(∃ v,e=.returned v)∧ML E ks T0 W0 bs W':=by
 obtain⟨C,s,K,tag,hs,hM,kp,hb⟩:=h
 exact (bBk _ ks k tag W hM).mono fun e W' ⟨l,d,n,t,a,o,p,q,he,hv,hm⟩=>⟨⟨_,he⟩,ML.of hs kp hb hm⟩
theorem ML.ends {st:Int}(h:ML E ks T0 W0 bs W)(h0:0≤st∧st≤9):Calls prog 61 #[ptr E.X,.int .i64 st] W fun e W'=>e=.returned (.tuple #[])∧ML E ks T0 W0 bs W':=by
 by_cases e:st=0
 ·subst e
  exact (bFp E.X W).mono fun e W' ⟨he,hw⟩=>⟨he,by rw[hw];exact h⟩
 ·obtain⟨C,s,K,tag,hs,hM,kp,hb⟩:=h
  exact (bAk _ ks tag W st hM e).mono fun e W' ⟨he,hm⟩=>⟨he,ML.of (C:=upC C 0 9 (.int .i64 st)) (s:=st) (K:=K) ⟨h0,fun j hj=>(bJ _ _ (by omega)).trans (hs.2 j hj)⟩ kp hb hm⟩
theorem ML.mw {C:Nat→Nat→Value}{s:Int}{K:Value→Prop}{tag:Nat→Nat} (hs:(0≤s∧s≤9)∧∀ j,j<9→C 0 j=E.C 0 j) (kp:Kp T0 tag W0 W) (hb:∀ x ∈ bs,x.1<W.heap.size∧tag x.1=6∧W.heap[x.1]?=some x.2) (h:MW { E with C:=C,st:=s,K:=K } ks tag W W'):ML E ks T0 W0 bs W':=by
 obtain⟨C',hC,hm⟩:=h
 exact ML.of (C:=C') (s:=s) (K:=K) ⟨hs.1,fun j hj=>(hC j).trans (hs.2 j hj)⟩ kp hb hm
theorem ML.field (h:ML E ks T0 W0 bs W)(n:Int):Calls prog 60 #[ptr (E.O 1),.int .i64 n] W fun e W'=>(∃ (d m:Int) (t:ByteArray) (st:Int),e=.returned (.tuple #[vlV d m t,.int .i64 st])∧SzN m t∧0≤st∧st≤9)∧ML E ks T0 W0 bs W':=by
 obtain⟨C,s,K,tag,hs,hM,kp,hb⟩:=id h
 exact (bCs _ ks tag W hM n).mono fun e W' ⟨⟨d,m,t,st,he,hv,h5⟩,hf⟩=>⟨⟨d,m,t,st,he,hv,by omega,by omega⟩,h.frm hf⟩
theorem ML.setField {d m:Int}{t:ByteArray} (h:ML E ks T0 W0 bs W) (hp:iM E.w0) (n:Int) (hv:SzN m t):Calls prog 62 #[ptr (E.O 1),.int .i64 n,vlV d m t] W fun e W'=>(∃ st:Int,e=.returned (.int .i64 st)∧0≤st∧st≤9)∧ML E ks T0 W0 bs W':=by
 have hf:=h.fr
 obtain⟨C,s,K,tag,hs,hM,kp,hb⟩:=h
 exact (aPg _ ks tag W hM (hp.fr hf) n d m t hv).mono fun e W' ⟨h1,hm⟩=>⟨h1,ML.mw hs kp hb hm⟩
theorem ML.next (h:ML E ks T0 W0 bs W):Calls prog 63 #[ptr (E.O 1)] W fun e W'=>s8 e∧ML E ks T0 W0 bs W':=by
 obtain⟨C,s,K,tag,hs,hM,kp,hb⟩:=h
 exact (bFc _ ks tag W hM).mono fun e W' ⟨h1,hm⟩=>⟨h1,ML.mw hs kp hb hm⟩
theorem ML.draw (h:ML E ks T0 W0 bs W):Calls prog 65 #[ptr (E.O 1)] W fun e W'=>aMv e∧ML E ks T0 W0 bs W':=by
 obtain⟨C,s,K,tag,hs,hM,kp,hb⟩:=h
 exact (bFs _ ks tag W hM).mono fun e W' ⟨h1,hm⟩=>⟨h1,ML.mw hs kp hb hm⟩
theorem ML.print (h:ML E ks T0 W0 bs W){o:Option Addr}{n c:Nat} (hn:n≤1024) (hl:TxL W o n):Calls prog 67 #[ptr (E.O 1),.slice o n c] W fun e W'=>(∃ st:Int,e=.returned (.int .i64 st)∧0≤st∧st≤9)∧ML E ks T0 W0 bs W':=by
 obtain⟨C,s,K,tag,hs,hM,kp,hb⟩:=h
 exact (bBh _ ks tag W hM o n c hn hl).mono fun e W' ⟨h1,hm⟩=>⟨h1,ML.mw hs kp hb hm⟩
theorem ML.whole (n:Int)(h:ML E ks T0 W0 bs W):Calls prog 55 #[.int .i64 n] W fun e W'=>e=.returned (vlV 1 n ⟨#[]⟩)∧ML E ks T0 W0 bs W':=(aOu n W).mono fun e W' ⟨h1,hf⟩=>⟨h1,h.frm hf⟩
theorem ML.words (t:ByteArray)(h:ML E ks T0 W0 bs W):Calls prog 56 #[.string t] W fun e W'=>e=.returned (vlV 2 0 t)∧ML E ks T0 W0 bs W':=(aAv t W).mono fun e W' ⟨h1,hf⟩=>⟨h1,h.frm hf⟩
theorem ML.truth (b:Bool)(h:ML E ks T0 W0 bs W):Calls prog 64 #[.bool b] W fun e W'=>(∃ n:Int,e=.returned (.int .i64 n)∧0≤n∧n≤1)∧ML E ks T0 W0 bs W':=(aAx b W).mono fun e W' ⟨h1,hw⟩=>⟨h1,by rw[hw];exact h⟩
theorem ML.aset {a:Nat}(h:ML E ks T0 W0 bs W)(ha:(a:Int)<E.m.arrs){k:ByteArray}(hk:k.size≤1048576){d m:Int}{t:ByteArray} (hv:SzN m t):Calls prog 69 #[ptr (E.O (200+2*a)),.string k,vlV d m t] W fun e W'=>(∃ st:Int,e=.returned (.int .i64 st)∧0≤st∧st≤9)∧ML E ks T0 W0 bs W':=by
 obtain⟨C,s,K,tag,hs,hM,kp,hb⟩:=h
 exact (bAn _ ks tag W hM a ha k hk d m t hv).mono fun e W' ⟨h1,hm⟩=>⟨h1,ML.mw hs kp hb hm⟩
theorem ML.alook {a:Nat}(h:ML E ks T0 W0 bs W)(ha:(a:Int)<E.m.arrs){k:ByteArray}(hk:k.size≤1048576):Calls prog 72 #[ptr (E.O (200+2*a)),.string k] W fun e W'=>(∃ (d n:Int) (t:ByteArray) (st:Int),e=.returned (.tuple #[vlV d n t,.int .i64 st])∧SzN n t∧0≤st∧st≤9)∧ML E ks T0 W0 bs W':=by
 obtain⟨C,s,K,tag,hs,hM,kp,hb⟩:=h
 exact (bDj _ ks tag W hM a ha k hk).mono fun e W' ⟨h1,hm⟩=>⟨h1,ML.mw hs kp hb hm⟩
theorem ML.adrop {a:Nat}(h:ML E ks T0 W0 bs W)(ha:(a:Int)<E.m.arrs)(k:ByteArray):Calls prog 74 #[ptr (E.O (200+2*a)),.string k] W fun e W'=>e=.returned (.tuple #[])∧ML E ks T0 W0 bs W':=by
 obtain⟨C,s,K,tag,hs,hM,kp,hb⟩:=h
 exact (bDm _ ks tag W hM a ha k).mono fun e W' ⟨h1,hm⟩=>⟨h1,ML.mw hs kp hb hm⟩
theorem ML.where_ {a:Nat}(h:ML E ks T0 W0 bs W)(ha:(a:Int)<E.m.arrs)(k:ByteArray):Calls prog 73 #[ptr (E.O (200+2*a)),.string k] W fun e W'=>(∃ n:Int,e=.returned (.int .i64 n)∧-1≤n∧n≤30)∧ML E ks T0 W0 bs W':=by
 obtain⟨C,s,K,tag,hs,hM,kp,hb⟩:=id h
 obtain⟨o,n,c,-,A⟩:=hM.ar ha
 refine (aCo _ k o n c W A.c A.le A.k).mono fun e W' ⟨h1,hw⟩=>⟨?_,by rw[hw];exact h⟩
 have:=A.le
 rcases h1 with h1 | ⟨i,hi,h1⟩
 ·exact⟨-1,h1,by omega,by omega⟩
 ·exact⟨i,h1,by omega,by omega⟩
end
theorem iT {n:Int}(h:-9223372036854775808≤n∧n≤9223372036854775807):aAp 110 1 n ⟨#[]⟩:=⟨⟨by decide,h⟩,fun _=>rfl,fun e=>absurd e (by decide),by decide⟩
theorem vB {t:ByteArray}(h:t.size≤1048576):aAp 116 2 0 t:=⟨⟨h,by decide,by decide⟩,fun e=>absurd e (by decide),fun _=>rfl,by decide⟩
theorem yQ {d n:Int}{t:ByteArray} (h:SzN n t):aAp 97 d n t:=⟨h,fun e=>absurd e (by decide),fun e=>absurd e (by decide),by decide⟩
theorem nE:Flow.Met 110:=.inl rfl
theorem O3:Flow.Met 116:=.inr (.inl rfl)
theorem aBo:Flow.Met 97:=.inr (.inr (.inl rfl))
def A8 (W:World) (g n:Nat):Prop:=∀ i,i<n→(∃ (d m:Int) (s:ByteArray),SzN m s∧W.cell? ⟨g,i*3,none⟩=some (.int .i64 d)∧W.cell? ⟨g,i*3+1,none⟩=some (.int .i64 m)∧W.cell? ⟨g,i*3+2,none⟩=some (.string s))∧∀ t,W.frozen? ⟨g,i*3+t,none⟩=false
structure FmI (E:Ev) (g c g' c' nl:Nat):Prop where
 fn:∃ fn,E.m.fns[E.x.f]?=some fn∧fn.locs=nl
 f8:E.C 0 8=.slice (some ⟨g,0,none⟩) (E.fs.length+1) c
 le:E.fs.length+1≤c
 lv:E.x.lv=.slice (some ⟨g',0,none⟩) nl c'
 n21:E.fs.length≤20
structure FmW (E:Ev) (g g' c' nl:Nat) (W:World):Prop where
 f:W.cell? ⟨g,E.fs.length*4,none⟩=some (.int .i64 E.x.f)
 pl:W.cell? ⟨g,E.fs.length*4+1,none⟩=some (.int .i64 E.x.pl)∧W.frozen? ⟨g,E.fs.length*4+1,none⟩=false
 lv:W.cell? ⟨g,E.fs.length*4+2,none⟩=some (.slice (some ⟨g',0,none⟩) nl c')
 v:A8 W g' nl
theorem iC.at {W:World}{B g n c:Nat}{xs:List Value} (h:iC n xs) (own:W.ownsRow B 118 3 (.slice (some ⟨g,0,none⟩) n c) n xs):A8 W g n:=fun i hi=>by
 obtain⟨d,m,s,hs,h0,h1,h2⟩:=h.2 i hi
 exact⟨⟨d,m,s,hs,bV own h0,bV own h1,bV own h2⟩,fun t=>pB own _⟩
theorem iC.set {n:Nat}{xs:List Value} (h:iC n xs) {i:Nat} (hi:i<n) {s:ByteArray}{d m:Int} (hs:SzN m s):iC n (((xs.set (i*3) (.int .i64 d)).set (i*3+1) (.int .i64 m)).set (i*3+2) (.string s)):=by
 obtain⟨hl,h2⟩:=h
 refine⟨by simp[hl],fun j hj=>?_⟩
 by_cases e:j=i
 ·subst e
  refine⟨d,m,s,hs,?_,?_,?_⟩
  ·rw[List.getElem?_set_ne (by omega),List.getElem?_set_ne (by omega),List.getElem?_set_self (by omega)]
  ·rw[List.getElem?_set_ne (by omega),List.getElem?_set_self (by rw[List.length_set];omega)]
  ·rw[List.getElem?_set_self (by rw[List.length_set,List.length_set];omega)]
 ·obtain⟨d',m',s',b,c0,c1,c2⟩:=h2 j hj
  exact⟨d',m',s',b,by rw[List.getElem?_set_ne (by omega),List.getElem?_set_ne (by omega),List.getElem?_set_ne (by omega)];exact c0,by rw[List.getElem?_set_ne (by omega),List.getElem?_set_ne (by omega),List.getElem?_set_ne (by omega)];exact c1,by rw[List.getElem?_set_ne (by omega),List.getElem?_set_ne (by omega),List.getElem?_set_ne (by omega)];exact c2⟩
section
variable {w0 W W' : World} {X : Nat} {m : Mo} {tag tag' : Nat → Nat} {lv : Nat → Bool} {R R' : Nat → Rw} {sz O : Nat → Nat} {C : Nat → Nat → Value} {K : Value → Prop} {st : Int} {us : Nat} {fs : List FrV} {x : FrV} {kk : List (List UInt8)} {ks : List UInt8}
theorem MS.fmw (h:MS w0 W X m tag lv R sz O C K st us (fs++[x]) (kk++[ks])){g c g' c' nl:Nat}(h8:C 0 8=.slice (some ⟨g,0,none⟩) (fs.length+1) c)(hv:x.lv=.slice (some ⟨g',0,none⟩) nl c') :
  W.cell? ⟨X,8,none⟩=some (.slice (some ⟨g,0,none⟩) (fs.length+1) c)∧W.cell? ⟨g,fs.length*4,none⟩=some (.int .i64 x.f)∧(W.cell? ⟨g,fs.length*4+1,none⟩=some (.int .i64 x.pl)∧W.frozen? ⟨g,fs.length*4+1,none⟩=false)∧W.cell? ⟨g,fs.length*4+2,none⟩=some (.slice (some ⟨g',0,none⟩) nl c')∧A8 W g' nl:=by
 obtain⟨fn,h1,nl',g2,c2,xs,h2,h3,h4,h5,h6⟩:=h.top.f
 have row:=(h.S.row h.fr.1 h.fr.2).own
 rw[h8] at row
 simp only[Lla,List.length_cons,List.length_nil,Nat.zero_add] at row
 have e:=fun t (ht:t<4)=>aEe (fs++[x]) fs.length t x (by simp) ht
 have own:=(h.S.row h4 h5).own
 rw[hv] at h3 own
 simp only[Value.slice.injEq,Option.some.injEq,Addr.mk.injEq,and_true] at h3
 obtain⟨rfl,rfl,rfl⟩:=h3
 have hX:=h.B.x
 have c8:=h.S.oc (i:=0) (j:=8) (by rw[hX.2.1];decide)
 rw[hX.1,h8] at c8
 exact⟨c8,bV row (e 0 (by decide)),⟨bV row (e 1 (by decide)),pB row _⟩,bV row ((e 2 (by decide)).trans (by rw[← hv];rfl)),h6.at own⟩
theorem MS.reR (h:MS w0 W X m tag lv R sz O C K st us (fs++[x]) (kk++[ks]))(S:Sto w0 W' tag' lv R' sz O C K)(hR:∀ i,i≠11+2*fs.length→i≠2→R' i=R i)(hL:∀ nl xs,R (11+2*fs.length)=⟨x.lv,118,3,nl,xs⟩→iC nl xs→∃ ys,R' (11+2*fs.length)=⟨x.lv,118,3,nl,ys⟩∧iC nl ys)(hG:∀ ng xs,R 2=⟨C 0 6,118,3,ng,xs⟩→iC ng xs→∃ ys,R' 2=⟨C 0 6,118,3,ng,ys⟩∧iC ng ys):MS w0 W' X m tag' lv R' sz O C K st us (fs++[x]) (kk++[ks]):=by
 have B:=h.B
 have hln:=h.ln
 simp at hln
 obtain⟨g1,g,xs,ng,c,g2,g3,g4,g5⟩:=B.gl
 obtain⟨ys,y1,y2⟩:=hG ng xs g4 g5
 refine⟨S,⟨B.x,B.md,B.w,⟨g1,g,ys,ng,c,g2,g3,y1,y2⟩,?_,fun j hj=>?_,B.rd,B.rc,?_,B.st,B.cd,B.us,B.sk,B.ah⟩,⟨h.fr.1,by rw[hR 4 (by omega) (by omega)];exact h.fr.2⟩,h.ln,fun i y zs hi hz=>?_⟩
 ·rw[hR 3 (by omega) (by omega)];exact B.ar
 ·rw[hR _ (by omega) (by omega)];exact B.ae j hj
 ·rw[hR 5 (by omega) (by omega)];exact B.fd
 ·have o:=h.each i y zs hi hz
  have hi':=(Lgs.1 hi).1
  simp at hi'
  refine⟨?_,by rw[hR _ (by omega) (by omega)];exact o.s⟩
  by_cases e:i=fs.length
  ·subst e
   simp at hi
   subst hi
   obtain⟨fn,f1,nl,g,c,zs,f2,f3,f4,f5,f6⟩:=o.f
   obtain⟨qs,q1,q2⟩:=hL nl zs f5 f6
   exact⟨fn,f1,nl,g,c,qs,f2,f3,f4,q1,q2⟩
  ·rw[hR _ (by omega) (by omega)];exact o.f
theorem MS.setLoc (h:MS w0 W X m tag lv R sz O C K st us (fs++[x]) (kk++[ks])){g' c' nl:Nat}(hv:x.lv=.slice (some ⟨g',0,none⟩) nl c'){a:Nat}(ha:a<nl){d n:Int}{s:ByteArray} (hs:SzN n s) :
  ∃ R',MS w0 (((W.setCell ⟨g',a*3,none⟩ (.int .i64 d)).setCell ⟨g',a*3+1,none⟩ (.int .i64 n)).setCell ⟨g',a*3+2,none⟩ (.string s)) X m tag lv R' sz O C K st us (fs++[x]) (kk++[ks])∧tag g'=11+2*fs.length:=by
 obtain⟨fn,h1,nl',g2,c2,xs,h2,h3,h4,h5,h6⟩:=h.top.f
 rw[hv] at h3
 simp only[Value.slice.injEq,Option.some.injEq,Addr.mk.injEq,and_true] at h3
 obtain⟨rfl,rfl,rfl⟩:=h3
 have h5':=h5
 rw[hv] at h5'
 have S1:=h.S.put h4 h5' (j:=a*3) (by omega) (.int .i64 d)
 have S2:=S1.put h4 (bG _ _ _) (j:=a*3+1) (by omega) (.int .i64 n)
 have S3:=S2.put h4 (bG _ _ _) (j:=a*3+2) (by omega) (.string s)
 refine⟨_,h.reR S3 (fun i h1 h2=>by rw[aJ _ _ h1,aJ _ _ h1,aJ _ _ h1]) (fun nl2 xs2 e1 e2=>?_) (fun ng xs2 e1 e2=>⟨xs2,by rw[aJ _ _ (by omega),aJ _ _ (by omega),aJ _ _ (by omega)];exact e1,e2⟩),(h.S.row h4 h5').tg _ rfl⟩
 rw[h5] at e1
 simp only[Rw.mk.injEq,true_and] at e1
 obtain⟨rfl,rfl⟩:=e1
 exact⟨_,by rw[bG,hv],e2.set ha hs⟩
theorem MS.glw (h:MS w0 W X m tag lv R sz O C K st us (fs++[x]) (kk++[ks])){g c ng:Nat}(h6:C 0 6=.slice (some ⟨g,0,none⟩) ng c):W.cell? ⟨X,6,none⟩=some (.slice (some ⟨g,0,none⟩) ng c)∧A8 W g ng:=by
 obtain⟨g1,g2,xs,ng2,c2,e1,e2,e3,e4⟩:=h.B.gl
 rw[h6] at e2
 simp only[Value.slice.injEq,Option.some.injEq,Addr.mk.injEq,and_true] at e2
 obtain⟨rfl,rfl,rfl⟩:=e2
 have own:=(h.S.row g1 e3).own
 rw[h6] at own
 have hX:=h.B.x
 have c8:=h.S.oc (i:=0) (j:=6) (by rw[hX.2.1];decide)
 rw[hX.1,h6] at c8
 exact⟨c8,e4.at own⟩
theorem MS.setGl (h:MS w0 W X m tag lv R sz O C K st us (fs++[x]) (kk++[ks])){g c ng:Nat}(hv:C 0 6=.slice (some ⟨g,0,none⟩) ng c){a:Nat}(ha:a<ng){d n:Int}{s:ByteArray} (hs:SzN n s) :
  ∃ R',MS w0 (((W.setCell ⟨g,a*3,none⟩ (.int .i64 d)).setCell ⟨g,a*3+1,none⟩ (.int .i64 n)).setCell ⟨g,a*3+2,none⟩ (.string s)) X m tag lv R' sz O C K st us (fs++[x]) (kk++[ks])∧tag g=2:=by
 obtain⟨g1,g2,xs,ng2,c2,e1,e2,e3,e4⟩:=h.B.gl
 rw[hv] at e2
 simp only[Value.slice.injEq,Option.some.injEq,Addr.mk.injEq,and_true] at e2
 obtain⟨rfl,rfl,rfl⟩:=e2
 have e3':=e3
 rw[hv] at e3'
 have S1:=h.S.put g1 e3' (j:=a*3) (by omega) (.int .i64 d)
 have S2:=S1.put g1 (bG _ _ _) (j:=a*3+1) (by omega) (.int .i64 n)
 have S3:=S2.put g1 (bG _ _ _) (j:=a*3+2) (by omega) (.string s)
 refine⟨_,h.reR S3 (fun i h1 h2=>by rw[aJ _ _ h2,aJ _ _ h2,aJ _ _ h2]) (fun nl2 xs2 e1 e2=>⟨xs2,by rw[aJ _ _ (by omega),aJ _ _ (by omega),aJ _ _ (by omega)];exact e1,e2⟩) (fun ng2 xs2 q1 q2=>?_),(h.S.row g1 e3').tg _ rfl⟩
 rw[e3] at q1
 simp only[Rw.mk.injEq,true_and] at q1
 obtain⟨rfl,rfl⟩:=q1
 exact⟨_,by rw[bG,hv],q2.set ha hs⟩
theorem MS.arw (h:MS w0 W X m tag lv R sz O C K st us (fs++[x]) (kk++[ks])){a:Nat}(ha:(a:Int)<m.arrs):∃ g c na,C 0 7=.slice (some ⟨g,0,none⟩) na c∧a<na∧W.cell? ⟨X,7,none⟩=some (.slice (some ⟨g,0,none⟩) na c)∧W.cell? ⟨g,a,none⟩=some (ptr (O (200+2*a))):=by
 obtain⟨g1,na,e1,e2⟩:=h.B.ar
 have own:=(h.S.row g1 e2).own
 obtain⟨g,c,e,hc,-⟩:=fG own (by omega)
 rw[e] at own
 have hX:=h.B.x
 have c8:=h.S.oc (i:=0) (j:=7) (by rw[hX.2.1];decide)
 rw[hX.1,e] at c8
 exact⟨g,c,na,e,by omega,c8,bV own (by rw[List.getElem?_map,List.getElem?_range (by omega)];rfl)⟩
end
structure TxI (E:Ev) (i:Nat) (L:List ByteArray) (g off c:Nat):Prop where
 v:E.C 0 i=.slice (some ⟨g,off,none⟩) L.length c
 le:L.length≤c
 w:∀ (a:Nat) (y:ByteArray),L[a]?=some y→E.w0.cell? ⟨g,off+a,none⟩=some (.string y)
 lt:g<E.w0.heap.size
section
variable {E : Ev} {ks : List UInt8} {T0 : Nat → Nat} {W0 W W' : World} {bs : List (Nat × Obj)}
theorem MT.fm {tag:Nat→Nat}(h:MT E ks tag W):∃ g c g' c' nl,FmI E g c g' c' nl:=by
 obtain⟨R,sv,h⟩:=h
 obtain⟨fn,h1,nl,g',c',xs,h2,h3,h4,h5,h6⟩:=h.top.f
 have row:=h.S.row h.fr.1 h.fr.2
 obtain⟨g,c,e4,hc,-⟩:=fG row.own (by simp)
 have hl:=h.ln.2
 simp only[Lla,List.length_cons,List.length_nil,Nat.zero_add] at e4 hc hl
 exact⟨g,c,g',c',nl,⟨fn,h1,h2⟩,e4,hc,h3,by omega⟩
theorem ML.fm {g c g' c' nl:Nat}(h:ML E ks T0 W0 bs W)(F:FmI E g c g' c' nl):FmW E g g' c' nl W∧W.cell? ⟨E.X,8,none⟩=some (.slice (some ⟨g,0,none⟩) (E.fs.length+1) c):=by
 obtain⟨C,s,K,tag,hs,⟨R,sv,h⟩,kp,hb⟩:=h
 obtain⟨a,b,c,d,e⟩:=MS.fmw h ((hs.2 8 (by decide)).trans F.f8) F.lv
 exact⟨⟨b,c,d,e⟩,a⟩
theorem ML.setLoc {g c g' c' nl:Nat}(h:ML E ks T0 W0 bs W)(F:FmI E g c g' c' nl){a:Nat}(ha:a<nl){d n:Int}{s:ByteArray} (hs:SzN n s):ML E ks T0 W0 bs (((W.setCell ⟨g',a*3,none⟩ (.int .i64 d)).setCell ⟨g',a*3+1,none⟩ (.int .i64 n)).setCell ⟨g',a*3+2,none⟩ (.string s)):=by
 obtain⟨C,s',K,tag,hs',⟨R,sv,h⟩,kp,hb⟩:=h
 obtain⟨R',h',ht⟩:=MS.setLoc (d:=d) h F.lv ha hs
 have ht':tag g'≠6:=by rw[ht];omega
 exact ML.of hs' kp hb ⟨tag,⟨R',sv,h'⟩,((Kp.set ht').trans (Kp.set ht')).trans (Kp.set ht')⟩
theorem MT.gl {tag:Nat→Nat}(h:MT E ks tag W):∃ g c ng:Nat,E.m.globs=ng∧E.C 0 6=.slice (some ⟨g,0,none⟩) ng c:=by
 obtain⟨R,sv,h⟩:=h
 obtain⟨g1,g2,xs,ng2,c2,e1,e2,e3,e4⟩:=h.B.gl
 exact⟨g2,c2,ng2,e1,e2⟩
theorem ML.gl {g c ng:Nat}(h:ML E ks T0 W0 bs W)(F:E.C 0 6=.slice (some ⟨g,0,none⟩) ng c):W.cell? ⟨E.X,6,none⟩=some (.slice (some ⟨g,0,none⟩) ng c)∧A8 W g ng:=by
 obtain⟨C,s,K,tag,hs,⟨R,sv,h⟩,kp,hb⟩:=h
 exact MS.glw h ((hs.2 6 (by decide)).trans F)
theorem ML.setGl {g c ng:Nat}(h:ML E ks T0 W0 bs W)(F:E.C 0 6=.slice (some ⟨g,0,none⟩) ng c){a:Nat}(ha:a<ng){d n:Int}{s:ByteArray} (hs:SzN n s):ML E ks T0 W0 bs (((W.setCell ⟨g,a*3,none⟩ (.int .i64 d)).setCell ⟨g,a*3+1,none⟩ (.int .i64 n)).setCell ⟨g,a*3+2,none⟩ (.string s)):=by
 obtain⟨C,s',K,tag,hs',⟨R,sv,h⟩,kp,hb⟩:=h
 obtain⟨R',h',ht⟩:=MS.setGl (d:=d) h ((hs'.2 6 (by decide)).trans F) ha hs
 have ht':tag g≠6:=by rw[ht];decide
 exact ML.of hs' kp hb ⟨tag,⟨R',sv,h'⟩,((Kp.set ht').trans (Kp.set ht')).trans (Kp.set ht')⟩
theorem ML.ar {a:Nat}(h:ML E ks T0 W0 bs W)(ha:(a:Int)<E.m.arrs):∃ g c na,E.C 0 7=.slice (some ⟨g,0,none⟩) na c∧a<na∧W.cell? ⟨E.X,7,none⟩=some (.slice (some ⟨g,0,none⟩) na c)∧W.cell? ⟨g,a,none⟩=some (ptr (E.O (200+2*a))):=by
 obtain⟨C,s,K,tag,hs,⟨R,sv,h⟩,kp,hb⟩:=h
 obtain⟨g,c,na,e1,e2⟩:=MS.arw h ha
 exact⟨g,c,na,(hs.2 7 (by decide)).symm.trans e1,e2⟩
theorem ML.low (h:ML E ks T0 W0 bs W){i:Nat}(hi:i<9):W.cell? ⟨E.X,i,none⟩=some (E.C 0 i):=by
 obtain⟨C,s,K,tag,hs,⟨R,sv,h⟩,kp,hb⟩:=h
 have hX:=h.B.x
 have h0:E.O 0=E.X:=hX.1
 have c:=h.S.oc (i:=0) (j:=i) (by rw[hX.2.1];omega)
 rw[← h0,← hs.2 i hi]
 exact c
theorem MT.md {tag:Nat→Nat}(h:MT E ks tag W):eR E.w0 (.agg #[E.C 0 0,E.C 0 1,E.C 0 2,E.C 0 3,E.C 0 4]) E.m:=by
 obtain⟨R,sv,h⟩:=h
 exact h.B.md.1
theorem MT.tx {tag:Nat→Nat}(h:MT E ks tag W)(i:Nat)(hi:i<2)(h0:0<(if i=0 then E.m.texts else E.m.pats).length):∃ g off c,TxI E i (if i=0 then E.m.texts else E.m.pats) g off c:=by
 obtain⟨tv,pv,fv,e,h1,h2,-⟩:=h.md.is
 simp only[Value.agg.injEq,Array.mk.injEq,List.cons.injEq,and_true] at e
 have key:nO E.w0 (E.C 0 i) (if i=0 then E.m.texts else E.m.pats):=by
  rcases (show i=0∨i=1 by omega) with rfl | rfl
  ·rw[if_pos rfl,e.1];exact h1
  ·rw[if_neg (by decide),e.2.1];exact h2
 obtain⟨a0,cap,g,off,hv,hc,hx0,hxx⟩:=key
 obtain⟨rfl,hg⟩:=hx0 h0
 exact⟨g,off,cap,hv,hc,hxx,hg⟩
theorem TxI.at {i:Nat}{L:List ByteArray}{g off c:Nat} (T:TxI E i L g off c) (hf:Fr [] E.w0 W) {a:Nat} (ha:a<L.length):W.cell? ⟨g,off+a,none⟩=some (.string L[a]):=(hf.cell (p:=⟨g,off+a,none⟩) T.lt (by simp)).trans (T.w a _ (Lge ha))
end
end Go.Proofs.YtgpamchpeamnfaaGreatDoor
