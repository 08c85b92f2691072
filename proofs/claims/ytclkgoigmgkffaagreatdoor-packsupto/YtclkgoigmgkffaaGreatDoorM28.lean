/-
  Texts Lb Lc.
-/
import Derived.Shelf.Strconv.Itoa0
import Derived.Shelf.Strconv.Itoa1
import Derived.Shelf.LaysM
import Derived.Shelf.Strconv.Itoa2
import Derived.Shelf.Strconv.Itoa3
import Derived.Test.YtclkgoigmgkffaaGreatDoorProg
import Derived.Lib.AppendIntMem
import Derived.Lib.ItoaLen
import Derived.Test.YtclkgoigmgkffaaGreatDoorRows
import Derived.Test.YtclkgoigmgkffaaGreatDoorM27
set_option linter.unusedSimpArgs false
set_option linter.unusedVariables false
set_option maxRecDepth 100000
set_option maxHeartbeats 40000000
namespace Go.Proofs.YtclkgoigmgkffaaGreatDoor
open Go.RowKit
open Wire Flow Mach
structure Stp (tag tag':Nat→Nat) (t:Nat) (W W2:World):Prop where
 chg:Chg tag [0,t] W W2
 ret:∀ k,k<W.heap.size→tag' k=tag k
theorem Stp.row {tag tag':Nat→Nat}{t t':Nat}{W W2:World} (s:Stp tag tag' t W W2) {B:Nat}{e:TypeId}{size:Nat}{v:Value}{n:Nat}{xs:List Value} (h:RowT B W tag t' e size v n xs) (h0:t'≠0) (h1:t'≠t):RowT B W2 tag' t' e size v n xs:=
 ⟨(h.chg s.chg (by simp;exact⟨h0,h1⟩)).own,fun g hg=>by rw[s.ret g (h.own.lt g hg).2];exact h.tg g hg⟩
theorem Stp.chg' {tag tag':Nat→Nat}{t:Nat}{W W2:World} (s:Stp tag tag' t W W2):Chg tag' [0,t] W W2:=
 ⟨s.chg.os,s.chg.tape,s.chg.output,s.chg.size,fun k hk hn=>s.chg.block k hk (by rw[← s.ret k hk];exact hn)⟩
theorem Stp.bk {tag tag':Nat→Nat}{t:Nat}{W W2:World} (s:Stp tag tag' t W W2) {P:List Value→Prop}{x:Bk} (h:BkOk W tag P x) (h1:t≠8):BkOk W2 tag' P x:=
 (h.retag (tag':=tag') (fun k hk e=>by rw[s.ret k hk];exact e)).chg s.chg' (by simp;omega)
theorem row_step {w0 W Wa w2:World}{b:Nat}{tag:Nat→Nat}{c:Nat→Value} (i t:Nat) {e:TypeId}{size:Nat}{n n':Nat}{xs xs':List Value}{v':Value} (core:CorI w0 W b tag c) (hr:RowT w0.heap.size W tag t e size (c i) n xs) (fa:Fr [] W Wa)
  (hown':w2.ownsRow w0.heap.size e size v' n' xs') (hgrow:Wa.grownBy w2 (c i).ownBlock) (hwh:v'.ownBlock=(c i).ownBlock∨v'.ownBlock=some Wa.heap.size) (hi:i<15) (ht:t≠0) (ht7:t≠7) :
  Stp tag (newTag tag Wa.heap.size t) t W (w2.setCell ⟨b,i,none⟩ v')∧CorI w0 (w2.setCell ⟨b,i,none⟩ v') b (newTag tag Wa.heap.size t) (upd c i v')∧RowT w0.heap.size (w2.setCell ⟨b,i,none⟩ v') (newTag tag Wa.heap.size t) t e size v' n' xs' ∧
   (∀ j,j<15→w2.cell? ⟨b,j,none⟩=some (c j))∧(∀ j,j<15→w2.frozen? ⟨b,j,none⟩=false)∧W.heap.size<w2.heap.size+1:=by
 have hs:=fa.size
 have hs2:=hgrow.size
 have hbl:=core.lt
 have c1:Chg tag [t] W w2:=(Chg.of_fr (tag:=tag) (S:=[t]) fa).trans (tag':=newTag tag Wa.heap.size t) (S':=[t]) (Chg.grown hgrow (fun k hk=>by
   have:=hr.tg k hk
   have hl:=(hr.own.lt k hk).2
   rw[newTag_old (by omega),this];simp)) (fun k hk hn=>by rw[newTag_old (by omega)];exact hn)
 have core2:CorI w0 w2 b tag c:=core.chg c1 (by simp;omega) (by simp;omega)
 have core3:CorI w0 (w2.setCell ⟨b,i,none⟩ v') b tag (upd c i v'):=core2.set i hi v'
 have c2:Chg tag [0,t] W (w2.setCell ⟨b,i,none⟩ v'):=(c1.mono (S':=[0,t]) (by simp)).trans (tag':=tag) (S':=[0]) (Chg.setCell w2 (by rw[core.tb];simp) v') (fun k hk hn=>by simp at hn ⊢;exact hn.1)
 refine⟨⟨c2,fun k hk=>newTag_old (by omega)⟩,?_,?_,core2.cell,core2.fz,by omega⟩
 ·refine⟨core3.fr,fun k hk=>?_,core3.hb,?_,core3.cell,core3.fz⟩
  ·have:=core.fr.size
   rw[newTag_old (by omega)];exact core.low k hk
  ·rw[newTag_old (by omega)];exact core.tb
 ·have hb2:∀ g,v'.ownBlock=some g→newTag tag Wa.heap.size t g=t:=by
   intro g hg
   rcases hwh with h | h
   ·rw[h] at hg
    rw[newTag_old (by have:=(hr.own.lt g hg).2;omega)];exact hr.tg g hg
   ·rw[h] at hg
    obtain rfl:Wa.heap.size=g:=by simpa using hg
    exact newTag_new (Nat.le_refl _)
  refine⟨own_of_block hown' fun g hg=>?_,hb2⟩
  refine Below.heap_setCell _ _ _ _ ?_
  rintro rfl
  have:=hb2 _ hg
  rw[newTag_old (by omega),core.tb] at this
  exact ht this.symm
theorem own_form {W:World}{B:Nat}{e:TypeId}{k:Nat}{v:Value}{n:Nat}{xs:List Value} (h:W.ownsRow B e k v n xs):∃ o cap,v=.slice o n cap:=by
 rcases h.2 with ⟨h',rfl⟩ | ⟨g,cap,cur,hv,_⟩
 ·exact⟨_,_,h'⟩
 ·exact⟨_,_,hv⟩
theorem wpList_append_run {P:Program}{w:World}{ops:Array Oper}{rest:List Oper}{o:Oper}{a:Act}{Q:Exit→Act→World→Prop} (hgd:o.guard=none) (s x:Operand) (t:TypeId)
  (ho:o.op=.call { callee:=.builtin .append,args:=#[s,x],argTypes:=#[t,t] }) (v u:Value) (hs:a.eval s=v) (hx:a.eval x=u) {v':Value}{w':World}
  (hr:(Builtin.append_ #[t,t] o.type #[v,u]).run P w=.ok v' w') (h:wpList P ops Q rest (a.put o.dst v') w'):wpList P ops Q (o :: rest) a w:=by
 refine wpList_plain hgd fun K hK=>?_
 unfold Oper.wp execOp
 simp only[ho,resolve,invoke,builtin,Sem.run_bind,Sem.run_pure,Result.andThen_ok,List.map_toArray,List.map_cons,List.map_nil,hs,hx,hr]
 exact hK _ _ h
theorem wanted_of {o:Oper}{f:Nat→Option Bool}{X Y:Prop} (hg:o.guard=none) (h:X):if Region.wanted o f=true then X else Y:=by
 simp only[Region.wanted,hg,if_true]
 exact h
theorem wp_append_run {P:Program}{w:World}{o:Oper}{a:Act}{K:Act→World→Prop}{Q:Exit→Act→World→Prop} (s x:Operand) (t:TypeId)
  (ho:o.op=.call { callee:=.builtin .append,args:=#[s,x],argTypes:=#[t,t] }) (v u:Value) (hs:a.eval s=v) (hx:a.eval x=u) {v':Value}{w':World}
  (hr:(Builtin.append_ #[t,t] o.type #[v,u]).run P w=.ok v' w') (h:K (a.put o.dst v') w'):o.wp P a w K Q:=by
 unfold Oper.wp execOp
 simp only[ho,resolve,invoke,builtin,Sem.run_bind,Sem.run_pure,Result.andThen_ok,List.map_toArray,List.map_cons,List.map_nil,hs,hx,hr]
 exact h
def up {α:Type} (f:Nat→α) (i:Nat) (x:α):Nat→α:=fun j=>if j=i then x else f j
theorem up_same {α:Type} (f:Nat→α) (i:Nat) (x:α):up f i x i=x:=by simp[up]
theorem up_off {α:Type} (f:Nat→α) {i j:Nat} (x:α) (h:j≠i):up f i x j=f j:=by simp[up,h]
theorem ScP.grow {w0 W W2:World}{b:Nat}{tag tag':Nat→Nat}{c:Nat→Value}{ms:Value}{bs:ByteArray}{N:Nat→Nat}{X:Nat→List Value}{bk fk:List Bk}{v':Value}{n':Nat}{xs':List Value} (I:ScP w0 W b tag c ms bs N X bk fk) (i:Nat) (hi:isR i) (h7:i≠7) (h8:i≠8)
  (s:Stp tag tag' (rtag i) W W2) (core:CorI w0 W2 b tag' (upd c i v')) (hr:RowT w0.heap.size W2 tag' (rtag i) (relt i) (rwid i) v' n' xs'):ScP w0 W2 b tag' (upd c i v') ms bs (up N i n') (up X i xs') bk fk:=by
 have hi3:i≠0∧i≠1∧i≠2∧i≠6:=by unfold isR at hi;omega
 refine⟨core,?_,?_,?_,?_,fun j hj=>?_,?_,?_,fun x hx=>s.bk (I.books x hx) (rtag_ne i).2.2.2.1,fun x hx=>s.bk (I.funcs x hx) (rtag_ne i).2.2.2.1,I.sz⟩
 ·show (if 0=i then v' else c 0)=ms;rw[if_neg (by omega)];exact I.n0
 ·show (if 1=i then v' else c 1)=_;rw[if_neg (by omega)];exact I.n1
 ·show (if 2=i then v' else c 2)=_;rw[if_neg (by omega)];exact I.n2
 ·show (if 6=i then v' else c 6)=_;rw[if_neg (by omega)];exact I.n6
 ·by_cases e:j=i
  ·subst e
   rw[up_same,up_same]
   show RowT _ _ _ _ _ _ (if j=j then v' else c j) _ _
   rw[if_pos rfl];exact hr
  ·rw[up_off _ _ e,up_off _ _ e]
   show RowT _ _ _ _ _ _ (if j=i then v' else c j) _ _
   rw[if_neg e]
   exact s.row (I.rows j hj) (rtag_ne j).1 (fun h=>e (rtag_inj hj hi h))
 ·rw[up_off _ _ (fun h=>h7 h.symm),up_off _ _ (fun h=>h7 h.symm)];exact I.k7
 ·rw[up_off _ _ (fun h=>h8 h.symm),up_off _ _ (fun h=>h8 h.symm)];exact I.k8
theorem copyP_run {t e:TypeId}{i0:TypeInfo}{zv:Value}{z bytes:Nat} (ht:Tryz.prog.underlying t=some (.slice e)) (hi:Tryz.prog.info? e=some i0) (hz0:i0.zero=some zv) (hz1:i0.size=z) (hz2:i0.bytes=bytes) (hzs:zv.cells.size=z) (hsz:0<z) (hby:bytes≤1000)
  (W:World) (B:Nat) (u:Value) (n:Nat) (xs:List Value) (ty:TypeId) (h:LsAt W u n z xs) (h1:∀ x ∈ xs,x.oneCell'=true) (hl:n≤1000) (hB:B≤W.heap.size) :
  ∃ u' W',(Builtin.append_ #[t,t] ty #[.slice none 0 0,u]).run Tryz.prog W=.ok u' W'∧LsAt W' u' n z xs∧Fr [] W W'∧(∀ g,u'.ownBlock=some g→g=W.heap.size)∧∃ o cap,u'=.slice o n cap:=by
 by_cases h0:n=0
 ·subst h0
  have hx:xs=[]:=List.eq_nil_of_length_eq_zero (by have:=h.1;omega)
  subst hx
  obtain⟨a,cc,rfl⟩:=h.form
  refine⟨.slice none 0 0,W,?_,LsAt.nil _ _,Fr.refl _ _,(fun g hg=>by cases hg),none,0,rfl⟩
  cases a <;> simp[Builtin.append_,run_underlying ht,sizeOf,typeInfo,hi,Builtin.lenOf,Builtin.firstCells,loadCells,loadCellsFrom]
 ·have hxl:=h.1
  rcases h.2 with ⟨h',_⟩ | ⟨g,cap,rfl,hc,hg,hx⟩
  ·exact absurd h' h0
  have hbb:(0+n)*bytes≤140737488355328:=by
   have:n*bytes≤1000*1000:=Nat.mul_le_mul hl hby
   rw[Nat.zero_add]
   omega
  obtain⟨v',w',hr,hown,hgr,hn,hw⟩:=run_append_own_at (P:=Tryz.prog) W B t ty e i0 zv z bytes ht hi hz0 hz1 hz2 hzs hsz (.slice none 0 0) 0 [] (World.ownsRow_nil _ _ _ _) ⟨g,0,none⟩ n cap xs hxl
   (by
    intro j x hj
    have:=hx j x hj
    rcases j with _ | j
    ·simpa [Addr.add] using this
    ·simpa [Addr.add] using this)
   h1 (by unfold maxLen;omega) hbb hB
  rw[List.nil_append,Nat.zero_add] at hown
  refine⟨v',w',hr,LsAt.of_own hown,⟨hgr.os,hgr.tape,hgr.output,hgr.size,fun k hk _=>hgr.block k hk (by simp[Value.ownBlock])⟩,fun g' hg'=>?_,own_form hown⟩
  rcases hw with h' | h'
  ·rw[hg'] at h';simp[Value.ownBlock] at h'
  ·rw[hg'] at h';simpa using h'
theorem infoP9:(Tryz.prog.info? 9).map (fun i=>(i.zero,i.size,i.bytes))=some (some (.string ⟨#[]⟩),1,16):=by kernel_rfl
theorem infoP65:(Tryz.prog.info? 65).map (fun i=>(i.zero,i.size,i.bytes))=some (some (.agg #[.int .i64 0,.int .i64 0,.string ⟨#[]⟩]),3,32):=by kernel_rfl
theorem infoP27:(Tryz.prog.info? 27).map (fun i=>(i.zero,i.size,i.bytes))=some (some (.slice none 0 0),1,24):=by kernel_rfl
theorem infoP28:(Tryz.prog.info? 28).map (fun i=>(i.zero,i.size,i.bytes))=some (some (.slice none 0 0),1,24):=by kernel_rfl
theorem copyT_run (W:World) (B:Nat) (u:Value) (n:Nat) (xs:List Value) (ty:TypeId) (h:LsAt W u n 1 xs) (h1:∀ x ∈ xs,x.oneCell'=true) (hl:n≤1000) (hB:B≤W.heap.size) :
  ∃ u' W',(Builtin.append_ #[27,27] ty #[.slice none 0 0,u]).run Tryz.prog W=.ok u' W'∧LsAt W' u' n 1 xs∧Fr [] W W'∧(∀ g,u'.ownBlock=some g→g=W.heap.size)∧∃ o cap,u'=.slice o n cap:=by
 obtain⟨i0,hi,hz0,hz1,hz2⟩:=info_parts infoP9
 exact copyP_run Tryz.underlying27 hi hz0 hz1 hz2 rfl (by decide) (by decide) W B u n xs ty h h1 hl hB
theorem copyF_run (W:World) (B:Nat) (u:Value) (n:Nat) (xs:List Value) (ty:TypeId) (h:LsAt W u n 3 xs) (h1:∀ x ∈ xs,x.oneCell'=true) (hl:n≤1000) (hB:B≤W.heap.size) :
  ∃ u' W',(Builtin.append_ #[28,28] ty #[.slice none 0 0,u]).run Tryz.prog W=.ok u' W'∧LsAt W' u' n 3 xs∧Fr [] W W'∧(∀ g,u'.ownBlock=some g→g=W.heap.size)∧∃ o cap,u'=.slice o n cap:=by
 obtain⟨i0,hi,hz0,hz1,hz2⟩:=info_parts infoP65
 exact copyP_run Tryz.underlying28 hi hz0 hz1 hz2 rfl (by decide) (by decide) W B u n xs ty h h1 hl hB
theorem keepT_any (w0 W:World) (b:Nat) (tag:Nat→Nat) (c:Nat→Value) (ms:Value) (bs:ByteArray) (N:Nat→Nat) (X:Nat→List Value) (bk fk:List Bk) (o:Option Addr) (n cap:Nat) (u:Value) (nn:Nat) (xs:List Value) (I:ScP w0 W b tag c ms bs N X bk fk) (hu:LsAt W u nn 1 xs) (h1c:∀ x ∈ xs,x.oneCell'=true) (hL:nn≤1000) (tu:Tg tag u 6) (hl:N 11≤1000000000) (hl2:N 12≤1000000000) :
  Calls Tryz.prog 74 #[.pointer (some ⟨b,0,none⟩),.slice o n cap,u] W fun e W'=>e=.returned (.tuple #[])∧∃ tag' c' u',ScP w0 W' b tag' c' ms bs (up (up N 11 (N 11+1)) 12 (N 12+1)) (up (up X 11 (X 11++[.slice o n cap])) 12 (X 12++[u'])) bk fk∧LsAt W' u' nn 1 xs∧Tg tag' u' 8 ∧
   Chg tag [0,4,5] W W'∧(∀ k,k<W.heap.size→tag' k=tag k):=by
 obtain⟨i0,hi,hz0,hz1,hz2⟩:=info_parts infoP27
 have hm:Tryz.prog.follows .mixedOrders=true:=by kernel_rfl
 have d11:=I.core.cell 11 (by decide)
 have z11:=I.core.fz 11 (by decide)
 have r11:RowT w0.heap.size W tag 4 27 1 (c 11) (N 11) (X 11):=I.rows 11 (by unfold isR;omega)
 have hlt:=I.core.lt
 have hsz:=I.core.fr.size
 have HI:Hid _:=I
 have HU:Hid _:=hu
 clear I hu
 obtain⟨v11,e11⟩:∃ v,c 11=v:=⟨_,rfl⟩
 rw[e11] at d11 r11
 have E11:Hid _:=e11
 clear e11
 go_enter Tryz.func74,Tryz.ntmps74
 go_wp2_with (at_builtin;refine wpList_append_own_at _ rfl _ _ 55 rfl w0.heap.size 27 i0 (.slice none 0 0) 1 24 Tryz.underlying55 hi hz0 hz1 hz2 rfl (by decide) v11 (N 11) (X 11) rfl (r11.own.alloc _) ⟨W.heap.size,0,none⟩ 1 1 [.slice o n cap] rfl rfl ?c1 ?c2 ?c3 ?c4 ?c5 ?_)
 case c1=>
  intro j u hj
  rcases j with _ | j
  ·simp at hj;subst hj;simp[Addr.add]
  ·simp at hj
 case c2=>intro u hu;simp at hu;subst hu;rfl
 case c3=>unfold maxLen;omega
 case c4=>omega
 case c5=>simp;omega
 intro v' w2 hown' hgrow hnil hwh
 obtain⟨p1,p2,rfl⟩:=own_form hown'
 have fa:Fr [] W (W.alloc (Obj.cells #[Value.slice o n cap] 27)):=(Fr.refl [] W).alloc _
 obtain⟨s1,core1,row1,cl,fz,_⟩:=row_step 11 4 HI.out.core (HI.out.rows 11 (by unfold isR;omega)) fa hown' (by rw[E11.out];exact hgrow) (by rw[E11.out];simpa using hwh) (by decide) (by decide) (by decide)
 have cl11:=cl 11 (by decide)
 have fz11:=fz 11 (by decide)
 have I1:=HI.out.grow 11 (by unfold isR;omega) (by decide) (by decide) s1 core1 row1
 have hu1:=LsAt.chg HU.out tu s1.chg (by simp)
 have hW2:=hgrow.size
 have hst:w2.heap.size≤(w2.setCell ⟨b,11,none⟩ (.slice p1 (N 11+1) p2)).heap.size:=by simp
 clear cl fz hown' hgrow hnil hwh core1 row1 d11 z11 r11
 have d12:=I1.core.cell 12 (by decide)
 have r12:=I1.rows 12 (by unfold isR;omega)
 rw[up_off _ _ (by decide),up_off _ _ (by decide)] at r12
 have hlt1:=I1.core.lt
 have hsz1:=I1.core.fr.size
 obtain⟨v12,e12⟩:∃ v,upd c 11 (.slice p1 (N 11+1) p2) 12=v:=⟨_,rfl⟩
 rw[e12] at d12 r12
 have E12:Hid _:=e12
 clear e12
 obtain⟨u',W3,hr,hu',fc,hub,o',cap',rfl⟩:=copyT_run (w2.setCell ⟨b,11,none⟩ (.slice p1 (N 11+1) p2)).drew w0.heap.size u nn xs 27 (hu1.fr ((Fr.refl [] _).drew)) h1c hL hsz1
 go_wp2
 generalize hgW:w2.setCell ⟨b,11,none⟩ (.slice p1 (N 11+1) p2)=W1 at *
 clear hgW
 have HI1:Hid _:=I1
 have Hs1:Hid _:=s1
 have Hr:Hid _:=hr
 clear I1 s1 hr fz11 cl11 hlt hst hW2 fa
 have fc':Fr [] W1 W3:=⟨fc.os,fc.tape,fc.output,fc.size,fc.block⟩
 have I2:=HI1.out.frm fc'
 have d12':=I2.core.cell 12 (by decide)
 have r12':RowT w0.heap.size W3 _ 5 27 1 (upd c 11 (.slice p1 (N 11+1) p2) 12) (up N 11 (N 11+1) 12) (up X 11 (X 11++[.slice o n cap]) 12):=I2.rows 12 (by unfold isR;omega)
 rw[up_off _ _ (by decide),up_off _ _ (by decide)] at r12'
 rw[E12.out] at d12' r12'
 have hsz3:=I2.core.fr.size
 have HI2:Hid _:=I2
 clear I2
 have fa:Fr [] W3 (W3.alloc (Obj.cells #[Value.slice o' nn cap'] 27)):=(Fr.refl [] W3).alloc _
 have I3:=HI2.out.frm fa
 have d12a:=I3.core.cell 12 (by decide)
 rw[E12.out] at d12a
 clear I3
 obtain⟨v2,w4,hr2,hown',hgrow,hnil,hwh⟩:=run_append_own_at (P:=Tryz.prog) (W3.alloc (Obj.cells #[Value.slice o' nn cap'] 27)) w0.heap.size 55 55 27 i0 (.slice none 0 0) 1 24 Tryz.underlying55 hi hz0 hz1 hz2 rfl (by decide) v12 (N 12) (X 12) (r12'.own.alloc _) ⟨W3.heap.size,0,none⟩ 1 1 [.slice o' nn cap'] rfl
  (by
   intro j u hj
   rcases j with _ | j
   ·simp at hj;subst hj;simp[Addr.add]
   ·simp at hj)
  (by intro u hu;simp at hu;subst hu;rfl) (by unfold maxLen;omega) (by omega) (by simp;omega)
 obtain⟨q1,q2,rfl⟩:=own_form hown'
 have hW3:=fc'.size
 generalize hta:newTag tag (W.alloc (Obj.cells #[Value.slice o n cap] 27)).heap.size 4=ta at *
 have hret1:=Hs1.out.ret
 have hW1:=Hs1.out.chg.size
 have t4:∀ k,k<W1.heap.size→newTag ta W1.heap.size 8 k=ta k:=fun k hk=>newTag_old hk
 have I4:ScP w0 W3 b (newTag ta W1.heap.size 8) (upd c 11 (.slice p1 (N 11+1) p2)) ms bs (up N 11 (N 11+1)) (up X 11 (X 11++[.slice o n cap])) bk fk:=
  (HI1.out.retag (tag':=newTag ta W1.heap.size 8) (fun k hk _ _=>t4 k hk)).frm fc'
 have tu4:Tg (newTag ta W1.heap.size 8) (.slice o' nn cap') 8:=fun g hg=>by rw[hub g hg];exact newTag_new (Nat.le_refl _)
 obtain⟨s2,core2,row2,cl,fz,_⟩:=row_step (n:=N 12) (xs:=X 12) 12 5 I4.core (by have h:=I4.rows 12 (by unfold isR;omega);rw[up_off _ _ (by decide),up_off _ _ (by decide)] at h;exact h) fa hown' (by rw[E12.out];exact hgrow) (by rw[E12.out];exact hwh) (by decide) (by decide) (by decide)
 have I5:=I4.grow 12 (by unfold isR;omega) (by decide) (by decide) s2 core2 row2
 have hu5:=hu'.chg tu4 s2.chg (by simp)
 have tu5:Tg (newTag (newTag ta W1.heap.size 8) (W3.alloc (Obj.cells #[Value.slice o' nn cap'] 27)).heap.size 5) (.slice o' nn cap') 8:=tu4.re hu'.lt (fun k hk e=>by rw[s2.ret k hk];exact e)
 have cfin:Chg tag [0,4,5] W (w4.setCell ⟨b,12,none⟩ (.slice q1 (N 12+1) q2)):=by
  have e1:Chg tag [0,4,5] W W1:=Hs1.out.chg.mono (by simp)
  have e2:Chg tag [0,4,5] W W3:=e1.trans (tag':=tag) (S':=[]) (Chg.of_fr fc') (by simp)
  exact e2.trans s2.chg (fun k hk hn=>by
   rw[t4 k (by omega),hret1 k hk]
   simp at hn ⊢
   omega)
 have rfin:∀ k,k<W.heap.size→newTag (newTag ta W1.heap.size 8) (W3.alloc (Obj.cells #[Value.slice o' nn cap'] 27)).heap.size 5 k=tag k:=fun k hk=>by
  rw[s2.ret k (by omega),t4 k (by omega),hret1 k hk]
 have cl12:=cl 12 (by decide)
 have fz12:=fz 12 (by decide)
 rw[E12.out] at cl12
 have Hr2:Hid _:=hr2
 clear hr2
 have hdr:W1.drew.cell? ⟨b,12,none⟩=some v12:=d12
 refine wp_region_heldD (fun _=>True) hm ?_
 have hS:(fun _:World=>True) W1.drew:=trivial
 refine wpAnyH_take (i:=0) (v:=?_) rfl (by kernel_rfl) (by kernel_rfl) (by kernel_rfl) (fun _ _ _ h=>h) (.inl ⟨rfl,fun w1 hS1=>?_⟩) hS ?_
 rotate_left
 ·have q1:=hS1
  go_simp
  rfl
 simp only[Act.put,List.setIfInBounds_toArray,List.set_cons_zero,List.set_cons_succ]
 refine wpAnyH_take (i:=1) (v:=?_) rfl (by kernel_rfl) (by kernel_rfl) (by kernel_rfl) (fun _ _ _ h=>h) (.inl ⟨rfl,fun w1 hS1=>?_⟩) hS ?_
 rotate_left
 ·have q1:=hS1
  go_simp
  rfl
 simp only[Act.put,List.setIfInBounds_toArray,List.set_cons_zero,List.set_cons_succ]
 refine wpAnyH_take (i:=2) (v:=?_) rfl (by kernel_rfl) (by kernel_rfl) (by kernel_rfl) (fun _ _ _ h=>h) (.inl ⟨rfl,fun w1 hS1=>?_⟩) hS ?_
 rotate_left
 ·have q1:=hS1
  go_simp
  rfl
 simp only[Act.put,List.setIfInBounds_toArray,List.set_cons_zero,List.set_cons_succ]
 refine wpAnyH_take (i:=3) (v:=?_) rfl (by kernel_rfl) (by kernel_rfl) (by kernel_rfl) (fun _ _ _ h=>h) (.inl ⟨rfl,fun w1 hS1=>?_⟩) hS ?_
 rotate_left
 ·have q1:=hS1
  go_simp
  rfl
 simp only[Act.put,List.setIfInBounds_toArray,List.set_cons_zero,List.set_cons_succ]
 refine wpAnyH_take (i:=5) (v:=?_) rfl (by kernel_rfl) (by kernel_rfl) (by kernel_rfl) (fun _ _ _ h=>h) (.inl ⟨rfl,fun w1 hS1=>?_⟩) hS ?_
 rotate_left
 ·have q1:=hS1
  go_simp
  rfl
 simp only[Act.put,List.setIfInBounds_toArray,List.set_cons_zero,List.set_cons_succ]
 refine wpAnyH_ready (rs:=[4,6]) (by kernel_rfl) (by simp) ?_
 refine AllReadyH.cons rfl (fun K hK=>?_) ?_
 ·go_simp
  refine hK _ _ trivial ?_
  clear hK K
  intro _
  refine wpAnyH_ready (rs:=[6]) (by kernel_rfl) (by simp) ?_
  refine AllReadyH.cons rfl (fun K hK=>?_) AllReadyH.nil
  refine wanted_of (by rfl) ?_
  refine wp_append_run _ _ 27 rfl _ _ rfl rfl Hr.out ?_
  refine hK _ _ trivial ?_
  clear hK K
  intro _
  simp only[Act.put,List.setIfInBounds_toArray,List.set_cons_zero,List.set_cons_succ]
  refine wpAnyH_ready (rs:=[7]) (by kernel_rfl) (by simp) ?_
  refine AllReadyH.cons rfl (fun K hK=>?_) AllReadyH.nil
  go_simp
  refine hK _ _ trivial ?_
  clear hK K
  intro _
  refine wpAnyH_ready (rs:=[8]) (by kernel_rfl) (by simp) ?_
  refine AllReadyH.cons rfl (fun K hK=>?_) AllReadyH.nil
  refine wanted_of (by rfl) ?_
  refine wp_append_run _ _ 55 rfl _ _ rfl rfl Hr2.out ?_
  refine hK _ _ trivial ?_
  clear hK K
  intro _
  simp only[Act.put,List.setIfInBounds_toArray,List.set_cons_zero,List.set_cons_succ]
  refine wpAnyH_ready (rs:=[9]) (by kernel_rfl) (by simp) ?_
  refine AllReadyH.cons rfl (fun K hK=>?_) AllReadyH.nil
  go_simp
  refine hK _ _ trivial ?_
  clear hK K
  intro _
  refine wpAnyH_ready (rs:=[10]) (by kernel_rfl) (by simp) ?_
  refine AllReadyH.cons rfl (fun K hK=>?_) AllReadyH.nil
  go_simp
  refine hK _ _ trivial ?_
  clear hK K
  intro _
  refine wpAnyH_ready (rs:=[11]) (by kernel_rfl) (by simp) ?_
  refine AllReadyH.cons rfl (fun K hK=>?_) AllReadyH.nil
  go_simp
  refine hK _ _ trivial ?_
  clear hK K
  intro _
  refine wpAnyH_done (by kernel_rfl) ?_ _
  go_wp2
  go_end0
  exact⟨rfl,_,_,_,I5,hu5,tu5,cfin,rfin⟩
 ·refine AllReadyH.cons rfl (fun K hK=>?_) AllReadyH.nil
  refine wanted_of (by rfl) ?_
  refine wp_append_run _ _ 27 rfl _ _ rfl rfl Hr.out ?_
  refine hK _ _ trivial ?_
  clear hK K
  intro _
  simp only[Act.put,List.setIfInBounds_toArray,List.set_cons_zero,List.set_cons_succ]
  refine wpAnyH_ready (rs:=[4,7]) (by kernel_rfl) (by simp) ?_
  refine AllReadyH.cons rfl (fun K hK=>?_) ?_
  ·go_simp
   refine hK _ _ trivial ?_
   clear hK K
   intro _
   refine wpAnyH_ready (rs:=[7]) (by kernel_rfl) (by simp) ?_
   refine AllReadyH.cons rfl (fun K hK=>?_) AllReadyH.nil
   go_simp
   refine hK _ _ trivial ?_
   clear hK K
   intro _
   refine wpAnyH_ready (rs:=[8]) (by kernel_rfl) (by simp) ?_
   refine AllReadyH.cons rfl (fun K hK=>?_) AllReadyH.nil
   refine wanted_of (by rfl) ?_
   refine wp_append_run _ _ 55 rfl _ _ rfl rfl Hr2.out ?_
   refine hK _ _ trivial ?_
   clear hK K
   intro _
   simp only[Act.put,List.setIfInBounds_toArray,List.set_cons_zero,List.set_cons_succ]
   refine wpAnyH_ready (rs:=[9]) (by kernel_rfl) (by simp) ?_
   refine AllReadyH.cons rfl (fun K hK=>?_) AllReadyH.nil
   go_simp
   refine hK _ _ trivial ?_
   clear hK K
   intro _
   refine wpAnyH_ready (rs:=[10]) (by kernel_rfl) (by simp) ?_
   refine AllReadyH.cons rfl (fun K hK=>?_) AllReadyH.nil
   go_simp
   refine hK _ _ trivial ?_
   clear hK K
   intro _
   refine wpAnyH_ready (rs:=[11]) (by kernel_rfl) (by simp) ?_
   refine AllReadyH.cons rfl (fun K hK=>?_) AllReadyH.nil
   go_simp
   refine hK _ _ trivial ?_
   clear hK K
   intro _
   refine wpAnyH_done (by kernel_rfl) ?_ _
   go_wp2
   go_end0
   exact⟨rfl,_,_,_,I5,hu5,tu5,cfin,rfin⟩
  ·refine AllReadyH.cons rfl (fun K hK=>?_) AllReadyH.nil
   go_simp
   refine hK _ _ trivial ?_
   clear hK K
   intro _
   refine wpAnyH_ready (rs:=[4]) (by kernel_rfl) (by simp) ?_
   refine AllReadyH.cons rfl (fun K hK=>?_) AllReadyH.nil
   go_simp
   refine hK _ _ trivial ?_
   clear hK K
   intro _
   refine wpAnyH_ready (rs:=[8]) (by kernel_rfl) (by simp) ?_
   refine AllReadyH.cons rfl (fun K hK=>?_) AllReadyH.nil
   refine wanted_of (by rfl) ?_
   refine wp_append_run _ _ 55 rfl _ _ rfl rfl Hr2.out ?_
   refine hK _ _ trivial ?_
   clear hK K
   intro _
   simp only[Act.put,List.setIfInBounds_toArray,List.set_cons_zero,List.set_cons_succ]
   refine wpAnyH_ready (rs:=[9]) (by kernel_rfl) (by simp) ?_
   refine AllReadyH.cons rfl (fun K hK=>?_) AllReadyH.nil
   go_simp
   refine hK _ _ trivial ?_
   clear hK K
   intro _
   refine wpAnyH_ready (rs:=[10]) (by kernel_rfl) (by simp) ?_
   refine AllReadyH.cons rfl (fun K hK=>?_) AllReadyH.nil
   go_simp
   refine hK _ _ trivial ?_
   clear hK K
   intro _
   refine wpAnyH_ready (rs:=[11]) (by kernel_rfl) (by simp) ?_
   refine AllReadyH.cons rfl (fun K hK=>?_) AllReadyH.nil
   go_simp
   refine hK _ _ trivial ?_
   clear hK K
   intro _
   refine wpAnyH_done (by kernel_rfl) ?_ _
   go_wp2
   go_end0
   exact⟨rfl,_,_,_,I5,hu5,tu5,cfin,rfin⟩
theorem keepF_any (w0 W:World) (b:Nat) (tag:Nat→Nat) (c:Nat→Value) (ms:Value) (bs:ByteArray) (N:Nat→Nat) (X:Nat→List Value) (bk fk:List Bk) (o:Option Addr) (n cap:Nat) (u:Value) (nn:Nat) (xs:List Value) (I:ScP w0 W b tag c ms bs N X bk fk) (hu:LsAt W u nn 3 xs) (h1c:∀ x ∈ xs,x.oneCell'=true) (hL:nn≤1000) (tu:Tg tag u 6) (hl:N 13≤1000000000) (hl2:N 14≤1000000000) :
  Calls Tryz.prog 79 #[.pointer (some ⟨b,0,none⟩),.slice o n cap,u] W fun e W'=>e=.returned (.tuple #[])∧∃ tag' c' u',ScP w0 W' b tag' c' ms bs (up (up N 13 (N 13+1)) 14 (N 14+1)) (up (up X 13 (X 13++[.slice o n cap])) 14 (X 14++[u'])) bk fk∧LsAt W' u' nn 3 xs∧Tg tag' u' 8 ∧
   Chg tag [0,10,11] W W'∧(∀ k,k<W.heap.size→tag' k=tag k):=by
 obtain⟨i0,hi,hz0,hz1,hz2⟩:=info_parts infoP28
 have hm:Tryz.prog.follows .mixedOrders=true:=by kernel_rfl
 have d11:=I.core.cell 13 (by decide)
 have z11:=I.core.fz 13 (by decide)
 have r11:RowT w0.heap.size W tag 10 28 1 (c 13) (N 13) (X 13):=I.rows 13 (by unfold isR;omega)
 have hlt:=I.core.lt
 have hsz:=I.core.fr.size
 have HI:Hid _:=I
 have HU:Hid _:=hu
 clear I hu
 obtain⟨v11,e11⟩:∃ v,c 13=v:=⟨_,rfl⟩
 rw[e11] at d11 r11
 have E11:Hid _:=e11
 clear e11
 go_enter Tryz.func79,Tryz.ntmps79
 go_wp2_with (at_builtin;refine wpList_append_own_at _ rfl _ _ 56 rfl w0.heap.size 28 i0 (.slice none 0 0) 1 24 Tryz.underlying56 hi hz0 hz1 hz2 rfl (by decide) v11 (N 13) (X 13) rfl (r11.own.alloc _) ⟨W.heap.size,0,none⟩ 1 1 [.slice o n cap] rfl rfl ?c1 ?c2 ?c3 ?c4 ?c5 ?_)
 case c1=>
  intro j u hj
  rcases j with _ | j
  ·simp at hj;subst hj;simp[Addr.add]
  ·simp at hj
 case c2=>intro u hu;simp at hu;subst hu;rfl
 case c3=>unfold maxLen;omega
 case c4=>omega
 case c5=>simp;omega
 intro v' w2 hown' hgrow hnil hwh
 obtain⟨p1,p2,rfl⟩:=own_form hown'
 have fa:Fr [] W (W.alloc (Obj.cells #[Value.slice o n cap] 28)):=(Fr.refl [] W).alloc _
 obtain⟨s1,core1,row1,cl,fz,_⟩:=row_step 13 10 HI.out.core (HI.out.rows 13 (by unfold isR;omega)) fa hown' (by rw[E11.out];exact hgrow) (by rw[E11.out];simpa using hwh) (by decide) (by decide) (by decide)
 have cl11:=cl 13 (by decide)
 have fz11:=fz 13 (by decide)
 have I1:=HI.out.grow 13 (by unfold isR;omega) (by decide) (by decide) s1 core1 row1
 have hu1:=LsAt.chg HU.out tu s1.chg (by simp)
 have hW2:=hgrow.size
 have hst:w2.heap.size≤(w2.setCell ⟨b,13,none⟩ (.slice p1 (N 13+1) p2)).heap.size:=by simp
 clear cl fz hown' hgrow hnil hwh core1 row1 d11 z11 r11
 have d12:=I1.core.cell 14 (by decide)
 have r12:=I1.rows 14 (by unfold isR;omega)
 rw[up_off _ _ (by decide),up_off _ _ (by decide)] at r12
 have hlt1:=I1.core.lt
 have hsz1:=I1.core.fr.size
 obtain⟨v12,e12⟩:∃ v,upd c 13 (.slice p1 (N 13+1) p2) 14=v:=⟨_,rfl⟩
 rw[e12] at d12 r12
 have E12:Hid _:=e12
 clear e12
 obtain⟨u',W3,hr,hu',fc,hub,o',cap',rfl⟩:=copyF_run (w2.setCell ⟨b,13,none⟩ (.slice p1 (N 13+1) p2)).drew w0.heap.size u nn xs 28 (hu1.fr ((Fr.refl [] _).drew)) h1c hL hsz1
 go_wp2
 generalize hgW:w2.setCell ⟨b,13,none⟩ (.slice p1 (N 13+1) p2)=W1 at *
 clear hgW
 have HI1:Hid _:=I1
 have Hs1:Hid _:=s1
 have Hr:Hid _:=hr
 clear I1 s1 hr fz11 cl11 hlt hst hW2 fa
 have fc':Fr [] W1 W3:=⟨fc.os,fc.tape,fc.output,fc.size,fc.block⟩
 have I2:=HI1.out.frm fc'
 have d12':=I2.core.cell 14 (by decide)
 have r12':RowT w0.heap.size W3 _ 11 28 1 (upd c 13 (.slice p1 (N 13+1) p2) 14) (up N 13 (N 13+1) 14) (up X 13 (X 13++[.slice o n cap]) 14):=I2.rows 14 (by unfold isR;omega)
 rw[up_off _ _ (by decide),up_off _ _ (by decide)] at r12'
 rw[E12.out] at d12' r12'
 have hsz3:=I2.core.fr.size
 have HI2:Hid _:=I2
 clear I2
 have fa:Fr [] W3 (W3.alloc (Obj.cells #[Value.slice o' nn cap'] 28)):=(Fr.refl [] W3).alloc _
 have I3:=HI2.out.frm fa
 have d12a:=I3.core.cell 14 (by decide)
 rw[E12.out] at d12a
 clear I3
 obtain⟨v2,w4,hr2,hown',hgrow,hnil,hwh⟩:=run_append_own_at (P:=Tryz.prog) (W3.alloc (Obj.cells #[Value.slice o' nn cap'] 28)) w0.heap.size 56 56 28 i0 (.slice none 0 0) 1 24 Tryz.underlying56 hi hz0 hz1 hz2 rfl (by decide) v12 (N 14) (X 14) (r12'.own.alloc _) ⟨W3.heap.size,0,none⟩ 1 1 [.slice o' nn cap'] rfl
  (by
   intro j u hj
   rcases j with _ | j
   ·simp at hj;subst hj;simp[Addr.add]
   ·simp at hj)
  (by intro u hu;simp at hu;subst hu;rfl) (by unfold maxLen;omega) (by omega) (by simp;omega)
 obtain⟨q1,q2,rfl⟩:=own_form hown'
 have hW3:=fc'.size
 generalize hta:newTag tag (W.alloc (Obj.cells #[Value.slice o n cap] 28)).heap.size 10=ta at *
 have hret1:=Hs1.out.ret
 have hW1:=Hs1.out.chg.size
 have t4:∀ k,k<W1.heap.size→newTag ta W1.heap.size 8 k=ta k:=fun k hk=>newTag_old hk
 have I4:ScP w0 W3 b (newTag ta W1.heap.size 8) (upd c 13 (.slice p1 (N 13+1) p2)) ms bs (up N 13 (N 13+1)) (up X 13 (X 13++[.slice o n cap])) bk fk:=
  (HI1.out.retag (tag':=newTag ta W1.heap.size 8) (fun k hk _ _=>t4 k hk)).frm fc'
 have tu4:Tg (newTag ta W1.heap.size 8) (.slice o' nn cap') 8:=fun g hg=>by rw[hub g hg];exact newTag_new (Nat.le_refl _)
 obtain⟨s2,core2,row2,cl,fz,_⟩:=row_step (n:=N 14) (xs:=X 14) 14 11 I4.core (by have h:=I4.rows 14 (by unfold isR;omega);rw[up_off _ _ (by decide),up_off _ _ (by decide)] at h;exact h) fa hown' (by rw[E12.out];exact hgrow) (by rw[E12.out];exact hwh) (by decide) (by decide) (by decide)
 have I5:=I4.grow 14 (by unfold isR;omega) (by decide) (by decide) s2 core2 row2
 have hu5:=hu'.chg tu4 s2.chg (by simp)
 have tu5:Tg (newTag (newTag ta W1.heap.size 8) (W3.alloc (Obj.cells #[Value.slice o' nn cap'] 28)).heap.size 11) (.slice o' nn cap') 8:=tu4.re hu'.lt (fun k hk e=>by rw[s2.ret k hk];exact e)
 have cfin:Chg tag [0,10,11] W (w4.setCell ⟨b,14,none⟩ (.slice q1 (N 14+1) q2)):=by
  have e1:Chg tag [0,10,11] W W1:=Hs1.out.chg.mono (by simp)
  have e2:Chg tag [0,10,11] W W3:=e1.trans (tag':=tag) (S':=[]) (Chg.of_fr fc') (by simp)
  exact e2.trans s2.chg (fun k hk hn=>by
   rw[t4 k (by omega),hret1 k hk]
   simp at hn ⊢
   omega)
 have rfin:∀ k,k<W.heap.size→newTag (newTag ta W1.heap.size 8) (W3.alloc (Obj.cells #[Value.slice o' nn cap'] 28)).heap.size 11 k=tag k:=fun k hk=>by
  rw[s2.ret k (by omega),t4 k (by omega),hret1 k hk]
 have cl12:=cl 14 (by decide)
 have fz12:=fz 14 (by decide)
 rw[E12.out] at cl12
 have Hr2:Hid _:=hr2
 clear hr2
 have hdr:W1.drew.cell? ⟨b,14,none⟩=some v12:=d12
 refine wp_region_heldD (fun _=>True) hm ?_
 have hS:(fun _:World=>True) W1.drew:=trivial
 refine wpAnyH_take (i:=0) (v:=?_) rfl (by kernel_rfl) (by kernel_rfl) (by kernel_rfl) (fun _ _ _ h=>h) (.inl ⟨rfl,fun w1 hS1=>?_⟩) hS ?_
 rotate_left
 ·have q1:=hS1
  go_simp
  rfl
 simp only[Act.put,List.setIfInBounds_toArray,List.set_cons_zero,List.set_cons_succ]
 refine wpAnyH_take (i:=1) (v:=?_) rfl (by kernel_rfl) (by kernel_rfl) (by kernel_rfl) (fun _ _ _ h=>h) (.inl ⟨rfl,fun w1 hS1=>?_⟩) hS ?_
 rotate_left
 ·have q1:=hS1
  go_simp
  rfl
 simp only[Act.put,List.setIfInBounds_toArray,List.set_cons_zero,List.set_cons_succ]
 refine wpAnyH_take (i:=2) (v:=?_) rfl (by kernel_rfl) (by kernel_rfl) (by kernel_rfl) (fun _ _ _ h=>h) (.inl ⟨rfl,fun w1 hS1=>?_⟩) hS ?_
 rotate_left
 ·have q1:=hS1
  go_simp
  rfl
 simp only[Act.put,List.setIfInBounds_toArray,List.set_cons_zero,List.set_cons_succ]
 refine wpAnyH_take (i:=3) (v:=?_) rfl (by kernel_rfl) (by kernel_rfl) (by kernel_rfl) (fun _ _ _ h=>h) (.inl ⟨rfl,fun w1 hS1=>?_⟩) hS ?_
 rotate_left
 ·have q1:=hS1
  go_simp
  rfl
 simp only[Act.put,List.setIfInBounds_toArray,List.set_cons_zero,List.set_cons_succ]
 refine wpAnyH_take (i:=5) (v:=?_) rfl (by kernel_rfl) (by kernel_rfl) (by kernel_rfl) (fun _ _ _ h=>h) (.inl ⟨rfl,fun w1 hS1=>?_⟩) hS ?_
 rotate_left
 ·have q1:=hS1
  go_simp
  rfl
 simp only[Act.put,List.setIfInBounds_toArray,List.set_cons_zero,List.set_cons_succ]
 refine wpAnyH_ready (rs:=[4,6]) (by kernel_rfl) (by simp) ?_
 refine AllReadyH.cons rfl (fun K hK=>?_) ?_
 ·go_simp
  refine hK _ _ trivial ?_
  clear hK K
  intro _
  refine wpAnyH_ready (rs:=[6]) (by kernel_rfl) (by simp) ?_
  refine AllReadyH.cons rfl (fun K hK=>?_) AllReadyH.nil
  refine wanted_of (by rfl) ?_
  refine wp_append_run _ _ 28 rfl _ _ rfl rfl Hr.out ?_
  refine hK _ _ trivial ?_
  clear hK K
  intro _
  simp only[Act.put,List.setIfInBounds_toArray,List.set_cons_zero,List.set_cons_succ]
  refine wpAnyH_ready (rs:=[7]) (by kernel_rfl) (by simp) ?_
  refine AllReadyH.cons rfl (fun K hK=>?_) AllReadyH.nil
  go_simp
  refine hK _ _ trivial ?_
  clear hK K
  intro _
  refine wpAnyH_ready (rs:=[8]) (by kernel_rfl) (by simp) ?_
  refine AllReadyH.cons rfl (fun K hK=>?_) AllReadyH.nil
  refine wanted_of (by rfl) ?_
  refine wp_append_run _ _ 56 rfl _ _ rfl rfl Hr2.out ?_
  refine hK _ _ trivial ?_
  clear hK K
  intro _
  simp only[Act.put,List.setIfInBounds_toArray,List.set_cons_zero,List.set_cons_succ]
  refine wpAnyH_ready (rs:=[9]) (by kernel_rfl) (by simp) ?_
  refine AllReadyH.cons rfl (fun K hK=>?_) AllReadyH.nil
  go_simp
  refine hK _ _ trivial ?_
  clear hK K
  intro _
  refine wpAnyH_ready (rs:=[10]) (by kernel_rfl) (by simp) ?_
  refine AllReadyH.cons rfl (fun K hK=>?_) AllReadyH.nil
  go_simp
  refine hK _ _ trivial ?_
  clear hK K
  intro _
  refine wpAnyH_ready (rs:=[11]) (by kernel_rfl) (by simp) ?_
  refine AllReadyH.cons rfl (fun K hK=>?_) AllReadyH.nil
  go_simp
  refine hK _ _ trivial ?_
  clear hK K
  intro _
  refine wpAnyH_done (by kernel_rfl) ?_ _
  go_wp2
  go_end0
  exact⟨rfl,_,_,_,I5,hu5,tu5,cfin,rfin⟩
 ·refine AllReadyH.cons rfl (fun K hK=>?_) AllReadyH.nil
  refine wanted_of (by rfl) ?_
  refine wp_append_run _ _ 28 rfl _ _ rfl rfl Hr.out ?_
  refine hK _ _ trivial ?_
  clear hK K
  intro _
  simp only[Act.put,List.setIfInBounds_toArray,List.set_cons_zero,List.set_cons_succ]
  refine wpAnyH_ready (rs:=[4,7]) (by kernel_rfl) (by simp) ?_
  refine AllReadyH.cons rfl (fun K hK=>?_) ?_
  ·go_simp
   refine hK _ _ trivial ?_
   clear hK K
   intro _
   refine wpAnyH_ready (rs:=[7]) (by kernel_rfl) (by simp) ?_
   refine AllReadyH.cons rfl (fun K hK=>?_) AllReadyH.nil
   go_simp
   refine hK _ _ trivial ?_
   clear hK K
   intro _
   refine wpAnyH_ready (rs:=[8]) (by kernel_rfl) (by simp) ?_
   refine AllReadyH.cons rfl (fun K hK=>?_) AllReadyH.nil
   refine wanted_of (by rfl) ?_
   refine wp_append_run _ _ 56 rfl _ _ rfl rfl Hr2.out ?_
   refine hK _ _ trivial ?_
   clear hK K
   intro _
   simp only[Act.put,List.setIfInBounds_toArray,List.set_cons_zero,List.set_cons_succ]
   refine wpAnyH_ready (rs:=[9]) (by kernel_rfl) (by simp) ?_
   refine AllReadyH.cons rfl (fun K hK=>?_) AllReadyH.nil
   go_simp
   refine hK _ _ trivial ?_
   clear hK K
   intro _
   refine wpAnyH_ready (rs:=[10]) (by kernel_rfl) (by simp) ?_
   refine AllReadyH.cons rfl (fun K hK=>?_) AllReadyH.nil
   go_simp
   refine hK _ _ trivial ?_
   clear hK K
   intro _
   refine wpAnyH_ready (rs:=[11]) (by kernel_rfl) (by simp) ?_
   refine AllReadyH.cons rfl (fun K hK=>?_) AllReadyH.nil
   go_simp
   refine hK _ _ trivial ?_
   clear hK K
   intro _
   refine wpAnyH_done (by kernel_rfl) ?_ _
   go_wp2
   go_end0
   exact⟨rfl,_,_,_,I5,hu5,tu5,cfin,rfin⟩
  ·refine AllReadyH.cons rfl (fun K hK=>?_) AllReadyH.nil
   go_simp
   refine hK _ _ trivial ?_
   clear hK K
   intro _
   refine wpAnyH_ready (rs:=[4]) (by kernel_rfl) (by simp) ?_
   refine AllReadyH.cons rfl (fun K hK=>?_) AllReadyH.nil
   go_simp
   refine hK _ _ trivial ?_
   clear hK K
   intro _
   refine wpAnyH_ready (rs:=[8]) (by kernel_rfl) (by simp) ?_
   refine AllReadyH.cons rfl (fun K hK=>?_) AllReadyH.nil
   refine wanted_of (by rfl) ?_
   refine wp_append_run _ _ 56 rfl _ _ rfl rfl Hr2.out ?_
   refine hK _ _ trivial ?_
   clear hK K
   intro _
   simp only[Act.put,List.setIfInBounds_toArray,List.set_cons_zero,List.set_cons_succ]
   refine wpAnyH_ready (rs:=[9]) (by kernel_rfl) (by simp) ?_
   refine AllReadyH.cons rfl (fun K hK=>?_) AllReadyH.nil
   go_simp
   refine hK _ _ trivial ?_
   clear hK K
   intro _
   refine wpAnyH_ready (rs:=[10]) (by kernel_rfl) (by simp) ?_
   refine AllReadyH.cons rfl (fun K hK=>?_) AllReadyH.nil
   go_simp
   refine hK _ _ trivial ?_
   clear hK K
   intro _
   refine wpAnyH_ready (rs:=[11]) (by kernel_rfl) (by simp) ?_
   refine AllReadyH.cons rfl (fun K hK=>?_) AllReadyH.nil
   go_simp
   refine hK _ _ trivial ?_
   clear hK K
   intro _
   refine wpAnyH_done (by kernel_rfl) ?_ _
   go_wp2
   go_end0
   exact⟨rfl,_,_,_,I5,hu5,tu5,cfin,rfin⟩
end Go.Proofs.YtclkgoigmgkffaaGreatDoor
namespace Go.Proofs
open Go.Shelf
def Tryz.laysM171_ren:Go.Shelf.Ren:=⟨fun | 171=>94 | 243=>171 | 246=>207 | 283=>244 | 284=>245 | 285=>246 | 286=>247 | 129=>279 | 317=>278 | 318=>280 | 319=>281 | 320=>282 | 337=>304 | 338=>291 | n=>n,fun | 3=>3 | 9=>9 | 2=>2 | 4=>4 | 171=>342 | 0=>0 | 53=>182 | 37=>129 | 5=>5 | 173=>345 | 212=>362 | 51=>256 | 20=>20 | 213=>363 | 46=>257 | 232=>384 | 233=>381 | n=>n,fun | 17=>4 | 18=>7 | 19=>6 | n=>n⟩
theorem Tryz.laysM171:Go.Proofs.LaysM.n171 Tryz.prog Tryz.laysM171_ren:={
 mixed:=by kernel_rfl
 f129:=Tryz.func279.trans (congrArg some (by kernel_rfl))
 f171:=Tryz.func94.trans (congrArg some (by kernel_rfl))
 f243:=Tryz.func171.trans (congrArg some (by kernel_rfl))
 f246:=Tryz.func207.trans (congrArg some (by kernel_rfl))
 f283:=Tryz.func244.trans (congrArg some (by kernel_rfl))
 f284:=Tryz.func245.trans (congrArg some (by kernel_rfl))
 f285:=Tryz.func246.trans (congrArg some (by kernel_rfl))
 f286:=Tryz.func247.trans (congrArg some (by kernel_rfl))
 f317:=Tryz.func278.trans (congrArg some (by kernel_rfl))
 f318:=Tryz.func280.trans (congrArg some (by kernel_rfl))
 f319:=Tryz.func281.trans (congrArg some (by kernel_rfl))
 f320:=Tryz.func282.trans (congrArg some (by kernel_rfl))
 f337:=Tryz.func304.trans (congrArg some (by kernel_rfl))
 f338:=Tryz.func291.trans (congrArg some (by kernel_rfl))
 t0:=Tryz.underlying0
 a0:=Tryz.isAgg0
 z0:=Tryz.sizeOf0
 v0:=Tryz.zeroValue0
 t2:=Tryz.underlying2
 a2:=Tryz.isAgg2
 z2:=Tryz.sizeOf2
 v2:=Tryz.zeroValue2
 t3:=Tryz.underlying3
 a3:=Tryz.isAgg3
 z3:=Tryz.sizeOf3
 v3:=Tryz.zeroValue3
 t4:=Tryz.underlying4
 a4:=Tryz.isAgg4
 z4:=Tryz.sizeOf4
 v4:=Tryz.zeroValue4
 t5:=Tryz.underlying5
 a5:=Tryz.isAgg5
 z5:=Tryz.sizeOf5
 v5:=Tryz.zeroValue5
 t9:=Tryz.underlying9
 a9:=Tryz.isAgg9
 z9:=Tryz.sizeOf9
 v9:=Tryz.zeroValue9
 t20:=Tryz.underlying20
 a20:=Tryz.isAgg20
 z20:=Tryz.sizeOf20
 v20:=Tryz.zeroValue20
 t37:=Tryz.underlying129
 a37:=Tryz.isAgg129
 z37:=Tryz.sizeOf129
 v37:=Tryz.zeroValue129
 t46:=Tryz.underlying257
 a46:=Tryz.isAgg257
 z46:=Tryz.sizeOf257
 v46:=Tryz.zeroValue257
 t51:=Tryz.underlying256
 a51:=Tryz.isAgg256
 z51:=Tryz.sizeOf256
 v51:=Tryz.zeroValue256
 t53:=Tryz.underlying182
 a53:=Tryz.isAgg182
 z53:=Tryz.sizeOf182
 v53:=Tryz.zeroValue182
 t171:=Tryz.underlying342
 a171:=Tryz.isAgg342
 z171:=Tryz.sizeOf342
 v171:=Tryz.zeroValue342
 t173:=Tryz.underlying345
 a173:=Tryz.isAgg345
 z173:=Tryz.sizeOf345
 v173:=Tryz.zeroValue345
 t212:=Tryz.underlying362
 a212:=Tryz.isAgg362
 z212:=Tryz.sizeOf362
 v212:=Tryz.zeroValue362
 t213:=Tryz.underlying363
 a213:=Tryz.isAgg363
 z213:=Tryz.sizeOf363
 t232:=Tryz.underlying384
 a232:=Tryz.isAgg384
 z232:=Tryz.sizeOf384
 v232:=Tryz.zeroValue384
 t233:=Tryz.underlying381
 a233:=Tryz.isAgg381
 z233:=Tryz.sizeOf381
 v233:=Tryz.zeroValue381
 g17:=by kernel_rfl
 g18:=by kernel_rfl
 g19:=by kernel_rfl
 i0:=by kernel_rfl
 i2:=by kernel_rfl
 i3:=by kernel_rfl
 i4:=by kernel_rfl
 i5:=by kernel_rfl
 i9:=by kernel_rfl
 i20:=by kernel_rfl
 i37:=by kernel_rfl
 i46:=by kernel_rfl
 i51:=by kernel_rfl
 i53:=by kernel_rfl
 i171:=by kernel_rfl
 i173:=by kernel_rfl
 i212:=by kernel_rfl
 i232:=by kernel_rfl
 i233:=by kernel_rfl
 m17:=by kernel_rfl
 m18:=by kernel_rfl
 m19:=by kernel_rfl }
end Go.Proofs
namespace Go.Proofs.YtclkgoigmgkffaaGreatDoor
open Go.RowKit
def powName : String := Rows.packsUptoRow.named.getD 4 ""
def PowTab (w:World):Prop:=Lib.TabIs Tryz.prog w powName .u64 Lib.pow10Tab
theorem PowTab.fr {w w':World} (h:PowTab w) (hf:Fr [] w w'):PowTab w':=Lib.tabBelow_of_tabIs h w' (hf.below (Nat.le_refl _) (by simp))
theorem fr_grow (w:World) (k:Nat) (os:Array Obj):Fr [] w (Go.Sort.grow (w.drewN k) os):=
 ⟨rfl,rfl,rfl,by simp[Go.Sort.grow,World.drewN],fun i hi _=>by simp only[Go.Sort.grow,World.drewN];exact Array.getElem?_append_left hi⟩
theorem itoa_any (n:Int) (w:World) (h0:-9223372036854775808≤n) (h1:n≤9223372036854775807) (ht:PowTab w) :
  Calls Tryz.prog 94 #[.int .i64 n] w fun e w'=>∃ s:ByteArray,s.size≤21∧e=.returned (.string s)∧Fr [] w w':=
 (Any.strconv_Itoa Tryz.laysM171 n h0 h1 w ht).mono fun e w' ⟨he,k,os,hw⟩=>⟨_,by have:=Lib.itoa_length_le n h0 h1;simpa [ByteArray.size] using this,he,by rw[hw];exact fr_grow w k os⟩
end Go.Proofs.YtclkgoigmgkffaaGreatDoor
