/-
  Texts Cd Ce Cf Cg.
-/
import Derived.Test.YtgpamchpeamnfaaGreatDoorMA
import Derived.Test.YtgpamchpeamnfaaGreatDoorM00
import Derived.Test.YtgpamchpeamnfaaGreatDoorM26
import Derived.Test.YtgpamchpeamnfaaGreatDoorM24
set_option linter.unusedSimpArgs false
set_option linter.unusedVariables false
set_option maxRecDepth 100000
set_option maxHeartbeats 40000000
open _root_.Go.Proofs.Tryz
namespace Go.Proofs.YtgpamchpeamnfaaGreatDoor
open Go.RowKit
open Wire Flow Mach
theorem bFj:(prog.info? 123).map (fun i=>(i.zero,i.size,i.bytes))=some (some (.agg #[.bool false,.int .i64 0,.int .i64 0,.string ⟨#[]⟩,.int .i64 0,.slice none 0 0]),6,72):=by kernel_rfl
theorem oQ (w:World)(vs:Array Value)(t:TypeId):∀ j u,vs.toList[j]?=some u→(w.alloc (.cells vs t)).cell? ((⟨w.heap.size,0,none⟩:Addr).add j)=some u:=by
 intro j u hj
 rw[iB]
 unfold World.cell?
 rw[wan w (.cells vs t)]
 simpa using hj
def bIc (w0:World) (X:Nat) (m:Mo) (lv:Nat→Bool) (sz O:Nat→Nat) (C:Nat→Nat→Value) (K:Value→Prop) (st:Int) (us:Nat) (fs:List FrV) (x:FrV) (kk:List (List UInt8)) (ks:List UInt8) (tag:Nat→Nat) (W:World) (e:Ending) (W':World):Prop:=
 e=.returned (.tuple #[])∧∃ tag' R' sv,MS w0 W' X m tag' lv R' sz O C K st us (fs++[{ x with sv:=sv }]) (kk++[ks])∧Kp tag tag' W W'
theorem aOt (w0 W:World)(X:Nat)(m:Mo)(tag:Nat→Nat)(lv:Nat→Bool)(R:Nat→Rw)(sz O:Nat→Nat)(C:Nat→Nat→Value)(K:Value→Prop)(st:Int)(us:Nat)(fs:List FrV)(x:FrV)(kk:List (List UInt8))(ks:List UInt8)(k:UInt8)(l:Bool)(d n:Int)(s:ByteArray)(a:Int)(o:Option Addr)(p q:Nat)(h:MS w0 W X m tag lv R sz O C K st us (fs++[x]) (kk++[ks]))(hc:zQ m.arrs.toNat K k [.bool l,.int .i64 d,.int .i64 n,.string s,.int .i64 a,.slice o p q])(hk:ks.length<1024) :
  Calls prog 71 #[.pointer (some ⟨X,0,none⟩),.agg #[.bool l,.int .i64 d,.int .i64 n,.string s,.int .i64 a,.slice o p q]] W (bIc w0 X m lv sz O C K st us fs x kk (ks++[k]) tag W):=by
 have hm:prog.follows Departure.mixedOrders=true:=by kernel_rfl
 obtain⟨i0,hi,hz0,hz1,hz2⟩:=info_parts bFj
 obtain⟨s1,s2,xs,s3,s4⟩:=h.top.s
 obtain⟨l4,r4⟩:=h.fr
 have row4:=h.S.row l4 r4
 have rowS:=h.S.row s1 s3
 simp only[Lla,List.length_cons,List.length_nil,Nat.zero_add] at row4 r4
 obtain⟨g4,c4,e4,hc4,hg4⟩:=fG row4.own (by omega)
 obtain⟨so,sc,es⟩:=iF rowS.own
 have hj:fs.length≤21:=by have:=h.ln.2;simp at this;omega
 have hX:=h.B.x
 obtain⟨W1,hW1⟩:=eX (W.alloc (.cells #[.bool l,.int .i64 d,.int .i64 n,.string s,.int .i64 a,.slice o p q] 123))
 have F1:Fr [] W W1:=by rw[← hW1];exact (Fr.refl [] W).alloc _
 have k1:=wan W (.cells #[.bool l,.int .i64 d,.int .i64 n,.string s,.int .i64 a,.slice o p q] 123)
 rw[hW1] at k1
 have hl1:=(Age.1 k1).1
 have r4':=r4
 rw[e4] at r4'
 have hP:∀ w,Fr [] W1 w→(fun w1:World=>w1.cell? ⟨g4,fs.length*4+3,none⟩=some (.slice so ks.length sc)∧w1.cell? ⟨W.heap.size,0,none⟩=some (.bool l)∧w1.cell? ⟨W.heap.size,1,none⟩=some (.int .i64 d)∧w1.cell? ⟨W.heap.size,2,none⟩=some (.int .i64 n)∧w1.cell? ⟨W.heap.size,3,none⟩=some (.string s)∧w1.cell? ⟨W.heap.size,4,none⟩=some (.int .i64 a)∧w1.cell? ⟨W.heap.size,5,none⟩=some (.slice o p q)) w:=fun w hw=>by
  have e:∀ t,w.cell? ⟨W.heap.size,t,none⟩=(#[.bool l,.int .i64 d,.int .i64 n,.string s,.int .i64 a,.slice o p q]:Array Value)[t]?:=fun t=>(hw.cell (p:=⟨W.heap.size,t,none⟩) hl1 (by simp)).trans (by unfold World.cell?;rw[k1];rfl)
  exact⟨bV ((h.S.frm (F1.trans hw)).row l4 r4').own (by rw[aEe _ fs.length 3 x (by simp) (by decide),← es];rfl),by rw[e];rfl,by rw[e];rfl,by rw[e];rfl,by rw[e];rfl,by rw[e];rfl,by rw[e];rfl⟩
 have f0:W1.cell? ⟨X,8,none⟩=some (.slice (some ⟨g4,0,none⟩) (fs.length+1) c4):=by rw[← hX.1,(h.S.frm F1).oc (i:=0) (j:=8) (by rw[hX.2.1];decide),e4]
 obtain⟨WD,hWD⟩:=eX (W1.drew.drew)
 have FD:Fr [] W1 WD:=by rw[← hWD];exact (Fr.refl [] W1).drew.drew
 obtain⟨W3,hW3⟩:=eX (WD.alloc (.cells #[.bool l,.int .i64 d,.int .i64 n,.string s,.int .i64 a,.slice o p q] 123))
 have F3:Fr [] WD W3:=by rw[← hW3];exact (Fr.refl [] WD).alloc _
 have F03:Fr [] W W3:=(F1.trans FD).trans F3
 have hnews:=oQ WD #[.bool l,.int .i64 d,.int .i64 n,.string s,.int .i64 a,.slice o p q] 123
 rw[hW3] at hnews
 have own3:=((h.S.frm F03).row s1 s3).own
 rw[es] at own3
 obtain⟨v',W4,hr4,hown',hgrow,-,hwh⟩:=run_append_own_at (P:=prog) W3 w0.heap.size 87 87 123 i0 _ 6 72 underlying87 hi hz0 hz1 hz2 rfl (by decide) _ _ _ own3 ⟨WD.heap.size,0,none⟩ 1 1 [.bool l,.int .i64 d,.int .i64 n,.string s,.int .i64 a,.slice o p q] rfl hnews (by intro u hu;simp at hu;rcases hu with rfl | rfl | rfl | rfl | rfl | rfl <;> rfl) (by unfold maxLen;omega) (by omega) (h.S.fr.trans F03).size
 obtain⟨vo,vc,rfl⟩:=iF hown'
 have S4:=(h.S.frm F03).grow (i:=10+2*fs.length) s1 hown' (by rw[s3];show W3.grownBy W4 x.sv.ownBlock;rw[es];exact hgrow) (by rw[s3];show _=x.sv.ownBlock∨_;rw[es];exact hwh)
 have S5:=S4.put (i:=4) l4 (by rw[aJ _ _ (by omega)];exact r4') (j:=fs.length*4+3) (by omega) (.slice vo (ks.length+1) vc)
 have c5:W4.cell? ⟨g4,fs.length*4+3,none⟩=some (.slice so ks.length sc):=bV (S4.row l4 (by rw[aJ _ _ (by omega)];exact r4')).own (by rw[aEe _ fs.length 3 x (by simp) (by decide),← es];rfl)
 have z5:W4.frozen? ⟨g4,fs.length*4+3,none⟩=false:=pB (S4.row l4 (by rw[aJ _ _ (by omega)];exact r4')).own _
 rw[aEd _ fs.length 3 x { x with sv:=.slice vo (ks.length+1) vc } (by simp) (by decide) _ rfl,List.set_append_right _ _ (Nat.le_refl _),Nat.sub_self,List.set_cons_zero,← e4] at S5
 have hlen:(ks++[k]).length=ks.length+1:=by simp
 rw[← hlen] at S5
 have h5:=h.restack S5 (s4.push hc) (by rw[hlen];omega)
 rw[hlen] at h5
 have tg4:aM tag W3.heap.size (10+2*fs.length) g4≠6:=by rw[aI (by have:=F03.size;omega),(h.S.row l4 r4').tg g4 rfl];decide
 have kp3:Kp tag (aM tag W3.heap.size (10+2*fs.length)) W W3:=Kp.of_fr F03 (fun k hk=>aI (by have:=F03.size;omega))
 have kp4:Kp tag (aM tag W3.heap.size (10+2*fs.length)) W W4:=⟨Nat.le_trans kp3.size hgrow.size,kp3.ret,fun k hk ht=>(hgrow.block k (Nll hk kp3.size) (fun e=>by have:=rowS.tg k (by rw[es];exact e.symm);omega)).trans (kp3.blk k hk ht)⟩
 have HZ:Hid _:=AI h5 (kp4.trans (Kp.set (j:=fs.length*4+3) (v:=.slice vo (ks.length+1) vc) tg4))
 have HP:Hid _:=AI hP (AI FD F3)
 have Hr4:Hid _:=hr4
 obtain⟨d0,d1,d2,d3,d4,d5,d6⟩:=hP WD FD
 have p3:=(hP W3 (FD.trans F3)).1
 clear h5 tg4 kp3 kp4 h hc s1 s2 s3 s4 row4 rowS own3 r4 r4' l4 k1 hl1 F1 F03 hP S4 S5 hown' hgrow hwh hr4 hnews hX e4 es hlen FD F3
 generalize fs.length=j at *
 generalize ks.length=i at *
 have g2:¬ ((1024:Int)≤i):=by omega
 go_enter func71,ntmps71
 go_wp2
 go_region
 have pd:=(HP.out.1 W1.drew (Fr.refl [] W1).drew)
 have f1:=pd.1
 clear pd
 go_wp2
 refine aE (fun _=>True) hm ?_
 rw[hWD]
 have hS:(fun _:World=>True) WD:=trivial
 refine aH (fun _ _ _ _ _ h=>h) hS [0,1,2,3] (by kernel_rfl) ?_
 iterate 4
  refine Yls.cons (v:=?_) rfl (.inl ⟨rfl,fun w1 hS1=>?_⟩) ?_
  rotate_left
  ·have q1:=hS1
   go_simp
   first | rfl | (refine (if_neg (by omega)).trans ?_;rfl)
  simp only[Act.put,Z1,Z2,Z3,Z4,Z5,Z6]
 refine Yls.nil ?_
 refine wpAnyH_ready (rs:=[4,5]) (by kernel_rfl) (by simp) ?_
 refine (AllReadyH.cons rfl (fun K hK=>?_) (AllReadyH.cons rfl (fun K hK=>?_) AllReadyH.nil))
 ·go_simp
  refine hK _ _ trivial ?_
  clear hK K
  intro _
  try simp only[Act.put,Z1,Z2,Z3,Z4,Z5,Z6]
  refine rd1 (r:=5) (by kernel_rfl) rfl fun K hK=>?_
  go_simp
  refine hK _ _ trivial ?_
  clear hK K
  intro _
  try simp only[Act.put,Z1,Z2,Z3,Z4,Z5,Z6]
  refine rd1 (r:=6) (by kernel_rfl) rfl fun K hK=>?_
  go_simp
  refine hK _ _ trivial ?_
  clear hK K
  intro _
  try simp only[Act.put,Z1,Z2,Z3,Z4,Z5,Z6]
  refine rd1 (r:=7) (by kernel_rfl) rfl fun K hK=>?_
  refine cF (.tmp 29) (.tmp 31) 87 rfl _ _ _ rfl rfl Hr4.out ?_
  refine hK _ _ trivial ?_
  clear hK K
  intro _
  try simp only[Act.put,Z1,Z2,Z3,Z4,Z5,Z6]
  refine aH (fun _ _ _ _ _ h=>h) hS [8,9] (by kernel_rfl) ?_
  iterate 2
   refine Yls.cons (v:=?_) rfl (.inl ⟨rfl,fun w1 hS1=>?_⟩) ?_
   rotate_left
   ·have q1:=hS1
    go_simp
    first | rfl | (refine (if_neg (by omega)).trans ?_;rfl)
   simp only[Act.put,Z1,Z2,Z3,Z4,Z5,Z6]
  refine Yls.nil ?_
  refine rd1 (r:=10) (by kernel_rfl) rfl fun K hK=>?_
  go_simp
  refine hK _ _ trivial ?_
  clear hK K
  intro _
  try simp only[Act.put,Z1,Z2,Z3,Z4,Z5,Z6]
  refine wpAnyH_done (by kernel_rfl) ?_ _
  go_wp2
  go_end0
  exact⟨rfl,_,_,_,HZ.out.1,HZ.out.2⟩
 ·go_simp
  refine hK _ _ trivial ?_
  clear hK K
  intro _
  try simp only[Act.put,Z1,Z2,Z3,Z4,Z5,Z6]
  refine wpAnyH_ready (rs:=[4,6]) (by kernel_rfl) (by simp) ?_
  refine (AllReadyH.cons rfl (fun K hK=>?_) (AllReadyH.cons rfl (fun K hK=>?_) AllReadyH.nil))
  ·go_simp
   refine hK _ _ trivial ?_
   clear hK K
   intro _
   try simp only[Act.put,Z1,Z2,Z3,Z4,Z5,Z6]
   refine rd1 (r:=6) (by kernel_rfl) rfl fun K hK=>?_
   go_simp
   refine hK _ _ trivial ?_
   clear hK K
   intro _
   try simp only[Act.put,Z1,Z2,Z3,Z4,Z5,Z6]
   refine rd1 (r:=7) (by kernel_rfl) rfl fun K hK=>?_
   refine cF (.tmp 29) (.tmp 31) 87 rfl _ _ _ rfl rfl Hr4.out ?_
   refine hK _ _ trivial ?_
   clear hK K
   intro _
   try simp only[Act.put,Z1,Z2,Z3,Z4,Z5,Z6]
   refine aH (fun _ _ _ _ _ h=>h) hS [8,9] (by kernel_rfl) ?_
   iterate 2
    refine Yls.cons (v:=?_) rfl (.inl ⟨rfl,fun w1 hS1=>?_⟩) ?_
    rotate_left
    ·have q1:=hS1
     go_simp
     first | rfl | (refine (if_neg (by omega)).trans ?_;rfl)
    simp only[Act.put,Z1,Z2,Z3,Z4,Z5,Z6]
   refine Yls.nil ?_
   refine rd1 (r:=10) (by kernel_rfl) rfl fun K hK=>?_
   go_simp
   refine hK _ _ trivial ?_
   clear hK K
   intro _
   try simp only[Act.put,Z1,Z2,Z3,Z4,Z5,Z6]
   refine wpAnyH_done (by kernel_rfl) ?_ _
   go_wp2
   go_end0
   exact⟨rfl,_,_,_,HZ.out.1,HZ.out.2⟩
  ·go_simp
   refine hK _ _ trivial ?_
   clear hK K
   intro _
   try simp only[Act.put,Z1,Z2,Z3,Z4,Z5,Z6]
   refine rd1 (r:=4) (by kernel_rfl) rfl fun K hK=>?_
   go_simp
   refine hK _ _ trivial ?_
   clear hK K
   intro _
   try simp only[Act.put,Z1,Z2,Z3,Z4,Z5,Z6]
   refine rd1 (r:=7) (by kernel_rfl) rfl fun K hK=>?_
   refine cF (.tmp 29) (.tmp 31) 87 rfl _ _ _ rfl rfl Hr4.out ?_
   refine hK _ _ trivial ?_
   clear hK K
   intro _
   try simp only[Act.put,Z1,Z2,Z3,Z4,Z5,Z6]
   refine aH (fun _ _ _ _ _ h=>h) hS [8,9] (by kernel_rfl) ?_
   iterate 2
    refine Yls.cons (v:=?_) rfl (.inl ⟨rfl,fun w1 hS1=>?_⟩) ?_
    rotate_left
    ·have q1:=hS1
     go_simp
     first | rfl | (refine (if_neg (by omega)).trans ?_;rfl)
    simp only[Act.put,Z1,Z2,Z3,Z4,Z5,Z6]
   refine Yls.nil ?_
   refine rd1 (r:=10) (by kernel_rfl) rfl fun K hK=>?_
   go_simp
   refine hK _ _ trivial ?_
   clear hK K
   intro _
   try simp only[Act.put,Z1,Z2,Z3,Z4,Z5,Z6]
   refine wpAnyH_done (by kernel_rfl) ?_ _
   go_wp2
   go_end0
   exact⟨rfl,_,_,_,HZ.out.1,HZ.out.2⟩
structure Ev where
 w0:World
 X:Nat
 m:Mo
 lv:Nat→Bool
 sz:Nat→Nat
 O:Nat→Nat
 C:Nat→Nat→Value
 K:Value→Prop
 st:Int
 us:Nat
 fs:List FrV
 x:FrV
 kk:List (List UInt8)
def MT (E:Ev) (ks:List UInt8) (tag:Nat→Nat) (W:World):Prop:=
 ∃ R sv,MS E.w0 W E.X E.m tag E.lv R E.sz E.O E.C E.K E.st E.us (E.fs++[{ E.x with sv:=sv }]) (E.kk++[ks])
def MK (E:Ev) (ks:List UInt8) (tag:Nat→Nat) (W W':World):Prop:=∃ tag',MT E ks tag' W'∧Kp tag tag' W W'
abbrev clV (l:Bool) (d n:Int) (s:ByteArray) (a:Int) (v:Value):Value:=.agg #[.bool l,.int .i64 d,.int .i64 n,.string s,.int .i64 a,v]
abbrev vlV (d n:Int) (s:ByteArray):Value:=.agg #[.int .i64 d,.int .i64 n,.string s]
abbrev ptr (X:Nat):Value:=.pointer (some ⟨X,0,none⟩)
theorem MT.frm {E:Ev}{ks:List UInt8}{tag:Nat→Nat}{W W':World} (h:MT E ks tag W) (hf:Fr [] W W'):MT E ks (aM tag W.heap.size 6) W':=by
 obtain⟨R,sv,h⟩:=h
 exact⟨R,sv,(h.S.re (fun k hk=>aI hk)).frm hf,h.B,h.fr,h.ln,h.each⟩
theorem MT.fr {E:Ev}{ks:List UInt8}{tag:Nat→Nat}{W:World} (h:MT E ks tag W):Fr [] E.w0 W:=by
 obtain⟨R,sv,h⟩:=h
 exact h.S.fr
theorem MT.w6 {E:Ev}{ks:List UInt8}{tag:Nat→Nat}{W W':World}{g:Nat} (h:MT E ks tag W) (hg:tag g=6) (hf:Fr [g] W W'):MT E ks tag W':=by
 obtain⟨R,sv,h⟩:=h
 exact⟨R,sv,h.S.out6 ⟨hf.os,hf.tape,hf.output,hf.size,fun k hk hn=>hf.block k hk (by simp at hn ⊢;rintro rfl;exact hn hg)⟩,h.B,h.fr,h.ln,h.each⟩
theorem Kp.frm {tag tag':Nat→Nat}{a b c:World} (h:Kp tag tag' a b) (hf:Fr [] b c):Kp tag (aM tag' b.heap.size 6) a c:=h.trans (Kp.of_fr hf (fun k hk=>aI hk))
theorem Kp.w6 {tag tag':Nat→Nat}{a b c:World}{g:Nat} (h:Kp tag tag' a b) (hf:Fr [g] b c) (hg:a.heap.size≤g):Kp tag tag' a c:=
 ⟨Nat.le_trans h.size hf.size,h.ret,fun k hk ht=>(hf.block k (Nll hk h.size) (by simp;omega)).trans (h.blk k hk ht)⟩
theorem MK.frm {E:Ev}{ks:List UInt8}{tag:Nat→Nat}{W W' W2:World} (h:MK E ks tag W W') (hf:Fr [] W' W2):MK E ks tag W W2:=by
 obtain⟨tag',h,k⟩:=h
 exact⟨_,h.frm hf,k.frm hf⟩
theorem MK.then_ {E:Ev}{ks:List UInt8}{t1 t2:Nat→Nat}{a b c:World} (k:Kp t1 t2 a b) (h:MK E ks t2 b c):MK E ks t1 a c:=by
 obtain⟨t3,h,k'⟩:=h
 exact⟨t3,h,k.trans k'⟩
def bId (E:Ev) (ks:List UInt8) (k:UInt8) (tag:Nat→Nat) (W:World) (e:Ending) (W':World):Prop:=
 ∃ (l:Bool) (d n:Int) (s:ByteArray) (a:Int) (o:Option Addr) (p q:Nat),e=.returned (clV l d n s a (.slice o p q))∧zQ E.m.arrs.toNat E.K k [.bool l,.int .i64 d,.int .i64 n,.string s,.int .i64 a,.slice o p q]∧MK E ks tag W W'
theorem bBk (E:Ev)(ks:List UInt8)(k:UInt8)(tag:Nat→Nat)(W:World)(h:MT E (ks++[k]) tag W):Calls prog 58 #[ptr E.X] W (bId E ks k tag W):=by
 obtain⟨R,sv,h⟩:=h
 refine (aSs _ _ _ _ _ _ _ _ _ _ _ _ _ _ _ _ _ _ h).mono ?_
 rintro e W' ⟨l,d,n,s,a,o,p,q,he,hc,tag',R',sv',h',hk⟩
 exact⟨l,d,n,s,a,o,p,q,he,hc,tag',⟨R',sv',h'⟩,hk⟩
def bDu (E:Ev) (ks:List UInt8) (tag:Nat→Nat) (W:World) (e:Ending) (W':World):Prop:=e=.returned (.tuple #[])∧MK E ks tag W W'
theorem bAd (E:Ev)(ks:List UInt8)(k:UInt8)(tag:Nat→Nat)(W:World)(l:Bool)(d n:Int)(s:ByteArray)(a:Int)(o:Option Addr)(p q:Nat)(h:MT E ks tag W)(hc:zQ E.m.arrs.toNat E.K k [.bool l,.int .i64 d,.int .i64 n,.string s,.int .i64 a,.slice o p q])(hk:ks.length<1024) :
  Calls prog 71 #[ptr E.X,clV l d n s a (.slice o p q)] W (bDu E (ks++[k]) tag W):=by
 obtain⟨R,sv,h⟩:=h
 refine (aOt _ _ _ _ _ _ _ _ _ _ _ _ _ _ _ _ _ k l d n s a o p q h hc hk).mono ?_
 rintro e W' ⟨he,tag',R',sv',h',hk'⟩
 exact⟨he,tag',⟨R',sv',h'⟩,hk'⟩
theorem aWf {na:Nat}{K:Value→Prop}{k:UInt8}{d n:Int}{s:ByteArray} (hm:Flow.Met k) (h:aAp k d n s):zQ na K k [.bool false,.int .i64 d,.int .i64 n,.string s,.int .i64 0,.slice none 0 0]:=
 ⟨hm,false,d,n,s,0,none,0,0,rfl,h.1,fun e=>absurd e h.2.2.2,fun _=>rfl,h.2.1,h.2.2.1⟩
theorem bGz (E:Ev)(ks:List UInt8)(k:UInt8)(tag:Nat→Nat)(W:World)(d n:Int)(s:ByteArray)(h:MT E ks tag W)(hm:Flow.Met k)(hc:aAp k d n s)(hk:ks.length<1024) :
  Calls prog 54 #[ptr E.X,vlV d n s] W (bDu E (ks++[k]) tag W):=by
 have HP:Hid _:=fun (W':World) (hf:Fr [] W W')=>bAd E ks k _ W' false d n s 0 none 0 0 (h.frm hf) (aWf hm hc) hk
 have HK:Hid _:=fun (W':World) (hf:Fr [] W W')=>Kp.of_fr (tag:=tag) (tag':=aM tag W.heap.size 6) hf (fun k hk=>aI hk)
 clear h hm hc hk
 go_enter func54,ntmps54
 go_wp2_with fail
 refine (HP.out _ ((Fr.refl [] W).alloc _)).mono ?_
 rintro e W2 ⟨rfl,h2⟩
 have h3:=MK.then_ (HK.out _ ((Fr.refl [] W).alloc _)) h2
 clear HP HK h2
 go_wp2
 go_end0
 exact⟨rfl,h3⟩
def bHt (E:Ev) (ks:List UInt8) (k:UInt8) (tag:Nat→Nat) (W:World) (e:Ending) (W':World):Prop:=∃ (d n:Int) (s:ByteArray),e=.returned (vlV d n s)∧aAp k d n s∧MK E ks tag W W'
theorem aKf (E:Ev)(ks:List UInt8)(k:UInt8)(tag:Nat→Nat)(W:World)(h:MT E (ks++[k]) tag W)(hk:k≠107):Calls prog 57 #[ptr E.X] W (bHt E ks k tag W):=by
 obtain⟨W1,hW1⟩:=eX (W.alloc (.cells #[.int .i64 0,.int .i64 0,.string ⟨#[]⟩] 118))
 have F1:Fr [] W W1:=by rw[← hW1];exact (Fr.refl [] W).alloc _
 have k1:=wan W (.cells #[.int .i64 0,.int .i64 0,.string ⟨#[]⟩] 118)
 rw[hW1] at k1
 have hl1:=(Age.1 k1).1
 have HP:Hid _:=fun (_:Unit)=>bBk E ks k _ W1 (h.frm F1)
 have HK:Hid _:=AI (Kp.of_fr (tag:=tag) (tag':=aM tag W.heap.size 6) F1 (fun k hk=>aI hk)) (AI k1 hl1)
 clear h F1 k1 hl1
 go_enter func57,ntmps57
 go_wp2_with fail
 refine (HP.out ()).mono ?_
 rintro e W2 ⟨l,d,n,s,a,o,p,q,rfl,hc,tag2,hM,kp⟩
 obtain⟨hm,l',d',n',s',a',o',p',q',hh,hs,-,hk2,hk3,hk4⟩:=hc
 simp only[List.cons.injEq,Value.bool.injEq,Value.int.injEq,Value.string.injEq,Value.slice.injEq,true_and,and_true] at hh
 obtain⟨rfl,rfl,rfl,rfl,rfl,rfl,rfl,rfl⟩:=hh
 obtain rfl:l=false:=hk2 hk
 obtain⟨K1,k1,hl1⟩:=HK.out
 obtain⟨W3,hW3⟩:=eX (W2.alloc (.cells #[.bool false,.int .i64 d,.int .i64 n,.string s,.int .i64 a,.slice o p q] 123))
 have F3:Fr [] W2 W3:=by rw[← hW3];exact (Fr.refl [] W2).alloc _
 have k3:=wan W2 (.cells #[.bool false,.int .i64 d,.int .i64 n,.string s,.int .i64 a,.slice o p q] 123)
 rw[hW3] at k3
 have e3:∀ t,W3.cell? ⟨W2.heap.size,t,none⟩=(#[.bool false,.int .i64 d,.int .i64 n,.string s,.int .i64 a,.slice o p q]:Array Value)[t]?:=fun t=>by unfold World.cell?;rw[k3];rfl
 have b0:=e3 0
 have b1:=e3 1
 have b2:=e3 2
 have b3:=e3 3
 simp at b0 b1 b2 b3
 have kA:W3.heap[W.heap.size]?=some (.cells #[.int .i64 0,.int .i64 0,.string ⟨#[]⟩] 118):=(F3.block _ (by have:=kp.size;omega) (by simp)).trans ((kp.blk _ hl1 (cX (Nat.le_refl _))).trans k1)
 have eA:∀ t,W3.cell? ⟨W.heap.size,t,none⟩=(#[.int .i64 0,.int .i64 0,.string ⟨#[]⟩]:Array Value)[t]?:=fun t=>by unfold World.cell?;rw[kA];rfl
 have zA:∀ t,W3.frozen? ⟨W.heap.size,t,none⟩=false:=fun t=>by unfold World.frozen?;rw[kA];simp
 have a0:=eA 0
 have a1:=eA 1
 have a2:=eA 2
 simp at a0 a1 a2
 have y0:=zA 0
 have y1:=zA 1
 have y2:=zA 2
 have PC:=rI W.heap.size 0 [.int .i64 d,.int .i64 n,.string s] W3 (fun t ht=>⟨_,by rw[Nat.zero_add,eA];exact Array.getElem?_eq_getElem (by simpa using ht)⟩)
 have PF:=uK W.heap.size 0 [.int .i64 d,.int .i64 n,.string s] W3
 have q0:=PC 0 _ rfl
 have q1:=PC 1 _ rfl
 have q2:=PC 2 _ rfl
 simp only[Nat.zero_add] at q0 q1 q2
 have tA:aM tag2 W2.heap.size 6 W.heap.size=6:=by rw[aI (by have:=kp.size;omega),kp.ret _ hl1];exact cX (Nat.le_refl _)
 have Z:MK E ks tag W (oA W.heap.size 0 [.int .i64 d,.int .i64 n,.string s] W3):=⟨_,(hM.frm F3).w6 tA PF,((K1.trans kp).frm F3).w6 PF (Nat.le_refl _)⟩
 obtain⟨PW,hPW⟩:=eX (((W3.setCell ⟨W.heap.size,0,none⟩ (.int .i64 d)).setCell ⟨W.heap.size,1,none⟩ (.int .i64 n)).setCell ⟨W.heap.size,2,none⟩ (.string s))
 have hPL:oA W.heap.size 0 [.int .i64 d,.int .i64 n,.string s] W3=PW:=hPW
 rw[hPL] at q0 q1 q2 Z
 have HZ:Hid _:=AI Z (show aAp k d n s from ⟨hs,hk3,hk4,hk⟩)
 clear hPL Z PC PF tA eA zA kA e3 k3 hM kp F3 K1 k1 hl1 hm hs hk2 hk3 hk4 HP HK
 go_wp2
 refine bodyPost_ret (v:=vlV d n s) (by simp[results,results57,go_sem,q0,q1,q2]) rfl ?_
 exact⟨d,n,s,rfl,HZ.out.2,HZ.out.1⟩
def bIh (E:Ev) (ks:List UInt8) (tag:Nat→Nat) (W:World) (e:Ending) (W':World):Prop:=∃ n:Int,e=.returned (.int .i64 n)∧(-9223372036854775808≤n∧n≤9223372036854775807)∧MK E ks tag W W'
def bHu (E:Ev) (ks:List UInt8) (tag:Nat→Nat) (W:World) (e:Ending) (W':World):Prop:=∃ s:ByteArray,e=.returned (.string s)∧s.size≤1048576∧MK E ks tag W W'
theorem aXy (E:Ev)(ks:List UInt8)(tag:Nat→Nat)(W:World)(h:MT E (ks++[110]) tag W):Calls prog 59 #[ptr E.X] W (bIh E ks tag W):=by
 have HP:Hid _:=fun (_:Unit)=>aKf E ks 110 tag W h (by decide)
 clear h
 go_enter func59,ntmps59
 go_wp2_with fail
 refine (HP.out ()).mono ?_
 rintro e W2 ⟨d,n,s,rfl,hv,hM⟩
 obtain rfl:d=1:=hv.2.1 rfl
 have HM:Hid _:=AI (fun (W3:World) (hf:Fr [] W2 W3)=>hM.frm hf) hv.1.2
 clear hM hv HP
 go_wp2
 go_ret
 exact⟨n,rfl,HM.out.2,HM.out.1 _ ((Fr.refl [] W2).alloc _)⟩
theorem bEk (E:Ev)(ks:List UInt8)(tag:Nat→Nat)(W:World)(h:MT E (ks++[116]) tag W):Calls prog 66 #[ptr E.X] W (bHu E ks tag W):=by
 have HP:Hid _:=fun (_:Unit)=>aKf E ks 116 tag W h (by decide)
 clear h
 go_enter func66,ntmps66
 go_wp2_with fail
 refine (HP.out ()).mono ?_
 rintro e W2 ⟨d,n,s,rfl,hv,hM⟩
 obtain rfl:d=2:=hv.2.2.1 rfl
 have HM:Hid _:=AI (fun (W3:World) (hf:Fr [] W2 W3)=>hM.frm hf) hv.1.1
 clear hM hv HP
 go_wp2
 go_ret
 exact⟨s,rfl,HM.out.2,HM.out.1 _ ((Fr.refl [] W2).alloc _)⟩
def Ev.sts (E:Ev) (s:Int):Ev:={ E with C:=upC E.C 0 9 (.int .i64 s),st:=s }
theorem MB.sts {w0:World}{X:Nat}{m:Mo}{lv:Nat→Bool}{R:Nat→Rw}{sz O:Nat→Nat}{C:Nat→Nat→Value}{st:Int}{us:Nat} (B:MB w0 X m lv R sz O C st us) (s:Int):MB w0 X m lv R sz O (upC C 0 9 (.int .i64 s)) s us:=by
 have e:∀ i j,¬ (i=0∧j=9)→upC C 0 9 (.int .i64 s) i j=C i j:=fun i j h=>bJ C _ h
 have e0:∀ j,j≠9→upC C 0 9 (.int .i64 s) 0 j=C 0 j:=fun j h=>e 0 j (by omega)
 have e1:∀ j,upC C 0 9 (.int .i64 s) 1 j=C 1 j:=fun j=>e 1 j (by omega)
 refine⟨B.x,?_,?_,?_,?_,fun j hj=>?_,?_,?_,?_,fS _ _ _ _,?_,?_,?_,B.ah⟩
 ·rw[e0 0 (by decide),e0 1 (by decide),e0 2 (by decide),e0 3 (by decide),e0 4 (by decide)];exact B.md
 ·rw[e0 5 (by decide)];exact B.w
 ·rw[e0 6 (by decide)];exact B.gl
 ·rw[e0 7 (by decide)];exact B.ar
 ·rw[e _ 0 (by omega)];exact B.ae j hj
 ·rw[e1,e1,e1,e1];exact B.rd
 ·rw[e1,e1];exact B.rc
 ·rw[e1];exact B.fd
 ·rw[e0 10 (by decide)];exact B.cd
 ·rw[e0 11 (by decide)];exact B.us
 ·rw[e0 12 (by decide)];exact B.sk
theorem bAk (E:Ev)(ks:List UInt8)(tag:Nat→Nat)(W:World)(s:Int)(h:MT E ks tag W)(hs:s≠0):Calls prog 61 #[ptr E.X,.int .i64 s] W (bDu (E.sts s) ks tag W):=by
 obtain⟨R,sv,h⟩:=h
 have hX:=h.B.x
 have s9:=h.S.set (i:=0) (j:=9) (by rw[hX.2.1];decide) (.int .i64 s)
 have c12:=h.S.oc (i:=0) (j:=12) (by rw[hX.2.1];decide)
 have c9:=h.S.oc (i:=0) (j:=9) (by rw[hX.2.1];decide)
 have z9:=h.S.oz (i:=0) (j:=9) (by rw[hX.2.1];decide)
 have t0:=(h.S.objs 0 (by rw[hX.2.1];decide)).2.2.1
 rw[hX.1] at s9 c12 c9 z9 t0
 rw[h.B.sk] at c12
 rw[h.B.st] at c9
 have f8:upC E.C 0 9 (.int .i64 s) 0 8=E.C 0 8:=bJ _ _ (by decide)
 have Z:MT (E.sts s) ks tag (W.setCell ⟨E.X,9,none⟩ (.int .i64 s)):=⟨R,sv,s9,h.B.sts s,by show _∧R 4=⟨upC E.C 0 9 (.int .i64 s) 0 8,_,_,_,_⟩;rw[f8];exact h.fr,h.ln,h.each⟩
 have HZ:Hid _:=(show MK (E.sts s) ks tag W (W.setCell ⟨E.X,9,none⟩ (.int .i64 s)) from ⟨tag,Z,Kp.set (by rw[t0];decide)⟩)
 have hs':(s==0)=false:=by simpa using hs
 clear h s9 t0 Z f8 hX
 go_enter func61,ntmps61
 go_wp2
 go_end0
 exact⟨rfl,HZ.out⟩
theorem bFp (X:Nat)(W:World):Calls prog 61 #[ptr X,.int .i64 0] W fun e W'=>e=.returned (.tuple #[])∧W'=W:=by
 go_enter func61,ntmps61
 go_wp2
 go_end0
 exact⟨rfl,rfl⟩
def bHv (e:Ending):Prop:=∃ n:Int,e=.returned (.int .i64 n)∧0≤n∧n≤1
theorem aAx (b:Bool)(W:World):Calls prog 64 #[.bool b] W fun e W'=>bHv e∧W'=W:=by
 cases b
 ·go_enter func64,ntmps64
  go_wp2
  go_ret
  exact⟨⟨0,rfl,by decide,by decide⟩,rfl⟩
 ·go_enter func64,ntmps64
  go_wp2
  go_ret
  exact⟨⟨1,rfl,by decide,by decide⟩,rfl⟩
theorem aOu (n:Int)(W:World):Calls prog 55 #[.int .i64 n] W fun e W'=>e=.returned (vlV 1 n ⟨#[]⟩)∧Fr [] W W':=by
 go_enter func55,ntmps55
 go_wp2
 refine bodyPost_ret (v:=vlV 1 n ⟨#[]⟩) (by simp[results,results55,go_sem]) rfl ?_
 exact⟨rfl,(Fr.refl [] W).alloc _⟩
theorem aAv (s:ByteArray)(W:World):Calls prog 56 #[.string s] W fun e W'=>e=.returned (vlV 2 0 s)∧Fr [] W W':=by
 go_enter func56,ntmps56
 go_wp2
 refine bodyPost_ret (v:=vlV 2 0 s) (by simp[results,results56,go_sem]) rfl ?_
 exact⟨rfl,(Fr.refl [] W).alloc _⟩
def s8 (e:Ending):Prop:=∃ b:Bool,e=.returned (.bool b)
theorem zJ (c:Nat)(hc:c<256)(W:World):Calls prog 134 #[.int .u8 c] W fun e W'=>s8 e∧W'=W:=by
 go_enter func134,ntmps134
 go_wp2
 all_goals
  go_ret
  exact⟨⟨_,rfl⟩,rfl⟩
theorem aRq (c:Nat)(hc:c<256)(W:World):Calls prog 135 #[.int .u8 c] W fun e W'=>s8 e∧W'=W:=by
 go_enter func135,ntmps135
 go_wp2
 all_goals
  go_ret
  exact⟨⟨_,rfl⟩,rfl⟩
def bHz (s:ByteArray) (e:Ending):Prop:=∃ (n:Int) (k:Nat) (r:ByteArray),e=.returned (.tuple #[.int .i64 n,.int .i64 k,.string r])∧r.size≤s.size∧-1000000001≤n∧n≤1000000001
theorem zZ (s:ByteArray)(hs:s.size≤1048576)(W:World):Calls prog 113 #[.string s] W fun e W'=>bHz s e∧Fr [] W W':=by
 have HB:Hid _:=fun (c:Nat) (hc:c<256) (W:World)=>zJ c hc W
 have HD:Hid _:=fun (c:Nat) (hc:c<256) (W:World)=>aRq c hc W
 go_enter func113,ntmps113
 go_wp2
 go_loop [5] (fun i=>∃ k:Nat,k≤s.size∧i=.int .i64 k) (fun i=>s.size-(intOf i).toNat)
 case atStart=>exact⟨0,by omega,rfl⟩
 case round=>
  obtain⟨k,hk,rfl⟩:=hrel
  go_upto_region 2 with fail
  go_cut[18] from 9 to 20 (fun c wx=>(∃ b:Bool,c=.bool b∧(b=true→k<s.size))∧wx=W)
  case first=>
   by_cases hlt:k<s.size
   ·have g1:(k:Int)<s.size:=by omega
    have hb:=s[k].toNat_lt
    go_wp2_with fail
    refine (HB.out s[k].toNat hb _).mono ?_
    rintro e W1 ⟨⟨b,rfl⟩,hw⟩
    replace hw:=hw.symm
    subst hw
    go_wp2_with fail
    go_meet
    exact⟨⟨b,rfl,fun _=>hlt⟩,rfl⟩
   ·have g1:¬ ((k:Int)<s.size):=by omega
    go_wp2_with fail
    go_meet
    exact⟨⟨false,rfl,fun h=>by cases h⟩,rfl⟩
  case rest=>
   obtain⟨⟨b,rfl,hb⟩,rfl⟩:=hcut
   cases b
   ·clear hb HB
    go_upto_region 5 with fail
    go_cut[36] from 21 to 36 (fun c wx=>(∃ b:Bool,c=.bool b∧(b=true→k<s.size))∧wx=wc)
    case first=>
     by_cases hl2:k<s.size
     ·have g2:(k:Int)<s.size:=by omega
      go_wp2_with fail
      all_goals
       go_meet
       exact⟨⟨_,rfl,fun _=>hl2⟩,rfl⟩
     ·have g2:¬ ((k:Int)<s.size):=by omega
      go_wp2_with fail
      go_meet
      exact⟨⟨false,rfl,fun h=>by cases h⟩,rfl⟩
    case rest=>
     obtain⟨⟨b,rfl,hb⟩,rfl⟩:=hcut
     go_upto_if 36 with fail
     go_cut[5,6] from 37 to 42 (fun i m wx=>(∃ k:Nat,k≤s.size∧i=.int .i64 k)∧(∃ b:Bool,m=.bool b)∧wx=wc)
     case first=>
      cases b
      ·go_wp2_with fail
       go_meet
       exact⟨⟨k,by omega,rfl⟩,⟨_,rfl⟩,rfl⟩
      ·have hlt:=hb rfl
       have g2:(k:Int)<s.size:=by omega
       go_wp2_with fail
       go_meet
       exact⟨⟨k+1,by omega,by go_num⟩,⟨_,rfl⟩,rfl⟩
     case rest=>
     obtain⟨⟨k,hk,rfl⟩,⟨mb,rfl⟩,rfl⟩:=hcut
     go_wp2
     go_loop [5,7,8] (fun i n c=>∃ (k q:Nat) (x:Int),k≤s.size∧q≤k∧i=.int .i64 k∧n=.int .i64 x∧c=.int .i64 q∧0≤x∧x≤1000000001) (fun i _ _=>s.size-(intOf i).toNat)
     case atStart=>exact⟨k,0,0,hk,by omega,rfl,rfl,rfl,by omega,by omega⟩
     case round=>
      obtain⟨k,q,x,hk,hq,rfl,rfl,rfl,hx0,hx1⟩:=hrel
      go_upto_region 10 with fail
      go_cut[52] from 43 to 66 (fun c wx=>(∃ b:Bool,c=.bool b∧(b=true→k<s.size))∧wx=wc)
      case first=>
       by_cases hlt:k<s.size
       ·have g1:(k:Int)<s.size:=by omega
        have hb:=s[k].toNat_lt
        go_wp2_with fail
        refine (HD.out s[k].toNat hb _).mono ?_
        rintro e W1 ⟨⟨b,rfl⟩,hw⟩
        replace hw:=hw.symm
        subst hw
        go_wp2_with fail
        go_meet
        exact⟨⟨b,rfl,fun _=>hlt⟩,rfl⟩
       ·have g1:¬ ((k:Int)<s.size):=by omega
        go_wp2_with fail
        go_meet
        exact⟨⟨false,rfl,fun h=>by cases h⟩,rfl⟩
      case rest=>
       obtain⟨⟨b,rfl,hb⟩,rfl⟩:=hcut
       cases b
       ·cases mb
        all_goals
         go_wp2
         go_region
         go_wp2
         go_ret3
         exact⟨⟨_,q,_,rfl,by rw[ByteArray.size_extract];omega,by omega,by omega⟩,(Fr.refl [] _).drew⟩
       ·have hlt:=hb rfl
        have hb:=s[k].toNat_lt
        go_wp2
        all_goals exact⟨⟨k+1,q+1,_,by omega,by omega,by go_num,rfl,by go_num,by omega,by omega⟩,by simp[intOf];omega⟩
   ·have hlt:=hb rfl
    go_wp2
    exact⟨⟨k+1,by omega,by go_num⟩,by simp[intOf];omega⟩
theorem aHi (s:ByteArray)(hs:s.size≤1048576)(W:World):Calls prog 133 #[.string s] W fun e W'=>s8 e∧Fr [] W W':=by
 have HB:Hid _:=fun (c:Nat) (hc:c<256) (W:World)=>zJ c hc W
 have HR:Hid _:=fun (_:Unit)=>zZ s hs W
 go_enter func133,ntmps133
 go_wp2_with fail
 refine (HR.out ()).mono ?_
 rintro e W1 ⟨⟨n,q,r,rfl,hr,hn0,hn1⟩,f1⟩
 clear HR
 have hr':r.size≤1048576:=by omega
 go_wp2
 go_loop [6] (fun i=>∃ k:Nat,k≤r.size∧i=.int .i64 k) (fun i=>r.size-(intOf i).toNat)
 case atStart=>exact⟨0,by omega,rfl⟩
 case round=>
  obtain⟨k,hk,rfl⟩:=hrel
  by_cases hlt:k<r.size
  ·have g1:(k:Int)<r.size:=by omega
   have hb:=r[k].toNat_lt
   go_wp2_with fail
   refine (HB.out r[k].toNat hb _).mono ?_
   rintro e W2 ⟨⟨b,rfl⟩,hw⟩
   replace hw:=hw.symm
   subst hw
   cases b
   ·go_wp2
    go_ret
    exact⟨⟨_,rfl⟩,f1⟩
   ·go_wp2
    exact⟨⟨k+1,by omega,by go_num⟩,by simp[intOf];omega⟩
  ·have g1:¬ ((k:Int)<r.size):=by omega
   go_wp2
   all_goals
    go_ret
    exact⟨⟨_,rfl⟩,f1⟩
def bIa (s:ByteArray) (e:Ending):Prop:=∃ d:Int,e=.returned (vlV d 0 s)
theorem aAw (s:ByteArray)(hs:s.size≤1048576)(W:World):Calls prog 111 #[.string s] W fun e W'=>bIa s e∧Fr [] W W':=by
 obtain⟨W1,hW1⟩:=eX (W.alloc (.cells #[.int .i64 0,.int .i64 0,.string ⟨#[]⟩] 118))
 have F1:Fr [] W W1:=by rw[← hW1];exact (Fr.refl [] W).alloc _
 have k1:=wan W (.cells #[.int .i64 0,.int .i64 0,.string ⟨#[]⟩] 118)
 rw[hW1] at k1
 have hl1:=(Age.1 k1).1
 have HR:Hid _:=fun (_:Unit)=>aHi s hs W1
 have HW:Hid _:=fun (W:World)=>aAv s W
 have fin:∀ d W2,Fr [] W1 W2→(∀ t,W2.cell? ⟨W.heap.size,t,none⟩=(#[.int .i64 0,.int .i64 0,.string ⟨#[]⟩]:Array Value)[t]?)∧(∀ t,W2.frozen? ⟨W.heap.size,t,none⟩=false)∧Fr [] W (oA W.heap.size 0 [.int .i64 d,.int .i64 0,.string s] W2)∧∀ t v,[.int .i64 d,.int .i64 0,.string s][t]?=some v→(oA W.heap.size 0 [.int .i64 d,.int .i64 0,.string s] W2).cell? ⟨W.heap.size,t,none⟩=some v:=fun d W2 f2=>by
  have k2:=(f2.block _ hl1 (by simp)).trans k1
  have e2:∀ t,W2.cell? ⟨W.heap.size,t,none⟩=(#[.int .i64 0,.int .i64 0,.string ⟨#[]⟩]:Array Value)[t]?:=fun t=>by unfold World.cell?;rw[k2];rfl
  refine⟨e2,fun t=>by unfold World.frozen?;rw[k2];simp,(F1.trans f2).trans' (uK _ _ _ _) (fun x hx=>.inr (by simp at hx;omega)),fun t v hv=>?_⟩
  have:=rI W.heap.size 0 [.int .i64 d,.int .i64 0,.string s] W2 (fun t ht=>⟨_,by rw[Nat.zero_add,e2];exact Array.getElem?_eq_getElem (by simpa using ht)⟩) t v hv
  rwa [Nat.zero_add] at this
 have Fin:Hid _:=fin
 clear fin k1 hl1 F1
 go_enter func111,ntmps111
 go_wp2_with fail
 refine (HR.out ()).mono ?_
 rintro e W2 ⟨⟨b,rfl⟩,f2⟩
 cases b
 ·go_wp2_with fail
  refine (HW.out _).mono ?_
  rintro e W3 ⟨rfl,f3⟩
  obtain⟨a,z,f,c⟩:=Fin.out 2 W3 (f2.trans f3)
  have a0:=a 0
  have a1:=a 1
  have a2:=a 2
  simp at a0 a1 a2
  have z0:=z 0
  have z1:=z 1
  have z2:=z 2
  have q0:=c 0 _ rfl
  have q1:=c 1 _ rfl
  have q2:=c 2 _ rfl
  simp only[oA,Nat.zero_add] at q0 q1 q2 f
  clear a z c Fin
  go_wp2
  refine bodyPost_ret (v:=vlV 2 0 s) (by simp[results,results111,go_sem,q0,q1,q2]) rfl ?_
  exact⟨⟨2,rfl⟩,f⟩
 ·obtain⟨a,z,f,c⟩:=Fin.out 3 W2 f2
  have a0:=a 0
  have a1:=a 1
  have a2:=a 2
  simp at a0 a1 a2
  have z0:=z 0
  have z1:=z 1
  have z2:=z 2
  have q0:=c 0 _ rfl
  have q1:=c 1 _ rfl
  have q2:=c 2 _ rfl
  simp only[oA,Nat.zero_add] at q0 q1 q2 f
  clear a z c Fin
  go_wp2
  refine bodyPost_ret (v:=vlV 3 0 s) (by simp[results,results111,go_sem,q0,q1,q2]) rfl ?_
  exact⟨⟨3,rfl⟩,f⟩
end Go.Proofs.YtgpamchpeamnfaaGreatDoor
