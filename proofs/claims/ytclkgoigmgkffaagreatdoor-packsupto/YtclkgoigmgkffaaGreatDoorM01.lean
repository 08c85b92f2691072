/-
  Texts Mb Vd Vg Vh Vi Ha Hb Hg Ia Ib Ic Mc.
-/
import Derived.Maps.AppendAt
import Derived.Lib.AppendStr
import Derived.Lib.UnsafeStr
import Derived.Laws.OwnMore
import Derived.PlainAid
import Derived.Test.YtclkgoigmgkffaaGreatDoorM00
set_option linter.unusedSimpArgs false
set_option linter.unusedVariables false
set_option maxRecDepth 100000
set_option maxHeartbeats 40000000
namespace Go.Proofs.YtclkgoigmgkffaaGreatDoor
open Go.RowKit
open Wire
theorem infoB:(Tryz.prog.info? 5).map (fun i=>(i.zero,i.size,i.bytes))=some (some (.int .u8 0),1,1):=by kernel_rfl
structure OwnB (w0:World) (l:List UInt8) (v:Value) (W:World):Prop where
 own:W.ownsRow w0.heap.size 5 1 v l.length (Lib.byteCells l)
 fr:Fr [] w0 W
structure Grew (v:Value) (w:World) (v':Value) (w':World):Prop where
 by_:w.grownBy w' v.ownBlock
 blk:v'.ownBlock=v.ownBlock∨∃ g,v'.ownBlock=some g∧w.heap.size≤g
theorem grownBy_refl (w:World) (r:Option Nat):w.grownBy w r:=⟨rfl,rfl,rfl,Nat.le_refl _,fun _ _ _=>rfl⟩
theorem Grew.refl (v:Value) (w:World):Grew v w v w:=⟨grownBy_refl _ _,.inl rfl⟩
theorem Grew.trans {v v1 v2:Value}{w w1 w2:World} (h:Grew v w v1 w1) (k:Grew v1 w1 v2 w2):Grew v w v2 w2:=by
 refine⟨⟨k.by_.os.trans h.by_.os,k.by_.tape.trans h.by_.tape,k.by_.output.trans h.by_.output,Nat.le_trans h.by_.size k.by_.size,fun b hb hn=>?_⟩,?_⟩
 ·rw[k.by_.block b (Nat.lt_of_lt_of_le hb h.by_.size) ?_,h.by_.block b hb hn]
  rcases h.blk with e | ⟨g,e,hg⟩
  ·rw[e];exact hn
  ·rw[e];intro e2;cases e2;omega
 ·have hs:=h.by_.size
  rcases k.blk with e | ⟨g,e,hg⟩
  ·rcases h.blk with e2 | ⟨g2,e2,hg2⟩
   ·exact .inl (e.trans e2)
   ·exact .inr ⟨g2,e.trans e2,hg2⟩
  ·exact .inr ⟨g,e,by omega⟩
theorem Grew.alloc {v:Value}{w:World} (o:Obj):Grew v w v (w.alloc o):=⟨⟨rfl,rfl,rfl,by simp,fun k hk _=>Below.heap_alloc _ _ _ hk⟩,.inl rfl⟩
theorem OwnB.start (w0:World):OwnB w0 [] (.slice none 0 0) w0:=⟨World.ownsRow_nil _ _ _ _,Fr.refl _ _⟩
theorem Fr.grew {w w':World} (h:Fr [] w w') (r:Option Nat):w.grownBy w' r:=⟨h.os,h.tape,h.output,h.size,fun k hk _=>h.block k hk (by simp)⟩
theorem OwnB.kept {w0:World}{l:List UInt8}{v:Value}{W W':World} (h:OwnB w0 l v W) (hf:Fr [] W W'):OwnB w0 l v W':=
 ⟨h.own.kept (hf.grew none) (by cases hv:v.ownBlock <;> simp),h.fr.trans hf⟩
theorem OwnB.grown {w0:World}{l l':List UInt8}{v v':Value}{W W':World} (h:OwnB w0 l v W) (hown:W'.ownsRow w0.heap.size 5 1 v' (l.length+l'.length) (Lib.byteCells l++Lib.byteCells l')) (hg:W.grownBy W' v.ownBlock):OwnB w0 (l++l') v' W':=by
 refine⟨by rw[List.length_append,Lib.byteCells,List.map_append];exact hown,?_⟩
 refine⟨hg.os.trans h.fr.os,hg.tape.trans h.fr.tape,hg.output.trans h.fr.output,Nat.le_trans h.fr.size hg.size,fun k hk _=>?_⟩
 have h1:=h.fr.size
 rw[hg.block k (by omega) (fun e=>by have:=(h.own.lt k e.symm).1;omega),h.fr.block k hk (by simp)]
theorem bits_or_u8 (a b:Nat) (ha:a<256) (hb:b<256):bits .or .u8 (a:Int) (b:Int)=((a ||| b:Nat):Int):=
 (bits_nat .u8 8 (by decide) (fun n a b=>wraps_u8 n a b) a b (by omega) (by omega)).2
theorem or128 (n:Nat):bits .or .u8 ((n:Int) % 256) 128=(((UInt8.ofNat (128+n % 128)).toNat:Nat):Int):=by
 have h1:(n:Int) % 256=((n % 256:Nat):Int):=by omega
 rw[h1,show (128:Int)=((128:Nat):Int) by rfl,bits_or_u8 _ _ (by omega) (by omega)]
 have e:(UInt8.ofNat (128+n % 128)).toNat=128+n % 128:=by simp[UInt8.toNat_ofNat];omega
 rw[e]
 congr 1
 have h2:n % 256=n % 128∨n % 256=128+n % 128:=by omega
 have h3:∀ m,m<128→m ||| 128=128+m:=fun m hm=>by
  have:=Nat.two_pow_add_eq_or_of_lt (i:=7) (b:=m) (by omega) 1
  rw[Nat.or_comm];exact this.symm
 have h4:∀ m,m<128→(128+m) ||| 128=128+m:=fun m hm=>by
  rw[← h3 m hm,Nat.or_assoc,Nat.or_self]
 rcases h2 with h | h <;> rw[h]
 ·exact h3 _ (by omega)
 ·exact h4 _ (by omega)
theorem low8 (n:Nat) (h:n<128):n=(UInt8.ofNat n).toNat:=by
 have e:(UInt8.ofNat n).toNat=n:=by simp[UInt8.toNat_ofNat];omega
 exact e.symm
theorem one_byte (x:Int):∀ u ∈ [Value.int .u8 x],u.oneCell'=true:=by intro u hu;simp at hu;subst hu;rfl
theorem le_alloc {b:Nat}{w:World} (o:Obj) (h:b≤w.heap.size):b≤(w.alloc o).heap.size:=by simp;omega
theorem le_maxLen {n m:Nat} (h:n+m≤4000000000):n+m≤maxLen:=by unfold maxLen;omega
theorem le_bytes {n m:Nat} (h:n+m≤4000000000):(n+m)*1≤140737488355328:=by omega
theorem digsF_len (f n:Nat):(digsF f n).length≤f:=by
 induction f generalizing n with
 | zero=>simp[digsF]
 | succ f ih=>
  simp only[digsF]
  split
  ·simp
  ·have:=ih (n / 128);simp;omega
theorem digs_len (n:Nat):(digs n).length≤10:=digsF_len 10 n
theorem numAppend_any (w0:World) (l:List UInt8) (v:Value) (n:Nat) (w:World) (hn:n<9223372036854775808) (hl:l.length≤1000000000) (h:OwnB w0 l v w) :
  Calls Tryz.prog 234 #[v,.int .i64 n] w fun e w'=>∃ v',e=.returned v'∧OwnB w0 (l++digs n) v' w'∧Grew v w v' w':=by
 obtain⟨i0,hi,hz0,hz1,hz2⟩:=info_parts infoB
 have hDl:=digs_len n
 obtain⟨D,hD⟩:∃ D,digs n=D:=⟨_,rfl⟩
 rw[hD] at hDl ⊢
 have HD:Hid (l++digs n=l++D):=by rw[hD];exact rfl
 clear hD
 have hDL:(l++D).length≤1000000010:=by rw[List.length_append];omega
 generalize l++D=E at *
 clear hDl
 go_enter Tryz.func234,Tryz.ntmps234
 go_wp2
 go_loopw [0,1] (fun u m wr=>∃ (q:List UInt8) (k:Nat),m=.int .i64 k∧k≤n∧Hid (q++digs k=E)∧OwnB w0 q u wr∧Grew v w u wr) (fun _ m _=>(intOf m).toNat)
 case atStart=>exact⟨l,n,rfl,by omega,HD,h,Grew.refl _ _⟩
 case round=>
  obtain⟨q,k,rfl,hk,hD,J,G⟩:=hrel
  clear HD h
  have hll:q.length≤1000000010:=by have:=congrArg List.length hD.out;rw[List.length_append] at this;omega
  have hown:=J.own
  have hsz:=J.fr.size
  by_cases h128:128≤k
  ·have g1:(127:Int)<k:=by omega
   have hor:=or128 k
   have hd:=digs_ge h128 (by have:=pow9;omega)
   obtain⟨c,hc⟩:∃ c,UInt8.ofNat (128+k % 128)=c:=⟨_,rfl⟩
   rw[hc] at hor hd
   have Hd:Hid _:=hd
   clear hc hd
   go_wp2_with (at_builtin;refine wpList_append_own_at _ rfl _ _ 129 rfl w0.heap.size 5 i0 (.int .u8 0) 1 1 Tryz.underlying129 hi hz0 hz1 hz2 rfl (by decide) _ _ _ rfl (hown.alloc _) ⟨wr.heap.size,0,none⟩ 1 1 [.int .u8 c.toNat] rfl rfl (cell_one_new _ _ _) (one_byte _) (le_maxLen (by omega)) (le_bytes (by omega)) (le_alloc _ hsz) ?_)
   intro v' w3 hown' hgrow _ hat
   have J3:=(J.kept ((Fr.refl [] wr).alloc _)).grown (l':=[c]) hown' hgrow
   have G3:Grew v w v' w3:=(G.trans (Grew.alloc _)).trans ⟨hgrow,hat.elim .inl (fun e=>.inr ⟨_,e,by simp⟩)⟩
   clear hown hown' hgrow hat J G
   go_wp2
   refine⟨⟨q++[c],k / 128,?_,by omega,?_,J3,G3⟩,?_⟩
   ·congr 1
   ·have:=hD.out
    rw[Hd.out] at this
    have e:q++[c]++digs (k / 128)=E:=by rw[← this];simp
    exact e
   ·simp[intOf];omega
  ·have g1:¬ (127:Int)<k:=by omega
   have hlow:=low8 k (by omega)
   have hd:=digs_lt (n:=k) (by omega)
   obtain⟨c,hc⟩:∃ c,UInt8.ofNat k=c:=⟨_,rfl⟩
   rw[hc] at hlow hd
   have Hd:Hid _:=hd
   clear hc hd
   subst hlow
   go_wp2_with (at_builtin;refine wpList_append_own_at _ rfl _ _ 129 rfl w0.heap.size 5 i0 (.int .u8 0) 1 1 Tryz.underlying129 hi hz0 hz1 hz2 rfl (by decide) _ _ _ rfl (hown.alloc _) ⟨wr.heap.size,0,none⟩ 1 1 [.int .u8 c.toNat] rfl rfl (cell_one_new _ _ _) (one_byte _) (le_maxLen (by omega)) (le_bytes (by omega)) (le_alloc _ hsz) ?_)
   intro v' w3 hown' hgrow _ hat
   have J3:=(J.kept ((Fr.refl [] wr).alloc _)).grown (l':=[c]) hown' hgrow
   have G3:Grew v w v' w3:=(G.trans (Grew.alloc _)).trans ⟨hgrow,hat.elim .inl (fun e=>.inr ⟨_,e,by simp⟩)⟩
   clear hown hown' hgrow hat J G
   have e:q++[c]=E:=by rw[← Hd.out];exact hD.out
   rw[e] at J3
   go_wp2
   go_ret
   exact⟨v',rfl,J3,G3⟩
namespace Flow
def lst (a b:UInt8):UInt8:=if a=b then a else if a=107∨b=107∨a=106∨b=106 then 106 else 97
def le (a b:UInt8):Prop:=lst a b=b
theorem le_cases {a b:UInt8}:le a b↔a=b∨b=106∨(b=97∧a≠107∧a≠106):=by
 unfold le lst
 by_cases h:a=b
 ·simp[h]
 ·rw[if_neg h]
  by_cases hk:a=107∨b=107∨a=106∨b=106
  ·rw[if_pos hk]
   constructor
   ·intro e;exact Or.inr (Or.inl e.symm)
   ·rintro (e | e | ⟨e,h1,h2⟩)
    ·exact absurd e h
    ·exact e.symm
    ·subst e
     rcases hk with e | e | e | e
     ·exact absurd e h1
     ·exact absurd e (by decide)
     ·exact absurd e h2
     ·exact absurd e (by decide)
  ·rw[if_neg hk]
   constructor
   ·intro e;exact Or.inr (Or.inr ⟨e.symm,fun x=>hk (Or.inl x),fun x=>hk (Or.inr (Or.inr (Or.inl x)))⟩)
   ·rintro (e | e | ⟨e,h1,h2⟩)
    ·exact absurd e h
    ·exact absurd (Or.inr (Or.inr (Or.inr e))) hk
    ·exact e.symm
theorem le_refl (a:UInt8):le a a:=le_cases.2 (Or.inl rfl)
theorem le_trans {a b c:UInt8} (h:le a b) (g:le b c):le a c:=by
 rw[le_cases] at *
 rcases h with rfl | rfl | ⟨rfl,h1,h2⟩
 ·exact g
 ·rcases g with rfl | rfl | ⟨rfl,g1,g2⟩
  ·exact Or.inr (Or.inl rfl)
  ·exact Or.inr (Or.inl rfl)
  ·exact absurd rfl g2
 ·rcases g with rfl | rfl | ⟨rfl,g1,g2⟩
  ·exact Or.inr (Or.inr ⟨rfl,h1,h2⟩)
  ·exact Or.inr (Or.inl rfl)
  ·exact Or.inr (Or.inr ⟨rfl,h1,h2⟩)
theorem lst_comm (a b:UInt8):lst a b=lst b a:=by
 unfold lst
 by_cases h:a=b
 ·rw[if_pos h,if_pos h.symm,h]
 ·rw[if_neg h,if_neg (show ¬ b=a from fun e=>h e.symm)]
  by_cases hk:a=107∨b=107∨a=106∨b=106
  ·rw[if_pos hk,if_pos (by rcases hk with e | e | e | e <;> simp[e])]
  ·rw[if_neg hk,if_neg (fun e=>hk (by rcases e with e | e | e | e <;> simp[e]))]
theorem lst_le {a b c:UInt8} (h:le a c) (g:le b c):le (lst a b) c:=by
 by_cases e:a=b
 ·unfold lst;rw[if_pos e];exact h
 ·rw[le_cases] at h g
  rcases h with rfl | rfl | ⟨rfl,h1,h2⟩
  ·have:lst b a=a:=le_cases.2 g
   rw[lst_comm,this];exact le_refl a
  ·exact le_cases.2 (Or.inr (Or.inl rfl))
  ·rcases g with rfl | g | ⟨_,g1,g2⟩
   ·have:lst a 97=97:=le_cases.2 (Or.inr (Or.inr ⟨rfl,h1,h2⟩))
    rw[this];exact le_refl _
   ·exact absurd g (by decide)
   ·unfold lst
    rw[if_neg e,if_neg]
    ·exact le_refl _
    ·rintro (x | x | x | x)
     ·exact h1 x
     ·exact g1 x
     ·exact h2 x
     ·exact g2 x
def rk (a:UInt8):Nat:=if a=106 then 2 else if a=97 then 1 else 0
def leS:List UInt8→List UInt8→Prop
 | [],[]=>True
 | a :: s,b :: t=>le a b∧leS s t
 | _,_=>False
def joinS (s t:List UInt8):List UInt8:=List.zipWith lst s t
theorem leS_length {s t:List UInt8} (h:leS s t):s.length=t.length:=by
 induction s generalizing t with
 | nil=>cases t with
  | nil=>rfl
  | cons=>exact h.elim
 | cons a s ih=>cases t with
  | nil=>exact h.elim
  | cons b t=>simp[ih h.2]
theorem leS_refl (s:List UInt8):leS s s:=by
 induction s with
 | nil=>trivial
 | cons a s ih=>exact⟨le_refl a,ih⟩
theorem leS_trans {s t u:List UInt8} (h:leS s t) (g:leS t u):leS s u:=by
 induction s generalizing t u with
 | nil=>cases t with
  | nil=>exact g
  | cons=>exact h.elim
 | cons a s ih=>cases t with
  | nil=>exact h.elim
  | cons b t=>cases u with
   | nil=>exact g.elim
   | cons c u=>exact⟨le_trans h.1 g.1,ih h.2 g.2⟩
theorem joinS_le {s t u:List UInt8} (h:leS s u) (g:leS t u):leS (joinS s t) u:=by
 induction s generalizing t u with
 | nil=>cases u with
  | nil=>cases t with
   | nil=>trivial
   | cons=>exact g.elim
  | cons=>exact h.elim
 | cons a s ih=>cases u with
  | nil=>exact h.elim
  | cons c u=>cases t with
   | nil=>exact g.elim
   | cons b t=>exact⟨lst_le h.1 g.1,ih h.2 g.2⟩
theorem leS_append {s t u v:List UInt8} (h:leS s t) (g:leS u v):leS (s++u) (t++v):=by
 induction s generalizing t with
 | nil=>cases t with
  | nil=>exact g
  | cons=>exact h.elim
 | cons a s ih=>cases t with
  | nil=>exact h.elim
  | cons b t=>exact⟨h.1,ih h.2⟩
theorem leS_take {s t:List UInt8} (h:leS s t) (n:Nat):leS (s.take n) (t.take n):=by
 induction s generalizing t n with
 | nil=>cases t with
  | nil=>simp[leS]
  | cons=>exact h.elim
 | cons a s ih=>cases t with
  | nil=>exact h.elim
  | cons b t=>cases n with
   | zero=>trivial
   | succ n=>exact⟨h.1,ih h.2 n⟩
theorem leS_drop {s t:List UInt8} (h:leS s t) (n:Nat):leS (s.drop n) (t.drop n):=by
 induction s generalizing t n with
 | nil=>cases t with
  | nil=>simp[leS]
  | cons=>exact h.elim
 | cons a s ih=>cases t with
  | nil=>exact h.elim
  | cons b t=>cases n with
   | zero=>exact h
   | succ n=>exact ih h.2 n
def rkS:List UInt8→Nat
 | []=>0
 | a :: s=>rk a+rkS s
def leSB:List UInt8→List UInt8→Bool
 | [],[]=>true
 | a :: s,b :: t=>decide (lst a b=b) && leSB s t
 | _,_=>false
theorem leSB_iff {s t:List UInt8}:leSB s t=true↔leS s t:=by
 induction s generalizing t with
 | nil=>cases t with
  | nil=>simp[leSB,leS]
  | cons=>simp[leSB,leS]
 | cons a s ih=>cases t with
  | nil=>simp[leSB,leS]
  | cons b t=>simp[leSB,leS,ih,le]
def takesT:List (List UInt8):=[[],[],[],[],[97],[],[97],[110],[110,97],[],[],[116],[116,97],[116],[116],[],[],[107],[110,110],[110,110],[110,110],[110,110],[110,110],[110],[110],[116,116],[97],[97],[97],[97,97],[97,97],[97,97],[97,97],[97,97],[97,97],[116],[116],[116,116],[116],[116],[116,110,110],[116,116],[],[],[],[97],[97,97],[106],[],[110],[],[97],[],[110]]
def givesT:List (List UInt8):=[[110],[116],[97],[97],[],[97],[],[97],[],[110],[110],[97],[],[110],[],[],[107],[107,116],[110],[110],[110],[110],[110],[110],[110],[116],[110],[116],[110],[110],[110],[110],[110],[110],[110],[110],[110],[116],[110],[110],[116],[110],[110],[110],[],[],[],[],[],[],[97],[],[],[]]
def want (par:Nat→Nat) (op a:Nat):List UInt8:=
 if op=44 then List.replicate a 116 else if op=50 then List.replicate (par a) 97 else takesT.getD op []
def give (op:Nat) (top:List UInt8):List UInt8:=
 if op=45 then top++top else if op=46 then top.drop 1++top else givesT.getD op []
def after (par:Nat→Nat) (op a:Nat) (st:List UInt8):Option (List UInt8 × List UInt8):=
 if st.length<(want par op a).length then none
 else if leSB (st.drop (st.length-(want par op a).length)) (want par op a)=true then
  if (st.take (st.length-(want par op a).length)++give op (st.drop (st.length-(want par op a).length))).length≤1024 then
   some (st.take (st.length-(want par op a).length)++give op (st.drop (st.length-(want par op a).length)),st.take (st.length-(want par op a).length))
  else none
 else none
theorem give_mono {op:Nat}{s t:List UInt8} (h:leS s t):leS (give op s) (give op t):=by
 unfold give
 split
 ·exact leS_append h h
 ·split
  ·exact leS_append (leS_drop h 1) h
  ·exact leS_refl _
theorem after_mono {par:Nat→Nat}{op a:Nat}{s t:List UInt8}{o r:List UInt8} (h:leS s t) (ht:after par op a t=some (o,r)) :
  ∃ o' r',after par op a s=some (o',r')∧leS o' o∧leS r' r:=by
 have hl:=leS_length h
 unfold after at ht ⊢
 rw[hl]
 generalize (want par op a)=w at *
 split at ht
 ·cases ht
 ·rename_i hw
  split at ht
  ·rename_i hs
   split at ht
   ·rename_i hm
    simp only[Option.some.injEq,Prod.mk.injEq] at ht
    obtain⟨rfl,rfl⟩:=ht
    have hd:=leS_drop h (t.length-w.length)
    have htk:=leS_take h (t.length-w.length)
    have hg:=leS_append htk (give_mono (op:=op) hd)
    have hs':leSB (s.drop (t.length-w.length)) w=true:=leSB_iff.2 (leS_trans hd (leSB_iff.1 hs))
    rw[if_neg hw,if_pos hs',if_pos (by rw[leS_length hg];exact hm)]
    exact⟨_,_,rfl,hg,htk⟩
   ·cases ht
  ·cases ht
structure Stp where
 pl:Nat
 nx:Nat
 op:Nat
 a:Nat
 b:Nat
def far (op:Nat):Bool:=op==48 || op==49 || op==17
def halts (op:Nat):Bool:=op==48 || op==51 || op==52 || op==53
def numb:List Stp→Nat→Option Nat
 | [],_=>none
 | s :: l,p=>if s.pl=p then some 0 else (numb l p).map (·+1)
def Has (G:List (Option (List UInt8))) (i:Nat) (st:List UInt8):Prop:=∃ t,G[i]?=some (some t)∧leS st t
def Done (par:Nat→Nat) (l:List Stp) (G:List (Option (List UInt8))) (i:Nat):Prop:=
 ∀ st s,G[i]?=some (some st)→l[i]?=some s→∃ o r,after par s.op s.a st=some (o,r) ∧
  (far s.op=true→∃ k,numb l s.a=some k∧Has G k r)∧(halts s.op=false→Has G (i+1) o)
structure Sol (par:Nat→Nat) (l:List Stp) (G:List (Option (List UInt8))):Prop where
 size:G.length=l.length
 first:G[0]?=some (some [])
 each:∀ i,i<l.length→Done par l G i
def Under (G T:List (Option (List UInt8))):Prop:=∀ i st,G[i]?=some (some st)→Has T i st
def laid (G:List (Option (List UInt8))) (i:Nat) (st:List UInt8):List (Option (List UInt8)):=
 match G[i]? with
 | some (some t)=>G.set i (some (joinS t st))
 | _=>G.set i (some st)
theorem laid_length (G:List (Option (List UInt8))) (i:Nat) (st:List UInt8):(laid G i st).length=G.length:=by
 unfold laid;split <;> simp
theorem under_laid {G T:List (Option (List UInt8))}{i:Nat}{st:List UInt8} (h:Under G T) (hs:Has T i st):Under (laid G i st) T:=by
 intro j u hj
 unfold laid at hj
 split at hj
 ·rename_i t ht
  rw[List.getElem?_set] at hj
  split at hj
  ·rename_i e
   subst e
   split at hj
   ·simp only[Option.some.injEq] at hj
    subst hj
    obtain⟨a,ha,hl⟩:=h i t ht
    obtain⟨b,hb,hm⟩:=hs
    rw[ha] at hb
    simp only[Option.some.injEq] at hb
    subst hb
    exact⟨a,ha,joinS_le hl hm⟩
   ·cases hj
  ·exact h j u hj
 ·rw[List.getElem?_set] at hj
  split at hj
  ·rename_i e
   subst e
   split at hj
   ·simp only[Option.some.injEq] at hj
    subst hj
    exact hs
   ·cases hj
  ·exact h j u hj
def left1:Option (List UInt8)→Nat
 | none=>3000
 | some st=>2*st.length-rkS st
def left (G:List (Option (List UInt8))):Nat:=(G.map left1).sum
end Flow
namespace Flow
structure Low (par:Nat→Nat) (l:List Stp) (G:List (Option (List UInt8))):Prop where
 size:G.length=l.length
 low:∀ T,Sol par l T→Under G T
theorem Low.says {par:Nat→Nat}{l:List Stp}{G:List (Option (List UInt8))} (h:Low par l G) {i:Nat}{st:List UInt8}{s:Stp} (hi:G[i]?=some (some st)) (hs:l[i]?=some s)
  {T:List (Option (List UInt8))} (hT:Sol par l T) :
  ∃ o r,after par s.op s.a st=some (o,r)∧(far s.op=true→∃ k,numb l s.a=some k∧Has T k r)∧(halts s.op=false→Has T (i+1) o):=by
 obtain⟨t,ht,hl⟩:=h.low T hT i st hi
 have hil:i<l.length:=by
  rw[List.getElem?_eq_some_iff] at hs
  exact hs.1
 obtain⟨o,r,ha,h1,h2⟩:=hT.each i hil t s ht hs
 obtain⟨o',r',ha',hlo,hlr⟩:=after_mono hl ha
 refine⟨o',r',ha',?_,?_⟩
 ·intro hf
  obtain⟨k,hk,u,hu,hru⟩:=h1 hf
  exact⟨k,hk,u,hu,leS_trans hlr hru⟩
 ·intro hf
  obtain⟨u,hu,hou⟩:=h2 hf
  exact⟨u,hu,leS_trans hlo hou⟩
theorem Low.next {par:Nat→Nat}{l:List Stp}{G:List (Option (List UInt8))} (h:Low par l G) {G':List (Option (List UInt8))} (h':Low par l G') {i:Nat}{st o r:List UInt8}{s:Stp} (hi:G[i]?=some (some st)) (hs:l[i]?=some s)
  (ha:after par s.op s.a st=some (o,r)) (hf:halts s.op=false):Low par l (laid G' (i+1) o):=by
 refine⟨by rw[laid_length];exact h'.size,?_⟩
 intro T hT
 obtain⟨o',r',ha',-,h2⟩:=h.says hi hs hT
 rw[ha] at ha'
 simp only[Option.some.injEq,Prod.mk.injEq] at ha'
 obtain⟨rfl,rfl⟩:=ha'
 exact under_laid (h'.low T hT) (h2 hf)
end Flow
namespace Flow
def ab (x:Nat):UInt8:=if x=1 then 110 else if x=2 then 116 else if x=3 then 97 else if x=4 then 107 else 106
def Bits (x:Nat):Prop:=0<x∧x<8
theorem Bits.cases {x:Nat} (h:Bits x):x=1∨x=2∨x=3∨x=4∨x=5∨x=6∨x=7:=by
 unfold Bits at h
 omega
theorem Bits.or {x y:Nat} (h:Bits x) (g:Bits y):Bits (x ||| y):=by
 rcases h.cases with rfl | rfl | rfl | rfl | rfl | rfl | rfl <;> rcases g.cases with rfl | rfl | rfl | rfl | rfl | rfl | rfl <;> exact⟨by decide,by decide⟩
def bc (x:Nat):Nat:=x % 2+x / 2 % 2+x / 4 % 2
def BitsL (s:List Nat):Prop:=∀ x,x ∈ s→Bits x
def abL (s:List Nat):List UInt8:=s.map ab
def orL (s t:List Nat):List Nat:=List.zipWith (· ||| ·) s t
theorem abL_length (s:List Nat):(abL s).length=s.length:=by simp[abL]
theorem abL_append (s t:List Nat):abL (s++t)=abL s++abL t:=by simp[abL]
theorem orL_length {s t:List Nat} (h:s.length=t.length):(orL s t).length=s.length:=by simp[orL,h]
theorem BitsL.cons {x:Nat}{s:List Nat} (h:BitsL (x :: s)):Bits x∧BitsL s:=⟨h x (by simp),fun y hy=>h y (by simp[hy])⟩
theorem BitsL.of_cons {x:Nat}{s:List Nat} (h:Bits x) (g:BitsL s):BitsL (x :: s):=by
 intro y hy
 rcases List.mem_cons.1 hy with rfl | hy
 ·exact h
 ·exact g y hy
theorem BitsL.append {s t:List Nat} (h:BitsL s) (g:BitsL t):BitsL (s++t):=by
 intro y hy
 rcases List.mem_append.1 hy with hy | hy
 ·exact h y hy
 ·exact g y hy
theorem BitsL.nil:BitsL []:=by intro y hy;cases hy
theorem orL_bits {s t:List Nat} (h:BitsL s) (g:BitsL t):BitsL (orL s t):=by
 induction s generalizing t with
 | nil=>simp[orL];exact BitsL.nil
 | cons x s ih=>cases t with
  | nil=>simp[orL];exact BitsL.nil
  | cons y t=>exact BitsL.of_cons (h.cons.1.or g.cons.1) (ih h.cons.2 g.cons.2)
def bcL:List Nat→Nat
 | []=>0
 | x :: s=>bc x+bcL s
def pk:List Nat→Nat
 | []=>0
 | x :: s=>x+16*pk s
theorem pk_lt {s:List Nat} (h:∀ x,x ∈ s→x<16):pk s<16 ^ s.length:=by
 induction s with
 | nil=>simp[pk]
 | cons x s ih=>
  have h1:=h x (by simp)
  have h2:=ih (fun y hy=>h y (by simp[hy]))
  simp only[pk,List.length_cons,Nat.pow_succ]
  omega
theorem pk_or {s t:List Nat} (h:∀ y,y ∈ s→y<16) (g:∀ y,y ∈ t→y<16) (hl:s.length=t.length):pk s ||| pk t=pk (orL s t):=by
 induction s generalizing t with
 | nil=>cases t with
  | nil=>rfl
  | cons=>simp at hl
 | cons x s ih=>cases t with
  | nil=>simp at hl
  | cons y t=>
   have hx:x<2 ^ 4:=h x (by simp)
   have hy:y<2 ^ 4:=g y (by simp)
   have:=ih (t:=t) (fun z hz=>h z (by simp[hz])) (fun z hz=>g z (by simp[hz])) (by simpa using hl)
   have e:pk (orL (x :: s) (y :: t))=(x ||| y)+16*pk (orL s t):=rfl
   rw[e,← this]
   simp only[pk]
   have hxy:x ||| y<2 ^ 4:=Nat.or_lt_two_pow hx hy
   rw[show 16=2 ^ 4 from rfl,Nat.add_comm x,Nat.add_comm y,Nat.add_comm (x ||| y)]
   rw[Nat.two_pow_add_eq_or_of_lt hx,Nat.two_pow_add_eq_or_of_lt hy,Nat.two_pow_add_eq_or_of_lt hxy]
   apply Nat.eq_of_testBit_eq
   intro i
   simp only[Nat.testBit_or,Nat.testBit_two_pow_mul]
   cases decide (4≤i) <;> simp[Bool.or_comm,Bool.or_left_comm,Bool.or_assoc]
theorem pk_inj {s t:List Nat} (h:∀ y,y ∈ s→y<16) (g:∀ y,y ∈ t→y<16) (hl:s.length=t.length) (e:pk s=pk t):s=t:=by
 induction s generalizing t with
 | nil=>cases t with
  | nil=>rfl
  | cons=>simp at hl
 | cons x s ih=>cases t with
  | nil=>simp at hl
  | cons y t=>
   have hx:=h x (by simp)
   have hy:=g y (by simp)
   simp only[pk] at e
   have e1:x=y:=by omega
   have e2:pk s=pk t:=by omega
   rw[e1,ih (t:=t) (fun z hz=>h z (by simp[hz])) (fun z hz=>g z (by simp[hz])) (by simpa using hl) e2]
def abG (G:List (Option (List Nat))):List (Option (List UInt8)):=G.map (Option.map abL)
theorem abG_set (G:List (Option (List Nat))) (i:Nat) (s:List Nat):abG (G.set i (some s))=(abG G).set i (some (abL s)):=by
 simp[abG,List.map_set]
def BitsG (G:List (Option (List Nat))):Prop:=∀ (i:Nat) s,G[i]?=some (some s)→BitsL s
theorem BitsG.set {G:List (Option (List Nat))} (h:BitsG G) {i:Nat}{s:List Nat} (hs:BitsL s):BitsG (G.set i (some s)):=by
 intro j t hj
 rw[List.getElem?_set] at hj
 split at hj
 ·split at hj
  ·simp only[Option.some.injEq] at hj
   subst hj
   exact hs
  ·cases hj
 ·exact h j t hj
end Flow
namespace Flow
def popB (w:Nat) (st:List Nat):Option (List Nat):=
 match st.getLast? with
 | none=>none
 | some x=>if x &&& (w ^^^ 15)=0 then some st.dropLast else none
def takeR:List Nat→List Nat→Option (List Nat)
 | [],st=>some st
 | w :: r,st=>(popB w st).bind (takeR r)
theorem popB_snoc (w x:Nat) (s:List Nat):popB w (s++[x])=if x &&& (w ^^^ 15)=0 then some s else none:=by
 unfold popB
 simp
theorem snoc_of {st:List Nat} (h:st≠[]):∃ s x,st=s++[x]:=⟨st.dropLast,st.getLast h,(List.dropLast_concat_getLast h).symm⟩
theorem takeR_shape (r st rest:List Nat) (h:takeR r st=some rest):rest=st.take rest.length:=by
 induction r generalizing st with
 | nil=>simp only[takeR,Option.some.injEq] at h;subst h;simp
 | cons w r ih=>
  simp only[takeR] at h
  by_cases h0:st=[]
  ·subst h0;simp[popB] at h
  ·obtain⟨s,x,rfl⟩:=snoc_of h0
   rw[popB_snoc] at h
   split at h
   ·simp only[Option.bind_some] at h
    have e:=ih s h
    have hl:rest.length≤s.length:=by rw[e,List.length_take];omega
    rw[List.take_append_of_le_length hl]
    exact e
   ·cases h
theorem BitsL.take {s:List Nat} (h:BitsL s) (n:Nat):BitsL (s.take n):=fun x hx=>h x (List.mem_of_mem_take hx)
theorem BitsL.drop {s:List Nat} (h:BitsL s) (n:Nat):BitsL (s.drop n):=fun x hx=>h x (List.mem_of_mem_drop hx)
end Flow
open Go.RowKit
open Wire Flow
def wdS (st:List Nat) (j:Nat):Nat:=pk ((st.drop (16*j)).take 16)
theorem wdS_lt {st:List Nat} (h:∀ x,x ∈ st→x<16) (j:Nat):wdS st j<18446744073709551616:=by
 have h1:=pk_lt (s:=(st.drop (16*j)).take 16) (fun x hx=>h x (List.mem_of_mem_drop (List.mem_of_mem_take hx)))
 have h2:((st.drop (16*j)).take 16).length≤16:=by rw[List.length_take];omega
 have h3:16 ^ ((st.drop (16*j)).take 16).length≤16 ^ 16:=Nat.pow_le_pow_right (by omega) h2
 have h4:(16:Nat) ^ 16=18446744073709551616:=by decide
 unfold wdS
 omega
structure StkC (w:World) (sb:Nat) (st:List Nat) (wr:Bool):Prop where
 c0:w.cell? ⟨sb,0,none⟩=some (.int .i64 (st.length:Int))
 c1:w.cell? ⟨sb,1,none⟩=some (.bool wr)
 cw:∀ j,j<64→w.cell? ⟨sb,2+j,none⟩=some (.int .u64 (wdS st j:Nat))
 fz:∀ i,w.frozen? ⟨sb,i,none⟩=false
 hi:st.length≤1024
 sm:∀ x,x ∈ st→x<16
theorem StkC.lt {w:World}{sb:Nat}{st:List Nat}{wr:Bool} (h:StkC w sb st wr):sb<w.heap.size:=lt_of_cell (a:=⟨sb,0,none⟩) h.c0
theorem StkC.of_block {w w':World}{sb:Nat}{st:List Nat}{wr:Bool} (h:StkC w sb st wr) (hb:w'.heap[sb]?=w.heap[sb]?):StkC w' sb st wr:=
 ⟨(World.cell?_of_block (w:=w) (a:=⟨sb,0,none⟩) hb).trans h.c0,(World.cell?_of_block (w:=w) (a:=⟨sb,1,none⟩) hb).trans h.c1,fun j hj=>(World.cell?_of_block (w:=w) (a:=⟨sb,2+j,none⟩) hb).trans (h.cw j hj),
   fun i=>(World.frozen?_of_block (w:=w) (a:=⟨sb,i,none⟩) hb).trans (h.fz i),h.hi,h.sm⟩
theorem StkC.fr {S:List Nat}{w w':World}{sb:Nat}{st:List Nat}{wr:Bool} (h:StkC w sb st wr) (hf:Fr S w w') (hr:sb ∉ S):StkC w' sb st wr:=h.of_block (hf.block sb h.lt hr)
def StkO (w:World) (sb:Nat):Option (List Nat)→Prop
 | some st=>StkC w sb st false
 | none=>∃ st,StkC w sb st true
theorem orL_drop (s t:List Nat) (n:Nat):(orL s t).drop n=orL (s.drop n) (t.drop n):=by unfold orL;rw[List.drop_zipWith]
theorem orL_take (s t:List Nat) (n:Nat):(orL s t).take n=orL (s.take n) (t.take n):=by unfold orL;rw[List.take_zipWith]
theorem wdS_or {s t:List Nat} (hs:∀ x,x ∈ s→x<16) (ht:∀ x,x ∈ t→x<16) (hl:s.length=t.length) (j:Nat):wdS s j ||| wdS t j=wdS (orL s t) j:=by
 unfold wdS
 rw[orL_drop,orL_take,pk_or]
 ·exact fun y hy=>hs y (List.mem_of_mem_drop (List.mem_of_mem_take hy))
 ·exact fun y hy=>ht y (List.mem_of_mem_drop (List.mem_of_mem_take hy))
 ·simp[hl]
theorem orL_small {s t:List Nat} (hs:∀ x,x ∈ s→x<16) (ht:∀ x,x ∈ t→x<16):∀ x,x ∈ orL s t→x<16:=by
 intro x hx
 unfold orL at hx
 obtain⟨i,hi,rfl⟩:=List.mem_iff_getElem.1 hx
 rw[List.getElem_zipWith]
 have h1:=hs _ (List.getElem_mem (l:=s) (n:=i) (by simp at hi;omega))
 have h2:=ht _ (List.getElem_mem (l:=t) (n:=i) (by simp at hi;omega))
 exact Nat.or_lt_two_pow (n:=4) h1 h2
theorem wdS_inj {s t:List Nat} (hs:∀ x,x ∈ s→x<16) (ht:∀ x,x ∈ t→x<16) (hl:s.length=t.length) (h:∀ j,j<(s.length+15) / 16→wdS s j=wdS t j):s=t:=by
 apply List.ext_getElem hl
 intro i h1 h2
 have hj:=h (i / 16) (by omega)
 unfold wdS at hj
 have e:=pk_inj (s:=(s.drop (16*(i / 16))).take 16) (t:=(t.drop (16*(i / 16))).take 16) (fun y hy=>hs y (List.mem_of_mem_drop (List.mem_of_mem_take hy))) (fun y hy=>ht y (List.mem_of_mem_drop (List.mem_of_mem_take hy))) (by simp[hl]) hj
 have e2:=congrArg (fun l=>l[i % 16]?) e
 simp only[List.getElem?_take,List.getElem?_drop] at e2
 have hm:i % 16<16:=by omega
 rw[if_pos hm,if_pos hm,show 16*(i / 16)+i % 16=i by omega] at e2
 rw[List.getElem?_eq_getElem h1,List.getElem?_eq_getElem h2] at e2
 simpa using e2
structure MeetI (w:World) (sb:Nat) (s u:List Nat) (wr:Bool) (i:Nat):Prop where
 c0:w.cell? ⟨sb,0,none⟩=some (.int .i64 (s.length:Int))
 c1:w.cell? ⟨sb,1,none⟩=some (.bool wr)
 cw:∀ j,j<64→w.cell? ⟨sb,2+j,none⟩=some (.int .u64 ((if j<i then wdS u j else wdS s j:Nat):Int))
 fz:∀ i,w.frozen? ⟨sb,i,none⟩=false
theorem meet_any (w:World) (sb ob:Nat) (s t:List Nat) (wg wr2:Bool) (hS:StkC w sb s wg) (hT:StkC w ob t wr2) (hl:s.length=t.length) (hne:sb≠ob) :
  Calls Tryz.prog 182 #[.pointer (some ⟨sb,0,none⟩),.pointer (some ⟨ob,0,none⟩)] w fun e w'=>e=.returned (.bool (decide (orL s t≠s)))∧StkC w' sb (orL s t) wg∧Fr [sb] w w':=by
 have hm:Tryz.prog.follows Departure.mixedOrders=true:=by kernel_rfl
 have hhi:=hS.hi
 obtain⟨n,hn⟩:∃ n,s.length=n:=⟨_,rfl⟩
 obtain⟨m,hmm⟩:∃ m,(n+15) / 16=m:=⟨_,rfl⟩
 have hmI:((n:Int)+15).tdiv 16=(m:Int):=by rw[Int.tdiv_eq_ediv_of_nonneg (by omega)];omega
 have hmI2:((n:Int)+16-1).tdiv 16=(m:Int):=by rw[show (n:Int)+16-1=(n:Int)+15 by omega];exact hmI
 have hor:=fun j=>wdS_or hS.sm hT.sm hl j
 have hlt:=fun j=>wdS_lt hS.sm j
 have hlt2:=fun j=>wdS_lt hT.sm j
 have hsm:=orL_small hS.sm hT.sm
 have hol:(orL s t).length=s.length:=orL_length hl
 have hinj:=wdS_inj hS.sm hsm hol.symm
 obtain⟨u,hu⟩:∃ u,orL s t=u:=⟨_,rfl⟩
 rw[hu] at hor hsm hol hinj ⊢
 have c0:=hS.c0
 rw[hn] at c0
 have M0:MeetI w sb s u wg 0:=⟨hS.c0,hS.c1,fun j hj=>by rw[if_neg (by omega)];exact hS.cw j hj,hS.fz⟩
 have hzero:∀ j,m≤j→wdS u j=wdS s j:=fun j hj=>by
  unfold wdS
  rw[List.drop_eq_nil_of_le (by omega),List.drop_eq_nil_of_le (by omega)]
 have HT:Hid (∀ W:World,Fr [sb] w W→∀ j,j<64→W.cell? ⟨ob,2+j,none⟩=some (.int .u64 (wdS t j:Nat))):=fun W hW j hj=>(hW.cell (p:=⟨ob,2+j,none⟩) hT.lt (by simpa using fun e=>hne e.symm)).trans (hT.cw j hj)
 have HB:Hid (∀ j,bits .or .u64 (wdS s j:Int) (wdS t j:Int)=(wdS u j:Int)):=fun j=>by rw[bits_or_u64_nat _ _ (hlt j) (hlt2 j),hor j]
 have HI:Hid ((∀ j,j<m→wdS u j=wdS s j)↔u=s):=⟨fun h=>(hinj (fun j hj=>(h j (by omega)).symm)).symm,fun h j _=>by rw[h]⟩
 have HZ:Hid _:=hzero
 have HL:Hid _:=And.intro hol hsm
 clear hS hT hor hlt hlt2 hsm hol hinj hzero hu hl
 go_enter Tryz.func182,Tryz.ntmps182
 go_wp2
 go_loopw [5,15] (fun ch i W=>∃ (k:Nat) (c:Bool),k≤m∧i=.int .i64 k∧ch=.bool c∧MeetI W sb s u wg k∧Fr [sb] w W∧Hid (c=true↔∃ j,j<k∧wdS u j≠wdS s j)) (fun _ i _=>m-(intOf i).toNat)
 case atStart=>exact⟨0,false,by omega,rfl,rfl,M0,Fr.refl [sb] w,⟨fun h=>(by cases h),fun ⟨j,hj,_⟩=>absurd hj (by omega)⟩⟩
 case round=>
  clear M0
  obtain⟨k,c,hk,rfl,rfl,M,F,Hc⟩:=hrel
  have M':=M
  obtain⟨d0,d1,dw,dz⟩:=M
  by_cases hlt:k<m
  ·have g1:(k:Int)<m:=by omega
   have hk64:k<64:=by omega
   have e1:=dw k hk64
   rw[if_neg (by omega)] at e1
   have e2:=HT.out _ F k hk64
   have e3:=HB.out k
   have e4:=dz (2+k)
   obtain⟨A,hA⟩:∃ A,wdS s k=A:=⟨_,rfl⟩
   obtain⟨B,hB⟩:∃ B,wdS t k=B:=⟨_,rfl⟩
   obtain⟨C,hC⟩:∃ C,wdS u k=C:=⟨_,rfl⟩
   rw[hA] at e1 e3
   rw[hB] at e2 e3
   rw[hC] at e3
   have hbne:((C:Int)!=(A:Int))=decide (C≠A):=by
    by_cases q:C=A
    ·subst q;simp
    ·simp only[ne_eq,q,not_false_eq_true,decide_true,bne_iff_ne];omega
   have Knew:MeetI (wr.setCell ⟨sb,2+k,none⟩ (.int .u64 (C:Int))) sb s u wg (k+1):=by
    refine⟨(setCell_off (by omega)).trans d0,(setCell_off (by omega)).trans d1,fun j hj=>?_,fun i=>by rw[World.frozen?_setCell];exact dz i⟩
    by_cases ej:j=k
    ·subst ej
     rw[World.cell?_setCell_same' _ _ _ (by rw[e1];rfl),if_pos (by omega),hC]
    ·rw[setCell_off (by omega),dw j hj]
     by_cases hjk:j<k
     ·rw[if_pos hjk,if_pos (by omega)]
     ·rw[if_neg hjk,if_neg (by omega)]
   have hcnew:∀ c2:Bool,(c2=true↔c=true∨C≠A)→(c2=true↔∃ j,j<k+1∧wdS u j≠wdS s j):=fun c2 h2=>by
    rw[h2,Hc.out]
    constructor
    ·rintro (⟨j,h3,h4⟩ | h3)
     ·exact⟨j,by omega,h4⟩
     ·exact⟨k,by omega,by rw[hC,hA];exact h3⟩
    ·rintro ⟨j,h3,h4⟩
     by_cases ej:j=k
     ·subst ej;rw[hC,hA] at h4;exact .inr h4
     ·exact .inl ⟨j,by omega,h4⟩
   have HK:Hid _:=Knew
   have HN:Hid _:=hcnew
   clear Knew hcnew hA hB hC d0 d1 dw dz M' HT HB HI HZ HL Hc
   cases c with
   | true=>
    go_wp2
    go_region
    go_wp2
    refine⟨⟨k+1,true,by omega,by go_num,rfl,⟨HK.out.c0,HK.out.c1,HK.out.cw,HK.out.fz⟩,(F.setCell (p:=⟨sb,2+k,none⟩) (.inl (by simp)) _).drew,HN.out true (by simp)⟩,by simp[intOf];omega⟩
   | false=>
    go_wp2
    go_region
    go_wp2
    refine⟨⟨k+1,!decide (C=A),by omega,by go_num,rfl,⟨HK.out.c0,HK.out.c1,HK.out.cw,HK.out.fz⟩,(F.setCell (p:=⟨sb,2+k,none⟩) (.inl (by simp)) _).drew,HN.out _ (by simp)⟩,by simp[intOf];omega⟩
  ·obtain rfl:k=m:=by omega
   have g1:¬ (k:Int)<k:=by omega
   have Kend:StkC wr sb u wg:=by
    obtain⟨q1,q2⟩:=HL.out
    refine⟨by rw[q1];exact d0,d1,fun j hj=>?_,dz,by omega,q2⟩
    rw[dw j hj]
    by_cases hjk:j<k
    ·rw[if_pos hjk]
    ·rw[if_neg hjk,HZ.out j (by omega)]
   have hc:c=decide (u≠s):=by
    rw[Bool.eq_iff_iff,Hc.out,decide_eq_true_eq,ne_eq,← HI.out]
    constructor
    ·rintro ⟨j,h1,h2⟩ h3
     exact h2 (h3 j h1)
    ·intro h3
     apply Classical.byContradiction
     intro h4
     apply h3
     intro j hj
     apply Classical.byContradiction
     intro h5
     exact h4 ⟨j,hj,h5⟩
   have HE:Hid _:=hc
   clear hc Hc HL HZ HI HB HT M' d0 d1 dw dz
   go_wp2
   go_ret
   refine⟨?_,Kend,F⟩
   have hE:c = !decide (u=s):=by rw[HE.out];simp
   rw[← hE]
   rfl
open Wire
def StrsIn (W:World) (v:Value) (L:List ByteArray):Prop:=
 ∃ (a0:Option Addr) (cap g off:Nat),v=.slice a0 L.length cap∧L.length≤cap∧(0<L.length→a0=some ⟨g,off,none⟩∧g<W.heap.size) ∧
  ∀ (i:Nat) (x:ByteArray),L[i]?=some x→W.cell? ⟨g,off+i,none⟩=some (.string x)
def FnsIn (W:World) (v:Value) (L:List Wire.Fn):Prop:=
 ∃ (a0:Option Addr) (cap g off:Nat),v=.slice a0 L.length cap∧L.length≤cap∧(0<L.length→a0=some ⟨g,off,none⟩∧g<W.heap.size) ∧
  ∀ (i:Nat) (x:Wire.Fn),L[i]?=some x→W.cell? ⟨g,off+i*3,none⟩=some (.int .i64 x.params)∧W.cell? ⟨g,off+i*3+1,none⟩=some (.int .i64 x.locs)∧W.cell? ⟨g,off+i*3+2,none⟩=some (.string x.code)
theorem StrsIn.fr {W W':World}{v:Value}{L:List ByteArray} (h:StrsIn W v L) (hf:Fr [] W W'):StrsIn W' v L:=by
 obtain⟨a0,cap,g,off,hv,hc,ha,hx⟩:=h
 refine⟨a0,cap,g,off,hv,hc,fun h0=>⟨(ha h0).1,Nat.lt_of_lt_of_le (ha h0).2 hf.size⟩,fun i x hi=>?_⟩
 have h0:0<L.length:=by have:=(List.getElem?_eq_some_iff.1 hi).1;omega
 exact (hf.cell (p:=⟨g,off+i,none⟩) (ha h0).2 (by simp)).trans (hx i x hi)
theorem FnsIn.fr {W W':World}{v:Value}{L:List Wire.Fn} (h:FnsIn W v L) (hf:Fr [] W W'):FnsIn W' v L:=by
 obtain⟨a0,cap,g,off,hv,hc,ha,hx⟩:=h
 refine⟨a0,cap,g,off,hv,hc,fun h0=>⟨(ha h0).1,Nat.lt_of_lt_of_le (ha h0).2 hf.size⟩,fun i x hi=>?_⟩
 have h0:0<L.length:=by have:=(List.getElem?_eq_some_iff.1 hi).1;omega
 obtain⟨x0,x1,x2⟩:=hx i x hi
 exact⟨(hf.cell (p:=⟨g,off+i*3,none⟩) (ha h0).2 (by simp)).trans x0,(hf.cell (p:=⟨g,off+i*3+1,none⟩) (ha h0).2 (by simp)).trans x1,(hf.cell (p:=⟨g,off+i*3+2,none⟩) (ha h0).2 (by simp)).trans x2⟩
theorem strCells_bl (s:ByteArray):Lib.strCells s=Lib.byteCells (bl s):=by
 simp[Lib.strCells,Lib.byteCells,bl]
theorem appendText_any (w0:World) (l:List UInt8) (v:Value) (s:ByteArray) (w:World) (hs:s.size≤100000) (hl:l.length≤900000000) (h:OwnB w0 l v w) :
  Calls Tryz.prog 266 #[v,.string s] w fun e w'=>∃ v',e=.returned v'∧OwnB w0 (l++textB s) v' w':=by
 obtain⟨i0,hi,hz0,hz1,hz2⟩:=info_parts infoB
 have hA:=numAppend_any w0 l v s.size w (by omega) (by omega) h
 have hdl:=digs_len s.size
 have hE:textB s=digs s.size++bl s:=rfl
 have HE:Hid _:=hE
 have hlen:(l++digs s.size).length≤900000010:=by rw[List.length_append];omega
 clear hE h
 go_enter Tryz.func266,Tryz.ntmps266
 go_wp2_with fail
 refine hA.mono ?_
 rintro e w1 ⟨v1,rfl,J,G⟩
 clear hA G
 obtain⟨q,hq⟩:∃ q,l++digs s.size=q:=⟨_,rfl⟩
 rw[hq] at hlen J
 have hown:=J.own
 have hsz:=J.fr.size
 go_wp2_with (at_builtin;refine Lib.wpList_append_own_string _ rfl _ _ 129 9 rfl w0.heap.size 5 i0 Tryz.underlying129 Tryz.underlying9 hi hz0 hz1 hz2 _ _ _ rfl hown s rfl (by unfold maxLen;omega) (by omega) hsz ?_)
 intro v' w3 hown' hgrow _
 rw[strCells_bl] at hown'
 have J3:=J.grown (l':=bl s) (by rw[bl_length];exact hown') hgrow
 rw[← hq,List.append_assoc,← HE.out] at J3
 clear hown hown' hgrow J
 go_wp2
 go_ret
 exact⟨v',rfl,J3⟩
theorem textsB_take (L:List ByteArray) (k:Nat) (h:k<L.length):textsB (L.take (k+1))=textsB (L.take k)++textB L[k]:=by
 rw[List.take_succ_eq_append_getElem h]
 unfold textsB
 rw[List.flatMap_append]
 simp
theorem textB_len (s:ByteArray):(textB s).length≤10+s.size:=by
 have:=digs_len s.size
 rw[textB,List.length_append,bl_length];omega
theorem textsB_len (L:List ByteArray) (n:Nat) (h:∀ s ∈ L,s.size≤n):(textsB L).length≤L.length*(10+n):=by
 induction L with
 | nil=>simp[textsB]
 | cons s L ih=>
  have h1:=ih (fun x hx=>h x (by simp[hx]))
  have h2:=textB_len s
  have h3:=h s (by simp)
  have e:textsB (s :: L)=textB s++textsB L:=by simp[textsB]
  rw[e,List.length_append,List.length_cons,Nat.add_mul]
  omega
theorem appendTexts_any (tv:Value) (L:List ByteArray) (w:World) (hs:∀ s ∈ L,s.size≤100) (hn:L.length≤1000) (hL:StrsIn w tv L) :
  Calls Tryz.prog 233 #[.slice none 0 0,tv] w fun e w'=>∃ v',e=.returned v'∧OwnB w (listing L) v' w':=by
 obtain⟨a0,cap,g,off,rfl,hcap,ha,hx⟩:=hL
 have hA:=numAppend_any w [] (.slice none 0 0) L.length w (by omega) (by simp) (OwnB.start w)
 have hdl:=digs_len L.length
 have HE:Hid (listing L=digs L.length++textsB L):=rfl
 obtain⟨d,hd⟩:∃ d,digs L.length=d:=⟨_,rfl⟩
 rw[List.nil_append,hd] at hA
 rw[hd] at hdl HE
 clear hd
 have Hs:Hid _:=hs
 have Hx:Hid _:=hx
 have Ha:Hid _:=ha
 clear hs hx ha
 go_enter Tryz.func233,Tryz.ntmps233
 go_wp2_with fail
 refine hA.mono ?_
 rintro e w1 ⟨v1,rfl,J,G⟩
 clear hA G
 go_wp2
 go_loopw [0,13] (fun u i wr=>∃ k:Nat,k≤L.length∧i=.int .i64 k∧OwnB w (d++textsB (L.take k)) u wr) (fun _ i _=>L.length-(intOf i).toNat)
 case atStart=>exact⟨0,by omega,rfl,by simpa [textsB] using J⟩
 case round=>
  clear J
  obtain⟨k,hk,rfl,J⟩:=hrel
  by_cases hlt:k<L.length
  ·obtain⟨rfl,hg⟩:=Ha.out (by omega)
   have g1:(k:Int)<L.length:=by omega
   have c1:wr.cell? ⟨g,off+k,none⟩=some (.string L[k]):=(J.fr.cell (p:=⟨g,off+k,none⟩) hg (by simp)).trans (Hx.out k _ (List.getElem?_eq_getElem hlt))
   have hsz:=Hs.out L[k] (List.getElem_mem hlt)
   have htl:=textsB_len (L.take k) 100 (fun s hs=>Hs.out s (List.mem_of_mem_take hs))
   have htk:(L.take k).length≤1000:=by rw[List.length_take];omega
   have hT:=appendText_any w (d++textsB (L.take k)) u0 L[k] wr (by omega) (by rw[List.length_append];omega) J
   have htake:=textsB_take L k hlt
   obtain⟨s,hsk⟩:∃ s,L[k]=s:=⟨_,rfl⟩
   rw[hsk] at c1 hT htake
   rw[List.append_assoc,← htake] at hT
   clear htake htl htk hsz J
   go_wp2_with fail
   refine hT.mono ?_
   rintro e w3 ⟨v3,rfl,J3⟩
   clear hT
   go_wp2
   exact⟨⟨k+1,by omega,by go_num,J3⟩,by simp[intOf];omega⟩
  ·obtain rfl:k=L.length:=by omega
   have g1:¬ ((L.length:Int)<L.length):=by omega
   rw[List.take_length,← HE.out] at J
   go_wp2
   go_ret
   exact⟨u0,rfl,J⟩
end Go.Proofs.YtclkgoigmgkffaaGreatDoor
