/-
  Texts Ma Mb Vd Vg Vh.
-/
import Derived.Test.YtclkgoigmgkffaaGreatDoorRows
import Derived.WalkKit
import Derived.WalkSpells
import Derived.WalkLawsBesides
import Derived.BigQuiet
import Derived.Deep.QuietTactic
import Derived.Maps.AppendAt
import Derived.Lib.AppendStr
import Derived.Lib.UnsafeStr
import Derived.Laws.OwnMore
import Derived.PlainAid
import Derived.Test.YtclkgoigmgkffaaGreatDoorMA
import Derived.Test.YtclkgoigmgkffaaGreatDoorM00
set_option linter.unusedSimpArgs false
set_option linter.unusedVariables false
set_option maxRecDepth 100000
set_option maxHeartbeats 40000000
namespace Go.Proofs.YtclkgoigmgkffaaGreatDoor
open Go.RowKit
open Wire
def numV (l:List UInt8):Nat:=match num l with
 | none=>0
 | some p=>p.1
def numK (l:List UInt8):Nat:=match num l with
 | none=>0
 | some p=>l.length-p.2.length
theorem getD_bl (c:ByteArray)(i:Nat)(h:i<c.size):(bl c).getD i 0=c[i]:=by
 have:i<(bl c).length:=by rw[bl_length];exact h
 rw[List.getD_eq_getElem?_getD,Lge this]
 simp only[bl,Option.getD_some,Array.getElem_toList]
 rfl
theorem wraps_u64 (n:Int)(h₀:0≤n)(h₁:n<18446744073709551616):IntKind.u64.wrap n=n:=by rw[IntKind.wrap_u64];omega
theorem pow7 (k:Nat)(hk:k<5):(2:Nat) ^ (7*k)≤268435456:=by
 have:(2:Nat) ^ (7*k)≤2 ^ 28:=Nat.pow_le_pow_right (by omega) (by omega)
 omega
theorem or_fact (A x k B:Nat)(hx:x<256)(hk:k<5)(hA:A<128 ^ k)(hB:A ||| ((x &&& 127) <<< (7*k))=B) :
  bits .or .u64 (A:Int) (IntKind.u64.wrap (IntKind.u64.wrap (bits .and .u8 (x:Int) 127)*2 ^ (7*k)))=(B:Int):=by
 have h1:bits .and .u8 (x:Int) 127=((x &&& 127:Nat):Int):=(bits_nat .u8 8 (by decide) (fun n a b=>wraps_u8 n a b) x 127 (by omega) (by omega)).1
 have h2:x &&& 127≤127:=Nat.and_le_right
 have h3:=pow7 k hk
 have h4:(x &&& 127)*2 ^ (7*k)≤127*268435456:=Nat.mul_le_mul h2 h3
 have h5:(((x &&& 127:Nat):Int)*2 ^ (7*k))=(((x &&& 127)*2 ^ (7*k):Nat):Int):=by push_cast;rfl
 have h6:(128:Nat) ^ k≤128 ^ 5:=Nat.pow_le_pow_right (by omega) (by omega)
 rw[h1,wraps_u64 (((x &&& 127:Nat):Int)) (by omega) (by omega),h5,wraps_u64 _ (by omega) (by omega),bits_or_u64_nat _ _ (by omega) (by omega),← hB,Nat.shiftLeft_eq]
theorem accN_small (c:List UInt8)(k:Nat)(h:k≤5):accN c k<34359738368:=by
 have h6:(128:Nat) ^ k≤128 ^ 5:=Nat.pow_le_pow_right (by omega) (by omega)
 have:=accN_lt c k
 have:=pow5
 omega
theorem numRead_any (c:ByteArray)(hs:c.size≤40000)(w:World) :
  Calls Tryz.prog 178 #[.string c] w fun e w'=>e=.returned (.tuple #[.int .i64 (numV (bl c)),.int .i64 (numK (bl c))])∧w'=w:=by
 have hL:=bl_length c
 obtain⟨V,hV⟩:∃ V,numV (bl c)=V:=⟨_,rfl⟩
 obtain⟨K,hK⟩:∃ K,numK (bl c)=K:=⟨_,rfl⟩
 rw[hV,hK]
 have HV:Hid _:=hV
 have HK:Hid _:=hK
 clear hV hK
 go_enter Tryz.func178,Tryz.ntmps178
 go_wp2
 all_goals
  go_loop [4,5,10] (fun a i j=>∃ k:Nat,k≤5∧k≤c.size∧a=.int .u64 (accN (bl c) k)∧j=.int .i64 k∧∀ m,m<k→128≤((bl c).getD m 0).toNat) (fun _ _ i=>5-(intOf i).toNat)
  case atStart=>exact⟨0,by omega,by omega,rfl,rfl,by omega⟩
  case round=>
   obtain⟨k,hk5,hk,rfl,rfl,hall⟩:=hrel
   have ha:=accN_lt (bl c) k
   have ho:=accN_or (bl c) k
   by_cases hlt:k<5∧k<c.size
   ·have g1:(k:Int)<c.size:=by omega
    have g2:(k:Int)<5:=by omega
    have gk:=getD_bl c k hlt.2
    have hsm:=accN_small (bl c) (k+1) (by omega)
    have hst:=fun h0=>num_stop (c:=bl c) (i:=k) hlt.1 (by omega) hall h0
    have hdl:((bl c).drop (k+1)).length=c.size-(k+1):=by rw[List.length_drop,hL]
    have hxl:=c[k].toNat_lt
    rw[gk] at ho hst
    obtain⟨A,hA⟩:∃ A,accN (bl c) k=A:=⟨_,rfl⟩
    obtain⟨B,hB⟩:∃ B,accN (bl c) (k+1)=B:=⟨_,rfl⟩
    obtain⟨x,hx⟩:∃ x,c[k].toNat=x:=⟨_,rfl⟩
    rw[hA] at ha ho
    rw[hB] at ho hsm hst
    rw[hx] at ho hst hxl
    simp only[hA]
    have hor:=or_fact A x k B (by omega) hlt.1 ha ho
    have HB:Hid _:=hB
    have Hst:Hid _:=hst
    have Hall:Hid _:=hall
    have Hgk:Hid _:=gk
    clear hA ho hB hst hall ha gk
    by_cases hx1:128≤x
    ·have g3:(128:Int)≤x:=by omega
     go_wp2
     go_round
     case rel=>
      refine⟨k+1,by omega,by omega,by rw[HB.out],by go_num,fun m hm=>?_⟩
      by_cases e:m=k
      ·subst e;rw[Hgk.out,hx];exact hx1
      ·exact Hall.out m (by omega)
     case measure=>simp[intOf];omega
    ·have g3:¬ (128:Int)≤x:=by omega
     have hst:=Hst.out (by omega)
     clear Hst
     by_cases hz:0<k∧x=0
     ·rw[if_pos hz] at hst
      have g4:(0:Int)<k:=by omega
      have g5:(x:Int)=0:=by omega
      have g6:((x:Int)==0)=true:=by simp;omega
      obtain rfl:V=0:=by rw[← HV.out];simp only[numV,hst]
      obtain rfl:K=0:=by rw[← HK.out];simp only[numK,hst]
      obtain rfl:x=0:=hz.2
      clear hst hz
      go_wp2
      go_ret2
      exact⟨rfl,rfl⟩
     ·rw[if_neg hz] at hst
      obtain rfl:V=B:=by rw[← HV.out];simp only[numV,hst]
      obtain rfl:K=k+1:=by rw[← HK.out];simp only[numK,hst,hdl,hL];omega
      clear hst HB
      by_cases hk0:k=0
      ·have g4:¬ ((0:Int)<k):=by omega
       clear hk0
       go_wp2
       go_ret2
       exact⟨rfl,rfl⟩
      ·have g4:(0:Int)<k:=by omega
       have g6:((x:Int)==0)=false:=by simp;omega
       have g5:¬ ((x:Int)=0):=by omega
       go_wp2
       go_ret2
       exact⟨rfl,rfl⟩
   ·have hst:=num_end (c:=bl c) (i:=k) hk5 (by omega) hall (by omega)
    obtain rfl:V=0:=by rw[← HV.out];simp only[numV,hst]
    obtain rfl:K=0:=by rw[← HK.out];simp only[numK,hst]
    clear hst ha ho
    by_cases hks:(k:Int)<5
    ·have g1:¬ ((k:Int)<c.size):=by omega
     first
     | (exfalso;omega)
     | (go_wp2
        go_ret2
        exact⟨rfl,rfl⟩)
    ·first
     | (exfalso;omega)
     | (have g1:¬ ((k:Int)<c.size):=by omega
        go_wp2
        go_ret2
        exact⟨rfl,rfl⟩)
     | (go_wp2
        go_ret2
        exact⟨rfl,rfl⟩)
theorem low8 (n:Nat)(h:n<128):n=(UInt8.ofNat n).toNat:=by
 have e:(UInt8.ofNat n).toNat=n:=by simp[UInt8.toNat_ofNat];omega
 exact e.symm
theorem one_byte (x:Int):∀ u ∈ [Value.int .u8 x],u.oneCell'=true:=by intro u hu;simp at hu;subst hu;rfl
theorem le_alloc {b:Nat}{w:World} (o:Obj) (h:b≤w.heap.size):b≤(w.alloc o).heap.size:=by simp;omega
theorem digsF_len (f n:Nat):(digsF f n).length≤f:=by
 induction f generalizing n with
 | zero=>simp[digsF]
 | succ f ih=>
  simp only[digsF]
  split
  ·simp
  ·have:=ih (n / 128);simp;omega
theorem digs_len (n:Nat):(digs n).length≤10:=digsF_len 10 n
namespace Flow
def lst (a b:UInt8):UInt8:=if a=b then a else if a=107∨b=107∨a=106∨b=106 then 106 else 97
def le (a b:UInt8):Prop:=lst a b=b
theorem le_cases {a b:UInt8}:le a b↔a=b∨b=106∨(b=97∧a≠107∧a≠106):=by
 unfold le lst
 by_cases h:a=b
 ·simp[h]
 ·rw[if_neg h]
  by_cases hk:a=107∨b=107∨a=106∨b=106
  ·rw[if_pos hk]
   constructor
   ·intro e;exact Or.inr (Or.inl e.symm)
   ·rintro (e | e | ⟨e,h1,h2⟩)
    ·exact absurd e h
    ·exact e.symm
    ·subst e
     rcases hk with e | e | e | e
     ·exact absurd e h1
     ·exact absurd e (by decide)
     ·exact absurd e h2
     ·exact absurd e (by decide)
  ·rw[if_neg hk]
   constructor
   ·intro e;exact Or.inr (Or.inr ⟨e.symm,fun x=>hk (Or.inl x),fun x=>hk (Or.inr (Or.inr (Or.inl x)))⟩)
   ·rintro (e | e | ⟨e,h1,h2⟩)
    ·exact absurd e h
    ·exact absurd (Or.inr (Or.inr (Or.inr e))) hk
    ·exact e.symm
theorem le_refl (a:UInt8):le a a:=le_cases.2 (Or.inl rfl)
theorem le_trans {a b c:UInt8}(h:le a b)(g:le b c):le a c:=by
 rw[le_cases] at *
 rcases h with rfl | rfl | ⟨rfl,h1,h2⟩
 ·exact g
 ·rcases g with rfl | rfl | ⟨rfl,g1,g2⟩
  ·exact Or.inr (Or.inl rfl)
  ·exact Or.inr (Or.inl rfl)
  ·exact absurd rfl g2
 ·rcases g with rfl | rfl | ⟨rfl,g1,g2⟩
  ·exact Or.inr (Or.inr ⟨rfl,h1,h2⟩)
  ·exact Or.inr (Or.inl rfl)
  ·exact Or.inr (Or.inr ⟨rfl,h1,h2⟩)
theorem le_antisymm {a b:UInt8}(h:le a b)(g:le b a):a=b:=by
 rw[le_cases] at *
 rcases h with h | rfl | ⟨rfl,h1,h2⟩
 ·exact h
 ·rcases g with g | g | ⟨_,g1,g2⟩
  ·exact g.symm
  ·exact g
  ·exact absurd rfl g2
 ·rcases g with g | g | ⟨g,g1,g2⟩
  ·exact g.symm
  ·exact absurd g h2
  ·exact g
theorem lst_comm (a b:UInt8):lst a b=lst b a:=by
 unfold lst
 by_cases h:a=b
 ·rw[if_pos h,if_pos h.symm,h]
 ·rw[if_neg h,if_neg (show ¬ b=a from fun e=>h e.symm)]
  by_cases hk:a=107∨b=107∨a=106∨b=106
  ·rw[if_pos hk,if_pos (by rcases hk with e | e | e | e <;> simp[e])]
  ·rw[if_neg hk,if_neg (fun e=>hk (by rcases e with e | e | e | e <;> simp[e]))]
theorem le_lst (a b:UInt8):le a (lst a b):=by
 rw[le_cases]
 unfold lst
 by_cases h:a=b
 ·rw[if_pos h];exact Or.inl rfl
 ·rw[if_neg h]
  by_cases hk:a=107∨b=107∨a=106∨b=106
  ·rw[if_pos hk];exact Or.inr (Or.inl rfl)
  ·rw[if_neg hk]
   exact Or.inr (Or.inr ⟨rfl,fun x=>hk (Or.inl x),fun x=>hk (Or.inr (Or.inr (Or.inl x)))⟩)
theorem le_lst' (a b:UInt8):le b (lst a b):=by rw[lst_comm];exact le_lst b a
theorem lst_le {a b c:UInt8}(h:le a c)(g:le b c):le (lst a b) c:=by
 by_cases e:a=b
 ·unfold lst;rw[if_pos e];exact h
 ·rw[le_cases] at h g
  rcases h with rfl | rfl | ⟨rfl,h1,h2⟩
  ·have:lst b a=a:=le_cases.2 g
   rw[lst_comm,this];exact le_refl a
  ·exact le_cases.2 (Or.inr (Or.inl rfl))
  ·rcases g with rfl | g | ⟨_,g1,g2⟩
   ·have:lst a 97=97:=le_cases.2 (Or.inr (Or.inr ⟨rfl,h1,h2⟩))
    rw[this];exact le_refl _
   ·exact absurd g (by decide)
   ·unfold lst
    rw[if_neg e,if_neg]
    ·exact le_refl _
    ·rintro (x | x | x | x)
     ·exact h1 x
     ·exact g1 x
     ·exact h2 x
     ·exact g2 x
def rk (a:UInt8):Nat:=if a=106 then 2 else if a=97 then 1 else 0
theorem rk_le (a:UInt8):rk a≤2:=by unfold rk;split <;> (try split) <;> omega
theorem rk_lt {a b:UInt8}(h:le a b)(hne:a≠b):rk a<rk b:=by
 rw[le_cases] at h
 rcases h with h | rfl | ⟨rfl,h1,h2⟩
 ·exact absurd h hne
 ·unfold rk
  rw[if_neg hne,if_pos rfl]
  split <;> omega
 ·unfold rk
  rw[if_neg h2,if_neg hne]
  decide
theorem rk_mono {a b:UInt8}(h:le a b):rk a≤rk b:=by
 by_cases e:a=b
 ·rw[e];exact Nat.le_refl _
 ·exact Nat.le_of_lt (rk_lt h e)
def leS:List UInt8→List UInt8→Prop
 | [],[]=>True
 | a :: s,b :: t=>le a b∧leS s t
 | _,_=>False
def joinS (s t:List UInt8):List UInt8:=List.zipWith lst s t
theorem leS_length {s t:List UInt8}(h:leS s t):s.length=t.length:=by
 induction s generalizing t with
 | nil=>cases t with
  | nil=>rfl
  | cons=>exact h.elim
 | cons a s ih=>cases t with
  | nil=>exact h.elim
  | cons b t=>simp[ih h.2]
theorem leS_refl (s:List UInt8):leS s s:=by
 induction s with
 | nil=>trivial
 | cons a s ih=>exact⟨le_refl a,ih⟩
theorem leS_trans {s t u:List UInt8}(h:leS s t)(g:leS t u):leS s u:=by
 induction s generalizing t u with
 | nil=>cases t with
  | nil=>exact g
  | cons=>exact h.elim
 | cons a s ih=>cases t with
  | nil=>exact h.elim
  | cons b t=>cases u with
   | nil=>exact g.elim
   | cons c u=>exact⟨le_trans h.1 g.1,ih h.2 g.2⟩
theorem leS_antisymm {s t:List UInt8}(h:leS s t)(g:leS t s):s=t:=by
 induction s generalizing t with
 | nil=>cases t with
  | nil=>rfl
  | cons=>exact h.elim
 | cons a s ih=>cases t with
  | nil=>exact h.elim
  | cons b t=>rw[le_antisymm h.1 g.1,ih h.2 g.2]
theorem joinS_length {s t:List UInt8}(h:s.length=t.length):(joinS s t).length=s.length:=by
 simp[joinS,h]
theorem leS_join {s t:List UInt8}(h:s.length=t.length):leS s (joinS s t):=by
 induction s generalizing t with
 | nil=>cases t with
  | nil=>trivial
  | cons=>simp at h
 | cons a s ih=>cases t with
  | nil=>simp at h
  | cons b t=>exact⟨le_lst a b,ih (by simpa using h)⟩
theorem leS_join' {s t:List UInt8}(h:s.length=t.length):leS t (joinS s t):=by
 induction s generalizing t with
 | nil=>cases t with
  | nil=>trivial
  | cons=>simp at h
 | cons a s ih=>cases t with
  | nil=>simp at h
  | cons b t=>exact⟨le_lst' a b,ih (by simpa using h)⟩
theorem joinS_le {s t u:List UInt8}(h:leS s u)(g:leS t u):leS (joinS s t) u:=by
 induction s generalizing t u with
 | nil=>cases u with
  | nil=>cases t with
   | nil=>trivial
   | cons=>exact g.elim
  | cons=>exact h.elim
 | cons a s ih=>cases u with
  | nil=>exact h.elim
  | cons c u=>cases t with
   | nil=>exact g.elim
   | cons b t=>exact⟨lst_le h.1 g.1,ih h.2 g.2⟩
theorem leS_append {s t u v:List UInt8}(h:leS s t)(g:leS u v):leS (s++u) (t++v):=by
 induction s generalizing t with
 | nil=>cases t with
  | nil=>exact g
  | cons=>exact h.elim
 | cons a s ih=>cases t with
  | nil=>exact h.elim
  | cons b t=>exact⟨h.1,ih h.2⟩
theorem leS_take {s t:List UInt8}(h:leS s t)(n:Nat):leS (s.take n) (t.take n):=by
 induction s generalizing t n with
 | nil=>cases t with
  | nil=>simp[leS]
  | cons=>exact h.elim
 | cons a s ih=>cases t with
  | nil=>exact h.elim
  | cons b t=>cases n with
   | zero=>trivial
   | succ n=>exact⟨h.1,ih h.2 n⟩
theorem leS_drop {s t:List UInt8}(h:leS s t)(n:Nat):leS (s.drop n) (t.drop n):=by
 induction s generalizing t n with
 | nil=>cases t with
  | nil=>simp[leS]
  | cons=>exact h.elim
 | cons a s ih=>cases t with
  | nil=>exact h.elim
  | cons b t=>cases n with
   | zero=>exact h
   | succ n=>exact ih h.2 n
def rkS:List UInt8→Nat
 | []=>0
 | a :: s=>rk a+rkS s
theorem rkS_le (s:List UInt8):rkS s≤2*s.length:=by
 induction s with
 | nil=>simp[rkS]
 | cons a s ih=>have:=rk_le a;simp only[rkS,List.length_cons];omega
theorem rkS_mono {s t:List UInt8}(h:leS s t):rkS s≤rkS t:=by
 induction s generalizing t with
 | nil=>cases t with
  | nil=>exact Nat.le_refl _
  | cons=>exact h.elim
 | cons a s ih=>cases t with
  | nil=>exact h.elim
  | cons b t=>
   have:=rk_mono h.1
   have:=ih h.2
   simp only[rkS];omega
theorem rkS_lt {s t:List UInt8}(h:leS s t)(hne:s≠t):rkS s<rkS t:=by
 induction s generalizing t with
 | nil=>cases t with
  | nil=>exact absurd rfl hne
  | cons=>exact h.elim
 | cons a s ih=>cases t with
  | nil=>exact h.elim
  | cons b t=>
   simp only[rkS]
   by_cases e:a=b
   ·have:=ih h.2 (fun x=>hne (by rw[e,x]))
    rw[e];omega
   ·have:=rk_lt h.1 e
    have:=rkS_mono h.2
    omega
def leSB:List UInt8→List UInt8→Bool
 | [],[]=>true
 | a :: s,b :: t=>decide (lst a b=b) && leSB s t
 | _,_=>false
theorem leSB_iff {s t:List UInt8}:leSB s t=true↔leS s t:=by
 induction s generalizing t with
 | nil=>cases t with
  | nil=>simp[leSB,leS]
  | cons=>simp[leSB,leS]
 | cons a s ih=>cases t with
  | nil=>simp[leSB,leS]
  | cons b t=>simp[leSB,leS,ih,le]
def takesT:List (List UInt8):=[[],[],[],[],[97],[],[97],[110],[110,97],[],[],[116],[116,97],[116],[116],[],[],[107],[110,110],[110,110],[110,110],[110,110],[110,110],[110],[110],[116,116],[97],[97],[97],[97,97],[97,97],[97,97],[97,97],[97,97],[97,97],[116],[116],[116,116],[116],[116],[116,110,110],[116,116],[],[],[],[97],[97,97],[106],[],[110],[],[97],[],[110]]
def givesT:List (List UInt8):=[[110],[116],[97],[97],[],[97],[],[97],[],[110],[110],[97],[],[110],[],[],[107],[107,116],[110],[110],[110],[110],[110],[110],[110],[116],[110],[116],[110],[110],[110],[110],[110],[110],[110],[110],[110],[116],[110],[110],[116],[110],[110],[110],[],[],[],[],[],[],[97],[],[],[]]
def want (par:Nat→Nat) (op a:Nat):List UInt8:=
 if op=44 then List.replicate a 116 else if op=50 then List.replicate (par a) 97 else takesT.getD op []
def give (op:Nat) (top:List UInt8):List UInt8:=
 if op=45 then top++top else if op=46 then top.drop 1++top else givesT.getD op []
def after (par:Nat→Nat) (op a:Nat) (st:List UInt8):Option (List UInt8 × List UInt8):=
 if st.length<(want par op a).length then none
 else if leSB (st.drop (st.length-(want par op a).length)) (want par op a)=true then
  if (st.take (st.length-(want par op a).length)++give op (st.drop (st.length-(want par op a).length))).length≤1024 then
   some (st.take (st.length-(want par op a).length)++give op (st.drop (st.length-(want par op a).length)),st.take (st.length-(want par op a).length))
  else none
 else none
theorem give_mono {op:Nat}{s t:List UInt8} (h:leS s t):leS (give op s) (give op t):=by
 unfold give
 split
 ·exact leS_append h h
 ·split
  ·exact leS_append (leS_drop h 1) h
  ·exact leS_refl _
theorem after_mono {par:Nat→Nat}{op a:Nat}{s t:List UInt8}{o r:List UInt8} (h:leS s t) (ht:after par op a t=some (o,r)) :
  ∃ o' r',after par op a s=some (o',r')∧leS o' o∧leS r' r:=by
 have hl:=leS_length h
 unfold after at ht ⊢
 rw[hl]
 generalize (want par op a)=w at *
 split at ht
 ·cases ht
 ·rename_i hw
  split at ht
  ·rename_i hs
   split at ht
   ·rename_i hm
    simp only[Option.some.injEq,Prod.mk.injEq] at ht
    obtain⟨rfl,rfl⟩:=ht
    have hd:=leS_drop h (t.length-w.length)
    have htk:=leS_take h (t.length-w.length)
    have hg:=leS_append htk (give_mono (op:=op) hd)
    have hs':leSB (s.drop (t.length-w.length)) w=true:=leSB_iff.2 (leS_trans hd (leSB_iff.1 hs))
    rw[if_neg hw,if_pos hs',if_pos (by rw[leS_length hg];exact hm)]
    exact⟨_,_,rfl,hg,htk⟩
   ·cases ht
  ·cases ht
theorem after_height {par:Nat→Nat}{op a:Nat}{s o r:List UInt8} (h:after par op a s=some (o,r)):o.length≤1024∧r.length≤s.length:=by
 unfold after at h
 split at h
 ·cases h
 ·split at h
  ·split at h
   ·rename_i hm
    simp only[Option.some.injEq,Prod.mk.injEq] at h
    obtain⟨rfl,rfl⟩:=h
    exact⟨hm,by rw[List.length_take];omega⟩
   ·cases h
  ·cases h
structure Stp where
 pl:Nat
 nx:Nat
 op:Nat
 a:Nat
 b:Nat
def far (op:Nat):Bool:=op==48 || op==49 || op==17
def halts (op:Nat):Bool:=op==48 || op==51 || op==52 || op==53
def numb:List Stp→Nat→Option Nat
 | [],_=>none
 | s :: l,p=>if s.pl=p then some 0 else (numb l p).map (·+1)
def Has (G:List (Option (List UInt8))) (i:Nat) (st:List UInt8):Prop:=∃ t,G[i]?=some (some t)∧leS st t
def Done (par:Nat→Nat) (l:List Stp) (G:List (Option (List UInt8))) (i:Nat):Prop:=
 ∀ st s,G[i]?=some (some st)→l[i]?=some s→∃ o r,after par s.op s.a st=some (o,r) ∧
  (far s.op=true→∃ k,numb l s.a=some k∧Has G k r)∧(halts s.op=false→Has G (i+1) o)
structure Sol (par:Nat→Nat) (l:List Stp) (G:List (Option (List UInt8))):Prop where
 size:G.length=l.length
 first:G[0]?=some (some [])
 each:∀ i,i<l.length→Done par l G i
def Under (G T:List (Option (List UInt8))):Prop:=∀ i st,G[i]?=some (some st)→Has T i st
def laid (G:List (Option (List UInt8))) (i:Nat) (st:List UInt8):List (Option (List UInt8)):=
 match G[i]? with
 | some (some t)=>G.set i (some (joinS t st))
 | _=>G.set i (some st)
theorem laid_length (G:List (Option (List UInt8)))(i:Nat)(st:List UInt8):(laid G i st).length=G.length:=by
 unfold laid;split <;> simp
theorem under_laid {G T:List (Option (List UInt8))}{i:Nat}{st:List UInt8} (h:Under G T) (hs:Has T i st):Under (laid G i st) T:=by
 intro j u hj
 unfold laid at hj
 split at hj
 ·rename_i t ht
  rw[List.getElem?_set] at hj
  split at hj
  ·rename_i e
   subst e
   split at hj
   ·simp only[Option.some.injEq] at hj
    subst hj
    obtain⟨a,ha,hl⟩:=h i t ht
    obtain⟨b,hb,hm⟩:=hs
    rw[ha] at hb
    simp only[Option.some.injEq] at hb
    subst hb
    exact⟨a,ha,joinS_le hl hm⟩
   ·cases hj
  ·exact h j u hj
 ·rw[List.getElem?_set] at hj
  split at hj
  ·rename_i e
   subst e
   split at hj
   ·simp only[Option.some.injEq] at hj
    subst hj
    exact hs
   ·cases hj
  ·exact h j u hj
theorem under_height {G T:List (Option (List UInt8))}{i:Nat}{st t:List UInt8} (h:Under G T) (hs:Has T i st) (ht:G[i]?=some (some t)):t.length=st.length:=by
 obtain⟨a,ha,hl⟩:=h i t ht
 obtain⟨b,hb,hm⟩:=hs
 rw[ha] at hb
 simp only[Option.some.injEq] at hb
 subst hb
 rw[leS_length hl,leS_length hm]
theorem has_laid {G:List (Option (List UInt8))}{i:Nat}{st:List UInt8} (hi:i<G.length) (hh:∀ t,G[i]?=some (some t)→t.length=st.length):Has (laid G i st) i st:=by
 unfold laid
 split
 ·rename_i t ht
  exact⟨joinS t st,by rw[List.getElem?_set];simp[hi],leS_join' (hh t ht)⟩
 ·exact⟨st,by rw[List.getElem?_set];simp[hi],leS_refl st⟩
theorem laid_same {G:List (Option (List UInt8))}{i:Nat}{st:List UInt8} (h:Has G i st):laid G i st=G:=by
 obtain⟨t,ht,hl⟩:=h
 have e:joinS t st=t:=leS_antisymm (joinS_le (leS_refl t) hl) (leS_join (leS_length hl).symm)
 unfold laid
 rw[ht]
 simp only[e]
 rw[Lgs] at ht
 obtain⟨hi,ht⟩:=ht
 rw[← ht,List.set_getElem_self]
def left1:Option (List UInt8)→Nat
 | none=>3000
 | some st=>2*st.length-rkS st
def left (G:List (Option (List UInt8))):Nat:=(G.map left1).sum
theorem left_set {G:List (Option (List UInt8))}{i:Nat}{x y:Option (List UInt8)} (hx:G[i]?=some x) (h:left1 y<left1 x):left (G.set i y)<left G:=by
 induction G generalizing i with
 | nil=>simp at hx
 | cons a G ih=>
  cases i with
  | zero=>
   simp only[List.getElem?_cons_zero,Option.some.injEq] at hx
   subst hx
   simp only[left,List.set_cons_zero,List.map_cons,List.sum_cons]
   omega
  | succ i=>
   simp only[List.getElem?_cons_succ] at hx
   have:=ih hx
   simp only[left,List.set_cons_succ,List.map_cons,List.sum_cons] at this ⊢
   omega
theorem left_laid {G:List (Option (List UInt8))}{i:Nat}{st:List UInt8} (hi:i<G.length) (hst:st.length≤1024) (hh:∀ t,G[i]?=some (some t)→t.length=st.length) (hn:¬ Has G i st):left (laid G i st)<left G:=by
 unfold laid
 split
 ·rename_i t ht
  have hl:=hh t ht
  refine left_set ht ?_
  have h1:=leS_join hl
  have h2:=rkS_le (joinS t st)
  have h3:=leS_length h1
  have h4:t≠joinS t st:=by
   intro e
   exact hn ⟨t,ht,by rw[e];exact leS_join' hl⟩
  have h5:=rkS_lt h1 h4
  simp only[left1]
  omega
 ·rename_i hnone
  have:G[i]?=some none:=by
   cases hg:G[i]? with
   | none=>rw[List.getElem?_eq_none_iff] at hg;omega
   | some x=>
    cases x with
    | none=>rfl
    | some t=>exact absurd hg (hnone t)
  refine left_set this ?_
  simp only[left1]
  omega
end Flow
namespace Flow
def Safe (par:Nat→Nat) (l:List Stp):Prop:=∃ T,Sol par l T
structure Low (par:Nat→Nat) (l:List Stp) (G:List (Option (List UInt8))):Prop where
 size:G.length=l.length
 low:∀ T,Sol par l T→Under G T
theorem not_safe_nil (par:Nat→Nat):¬ Safe par []:=by
 rintro ⟨T,h⟩
 have h0:=h.first
 have hz:=h.size
 rw[List.length_nil,List.length_eq_zero_iff] at hz
 subst hz
 simp at h0
theorem low_none (par:Nat→Nat)(l:List Stp):Low par l (List.replicate l.length none):=by
 refine⟨by simp,?_⟩
 intro T _ i st hi
 rw[List.getElem?_replicate] at hi
 split at hi
 ·simp at hi
 ·cases hi
theorem Low.start (par:Nat→Nat)(l:List Stp):Low par l (laid (List.replicate l.length none) 0 []):=by
 refine⟨by rw[laid_length];simp,?_⟩
 intro T hT
 exact under_laid ((low_none par l).low T hT) ⟨[],hT.first,leS_refl []⟩
theorem Low.says {par:Nat→Nat}{l:List Stp}{G:List (Option (List UInt8))} (h:Low par l G) {i:Nat}{st:List UInt8}{s:Stp} (hi:G[i]?=some (some st)) (hs:l[i]?=some s)
  {T:List (Option (List UInt8))} (hT:Sol par l T) :
  ∃ o r,after par s.op s.a st=some (o,r)∧(far s.op=true→∃ k,numb l s.a=some k∧Has T k r)∧(halts s.op=false→Has T (i+1) o):=by
 obtain⟨t,ht,hl⟩:=h.low T hT i st hi
 have hil:i<l.length:=by
  rw[Lgs] at hs
  exact hs.1
 obtain⟨o,r,ha,h1,h2⟩:=hT.each i hil t s ht hs
 obtain⟨o',r',ha',hlo,hlr⟩:=after_mono hl ha
 refine⟨o',r',ha',?_,?_⟩
 ·intro hf
  obtain⟨k,hk,u,hu,hru⟩:=h1 hf
  exact⟨k,hk,u,hu,leS_trans hlr hru⟩
 ·intro hf
  obtain⟨u,hu,hou⟩:=h2 hf
  exact⟨u,hu,leS_trans hlo hou⟩
theorem Low.stuck {par:Nat→Nat}{l:List Stp}{G:List (Option (List UInt8))} (h:Low par l G) {i:Nat}{st:List UInt8}{s:Stp} (hi:G[i]?=some (some st)) (hs:l[i]?=some s)
  (ha:after par s.op s.a st=none):¬ Safe par l:=by
 rintro ⟨T,hT⟩
 obtain⟨o,r,ha',-⟩:=h.says hi hs hT
 rw[ha] at ha'
 cases ha'
theorem Low.farLow {par:Nat→Nat}{l:List Stp}{G:List (Option (List UInt8))} (h:Low par l G) {i k:Nat}{st o r:List UInt8}{s:Stp} (hi:G[i]?=some (some st)) (hs:l[i]?=some s)
  (ha:after par s.op s.a st=some (o,r)) (hf:far s.op=true) (hk:numb l s.a=some k):Low par l (laid G k r):=by
 refine⟨by rw[laid_length];exact h.size,?_⟩
 intro T hT
 obtain⟨o',r',ha',h1,-⟩:=h.says hi hs hT
 rw[ha] at ha'
 simp only[Option.some.injEq,Prod.mk.injEq] at ha'
 obtain⟨rfl,rfl⟩:=ha'
 obtain⟨k',hk',hh⟩:=h1 hf
 rw[hk] at hk'
 simp only[Option.some.injEq] at hk'
 subst hk'
 exact under_laid (h.low T hT) hh
theorem Low.farHigh {par:Nat→Nat}{l:List Stp}{G:List (Option (List UInt8))} (h:Low par l G) {i k:Nat}{st o r t:List UInt8}{s:Stp} (hi:G[i]?=some (some st)) (hs:l[i]?=some s)
  (ha:after par s.op s.a st=some (o,r)) (hf:far s.op=true) (hk:numb l s.a=some k) (ht:G[k]?=some (some t)) (hne:t.length≠r.length):¬ Safe par l:=by
 rintro ⟨T,hT⟩
 obtain⟨o',r',ha',h1,-⟩:=h.says hi hs hT
 rw[ha] at ha'
 simp only[Option.some.injEq,Prod.mk.injEq] at ha'
 obtain⟨rfl,rfl⟩:=ha'
 obtain⟨k',hk',hh⟩:=h1 hf
 rw[hk] at hk'
 simp only[Option.some.injEq] at hk'
 subst hk'
 exact hne (under_height (h.low T hT) hh ht)
theorem Low.next {par:Nat→Nat}{l:List Stp}{G:List (Option (List UInt8))} (h:Low par l G) {G':List (Option (List UInt8))} (h':Low par l G') {i:Nat}{st o r:List UInt8}{s:Stp} (hi:G[i]?=some (some st)) (hs:l[i]?=some s)
  (ha:after par s.op s.a st=some (o,r)) (hf:halts s.op=false):Low par l (laid G' (i+1) o):=by
 refine⟨by rw[laid_length];exact h'.size,?_⟩
 intro T hT
 obtain⟨o',r',ha',-,h2⟩:=h.says hi hs hT
 rw[ha] at ha'
 simp only[Option.some.injEq,Prod.mk.injEq] at ha'
 obtain⟨rfl,rfl⟩:=ha'
 exact under_laid (h'.low T hT) (h2 hf)
theorem Low.nextHigh {par:Nat→Nat}{l:List Stp}{G:List (Option (List UInt8))} (h:Low par l G) {G':List (Option (List UInt8))} (h':Low par l G') {i:Nat}{st o r t:List UInt8}{s:Stp} (hi:G[i]?=some (some st)) (hs:l[i]?=some s)
  (ha:after par s.op s.a st=some (o,r)) (hf:halts s.op=false) (ht:G'[i+1]?=some (some t)) (hne:t.length≠o.length):¬ Safe par l:=by
 rintro ⟨T,hT⟩
 obtain⟨o',r',ha',-,h2⟩:=h.says hi hs hT
 rw[ha] at ha'
 simp only[Option.some.injEq,Prod.mk.injEq] at ha'
 obtain⟨rfl,rfl⟩:=ha'
 exact hne (under_height (h'.low T hT) (h2 hf) ht)
theorem Low.nextEnd {par:Nat→Nat}{l:List Stp}{G:List (Option (List UInt8))} (h:Low par l G) {i:Nat}{st:List UInt8}{s:Stp} (hi:G[i]?=some (some st)) (hs:l[i]?=some s)
  (hf:halts s.op=false) (he:i+1=l.length):¬ Safe par l:=by
 rintro ⟨T,hT⟩
 obtain⟨o',r',ha',-,h2⟩:=h.says hi hs hT
 obtain⟨u,hu,-⟩:=h2 hf
 rw[Lgs] at hu
 have:=hu.1
 rw[hT.size] at this
 omega
theorem Has.mono {G H:List (Option (List UInt8))}{i:Nat}{st:List UInt8} (h:Has G i st) (hu:Under G H):Has H i st:=by
 obtain⟨t,ht,hl⟩:=h
 obtain⟨u,huu,hl'⟩:=hu i t ht
 exact⟨u,huu,leS_trans hl hl'⟩
theorem Under.trans {G H K:List (Option (List UInt8))}(h:Under G H)(g:Under H K):Under G K:=
 fun i st hi=>Has.mono (h i st hi) g
theorem under_of_laid {G:List (Option (List UInt8))}{i:Nat}{st:List UInt8} (hh:∀ t,G[i]?=some (some t)→t.length=st.length):Under G (laid G i st):=by
 intro j u hj
 unfold laid
 split
 ·rename_i t ht
  by_cases e:i=j
  ·subst e
   rw[ht] at hj
   simp only[Option.some.injEq] at hj
   subst hj
   have hi:i<G.length:=by rw[Lgs] at ht;exact ht.1
   exact⟨joinS t st,by rw[List.getElem?_set];simp[hi],leS_join (hh t ht)⟩
  ·exact⟨u,by rw[List.getElem?_set,if_neg e];exact hj,leS_refl u⟩
 ·rename_i hn
  by_cases e:i=j
  ·subst e
   exact absurd hj (hn u)
  ·exact⟨u,by rw[List.getElem?_set,if_neg e];exact hj,leS_refl u⟩
theorem laid_other {G:List (Option (List UInt8))}{i j:Nat}{st:List UInt8} (h:i≠j):(laid G i st)[j]?=G[j]?:=by
 unfold laid
 split <;> rw[List.getElem?_set,if_neg h]
theorem laid_first {G:List (Option (List UInt8))}{i:Nat}{st:List UInt8} (h0:G[0]?=some (some [])) (hi:i=0→st=[]):(laid G i st)[0]?=some (some []):=by
 by_cases e:i=0
 ·subst e
  rw[hi rfl,laid_same ⟨[],h0,leS_refl []⟩]
  exact h0
 ·rw[laid_other e]
  exact h0
theorem Done.mono {par:Nat→Nat}{l:List Stp}{G H:List (Option (List UInt8))}{i:Nat} (h:Done par l G i) (hs:H[i]?=G[i]?) (hu:Under G H):Done par l H i:=by
 intro st s hi hl
 rw[hs] at hi
 obtain⟨o,r,ha,h1,h2⟩:=h st s hi hl
 refine⟨o,r,ha,?_,fun hf=>Has.mono (h2 hf) hu⟩
 intro hf
 obtain⟨k,hk,hh⟩:=h1 hf
 exact⟨k,hk,Has.mono hh hu⟩
theorem Done.of_none {par:Nat→Nat}{l:List Stp}{G:List (Option (List UInt8))}{i:Nat} (h:G[i]?=some none):Done par l G i:=by
 intro st s hi
 rw[h] at hi
 simp at hi
theorem Done.passed {par:Nat→Nat}{l:List Stp}{G:List (Option (List UInt8))}{i:Nat}{st o r:List UInt8}{s:Stp} (hi:G[i]?=some (some st)) (hs:l[i]?=some s)
  (ha:after par s.op s.a st=some (o,r)) (h1:far s.op=true→∃ k,numb l s.a=some k∧Has G k r) (h2:halts s.op=false→Has G (i+1) o):Done par l G i:=by
 intro st' s' hi' hs'
 rw[hi] at hi'
 rw[hs] at hs'
 simp only[Option.some.injEq] at hi' hs'
 subst hi'
 subst hs'
 exact⟨o,r,ha,h1,h2⟩
theorem safe_of_done {par:Nat→Nat}{l:List Stp}{G:List (Option (List UInt8))} (hz:G.length=l.length) (h0:G[0]?=some (some [])) (h:∀ i,i<l.length→Done par l G i):Safe par l:=
 ⟨G,hz,h0,h⟩
end Flow
namespace Flow
def ab (x:Nat):UInt8:=if x=1 then 110 else if x=2 then 116 else if x=3 then 97 else if x=4 then 107 else 106
def Bits (x:Nat):Prop:=0<x∧x<8
theorem Bits.cases {x:Nat}(h:Bits x):x=1∨x=2∨x=3∨x=4∨x=5∨x=6∨x=7:=by
 unfold Bits at h
 omega
theorem Bits.or {x y:Nat}(h:Bits x)(g:Bits y):Bits (x ||| y):=by
 rcases h.cases with rfl | rfl | rfl | rfl | rfl | rfl | rfl <;> rcases g.cases with rfl | rfl | rfl | rfl | rfl | rfl | rfl <;> exact⟨by decide,by decide⟩
theorem ab_or {x y:Nat}(h:Bits x)(g:Bits y):ab (x ||| y)=lst (ab x) (ab y):=by
 rcases h.cases with rfl | rfl | rfl | rfl | rfl | rfl | rfl <;> rcases g.cases with rfl | rfl | rfl | rfl | rfl | rfl | rfl <;> rfl
def Asked (x:Nat):Prop:=x=1∨x=2∨x=3∨x=4∨x=7
theorem ab_le {x w:Nat}(h:Bits x)(g:Asked w):x &&& (w ^^^ 15)=0↔le (ab x) (ab w):=by
 rcases g with rfl | rfl | rfl | rfl | rfl <;> rcases h.cases with rfl | rfl | rfl | rfl | rfl | rfl | rfl <;> (unfold le;decide)
def bc (x:Nat):Nat:=x % 2+x / 2 % 2+x / 4 % 2
theorem bc_le (x:Nat):bc x≤3:=by unfold bc;omega
theorem bc_or {x y:Nat}(h:Bits x)(g:Bits y):bc x≤bc (x ||| y)∧(x ||| y≠x→bc x<bc (x ||| y)):=by
 rcases h.cases with rfl | rfl | rfl | rfl | rfl | rfl | rfl <;> rcases g.cases with rfl | rfl | rfl | rfl | rfl | rfl | rfl <;> exact⟨by decide,by decide⟩
def BitsL (s:List Nat):Prop:=∀ x,x ∈ s→Bits x
def abL (s:List Nat):List UInt8:=s.map ab
def orL (s t:List Nat):List Nat:=List.zipWith (· ||| ·) s t
theorem abL_length (s:List Nat):(abL s).length=s.length:=by simp[abL]
theorem abL_append (s t:List Nat):abL (s++t)=abL s++abL t:=by simp[abL]
theorem orL_length {s t:List Nat}(h:s.length=t.length):(orL s t).length=s.length:=by simp[orL,h]
theorem BitsL.cons {x:Nat}{s:List Nat} (h:BitsL (x :: s)):Bits x∧BitsL s:=⟨h x (by simp),fun y hy=>h y (by simp[hy])⟩
theorem BitsL.of_cons {x:Nat}{s:List Nat} (h:Bits x) (g:BitsL s):BitsL (x :: s):=by
 intro y hy
 rcases List.mem_cons.1 hy with rfl | hy
 ·exact h
 ·exact g y hy
theorem BitsL.append {s t:List Nat}(h:BitsL s)(g:BitsL t):BitsL (s++t):=by
 intro y hy
 rcases List.mem_append.1 hy with hy | hy
 ·exact h y hy
 ·exact g y hy
theorem BitsL.nil:BitsL []:=by intro y hy;cases hy
theorem BitsL.left {s t:List Nat}(h:BitsL (s++t)):BitsL s:=fun y hy=>h y (List.mem_append.2 (Or.inl hy))
theorem orL_bits {s t:List Nat}(h:BitsL s)(g:BitsL t):BitsL (orL s t):=by
 induction s generalizing t with
 | nil=>simp[orL];exact BitsL.nil
 | cons x s ih=>cases t with
  | nil=>simp[orL];exact BitsL.nil
  | cons y t=>exact BitsL.of_cons (h.cons.1.or g.cons.1) (ih h.cons.2 g.cons.2)
theorem abL_or {s t:List Nat}(h:BitsL s)(g:BitsL t):abL (orL s t)=joinS (abL s) (abL t):=by
 induction s generalizing t with
 | nil=>simp[orL,abL,joinS]
 | cons x s ih=>cases t with
  | nil=>simp[orL,abL,joinS]
  | cons y t=>
   have:=ih h.cons.2 g.cons.2
   simp only[orL,abL,joinS,List.zipWith_cons_cons,List.map_cons] at this ⊢
   rw[ab_or h.cons.1 g.cons.1,this]
def bcL:List Nat→Nat
 | []=>0
 | x :: s=>bc x+bcL s
theorem bcL_le (s:List Nat):bcL s≤3*s.length:=by
 induction s with
 | nil=>simp[bcL]
 | cons x s ih=>have:=bc_le x;simp only[bcL,List.length_cons];omega
theorem bcL_or {s t:List Nat}(h:BitsL s)(g:BitsL t)(hl:s.length=t.length):bcL s≤bcL (orL s t)∧(orL s t≠s→bcL s<bcL (orL s t)):=by
 induction s generalizing t with
 | nil=>cases t with
  | nil=>exact⟨Nat.le_refl _,fun e=>absurd rfl e⟩
  | cons=>simp at hl
 | cons x s ih=>cases t with
  | nil=>simp at hl
  | cons y t=>
   obtain⟨h1,h2⟩:=bc_or h.cons.1 g.cons.1
   obtain⟨h3,h4⟩:=ih h.cons.2 g.cons.2 (by simpa using hl)
   have e:orL (x :: s) (y :: t)=(x ||| y) :: orL s t:=rfl
   rw[e]
   simp only[bcL]
   refine⟨by omega,fun hne=>?_⟩
   by_cases ex:x ||| y=x
   ·have:=h4 (fun es=>hne (by rw[ex,es]))
    omega
   ·have:=h2 ex
    omega
def pk:List Nat→Nat
 | []=>0
 | x :: s=>x+16*pk s
theorem pk_lt {s:List Nat}(h:∀ x,x ∈ s→x<16):pk s<16 ^ s.length:=by
 induction s with
 | nil=>simp[pk]
 | cons x s ih=>
  have h1:=h x (by simp)
  have h2:=ih (fun y hy=>h y (by simp[hy]))
  simp only[pk,List.length_cons,Nat.pow_succ]
  omega
theorem pk_append (s t:List Nat):pk (s++t)=pk s+16 ^ s.length*pk t:=by
 induction s with
 | nil=>simp[pk]
 | cons x s ih=>
  simp only[List.cons_append,pk,ih,List.length_cons,Nat.pow_succ]
  rw[Nat.mul_add,← Nat.mul_assoc,Nat.mul_comm 16 (16 ^ s.length)]
  omega
theorem pow16 (n:Nat):16 ^ n=2 ^ (4*n):=by
 rw[show (16:Nat)=2 ^ 4 from rfl,← Nat.pow_mul]
theorem pk_push {s:List Nat}{x:Nat} (h:∀ y,y ∈ s→y<16):pk s ||| (x <<< (4*s.length))=pk (s++[x]):=by
 have hl:=pk_lt h
 rw[pow16] at hl
 rw[pk_append,pow16]
 simp only[pk,Nat.mul_zero,Nat.add_zero]
 rw[Nat.or_comm,Nat.shiftLeft_eq,Nat.mul_comm x,← Nat.two_pow_add_eq_or_of_lt hl]
 omega
theorem pk_top {s:List Nat}{x:Nat} (h:∀ y,y ∈ s→y<16) (hx:x<16):(pk (s++[x])) >>> (4*s.length) % 16=x:=by
 have hl:=pk_lt h
 rw[pow16] at hl
 rw[pk_append,pow16,Nat.shiftRight_eq_div_pow]
 simp only[pk,Nat.mul_zero,Nat.add_zero]
 rw[Nat.add_mul_div_left _ _ (Nat.two_pow_pos _),Nat.div_eq_of_lt hl]
 omega
theorem pk_or {s t:List Nat}(h:∀ y,y ∈ s→y<16)(g:∀ y,y ∈ t→y<16)(hl:s.length=t.length):pk s ||| pk t=pk (orL s t):=by
 induction s generalizing t with
 | nil=>cases t with
  | nil=>rfl
  | cons=>simp at hl
 | cons x s ih=>cases t with
  | nil=>simp at hl
  | cons y t=>
   have hx:x<2 ^ 4:=h x (by simp)
   have hy:y<2 ^ 4:=g y (by simp)
   have:=ih (t:=t) (fun z hz=>h z (by simp[hz])) (fun z hz=>g z (by simp[hz])) (by simpa using hl)
   have e:pk (orL (x :: s) (y :: t))=(x ||| y)+16*pk (orL s t):=rfl
   rw[e,← this]
   simp only[pk]
   have hxy:x ||| y<2 ^ 4:=Nat.or_lt_two_pow hx hy
   rw[show 16=2 ^ 4 from rfl,Nat.add_comm x,Nat.add_comm y,Nat.add_comm (x ||| y)]
   rw[Nat.two_pow_add_eq_or_of_lt hx,Nat.two_pow_add_eq_or_of_lt hy,Nat.two_pow_add_eq_or_of_lt hxy]
   apply Nat.eq_of_testBit_eq
   intro i
   simp only[Nat.testBit_or,Nat.testBit_two_pow_mul]
   cases decide (4≤i) <;> simp[Bool.or_comm,Bool.or_left_comm,Bool.or_assoc]
theorem pk_inj {s t:List Nat}(h:∀ y,y ∈ s→y<16)(g:∀ y,y ∈ t→y<16)(hl:s.length=t.length)(e:pk s=pk t):s=t:=by
 induction s generalizing t with
 | nil=>cases t with
  | nil=>rfl
  | cons=>simp at hl
 | cons x s ih=>cases t with
  | nil=>simp at hl
  | cons y t=>
   have hx:=h x (by simp)
   have hy:=g y (by simp)
   simp only[pk] at e
   have e1:x=y:=by omega
   have e2:pk s=pk t:=by omega
   rw[e1,ih (t:=t) (fun z hz=>h z (by simp[hz])) (fun z hz=>g z (by simp[hz])) (by simpa using hl) e2]
def abG (G:List (Option (List Nat))):List (Option (List UInt8)):=G.map (Option.map abL)
theorem abG_length (G:List (Option (List Nat))):(abG G).length=G.length:=by simp[abG]
theorem abG_get (G:List (Option (List Nat)))(i:Nat):(abG G)[i]?=(G[i]?).map (Option.map abL):=by simp[abG]
theorem abG_some {G:List (Option (List Nat))}{i:Nat}{s:List Nat} (h:G[i]?=some (some s)):(abG G)[i]?=some (some (abL s)):=by
 rw[abG_get,h];rfl
theorem abG_of_some {G:List (Option (List Nat))}{i:Nat}{t:List UInt8} (h:(abG G)[i]?=some (some t)):∃ s,G[i]?=some (some s)∧t=abL s:=by
 rw[abG_get] at h
 cases hg:G[i]? with
 | none=>rw[hg] at h;cases h
 | some x=>
  rw[hg] at h
  cases x with
  | none=>simp at h
  | some s=>
   simp only[Option.map_some,Option.some.injEq] at h
   exact⟨s,rfl,h.symm⟩
theorem abG_set (G:List (Option (List Nat)))(i:Nat)(s:List Nat):abG (G.set i (some s))=(abG G).set i (some (abL s)):=by
 simp[abG,List.map_set]
def BitsG (G:List (Option (List Nat))):Prop:=∀ (i:Nat) s,G[i]?=some (some s)→BitsL s
theorem BitsG.set {G:List (Option (List Nat))}(h:BitsG G){i:Nat}{s:List Nat} (hs:BitsL s):BitsG (G.set i (some s)):=by
 intro j t hj
 rw[List.getElem?_set] at hj
 split at hj
 ·split at hj
  ·simp only[Option.some.injEq] at hj
   subst hj
   exact hs
  ·cases hj
 ·exact h j t hj
theorem abG_first {G:List (Option (List Nat))}{i:Nat}{s:List Nat} (h:G[i]?=some none):abG (G.set i (some s))=laid (abG G) i (abL s):=by
 rw[abG_set]
 unfold laid
 rw[abG_get,h]
 rfl
theorem abG_meet {G:List (Option (List Nat))}{i:Nat}{s t:List Nat} (h:G[i]?=some (some t)) (ht:BitsL t) (hs:BitsL s):abG (G.set i (some (orL t s)))=laid (abG G) i (abL s):=by
 rw[abG_set,abL_or ht hs]
 unfold laid
 rw[abG_some h]
theorem has_of_same {G:List (Option (List Nat))}{i:Nat}{s t:List Nat} (h:G[i]?=some (some t)) (ht:BitsL t) (hs:BitsL s) (hl:t.length=s.length) (e:orL t s=t):Has (abG G) i (abL s):=by
 refine⟨abL t,abG_some h,?_⟩
 have h1:leS (abL s) (joinS (abL t) (abL s)):=leS_join' (by rw[abL_length,abL_length,hl])
 rw[← abL_or ht hs,e] at h1
 exact h1
def leftB1:Option (List Nat)→Nat
 | none=>4000
 | some st=>3*st.length-bcL st
def leftB (G:List (Option (List Nat))):Nat:=(G.map leftB1).sum
theorem leftB_set {G:List (Option (List Nat))}{i:Nat}{x y:Option (List Nat)} (hx:G[i]?=some x) (h:leftB1 y<leftB1 x):leftB (G.set i y)<leftB G:=by
 induction G generalizing i with
 | nil=>simp at hx
 | cons a G ih=>
  cases i with
  | zero=>
   simp only[List.getElem?_cons_zero,Option.some.injEq] at hx
   subst hx
   simp only[leftB,List.set_cons_zero,List.map_cons,List.sum_cons]
   omega
  | succ i=>
   simp only[List.getElem?_cons_succ] at hx
   have:=ih hx
   simp only[leftB,List.set_cons_succ,List.map_cons,List.sum_cons] at this ⊢
   omega
theorem leftB_first {G:List (Option (List Nat))}{i:Nat}{s:List Nat} (h:G[i]?=some none) (hs:s.length≤1024):leftB (G.set i (some s))<leftB G:=by
 refine leftB_set h ?_
 simp only[leftB1]
 omega
theorem leftB_meet {G:List (Option (List Nat))}{i:Nat}{s t:List Nat} (h:G[i]?=some (some t)) (ht:BitsL t) (hs:BitsL s) (hl:t.length=s.length) (hne:orL t s≠t):leftB (G.set i (some (orL t s)))<leftB G:=by
 refine leftB_set h ?_
 simp only[leftB1]
 have h1:=(bcL_or ht hs hl).2 hne
 have h2:=bcL_le (orL t s)
 have h3:=orL_length hl
 omega
end Flow
end Go.Proofs.YtclkgoigmgkffaaGreatDoor
