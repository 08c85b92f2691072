import Derived.Deep.DeepHandedRow
import Derived.Lay
import Derived.Test.YtmolfmgchbjnbaaGreatDoorM26
import Derived.Test.YtmolfmgchbjnbaaGreatDoorM28
set_option linter.unusedSimpArgs false
set_option linter.unusedVariables false
set_option linter.unusedSectionVars false
set_option maxRecDepth 100000
set_option maxHeartbeats 40000000
open _root_.Go.Proofs.Tryz
namespace Go.Proofs.YtmolfmgchbjnbaaGreatDoor
open Go.RowKit
open Wire
namespace Tok
open Ev (TabS)
def JT (j0 j2 j3 j4 j6 j7:Act→WL→Prop):Nat→Act→WL→Prop
 | 0=>j0
 | 2=>j2
 | 3=>j3
 | 4=>j4
 | 6=>j6
 | 7=>j7
 | _=>fun _ _=>False
theorem wp_scopeJ {P:Program}{a:Act}{w:WL}{Q:Exit→Act→WL→Prop}{c:Code} (J:Nat→Act→WL→Prop) (μ:Nat→Act→WL→Nat)
  (first:c.wp P (ExJ J Q) a w)
  (hall:∀ l a w,J l a w→∃ r,findLabel c l=some r∧r.wp P (ExJ (fun l' a' w'=>J l' a' w'∧μ l' a' w'<μ l a w) Q) a w):(Code.scope c).wp P Q a w:=by
 intro b k cs;have key:∀ n l a w r,μ l a w=n→J l a w→findLabel c l=some r→∃ e a' w',Q e a' w'∧Arrives P (lone (b.at a (.code r :: .inScope c :: k)) cs w) b k cs e a' w':=by
  intro n;induction n using Nat.strongRecOn with
  | _ n ih=>
   intro l a w r hn hJ hr;obtain⟨r',hr',hwp⟩:=hall l a w hJ;obtain rfl:r=r':=by rw[hr] at hr';simpa using hr'
   obtain⟨e,a₁,w₁,hq,harr⟩:=hwp b (.inScope c :: k) cs;cases e with
   | normal=>exact⟨.normal,a₁,w₁,hq,Steps.trans harr (.one step_inScope)⟩
   | exit id=>exact⟨.exit id,a₁,w₁,hq,fun k' hk=>harr k' (by simp[exitTo,hk])⟩
   | goto l'=>
    obtain⟨hJ',hlt⟩:=hq;obtain⟨r2,hr2,-⟩:=hall l' a₁ w₁ hJ';have hg:gotoIn l' (.inScope c :: k)=some (.code r2 :: .inScope c :: k):=by simp[gotoIn,hr2]
    obtain⟨e₂,a₂,w₂,hq₂,harr₂⟩:=ih _ (by omega) l' a₁ w₁ r2 rfl hJ' hr2;exact⟨e₂,a₂,w₂,hq₂,.of_steps (harr _ hg) harr₂⟩
   | ret=>exact⟨_,a₁,w₁,hq,harr⟩
   | panic ch=>exact⟨_,a₁,w₁,hq,harr⟩
   | outgrown=>exact⟨_,a₁,w₁,hq,harr⟩
 obtain⟨e,a₁,w₁,hq,harr⟩:=first b (.inScope c :: k) cs;cases e with
 | normal=>exact⟨.normal,a₁,w₁,hq,.head step_scope (Steps.trans harr (.one step_inScope))⟩
 | exit id=>exact⟨.exit id,a₁,w₁,hq,fun k' hk=>.head step_scope (harr k' (by simp[exitTo,hk]))⟩
 | goto l'=>
  have hJ':J l' a₁ w₁:=hq;obtain⟨r2,hr2,-⟩:=hall l' a₁ w₁ hJ';have hg:gotoIn l' (.inScope c :: k)=some (.code r2 :: .inScope c :: k):=by simp[gotoIn,hr2]
  obtain⟨e₂,a₂,w₂,hq₂,harr₂⟩:=key _ l' a₁ w₁ r2 rfl hJ' hr2;exact⟨e₂,a₂,w₂,hq₂,.of_steps (.head step_scope (harr _ hg)) harr₂⟩
 | ret=>exact⟨_,a₁,w₁,hq,.of_steps (.one step_scope) harr⟩
 | panic ch=>exact⟨_,a₁,w₁,hq,.of_steps (.one step_scope) harr⟩
 | outgrown=>exact⟨_,a₁,w₁,hq,.of_steps (.one step_scope) harr⟩
theorem wp_scopeR {P:Program}{a:Act}{w:WL}{Q:Exit→Act→WL→Prop}{g x:Code} (J:Nat→Act→WL→Prop) (μ:Nat→Act→WL→Nat)
  (h0:findLabel (.seq g (.seq (.label 0) x)) 0=some (.seq .skip x))
  (first:g.wp P (Exit.then (J 0) (ExJ J Q)) a w)
  (lab0:∀ a w,J 0 a w→x.wp P (ExJ (fun l' a' w'=>J l' a' w'∧μ l' a' w'<μ 0 a w) Q) a w)
  (hall:∀ l a w,J (l+1) a w→∃ r,findLabel (.seq g (.seq (.label 0) x)) (l+1)=some r∧r.wp P (ExJ (fun l' a' w'=>J l' a' w'∧μ l' a' w'<μ (l+1) a w) Q) a w):(Code.scope (.seq g (.seq (.label 0) x))).wp P Q a w:=by
 refine wp_scopeJ J μ (wp_seq (wp_mono first fun e a w h=>?_)) (fun l a w h=>?_)
 ·cases e with
  | normal=>
   refine wp_seq (wp_label ?_);refine wp_mono (lab0 a w h) fun e a w h=>?_;cases e with
   | goto l=>exact h.1
   | _=>exact h
  | _=>exact h
 cases l with
 | zero=>exact⟨_,h0,wp_seq (wp_skip (lab0 a w h))⟩
 | succ l=>exact hall l a w h
def Esc (c:Int) (x:UInt8):Prop:=(c=110∧x=10)∨(c=116∧x=9)∨(c=34∧x=34)∨(c=92∧x=92)
def Txt (s:BA):LB→Nat→Nat→Prop
 | [],a,e=>lk s a=34∧e=a+1
 | x :: T,a,e=>(lk s a=(x.toNat:Int)∧x≠34∧x≠92∧x≠10∧Txt s T (a+1) e)∨(lk s a=92∧Esc (lk s (a+1)) x∧Txt s T (a+2) e)
theorem lk_lt {s:BA}{a:Nat} (h:lk s a≠-1):a<s.size:=by
 rcases Nat.lt_or_ge a s.size with q | q
 ·exact q
 exact absurd (by unfold lk;rw[dif_neg (by omega)]) h
theorem txt_lt {s:BA}{T:LB}{a e:Nat} (h:Txt s T a e):a<s.size:=by
 refine lk_lt ?_;cases T with
 | nil=>rw[h.1];decide
 | cons x T=>
  rcases h with h | h
  ·rw[h.1];omega
  rw[h.1];decide
def textK:BA:=⟨#[116,101,120,116]⟩
def endK:BA:=⟨#[101,110,100]⟩
def wrongK:BA:=⟨#[119,114,111,110,103]⟩
def NumAt (s:BA) (b e:Nat):Prop:=isDg (lk s b)=true∧Skip isDg s b e
def WordAt (s:BA) (b e:Nat) (x:BA) (v:Bool):Prop:=isLt (lk s b)=true∧isDg (lk s b)=false∧Skip isIw s b e∧s.extract b e=x∧WordIs x v
def Plain (s:BA) (b:Nat) (L:List Tk):Prop:=lk s b≠-1∧lk s b≠35∧isDg (lk s b)=false∧isLt (lk s b)=false∧lk s b≠34∧(lk s b≠47∨∃ L' p n t,L=L'++[⟨⟨#[41]⟩,p,n,t⟩])
def RdsN (ss:LY) (s:BA):Nat→Nat→List Tk→List Tk→Prop
 | 0,_,_,_=>False
 | n+1,a,L,R=>∃ b,Skip isBl s a b∧((b=s.size∧R=L++[⟨endK,b,0,⟨#[]⟩⟩]) ∨
  (∃ e,NumAt s b e∧((numTo s b (e-b)≤1000000000∧RdsN ss s n e (L++[⟨numeralK,b,numTo s b (e-b),⟨#[]⟩⟩]) R)∨(¬ numTo s b (e-b)≤1000000000∧R=L++[⟨wrongK,b,0,⟨#[]⟩⟩]))) ∨
  (∃ e x v,WordAt s b e x v∧RdsN ss s n e (L++[cond v ⟨x,b,0,⟨#[]⟩⟩ ⟨nameK,b,0,x⟩]) R) ∨
  (∃ g:BA,Plain s b L∧0<g.size∧SignAt ss (s.extract b s.size).data.toList g∧RdsN ss s n (b+g.size) (L++[⟨g,b,0,⟨#[]⟩⟩]) R) ∨
  (∃ e X,lk s b=34∧Txt s X (b+1) e∧((X.length≤100∧RdsN ss s n e (L++[⟨textK,b,0,⟨X.toArray⟩⟩]) R)∨(¬ X.length≤100∧R=L++[⟨wrongK,b,0,⟨#[]⟩⟩]))))
def Rds (ss:LY) (s:BA) (a:Nat) (L R:List Tk):Prop:=∃ n,RdsN ss s n a L R
section
variable {ss:LY}{s:BA}{a b e:Nat}{L R:List Tk}
theorem Rds.ends (h:Skip isBl s a b)(hb:b=s.size):Rds ss s a L (L++[⟨endK,b,0,⟨#[]⟩⟩]):=⟨1,b,h,.inl ⟨hb,rfl⟩⟩
theorem Rds.word {x:BA}{v:Bool} (h:Skip isBl s a b) (hw:WordAt s b e x v) (hr:Rds ss s e (L++[cond v ⟨x,b,0,⟨#[]⟩⟩ ⟨nameK,b,0,x⟩]) R):Rds ss s a L R:=
 let ⟨n,hn'⟩:=hr;⟨n+1,b,h,.inr (.inr (.inl ⟨e,x,v,hw,hn'⟩))⟩
theorem Rds.sign {g:BA}(h:Skip isBl s a b)(hp:Plain s b L)(h0:0<g.size)(hg:SignAt ss (s.extract b s.size).data.toList g)(hr:Rds ss s (b+g.size) (L++[⟨g,b,0,⟨#[]⟩⟩]) R):Rds ss s a L R:=
 let ⟨n,hn'⟩:=hr;⟨n+1,b,h,.inr (.inr (.inr (.inl ⟨g,hp,h0,hg,hn'⟩)))⟩
theorem Rds.text {X:LB}(h:Skip isBl s a b)(hq:lk s b=34)(hX:Txt s X (b+1) e)(hl:X.length≤100)(hr:Rds ss s e (L++[⟨textK,b,0,⟨X.toArray⟩⟩]) R):Rds ss s a L R:=
 let ⟨n,hn'⟩:=hr;⟨n+1,b,h,.inr (.inr (.inr (.inr ⟨e,X,hq,hX,.inl ⟨hl,hn'⟩⟩)))⟩
theorem Rds.long {X:LB}(h:Skip isBl s a b)(hq:lk s b=34)(hX:Txt s X (b+1) e)(hl:¬ X.length≤100):Rds ss s a L (L++[⟨wrongK,b,0,⟨#[]⟩⟩]):=⟨1,b,h,.inr (.inr (.inr (.inr ⟨e,X,hq,hX,.inr ⟨hl,rfl⟩⟩)))⟩
theorem Rds.inv (h:Rds ss s a L R):∃ b,Skip isBl s a b∧((b=s.size∧R=L++[⟨endK,b,0,⟨#[]⟩⟩]) ∨
  (∃ e,NumAt s b e∧((numTo s b (e-b)≤1000000000∧Rds ss s e (L++[⟨numeralK,b,numTo s b (e-b),⟨#[]⟩⟩]) R)∨(¬ numTo s b (e-b)≤1000000000∧R=L++[⟨wrongK,b,0,⟨#[]⟩⟩]))) ∨
  (∃ e x v,WordAt s b e x v∧Rds ss s e (L++[cond v ⟨x,b,0,⟨#[]⟩⟩ ⟨nameK,b,0,x⟩]) R) ∨
  (∃ g:BA,Plain s b L∧0<g.size∧SignAt ss (s.extract b s.size).data.toList g∧Rds ss s (b+g.size) (L++[⟨g,b,0,⟨#[]⟩⟩]) R) ∨
  (∃ e X,lk s b=34∧Txt s X (b+1) e∧((X.length≤100∧Rds ss s e (L++[⟨textK,b,0,⟨X.toArray⟩⟩]) R)∨(¬ X.length≤100∧R=L++[⟨wrongK,b,0,⟨#[]⟩⟩])))):=by
 obtain⟨n,h⟩:=h;cases n with
 | zero=>exact h.elim
 | succ n=>
  obtain⟨b,h1,h2⟩:=h;refine⟨b,h1,?_⟩;rcases h2 with h2 | ⟨e,h2,⟨h3,h4⟩ | h3⟩ | ⟨e,x,v,h2,h3⟩ | ⟨g,h2,h3,h4,h5⟩ | ⟨e,X,h2,h3,⟨h4,h5⟩ | h4⟩
  ·exact .inl h2
  ·exact .inr (.inl ⟨e,h2,.inl ⟨h3,n,h4⟩⟩)
  ·exact .inr (.inl ⟨e,h2,.inr h3⟩)
  ·exact .inr (.inr (.inl ⟨e,x,v,h2,n,h3⟩))
  ·exact .inr (.inr (.inr (.inl ⟨g,h2,h3,h4,n,h5⟩)))
  ·exact .inr (.inr (.inr (.inr ⟨e,X,h2,h3,.inl ⟨h4,n,h5⟩⟩)))
  exact .inr (.inr (.inr (.inr ⟨e,X,h2,h3,.inr h4⟩)))
end
theorem skip_same {p:Int→Bool}{s:BA}{a b c:Nat} (h:Skip p s a b) (k:Skip p s a c):b=c:=by
 rcases Nat.lt_trichotomy b c with q | q | q
 ·have:=k.all b h.le.1 q;rw[h.stop] at this;cases this
 ·exact q
 have:=h.all c k.le.1 q;rw[k.stop] at this;cases this
theorem skip_lt {p:Int→Bool}{s:BA}{a b:Nat} (h:Skip p s a b) (ha:p (lk s a)=true):a<b:=by
 rcases Nat.lt_or_ge a b with q | q
 ·exact q
 obtain rfl:a=b:=by have:=h.le;omega
 rw[h.stop] at ha;cases ha
def TokP (w0:WL) (R:List Tk) (e:Ending) (w':WL):Prop:=∃ v,e=.returned v∧w'.ownsRow (w0.heap.size+1) 88 4 v R.length (R.flatMap tkC)∧Fr [] w0 w'
section
variable (ss:LY)(w0:WL)(r:Nat)(s:BA)(R:List Tk)
def Fm (a:Act):Prop:=∃ (u1 u2 u4 u5 u6 u7 u8 u9 u10 u11 u12 u13 u14 u15 u16 u17 u18 u19 u20 u21 u22 u23 u24 u25 u26 u27 u28 u29 u30 u31 u32 u33 u34 u35 u36 u37 u38 u39 u40 u41 u42 u43 u44 u45 u46 u47 u48 u49 u50 u51 u52 u53:Value),a=⟨#[.string s,u1,u2,ptr r,u4,u5,u6,u7,u8,u9,u10,u11,u12,u13,u14,u15,u16,u17,u18,u19,u20,u21,u22,u23,u24,u25,u26,u27,u28,u29,u30,u31,u32,u33,u34,u35,u36,u37,u38,u39,u40,u41,u42,u43,u44,u45,u46,u47,u48,u49,u50,u51,u52,u53],[]⟩
def q0 (w:WL):Prop:=∃ a f L,Rdr w0 r s a f L w∧L.length<90000-(s.size-a)∧Rds ss s a L R
def j0 (a:Act) (w:WL):Prop:=Fm r s a∧q0 ss w0 r s R w
def q2 (w:WL):Prop:=∃ b e L,Rdr w0 r s b b L w∧L.length<90000-(s.size-b)∧NumAt s b e∧((numTo s b (e-b)≤1000000000∧Rds ss s e (L++[⟨numeralK,b,numTo s b (e-b),⟨#[]⟩⟩]) R)∨(¬ numTo s b (e-b)≤1000000000∧R=L++[⟨wrongK,b,0,⟨#[]⟩⟩]))
def j2 (a:Act) (w:WL):Prop:=Fm r s a∧q2 ss w0 r s R w
def q3 (w:WL):Prop:=∃ b e L x v,Rdr w0 r s b b L w∧L.length<90000-(s.size-b)∧WordAt s b e x v∧Rds ss s e (L++[cond v ⟨x,b,0,⟨#[]⟩⟩ ⟨nameK,b,0,x⟩]) R
def j3 (a:Act) (w:WL):Prop:=Fm r s a∧q3 ss w0 r s R w
def q4 (w:WL):Prop:=∃ b e L X,Rdx w0 r s b b L [] w∧L.length<90000-(s.size-b)∧lk s b=34∧Txt s X (b+1) e∧((X.length≤100∧Rds ss s e (L++[⟨textK,b,0,⟨X.toArray⟩⟩]) R)∨(¬ X.length≤100∧R=L++[⟨wrongK,b,0,⟨#[]⟩⟩]))
def j4 (a:Act) (w:WL):Prop:=Fm r s a∧q4 ss w0 r s R w
def q6 (w:WL):Prop:=∃ b L g,Rdr w0 r s b b L w∧L.length<90000-(s.size-b)∧0<g.size∧SignAt ss (s.extract b s.size).data.toList g∧Rds ss s (b+g.size) (L++[⟨g,b,0,⟨#[]⟩⟩]) R
def j6 (a:Act) (w:WL):Prop:=Fm r s a∧q6 ss w0 r s R w
def q7 (w:WL):Prop:=∃ a b L,Rdr w0 r s a b L w∧L.length<90000∧R=L++[⟨wrongK,b,0,⟨#[]⟩⟩]
def j7 (a:Act) (w:WL):Prop:=Fm r s a∧q7 w0 r s R w
def muT (l:Nat) (_:Act) (w:WL):Nat:=if l=7 then 0 else if l=0 then 4*(s.size-atOf r w)+2 else 4*(s.size-atOf r w)+1
end
end Tok
end Go.Proofs.YtmolfmgchbjnbaaGreatDoor
namespace Go.Proofs.YtmolfmgchbjnbaaGreatDoor.Ev
open Go
variable [Inhabited (Nat→BA)]
theorem Rel.plus {P:Program}{G:Nat}{m:Mp}{h:AH}{w w':WL} (R:Rel P G m h w) (hn:h.n<4096) (K:Kept w w') {o:AO}{x:MB} (hb:w.heap.size≤x.b) (hs:x.s=0) (hb':x.b<w'.heap.size) (hO:∀ m',Le m m'→Ob P m' o x w') :
  Rel P G (m.put h.n (some x)) (h.new o) w'∧Ext m (m.put h.n (some x)) h (h.new o) w w':=by
 obtain⟨R1,E1⟩:=R.grow K;have hno:=R.none_at (Nat.le_refl h.n);have hle:=Mp.put_le (some x) hno;have hget:∀ r,r<h.n→(h.new o).get r=h.get r:=fun r hr=>by rw[AH.get_new hn,if_neg (by omega)]
 have htab:∀ r o',h.get r=some o'→o'.k=3→(h.new o).get r=some o':=fun r o' ho' _=>by
  rcases Nat.lt_or_ge r h.n with q | q
  ·rw[hget r q];exact ho'
  rw[R.top r q] at ho';cases ho'
 refine⟨⟨by rw[AH.new_n];omega,fun q y e=>?_,fun q e=>?_,fun q q' y y' e e' eb=>?_,fun g hg=>?_,fun r hr=>by rw[AH.new_n] at hr;rw[AH.get_new hn,if_neg (by omega)];exact R.top r (by omega)⟩,
  ⟨hle,by rw[AH.new_n];omega,fun r hr e=>⟨by rw[Mp.put_off m _ (by omega)];exact e,hget r hr⟩,fun r y e=>?_,htab,K.os,K.tape,K.output,K.size,fun b hb _=>K.blk b hb⟩⟩
 ·by_cases c:q=h.n
  ·subst c;rw[Mp.put_same] at e;cases e;exact⟨by rw[AH.new_n];omega,hb',o,by rw[AH.get_new hn,if_pos rfl],hO _ hle⟩
  rw[Mp.put_off m _ c] at e;obtain⟨h1,h2,q',h3,h4⟩:=R1.row q y e;exact⟨by rw[AH.new_n];omega,h2,q',by rw[hget q h1];exact h3,h4.mono hle rfl⟩
 ·by_cases c:q=h.n
  ·subst c;rw[Mp.put_same] at e;cases e
  rw[Mp.put_off m _ c] at e;obtain⟨h1,h2⟩:=R.dead q e;exact⟨by rw[AH.new_n];omega,fun u hu=>h2 u (by rw[← hget q h1];exact hu)⟩
 ·by_cases c:q=h.n
  ·by_cases c':q'=h.n
   ·rw[c,c']
   subst c;rw[Mp.put_same] at e;cases e;rw[Mp.put_off m _ c'] at e';have:=(R.row q' y' e').2.1;omega
  rw[Mp.put_off m _ c] at e;by_cases c':q'=h.n
  ·subst c';rw[Mp.put_same] at e';cases e';have:=(R.row q y e).2.1;omega
  rw[Mp.put_off m _ c'] at e';exact R.inj q q' y y' e e' eb
 ·obtain⟨y,h1,h2,h3⟩:=R.glo g hg;exact⟨y,by rw[Mp.put_off m _ (by have:=(R.row g y h1).1;omega)];exact h1,h2,h3⟩
 by_cases c:r=h.n
 ·subst c;rw[Mp.put_same] at e;cases e;exact .inr ⟨Nat.le_refl _,.inl ⟨hb,hs⟩⟩
 rw[Mp.put_off m _ c] at e;exact .inl e
end Go.Proofs.YtmolfmgchbjnbaaGreatDoor.Ev
namespace Go.Proofs.YtmolfmgchbjnbaaGreatDoor
open Go.RowKit
open Wire
namespace Tok
structure Rest (s:BA) (a:Nat) (l:LB):Prop where
 le:a≤s.size
 is:s.data.toList.drop a=l
section
variable {s:BA}{a:Nat}{l p:LB}{c:UInt8}
theorem Rest.start (l:LB):Rest ⟨l.toArray⟩ 0 l:=⟨Nat.zero_le _,by simp⟩
theorem Rest.len (h:Rest s a l):a+l.length=s.size:=by
 have h1:=h.le;have h2:s.data.toList.length=s.size:=Array.length_toList;rw[← h.is,List.length_drop,h2];omega
theorem Rest.lk (h:Rest s a (c :: l)):lk s a=(c.toNat:Int):=by
 have h1:=h.len;simp only[List.length_cons] at h1;have ha:a<s.size:=by omega
 unfold Tok.lk;rw[dif_pos ha];have h2:s.data.toList[a]?=some c:=by
  have:(s.data.toList.drop a)[0]?=some c:=by rw[h.is];rfl
  rwa [List.getElem?_drop,Nat.add_zero] at this
 have h3:s[a]=c:=by
  rw[Array.getElem?_toList] at h2;exact (Age.1 h2).2
 rw[h3]
theorem Rest.end_ (h:Rest s a []):a=s.size:=by have:=h.len;simpa using this
theorem Rest.lkEnd (h:Rest s a []):Tok.lk s a = -1:=by unfold Tok.lk;rw[dif_neg (by rw[h.end_];omega)]
theorem Rest.skip (h:Rest s a (p++l)):Rest s (a+p.length) l:=by
 have h1:=h.len;rw[Lla] at h1;exact⟨by omega,by rw[← List.drop_drop,h.is,List.drop_left]⟩
theorem Rest.run {P:Int→Bool}(h:Rest s a (p++l))(hp:∀ c ∈ p,P (c.toNat:Int)=true)(hl:P (Tok.lk s (a+p.length))=false):Skip P s a (a+p.length):=by
 have h1:=h.len;rw[Lla] at h1;refine⟨by omega,fun i hi hj=>?_,hl⟩;obtain⟨k,rfl⟩:∃ k,i=a+k:=⟨i-a,by omega⟩;have hk:k<p.length:=by omega
 have h2:Rest s a (p.take k++(p[k] :: (p.drop (k+1)++l))):=by
  rw[← List.cons_append,← List.drop_eq_getElem_cons hk,← List.append_assoc,List.take_append_drop];exact h
 have h3:=h2.skip;rw[List.length_take,Nat.min_eq_left (by omega)] at h3;rw[h3.lk];exact hp _ (List.getElem_mem hk)
theorem Rest.text (h:Rest s a (p++l)):s.extract a (a+p.length)=⟨p.toArray⟩:=by
 have h1:=h.len;rw[Lla] at h1;apply ByteArray.ext;apply Array.toList_inj.1;rw[ByteArray.data_extract,Array.toList_extract];have:s.data.toList.drop a=p++l:=h.is;rw[List.extract_eq_take_drop,this,Nat.add_sub_cancel_left,List.take_left]
theorem Rest.rest (h:Rest s a l):(s.extract a s.size).data.toList=l:=by
 have:=Rest.text (p:=l) (l:=[]) (by rw[List.append_nil];exact h);rw[h.len] at this;rw[this]
end
end Tok
open Go.RowKit
open Wire
namespace Tok
def headNot (P:Int→Bool):LB→Bool
 | []=>true
 | c :: _=>!P (c.toNat:Int)
section
variable {ss:LY}{s:BA}{a:Nat}{l p w:LB}{L R:List Tk}
theorem Rest.stop {P:Int→Bool}(h:Rest s a l)(hn:headNot P l=true)(hp:P (-1)=false):P (Tok.lk s a)=false:=by
 cases l with
 | nil=>rw[h.lkEnd];exact hp
 | cons c l=>rw[h.lk];simpa [headNot] using hn
theorem Rest.blanks (h:Rest s a (p++l))(hb:p.all (fun c=>isBl (c.toNat:Int))=true)(hn:headNot isBl l=true):Skip isBl s a (a+p.length)∧Rest s (a+p.length) l:=
 ⟨h.run (fun c hc=>List.all_eq_true.1 hb c hc) (h.skip.stop hn rfl),h.skip⟩
theorem rd_end (h:Rest s a (p++[]))(hb:p.all (fun c=>isBl (c.toNat:Int))=true):Rds ss s a L (L++[⟨endK,a+p.length,0,⟨#[]⟩⟩]):=by
 obtain⟨h1,h2⟩:=h.blanks hb rfl;exact .ends h1 h2.end_
theorem rd_word {c:UInt8}{v:Bool} (h:Rest s a (p++((c :: w)++l))) (hb:p.all (fun c=>isBl (c.toNat:Int))=true) (hc:(!isBl (c.toNat:Int) && isLt (c.toNat:Int) && !isDg (c.toNat:Int))=true) (hw:(c :: w).all (fun c=>isIw (c.toNat:Int))=true) (hn:headNot isIw l=true) (hv:WordIs ⟨(c :: w).toArray⟩ v)
  (hr:Rest s (a+p.length+(c :: w).length) l→Rds ss s (a+p.length+(c :: w).length) (L++[cond v ⟨⟨(c :: w).toArray⟩,a+p.length,0,⟨#[]⟩⟩ ⟨nameK,a+p.length,0,⟨(c :: w).toArray⟩⟩]) R):Rds ss s a L R:=by
 simp only[Bool.and_eq_true,Bool.not_eq_true'] at hc;obtain⟨h1,h2⟩:=h.blanks hb (by simp[headNot,hc.1.1]);have h3:Tok.lk s (a+p.length)=(c.toNat:Int):=Rest.lk (l:=w++l) h2;exact .word h1 ⟨by rw[h3];exact hc.1.2,by rw[h3];exact hc.2,h2.run (fun c hc=>List.all_eq_true.1 hw c hc) (h2.skip.stop hn rfl),h2.text,hv⟩ (hr h2.skip)
def signC (c:UInt8):Bool:=!isBl (c.toNat:Int) && !isDg (c.toNat:Int) && !isLt (c.toNat:Int) && c != 35 && c != 34
theorem rd_sign {c:UInt8}(h:Rest s a (p++((c :: w)++l)))(hb:p.all (fun c=>isBl (c.toNat:Int))=true)(hc:signC c=true)(hd:c≠47∨∃ L' p n t,L=L'++[⟨⟨#[41]⟩,p,n,t⟩])(hg:SignAt ss ((c :: w)++l) ⟨(c :: w).toArray⟩)
  (hr:Rest s (a+p.length+(c :: w).length) l→Rds ss s (a+p.length+(c :: w).length) (L++[⟨⟨(c :: w).toArray⟩,a+p.length,0,⟨#[]⟩⟩]) R):Rds ss s a L R:=by
 simp only[signC,Bool.and_eq_true,Bool.not_eq_true',bne_iff_ne,ne_eq] at hc;obtain⟨⟨⟨⟨q1,q2⟩,q3⟩,q4⟩,q5⟩:=hc;obtain⟨h1,h2⟩:=h.blanks hb (by simp[headNot,q1]);have h3:Tok.lk s (a+p.length)=(c.toNat:Int):=Rest.lk (l:=w++l) h2;have hsz:(⟨(c :: w).toArray⟩:BA).size=(c :: w).length:=by simp[ByteArray.size]
 have hne:∀ k:UInt8,c≠k→(c.toNat:Int)≠(k.toNat:Int):=fun k hk e=>hk (UInt8.toNat_inj.1 (by omega));refine .sign (g:=⟨(c :: w).toArray⟩) h1 ⟨by rw[h3];omega,by rw[h3];exact hne 35 q4,by rw[h3];exact q2,by rw[h3];exact q3,by rw[h3];exact hne 34 q5,?_⟩ (by rw[hsz];simp) (by rw[h2.rest];exact hg) (by rw[hsz];exact hr h2.skip);rcases hd with e | e
 ·exact .inl (by rw[h3];exact hne 47 e)
 exact .inr e
end
end Tok
open Go.RowKit
open Wire Flow
theorem build53 (b:Nat)(w:WL):(Instr.build 77 #[(0,ptr b)]).run prog w=.ok (.agg #[ptr b]) w:=by
 kernel_rfl
section
variable {m:Mo}{W:WL}{recs:LY}{draws:List Int}
theorem rst_begin {X Y:Nat}{g:Pl}{w:WL}{tag:NN} (hK:Mach.ModOk m) (hs:Scr recs draws) (h:MM (envP m) X g (ms0 m recs draws) w tag) (he:g.en=0) (hY:GM Y X w) (tY:tag Y<10):Rst (envP m) X Y (Mach.begin_ m recs draws) w tag:=by
 obtain⟨h1,h2,h3,h4⟩:=hs;refine⟨g,[],Mach.enter m 0 [],h,hY,tY,Mach.good_begin (E:=envP m) hK h1 (fun s hs=>?_) h2 (fun n hn=>?_),⟨by show 0≤9;omega,fun _=>rfl⟩,fun _=>⟨fun g hg c hc=>?_,rfl,by rw[he];rfl⟩⟩
 ·by_cases c:s.size≤100
  ·exact c
  exact absurd ⟨s,hs,show 100<s.size by omega⟩ h3
 ·by_cases c:-1000000000≤n∧n≤1000000000
  ·exact c
  exact absurd ⟨n,hn,show n < -1000000000∨1000000000<n by omega⟩ h4
 have hg:g ∈ [Mach.enter m 0 []]:=hg;rw[List.mem_singleton] at hg;subst hg;exact pr_enter m 0 [] c hc
def OpnR (m:Mo) (recs:LY) (draws:List Int) (W:WL) (Y:Nat) (w:WL):Prop:=∃ X tag,Rst (envP m) X Y (Mach.begin_ m recs draws) w tag∧(∀ k,k<W.heap.size→tag k=6)∧W.heap.size≤Y
def OpnP (m:Mo) (recs:LY) (draws:List Int) (W:WL) (e:Ending) (w:WL):Prop:=
 Fr [] W w∧((¬ Scr recs draws∧e=.returned (.tuple #[.pointer none,.int .i64 13]))∨(Scr recs draws∧∃ Y,e=.returned (.tuple #[ptr Y,.int .i64 0])∧OpnR m recs draws W Y w))
end
open Wire
namespace Tok
open Ev (signs)
def noneOf (c d:UInt8):List (LB)→Bool
 | []=>true
 | t :: l=>(match t with
  | [x]=>x != c
  | [x,y]=>x != c || y != d
  | _=>false) && noneOf c d l
theorem noneOf_at {c d:UInt8}{l:LB}:∀ {ts:List (LB)},noneOf c d ts=true→∀ t ∈ ts,Lib.hasPrefix (c :: d :: l) t=false
 | [],_,t,ht=>by cases ht
 | u :: ts,h,t,ht=>by
  simp only[noneOf,Bool.and_eq_true] at h
  rcases List.mem_cons.1 ht with rfl | ht
  ·match t,h.1 with
   | [x],h=>
    have:x≠c:=by simpa using h
    simp[Lib.hasPrefix,List.isPrefixOf,this]
   | [x,y],h=>
    have:x≠c∨y≠d:=by simpa using h
    rcases this with e | e
    ·simp[Lib.hasPrefix,List.isPrefixOf,e]
    ·simp[Lib.hasPrefix,List.isPrefixOf,e]
  ·exact noneOf_at h.2 t ht
theorem signAt_of {c d:UInt8}{l:LB} (k:Nat) (hk:signs[k]?=some ⟨#[c]⟩) (h:noneOf c d ((signs.take k).map fun t=>t.data.toList)=true):SignAt signs ([c]++(d :: l)) ⟨[c].toArray⟩:=
 ⟨⟨k,hk,by simp[Lib.hasPrefix,List.isPrefixOf],fun j t hj ht=>noneOf_at h _ (List.mem_map_of_mem (f:=fun t:BA=>t.data.toList) (List.mem_of_getElem? (i:=j) (by rw[List.getElem?_take_of_lt hj];exact ht)))⟩,by simp[ByteArray.size]⟩
end Tok
open Go.ChangeShapes Go.WideShapes Go.ChangeAt Go.RowKit Go.ChangeMaps
open Wire Flow
theorem range_get {α:Type}(n:Nat)(f:Nat→α)(i:Nat)(x:α)(h:((List.range n).map f)[i]?=some x):i<n∧x=f i:=by
 rw[List.getElem?_map] at h;by_cases hi:i<n
 ·rw[List.getElem?_range hi] at h;exact⟨hi,by simpa using h.symm⟩
 rw[List.getElem?_eq_none (by simp;omega)] at h;cases h
theorem open_argL {H:Type}{α:Type} [Inhabited α] {enc:TypeId × Value→H}{W:WL}{n:Nat}{t e:TypeId}{v:Value}{x:DataW H × List MemPlace}{f:α→Value} (ht:prog.underlying t=some (.slice e)) (hc:prog.cellsOf e=1) (hQ:∀ (k:Nat) (y:Value) (z:DataW H × List MemPlace),DataW.trod enc prog W 0 (fun _=>true) true k e [y]=some z→∃ a,y=f a)
  (h:DataW.trod enc prog W 0 (fun _=>true) true n t [v]=some x) {B:Nat} (hb:∀ el sp,x.1=.slice el sp→el.length≤B):∃ L:List α,L.length≤B∧ArgL W v (L.map f):=by
 rcases Go.Deep.open_slice1 ht hc h with ⟨hcs,-⟩ | ⟨a,len,cap,m,k,V,D,Pl,hcs,-,hl,hm,hmm,hx,hel⟩
 ·have hv:v=.slice none 0 0:=by simpa using hcs
  subst hv;exact⟨[],by simp,none,0,rfl,Nat.le_refl _,by decide,fun h=>absurd h (by simp)⟩
 have hv:v=.slice (some a) len cap:=by simpa using hcs
 subst hv;subst hx;simp only[if_true] at hmm;subst hmm;have hlen:len≤B:=by simpa using hb _ _ rfl
 have each:∀ i,∃ s:α,i<len→W.cell? (a.add i)=some (f s):=fun i=>by
  by_cases hi:i<len
  ·obtain⟨h1,h2⟩:=hel i (by omega);obtain⟨s,hs⟩:=hQ _ _ _ h2;exact⟨s,fun _=>by rw[h1,hs]⟩
  exact⟨default,fun h=>absurd h hi⟩
 obtain⟨S,hS⟩:=Classical.skolem.1 each;obtain⟨g,off,spot⟩:=a;refine⟨(List.range len).map S,by simpa using hlen,some ⟨g,off,spot⟩,m,by simp,by simpa using hl,by unfold maxLen at hm;omega,fun h0=>?_⟩;have h0':0<len:=by simpa using h0
 have hc0:=hS 0 h0';have hspot:spot=none:=by simpa [Addr.add] using World.cell?_spot hc0
 subst hspot;refine⟨g,off,rfl,by have:=lt_of_cell hc0;simpa [Addr.add] using this,fun i x hx=>?_⟩;rw[List.getElem?_map] at hx;cases hy:((List.range len).map S)[i]? with
 | none=>rw[hy] at hx;cases hx
 | some y=>
  rw[hy] at hx;cases hx;obtain⟨hi,rfl⟩:=range_get _ _ _ _ hy;have hc:=hS i hi;rw[add_plain] at hc;exact hc
theorem fr_below {W W':WL}(h:Fr [] W W'):Below W.heap.size W W':=⟨h.os,h.tape,h.output,h.size,fun k hk=>h.block k hk (by simp)⟩
theorem laid_out:laidOutB prog=true:=by kernel_rfl
theorem ownK:ownKnob prog.godebug=none:=by kernel_rfl
theorem base_of {W:WL}(hp:PowTab W)(hs:W.ShapedOpen prog):Base W where
 six:=by
  obtain⟨cs,hc,-⟩:=hs.1 5 _ _ (of_decide_eq_true (by kernel_rfl)) (show _=some (Array.replicate 256 (Value.int .u8 0),412) by kernel_rfl);have:=(Age.1 hc).1;omega
 pow:=hp
 mxl:=Go.Proofs.cell_of_shapedOpen_int hs (of_decide_eq_true (by kernel_rfl)) (show _=some (#[iA 0],3) by kernel_rfl) rfl (by kernel_rfl) (by kernel_rfl) underlying3
 tab:=trivial
def slN {H:Type}:DataW H→Nat
 | .slice el _=>el.length
 | _=>0
end Go.Proofs.YtmolfmgchbjnbaaGreatDoor
