/-
  Texts Qa Ph Pi Pj Qb Tr Ts.
-/
import Derived.Test.YtgpamchpeamnfaaGreatDoorMA
import Derived.Test.YtgpamchpeamnfaaGreatDoorM22
import Derived.Test.YtgpamchpeamnfaaGreatDoorM12
import Derived.Test.YtgpamchpeamnfaaGreatDoorM04
set_option linter.unusedSimpArgs false
set_option linter.unusedVariables false
set_option maxRecDepth 100000
set_option maxHeartbeats 40000000
open _root_.Go.Proofs.Tryz
namespace Go.Proofs.YtgpamchpeamnfaaGreatDoor
structure fM where
 st:Nat
 op:Nat
 fr:Nat
def tM (m:fM) (c:Nat):Option fM:=
 if c=40 then some ⟨0,m.op+1,m.fr⟩
 else if c=41 then (if m.op=0 then none else some ⟨1,m.op-1,m.fr⟩)
 else if c=124 then some ⟨0,m.op,m.fr⟩
 else if c=42∨c=43∨c=63 then (if m.st=0 then none else some ⟨1,m.op,m.fr⟩)
 else if c=91 then some ⟨3,m.op,m.fr⟩
 else if c=92 then some ⟨2,m.op,m.fr⟩
 else some ⟨1,m.op,m.fr⟩
def inM (m:fM) (c:Nat):Option fM:=
 if c=93∧(m.st=3∨m.st=4) then none
 else if c=93 then some ⟨1,m.op,m.fr⟩
 else if c=94∧m.st=3 then some ⟨4,m.op,m.fr⟩
 else if c=92 then some ⟨6,m.op,m.fr⟩
 else if c=45∧m.st=7 then some ⟨8,m.op,m.fr⟩
 else some ⟨7,m.op,c⟩
def gH (m:fM) (c:Nat):Option fM:=
 if m.st=0∨m.st=1 then tM m c
 else if m.st=2 then some ⟨1,m.op,m.fr⟩
 else if m.st=6 then some ⟨7,m.op,c⟩
 else if m.st=8 then (if c=93 then some ⟨1,m.op,m.fr⟩ else if c=92 then some ⟨9,m.op,m.fr⟩ else if c<m.fr then none else some ⟨5,m.op,m.fr⟩)
 else if m.st=9 then (if c<m.fr then none else some ⟨5,m.op,m.fr⟩)
 else inM m c
def mW (t:ByteArray):Nat→Option fM
 | 0=>some ⟨0,0,0⟩
 | k+1=>(mW t k).bind (fun m=>gH m (aO t k))
def uB (t:ByteArray) (k:Nat):Prop:=∃ m,mW t k=some m∧((k<t.size∧gH m (aO t k)=none)∨(k=t.size∧(1<m.st∨0<m.op)))
structure AtM (t:ByteArray) (s:St) (m:fM):Prop where
 f:s.fault=false
 p:s.pos≤t.size
 r:mW t s.pos=some m
section
variable {t : ByteArray} {s : St} {m m' : fM}
theorem N4 {c:Nat}(h:aB t s=(c:Int)):s.fault=false∧s.pos<t.size∧aO t s.pos=c:=by
 have hn:=cA (t:=t) (s:=s) (by rw[h];omega)
 refine⟨hn.1,hn.2,?_⟩
 unfold aB at h
 rw[hn.1] at h
 simp only[Bool.false_eq_true,if_false] at h
 rw[rQ hn.2] at h
 omega
theorem kR (t:ByteArray)(s:St):aB t s = -1∨∃ c:Nat,c<256∧aB t s=(c:Int):=by
 unfold aB
 by_cases hf:s.fault=true
 ·rw[if_pos hf];exact .inl rfl
 ·rw[if_neg hf]
  by_cases h:s.pos<t.size
  ·right;exact⟨aO t s.pos,aJg _ _,rQ h⟩
  ·left;exact vR (by omega)
theorem AtM.adv (h:AtM t s m){c:Nat}(hp:aB t s=(c:Int))(hn:gH m c=some m'):AtM t (aS s) m':=by
 obtain⟨_,h2,h3⟩:=N4 hp
 refine⟨h.f,h2,?_⟩
 show mW t (s.pos+1)=some m'
 rw[mW,h.r,Option.bind_some,h3,hn]
theorem AtM.err (h:AtM t s m){c:Nat}(hp:aB t s=(c:Int))(hn:gH m c=none):uB t s.pos:=by
 obtain⟨_,h2,h3⟩:=N4 hp
 exact⟨m,h.r,.inl ⟨h2,by rw[h3];exact hn⟩⟩
theorem AtM.end_ (h:AtM t s m)(hp:aB t s = -1)(hm:1<m.st∨0<m.op):uB t s.pos:=by
 refine⟨m,h.r,.inr ⟨?_,hm⟩⟩
 rcases Nat.lt_or_ge s.pos t.size with hl | hl
 ·have:=aDj (t:=t) h.f hl;omega
 ·have:=h.p;omega
def jX (t:ByteArray) (s:St) (Q:fM→Prop):Prop:=(∃ m,AtM t s m∧Q m)∨(s.fault=true∧uB t s.pos)
theorem aJk (h:AtM t s m)(hm:(m.st=3∧aB t s≠94)∨m.st=4∨((m.st=5∨m.st=7)∧aB t s≠93)) :
  ((∃ c:Nat,(aV t s 0).1=(c:Int)∧s.pos<(aV t s 0).2.pos∧((AtM t (aV t s 0).2 ⟨7,m.op,c⟩∧¬ (m.st=7∧aB t s=45))∨(m.st=7∧aB t s=45∧(aV t s 0).2=aS s∧AtM t (aV t s 0).2 ⟨8,m.op,m.fr⟩)))) ∨
  ((aV t s 0).2.fault=true∧uB t (aV t s 0).2.pos):=by
 have hn:¬ (m.st=0∨m.st=1)∧¬ m.st=2∧¬ m.st=6∧¬ m.st=8∧¬ m.st=9:=by omega
 have hin:∀ c,gH m c=inM m c:=fun c=>by unfold gH;rw[if_neg hn.1,if_neg hn.2.1,if_neg hn.2.2.1,if_neg hn.2.2.2.1,if_neg hn.2.2.2.2]
 unfold aV
 rcases kR t s with e | ⟨c,hc,e⟩
 ·
  have hs:aU t s 92=(false,s):=by unfold aU;rw[if_neg (by rw[e];decide)]
  rw[hs]
  simp only
  rw[e,if_neg (by decide),if_pos (by decide)]
  exact .inr ⟨rfl,h.end_ e (by omega)⟩
 ·by_cases c93:c=93
  ·subst c93
   rw[if_pos (by rw[e];rfl)]
   refine .inr ⟨rfl,h.err e ?_⟩
   rw[hin]
   unfold inM
   rw[if_pos ⟨rfl,by
    rcases hm with h1 | h1 | h1
    ·exact .inl h1.1
    ·exact .inr h1
    ·exact absurd e h1.2⟩]
  ·rw[if_neg (by rw[e];omega)]
   by_cases c92:c=92
   ·subst c92
    have hs:aU t s 92=(true,aS s):=by unfold aU;rw[if_pos (by rw[e];rfl)]
    rw[hs]
    simp only
    have h1:AtM t (aS s) ⟨6,m.op,m.fr⟩:=h.adv e (by rw[hin];unfold inM;simp)
    rcases kR t (aS s) with e1 | ⟨d,hd,e1⟩
    ·rw[e1,if_pos (by decide)]
     exact .inr ⟨rfl,h1.end_ e1 (by simp)⟩
    ·rw[e1,if_neg (by omega)]
     refine .inl ⟨d,rfl,by simp[aS];omega,.inl ⟨h1.adv e1 (by simp[gH]),?_⟩⟩
     rw[e];rintro ⟨-,h2⟩;exact absurd h2 (by decide)
   ·have hs:aU t s 92=(false,s):=by unfold aU;rw[if_neg (by rw[e];omega)]
    rw[hs]
    simp only
    rw[e,if_neg (by omega)]
    refine .inl ⟨c,rfl,by simp[aS],?_⟩
    by_cases cd:m.st=7∧c=45
    ·obtain⟨h7,rfl⟩:=cd
     exact .inr ⟨h7,rfl,rfl,h.adv e (by rw[hin];unfold inM;simp[h7])⟩
    ·refine .inl ⟨h.adv e ?_,fun h2=>cd ⟨h2.1,by omega⟩⟩
     rw[hin]
     unfold inM
     rw[if_neg (fun h2=>c93 h2.1),if_neg c93,if_neg,if_neg c92,if_neg (fun h2=>cd ⟨h2.2,h2.1⟩)]
     rintro ⟨rfl,h3⟩
     rcases hm with h1 | h1 | h1
     ·exact h1.2 e
     ·omega
     ·omega
theorem aEr {lo:Nat}(h:AtM t s m)(h8:m.st=8)(hlo:m.fr=lo)(hp:aB t s≠93) :
  (AtM t (aV t s lo).2 ⟨5,m.op,m.fr⟩∧s.pos<(aV t s lo).2.pos)∨((aV t s lo).2.fault=true∧uB t (aV t s lo).2.pos):=by
 unfold aV
 rw[if_neg hp]
 rcases kR t s with e | ⟨c,hc,e⟩
 ·have hs:aU t s 92=(false,s):=by unfold aU;rw[if_neg (by rw[e];decide)]
  rw[hs]
  simp only
  rw[e,if_pos (by omega)]
  exact .inr ⟨rfl,h.end_ e (by omega)⟩
 ·by_cases c92:c=92
  ·subst c92
   have hs:aU t s 92=(true,aS s):=by unfold aU;rw[if_pos (by rw[e];rfl)]
   rw[hs]
   simp only
   have h1:AtM t (aS s) ⟨9,m.op,m.fr⟩:=h.adv e (by simp[gH,h8])
   rcases kR t (aS s) with e1 | ⟨d,hd,e1⟩
   ·rw[e1,if_pos (by omega)]
    exact .inr ⟨rfl,h1.end_ e1 (by simp)⟩
   ·rw[e1]
    by_cases hl:(d:Int)<(lo:Int)
    ·rw[if_pos hl]
     exact .inr ⟨rfl,h1.err e1 (by simp[gH];omega)⟩
    ·rw[if_neg hl]
     exact .inl ⟨h1.adv e1 (by simp[gH];omega),by simp[aS];omega⟩
  ·have hs:aU t s 92=(false,s):=by unfold aU;rw[if_neg (by rw[e];omega)]
   rw[hs]
   simp only
   rw[e]
   have c93:c≠93:=fun e'=>hp (by rw[e,e'];rfl)
   by_cases hl:(c:Int)<(lo:Int)
   ·rw[if_pos hl]
    exact .inr ⟨rfl,h.err e (by simp[gH,h8,c92,c93];omega)⟩
   ·rw[if_neg hl]
    exact .inl ⟨h.adv e (by simp[gH,h8,c92,c93];omega),by simp[aS]⟩
def aWz (t:ByteArray) (s:St) (op:Nat) (m:fM):Prop:=m.op=op∧(m.st=5∨(m.st=7∧(aB t s=45→gM t (s.pos+1)=true))∨(m.st=8∧aB t s=93))
theorem aIj (P:Nat→Bool)(h:AtM t s m)(hm:(m.st=3∧aB t s≠94)∨m.st=4∨((m.st=5∨m.st=7)∧aB t s≠93))(hd:m.st=7→aB t s=45→gM t (s.pos+1)=true) :
  jX t (bN t s P).2 (aWz t (bN t s P).2 m.op):=by
 unfold bN
 rcases aJk h hm with ⟨c,h1,h2,h3⟩ | ⟨h1,h2⟩
 ·rcases h3 with ⟨h3,h4⟩ | ⟨h7,h45,h5,h6⟩
  ·by_cases cr:aB t (aV t s 0).2=45∧gM t ((aV t s 0).2.pos+1)=false
   ·rw[if_pos cr]
    simp only
    have h8:AtM t (aS (aV t s 0).2) ⟨8,m.op,c⟩:=h3.adv (c:=45) (by rw[cr.1];rfl) (by simp[gH,inM])
    have hp:aB t (aS (aV t s 0).2)≠93:=by
     intro e
     have:=cr.2
     unfold gM at this
     rw[decide_eq_false_iff_not] at this
     apply this
     unfold aB at e
     have hf:(aS (aV t s 0).2).fault=false:=h8.f
     rw[hf] at e
     exact e
    rw[h1]
    rcases aEr h8 rfl rfl hp with ⟨g1,g2⟩ | g
    ·exact .inl ⟨_,g1,rfl,.inl rfl⟩
    ·exact .inr g
   ·rw[if_neg cr]
    refine .inl ⟨_,h3,rfl,.inr (.inl ⟨rfl,fun e=>?_⟩)⟩
    cases hc:gM t ((aV t s 0).2.pos+1) with
    | true=>rfl
    | false=>exact absurd ⟨e,hc⟩ cr
  ·have hcl:=hd h7 h45
   have h93:aB t (aV t s 0).2=93:=by
    unfold gM at hcl
    rw[decide_eq_true_eq] at hcl
    unfold aB
    rw[h6.f,h5]
    exact hcl
   rw[if_neg (by rw[h93];rintro ⟨e,-⟩;exact absurd e (by decide))]
   exact .inl ⟨_,h6,rfl,.inr (.inr ⟨rfl,h93⟩)⟩
 ·rw[if_neg (by rw[bX h1];rintro ⟨e,-⟩;exact absurd e (by decide))]
  exact .inr ⟨h1,h2⟩
theorem T9 (op:Nat):∀ (n:Nat) (P:Nat→Bool) (s:St),(s.fault=true∨t.size-s.pos<n)→jX t s (aWz t s op) →
  jX t (bM t n P s).2 (fun m=>m.op=op∧(m.st=5∨m.st=7∨m.st=8)∧aB t (bM t n P s).2=93)
 | 0,P,s,hn,h=>by
  rcases h with ⟨m,h1,h2⟩ | h
  ·rcases hn with hn | hn
   ·rw[h1.f] at hn;cases hn
   ·omega
  ·exact .inr h
 | n+1,P,s,hn,h=>by
  rw[bM]
  rcases h with ⟨m,h1,h2⟩ | h
  ·by_cases c:s.fault=true∨aB t s=93
   ·rw[if_pos c]
    rcases c with c | c
    ·rw[h1.f] at c;cases c
    ·refine .inl ⟨m,h1,h2.1,?_,c⟩
     rcases h2.2 with g | g | g
     ·exact .inl g
     ·exact .inr (.inl g.1)
     ·exact .inr (.inr g.1)
   ·rw[if_neg c]
    have hp:aB t s≠93:=fun e=>c (.inr e)
    have hi:=aIj P h1 (by
     rcases h2.2 with g | g | g
     ·exact .inr (.inr ⟨.inl g,hp⟩)
     ·exact .inr (.inr ⟨.inr g.1,hp⟩)
     ·exact absurd g.2 hp) (by
     intro h7 h45
     rcases h2.2 with g | g | g
     ·omega
     ·exact g.2 h45
     ·omega)
    rw[h2.1] at hi
    refine T9 op n _ _ ?_ hi
    rcases uQ (t:=t) s P with g | g
    ·exact .inl g
    ·right
     rcases hn with hn | hn
     ·rw[h1.f] at hn;cases hn
     ·rcases hi with ⟨m2,g2,-⟩ | ⟨g2,-⟩
      ·have:=g2.p;omega
      ·have:=(gQ (t:=t) s P).pos h1.p;omega
  ·rw[if_pos (.inl h.1)];exact .inr h
theorem aSb {op fr:Nat}(n:Nat)(h:AtM t s ⟨3,op,fr⟩)(hn:t.size-s.pos<n):jX t (iL t n s).2 (fun m=>m.op=op∧m.st=1):=by
 unfold iL
 show jX t (cL (eF t (bM t n (bN t (aU t s 94).2 (fun _=>false)).1 (bN t (aU t s 94).2 (fun _=>false)).2).2 93) _).2 _
 have hsk:∃ m2,AtM t (aU t s 94).2 m2∧m2.op=op∧((m2.st=3∧aB t (aU t s 94).2≠94)∨m2.st=4):=by
  unfold aU
  by_cases e:aB t s=94
  ·rw[if_pos e];exact⟨⟨4,op,fr⟩,h.adv (c:=94) (by rw[e];rfl) (by simp[gH,inM]),rfl,.inr rfl⟩
  ·rw[if_neg e];exact⟨_,h,rfl,.inl ⟨rfl,e⟩⟩
 obtain⟨m2,k1,k2,k3⟩:=hsk
 have hi:=aIj (fun _=>false) k1 (by rcases k3 with g | g;exact .inl g;exact .inr (.inl g)) (by intro h7;omega)
 rw[k2] at hi
 have hle:=(jI (t:=t) s 94 (by decide)).le
 have hle2:=(gQ (t:=t) (aU t s 94).2 (fun _=>false)).le
 have hc:=T9 op n (bN t (aU t s 94).2 (fun _=>false)).1 (bN t (aU t s 94).2 (fun _=>false)).2 (.inr (by omega)) hi
 generalize bM t n (bN t (aU t s 94).2 (fun _=>false)).1 (bN t (aU t s 94).2 (fun _=>false)).2=C at *
 rcases hc with ⟨m3,h1,h2,h3,h4⟩ | ⟨h1,h2⟩
 ·left
  refine⟨⟨1,op,m3.fr⟩,?_,rfl,rfl⟩
  have:eF t C.2 93=aS C.2:=by unfold eF;rw[if_pos h4]
  have h5:AtM t (aS C.2) ⟨1,op,m3.fr⟩:=h1.adv (c:=93) (by rw[h4];rfl) (by
   rcases h3 with g | g | g <;> simp[gH,inM,g,h2])
  rw[this]
  exact⟨h5.f,h5.p,h5.r⟩
 ·right
  have:eF t C.2 93=pN C.2:=by unfold eF;rw[if_neg (by rw[bX h1];decide)]
  rw[this]
  exact⟨rfl,h2⟩
end
section
variable {p t : ByteArray} {A d : Nat} {B s : St}
end
section
variable {p t : ByteArray} {A d : Nat} {B s : St}
end
def FoZ (s:St):Prop:=∀ sp a,s.atoms≤a→s.fo sp a=0
section
variable {p t : ByteArray} {s : St}
theorem FoZ.tie (h:FoZ s){q r:Piece}(hq:PB s.atoms q):FoZ { s with fo:=iJ s.fo q r }:=by
 intro sp a ha
 show iJ s.fo q r sp a=0
 unfold iJ
 have hl:(q sp).l.testBit a=false:=Nat.testBit_lt_two_pow (Nll (hq sp).2 (Nat.pow_le_pow_right (by decide) ha))
 rw[if_neg (by rw[hl];decide)]
 exact h sp a ha
theorem FoZ.near {s':St}(h:FoZ s)(hn:pX t s s'):FoZ s':=by
 intro sp a ha
 rw[hn.fo]
 exact h sp a (by rw[← hn.atoms];exact ha)
theorem FoZ.takeOf (h:FoZ s)(P:Nat→Bool):FoZ (cL s P).2:=by
 intro sp a ha
 exact h sp a (Nat.le_of_succ_le ha)
structure bGh (t:ByteArray) (n:Nat):Prop where
 alt:∀ s,Inv t s→FoZ s→FoZ (jN t n s).2
 altL:∀ q s,Inv t s→PB s.atoms q→FoZ s→FoZ (lT t n q s).2
 seq:∀ s,Inv t s→FoZ s→FoZ (nX t n s).2
 seqL:∀ q s,Inv t s→PB s.atoms q→FoZ s→FoZ (kB t n q s).2
 part:∀ s,Inv t s→aB t s≠-1→FoZ s→FoZ (dK t n s).2
 partL:∀ q s,Inv t s→PB s.atoms q→FoZ s→FoZ (gP t n q s).2
 atom:∀ s,Inv t s→aB t s≠-1→FoZ s→FoZ (lG t n s).2
theorem bAi (t:ByteArray):∀ n,bGh t n
 | 0=>⟨fun _ _ h=>h,fun _ _ _ _ h=>h,fun _ _ h=>h,fun _ _ _ _ h=>h,fun _ _ _ h=>h,fun _ _ _ _ h=>h,fun _ _ _ h=>h⟩
 | n+1=>by
  have ih:=bAi t n
  have gv:=eY t n
  refine⟨fun s hi h=>?_,fun q s hi hq h=>?_,fun s hi h=>?_,fun q s hi hq h=>?_,fun s hi hp h=>?_,fun q s hi hq h=>?_,fun s hi hp h=>?_⟩
  ·rw[qZ];have g:=gv.seq s hi;exact ih.altL _ _ g.inv g.pb (ih.seq _ hi h)
  ·rw[lS]
   by_cases c:aB t s=124
   ·rw[if_pos c]
    have hp:aB t s≠-1:=by rw[c];decide
    have ha:=hi.adv hp
    have g:=gv.seq _ ha
    exact ih.altL _ _ g.inv ((hq.mono g.al).either g.pb) (ih.seq _ ha (h.near (kE hp)))
   ·rw[if_neg c];exact h
  ·rw[qQ];exact ih.seqL _ _ hi (PB.nothing _) h
  ·rw[jJ]
   by_cases c:aB t s = -1∨aB t s=41∨aB t s=124∨aB t s=42∨aB t s=43∨aB t s=63
   ·rw[if_pos c];exact h
   ·rw[if_neg c]
    have hp:aB t s≠-1:=fun e=>c (.inl e)
    have g:=gv.part s hi hp
    exact ih.seqL _ _ (g.inv.tie g.pb) ((hq.mono g.al).join g.pb) ((ih.part s hi hp h).tie (hq.mono g.al))
  ·rw[jK];have g:=gv.atom s hi hp;exact ih.partL _ _ g.inv g.pb (ih.atom _ hi hp h)
  ·rw[iE]
   by_cases c1:aB t s=42
   ·rw[if_pos c1]
    have hi2:=hi.tie (q:=q) hq
    have hp2:aB t { s with fo:=iJ s.fo q q }≠-1:=by rw[gO,c1];decide
    exact ih.partL _ _ (hi2.adv hp2) (hq.either (PB.nothing _)) ((h.tie hq).near (kE hp2))
   ·rw[if_neg c1]
    by_cases c2:aB t s=43
    ·rw[if_pos c2]
     have hi2:=hi.tie (q:=q) hq
     have hp2:aB t { s with fo:=iJ s.fo q q }≠-1:=by rw[gO,c2];decide
     exact ih.partL _ _ (hi2.adv hp2) hq ((h.tie hq).near (kE hp2))
    ·rw[if_neg c2]
     by_cases c3:aB t s=63
     ·rw[if_pos c3]
      have hp2:aB t s≠-1:=by rw[c3];decide
      exact ih.partL _ _ (hi.adv hp2) (hq.either (PB.nothing _)) (h.near (kE hp2))
     ·rw[if_neg c3];exact h
  ·rw[jM]
   have ha:=hi.adv hp
   have hz:=h.near (kE hp)
   by_cases c1:aB t s=40
   ·rw[if_pos c1];exact (ih.alt _ ha hz).near (mH (t:=t) _ 41 (by decide))
   ·rw[if_neg c1]
    by_cases c2:aB t s=91
    ·rw[if_pos c2]
     have n1:=jI (t:=t) (aS s) 94 (by decide)
     have n2:=gQ (t:=t) (aU t (aS s) 94).2 (fun _=>false)
     have n3:=nH (t:=t) n (bN t (aU t (aS s) 94).2 (fun _=>false)).1 (bN t (aU t (aS s) 94).2 (fun _=>false)).2
     have n4:=mH (t:=t) (bM t n (bN t (aU t (aS s) 94).2 (fun _=>false)).1 (bN t (aU t (aS s) 94).2 (fun _=>false)).2).2 93 (by decide)
     exact (hz.near (((n1.trans n2).trans n3).trans n4)).takeOf _
    ·rw[if_neg c2]
     by_cases c3:aB t s=46
     ·rw[if_pos c3];exact hz.takeOf _
     ·rw[if_neg c3]
      by_cases c4:aB t s=94
      ·rw[if_pos c4];exact hz
      ·rw[if_neg c4]
       by_cases c5:aB t s=36
       ·rw[if_pos c5];exact hz
       ·rw[if_neg c5];exact (h.near (sA s hp).1).takeOf _
theorem bEs (p:ByteArray):FoZ (eW p).2:=(bAi p 400).alt st0 (nW p) (fun _ _ _=>rfl)
theorem aGp (p:ByteArray):Inv p (eW p).2:=((eY p 400).alt st0 (nW p)).inv
theorem rJ (h:gD p=true):(eW p).2.fault=false∧(eW p).2.pos=p.size:=by
 unfold gD at h
 simp only[Bool.and_eq_true,Bool.not_eq_true',decide_eq_true_eq] at h
 have:=(aGp p).pos
 exact⟨h.1,by omega⟩
theorem bFa (h1:(eW p).2.fault=false)(h2:p.size≤(eW p).2.pos):gD p=true:=by
 unfold gD
 simp only[Bool.and_eq_true,Bool.not_eq_true',decide_eq_true_eq]
 exact⟨h1,h2⟩
end
def aOr (c:Int):Prop:=c=42∨c=43∨c=63
def aCh (c:Int):Prop:=c = -1∨c=41∨c=124∨c=42∨c=43∨c=63
structure aZp (t:ByteArray) (s:St) (op:Nat) (m:fM):Prop where
 op:m.op=op
 st:m.st≤1
 stop:aCh (aB t s)
 mark:aOr (aB t s)→m.st=0
structure aZw (t:ByteArray) (s:St) (op:Nat) (m:fM):Prop extends aZp t s op m where
 bar:aB t s≠124
structure bAp (t:ByteArray) (s:St) (op:Nat) (m:fM):Prop where
 op:m.op=op
 st:m.st=1
 mark:¬ aOr (aB t s)
structure bDt (t:ByteArray) (n:Nat):Prop where
 alt:∀ s m,Inv t s→AtM t s m→m.st=0→6*(t.size-s.pos)+3≤n→jX t (jN t n s).2 (aZw t (jN t n s).2 m.op)
 altL:∀ q s op,Inv t s→PB s.atoms q→6*(t.size-s.pos)+2≤n→jX t s (aZp t s op)→jX t (lT t n q s).2 (aZw t (lT t n q s).2 op)
 seq:∀ s m,Inv t s→AtM t s m→m.st=0→6*(t.size-s.pos)+2≤n→jX t (nX t n s).2 (aZp t (nX t n s).2 m.op)
 seqL:∀ q s op,Inv t s→PB s.atoms q→6*(t.size-s.pos)+1≤n→jX t s (fun m=>m.op=op∧m.st≤1∧(aOr (aB t s)→m.st=0))→jX t (kB t n q s).2 (aZp t (kB t n q s).2 op)
 part:∀ s m,Inv t s→AtM t s m→m.st≤1→¬ aCh (aB t s)→6*(t.size-s.pos)≤n+1→jX t (dK t n s).2 (bAp t (dK t n s).2 m.op)
 partL:∀ q s op,Inv t s→PB s.atoms q→6*(t.size-s.pos)+1≤n→jX t s (fun m=>m.op=op∧m.st=1)→jX t (gP t n q s).2 (bAp t (gP t n q s).2 op)
 atom:∀ s m,Inv t s→AtM t s m→m.st≤1→¬ aCh (aB t s)→6*(t.size-s.pos)≤n+2→jX t (lG t n s).2 (fun m'=>m'.op=m.op∧m'.st=1)
section
variable {t : ByteArray} {s : St} {m : fM}
theorem kD (h:m.st≤1)(c:Nat):gH m c=tM m c:=by unfold gH;rw[if_pos (by omega)]
theorem AtM.tie (h:AtM t s m)(f:Nat→Nat→Nat):AtM t { s with fo:=f } m:=⟨h.f,h.p,h.r⟩
theorem AtM.take (h:AtM t s m)(P:Nat→Bool):AtM t (cL s P).2 m:=⟨h.f,h.p,h.r⟩
theorem jX.tie {Q:fM→Prop}(h:jX t s Q)(f:Nat→Nat→Nat):jX t { s with fo:=f } Q:=by
 rcases h with ⟨m,h1,h2⟩ | h
 ·exact .inl ⟨m,h1.tie f,h2⟩
 ·exact .inr h
theorem jX.take {Q:fM→Prop}(h:jX t s Q)(P:Nat→Bool):jX t (cL s P).2 Q:=by
 rcases h with ⟨m,h1,h2⟩ | h
 ·exact .inl ⟨m,h1.take P,h2⟩
 ·exact .inr h
theorem jX.imp {Q R:fM→Prop}(h:jX t s Q)(hi:∀ m,AtM t s m→Q m→R m):jX t s R:=by
 rcases h with ⟨m,h1,h2⟩ | h
 ·exact .inl ⟨m,h1,hi m h1 h2⟩
 ·exact .inr h
theorem aPn (h:AtM t s m)(hm:m.st≤1)(hs:¬ aCh (aB t s))(h40:aB t s≠40)(h91:aB t s≠91):jX t (cM t s).2 (fun m'=>m'.op=m.op∧m'.st=1):=by
 unfold cM
 rcases kR t s with e | ⟨c,hc,e⟩
 ·exact absurd (.inl e) hs
 ·by_cases c92:c=92
  ·subst c92
   have hk:aU t s 92=(true,aS s):=by unfold aU;rw[if_pos (by rw[e];rfl)]
   rw[hk]
   simp only
   have h1:AtM t (aS s) ⟨2,m.op,m.fr⟩:=h.adv e (by rw[kD hm];simp[tM])
   rcases kR t (aS s) with e1 | ⟨d,hd,e1⟩
   ·rw[if_pos e1];exact .inr ⟨rfl,h1.end_ e1 (by simp)⟩
   ·rw[if_neg (by rw[e1];omega)]
    exact .inl ⟨⟨1,m.op,m.fr⟩,h1.adv e1 (by simp[gH]),rfl,rfl⟩
  ·have hk:aU t s 92=(false,s):=by unfold aU;rw[if_neg (by rw[e];omega)]
   rw[hk]
   simp only
   rw[if_neg (by rw[e];omega)]
   refine .inl ⟨⟨1,m.op,m.fr⟩,h.adv e ?_,rfl,rfl⟩
   rw[kD hm]
   unfold aCh at hs
   unfold tM
   rw[e] at hs h40 h91
   rw[if_neg (by omega),if_neg (by omega),if_neg (by omega),if_neg (by omega),if_neg (by omega),if_neg (by omega)]
theorem aKt (t:ByteArray):∀ n,bDt t n
 | 0=>⟨fun _ _ _ _ _ h=>by omega,fun _ _ _ _ _ h=>by omega,fun _ _ _ _ _ h=>by omega,fun _ _ _ _ _ h=>by omega,
   fun s m hi ha hm hs h=>by have:=(cA (t:=t) (s:=s) (fun e=>hs (.inl e))).2;omega,fun _ _ _ _ _ h=>by omega,
   fun s m hi ha hm hs h=>by have:=(cA (t:=t) (s:=s) (fun e=>hs (.inl e))).2;omega⟩
 | n+1=>by
  have ih:=aKt t n
  have gv:=eY t n
  refine⟨fun s m hi ha hm h=>?_,fun q s op hi hq h ho=>?_,fun s m hi ha hm h=>?_,fun q s op hi hq h ho=>?_,fun s m hi ha hm hs h=>?_,fun q s op hi hq h ho=>?_,fun s m hi ha hm hs h=>?_⟩
  ·rw[qZ]
   have g:=gv.seq s hi
   have:=g.le
   exact ih.altL _ _ _ g.inv g.pb (by omega) (ih.seq s m hi ha hm (by omega))
  ·rw[lS]
   by_cases hc:aB t s=124
   ·rw[if_pos hc]
    have hp:aB t s≠-1:=by rw[hc];decide
    have hl:=(cA hp).2
    have hav:=hi.adv hp
    have e1:(aS s).pos=s.pos+1:=rfl
    have g:=gv.seq _ hav
    have:=g.le
    rcases ho with ⟨m,h1,h2⟩ | ho
    ·have h3:AtM t (aS s) ⟨0,m.op,m.fr⟩:=h1.adv (c:=124) (by rw[hc];rfl) (by rw[kD h2.st];simp[tM])
     have h4:=ih.seq (aS s) _ hav h3 rfl (by omega)
     simp only at h4
     rw[h2.op] at h4
     exact ih.altL _ _ op g.inv ((hq.mono g.al).either g.pb) (by omega) h4
    ·rw[bX ho.1] at hc;exact absurd hc (by decide)
   ·rw[if_neg hc]
    exact ho.imp fun m _ h2=>⟨h2,hc⟩
  ·rw[qQ]
   refine ih.seqL _ _ _ hi (PB.nothing _) (by omega) (.inl ⟨m,ha,rfl,by omega,fun _=>hm⟩)
  ·rw[jJ]
   by_cases hc:aB t s = -1∨aB t s=41∨aB t s=124∨aB t s=42∨aB t s=43∨aB t s=63
   ·rw[if_pos hc]
    exact ho.imp fun m _ h2=>⟨h2.1,h2.2.1,hc,h2.2.2⟩
   ·rw[if_neg hc]
    have hp:aB t s≠-1:=fun e=>hc (.inl e)
    have hl:=(cA hp).2
    have g:=gv.part s hi hp
    obtain⟨k,rfl⟩:∃ k,n=k+2:=⟨n-2,by omega⟩
    have hpr:=yV (n:=k) hi hp
    rcases ho with ⟨m,h1,h2⟩ | ho
    ·have h3:=ih.part s m hi h1 h2.2.1 hc (by omega)
     rw[h2.1] at h3
     refine ih.seqL _ _ op (g.inv.tie g.pb) ((hq.mono g.al).join g.pb) ?_ ((h3.tie _).imp fun m' _ h5=>?_)
     ·show 6*(t.size-(dK t (k+2) s).2.pos)+1≤k+2
      omega
     ·exact⟨h5.op,by have:=h5.st;omega,fun h6=>absurd h6 h5.mark⟩
    ·exact absurd (bX ho.1) hp
  ·have hp:aB t s≠-1:=fun e=>hs (.inl e)
   have hl:=(cA hp).2
   rw[jK]
   have g:=gv.atom s hi hp
   obtain⟨k,rfl⟩:∃ k,n=k+1:=⟨n-1,by omega⟩
   have hpr:=zM (n:=k) hi hp
   exact ih.partL _ _ _ g.inv g.pb (by omega) (ih.atom s m hi ha hm hs (by omega))
  ·rw[iE]
   have step:∀ c:Nat,(c=42∨c=43∨c=63)→aB t s=(c:Int)→jX t (aS s) (fun m=>m.op=op∧m.st=1):=fun c hc e=>by
    rcases ho with ⟨m,h1,h2⟩ | ho
    ·refine .inl ⟨⟨1,m.op,m.fr⟩,h1.adv e ?_,h2.1,rfl⟩
     rw[kD (by omega)]
     unfold tM
     rw[if_neg (by omega),if_neg (by omega),if_neg (by omega),if_pos hc,if_neg (by omega)]
    ·rw[bX ho.1] at e;omega
   by_cases c1:aB t s=42
   ·have hl:=(cA (t:=t) (s:=s) (by rw[c1];decide)).2
    rw[if_pos c1]
    have hi2:=hi.tie (q:=q) hq
    have hav:=hi2.adv (s:={ s with fo:=iJ s.fo q q }) (by rw[gO,c1];decide)
    refine ih.partL _ _ op hav (hq.either (PB.nothing _)) ?_ ((step 42 (by omega) (by rw[c1];rfl)).tie _)
    show 6*(t.size-(s.pos+1))+1≤n
    omega
   ·rw[if_neg c1]
    by_cases c2:aB t s=43
    ·have hl:=(cA (t:=t) (s:=s) (by rw[c2];decide)).2
     rw[if_pos c2]
     have hi2:=hi.tie (q:=q) hq
     have hav:=hi2.adv (s:={ s with fo:=iJ s.fo q q }) (by rw[gO,c2];decide)
     refine ih.partL _ _ op hav hq ?_ ((step 43 (by omega) (by rw[c2];rfl)).tie _)
     show 6*(t.size-(s.pos+1))+1≤n
     omega
    ·rw[if_neg c2]
     by_cases c3:aB t s=63
     ·have hl:=(cA (t:=t) (s:=s) (by rw[c3];decide)).2
      rw[if_pos c3]
      have hav:=hi.adv (by rw[c3];decide)
      refine ih.partL _ _ op hav (hq.either (PB.nothing _)) ?_ (step 63 (by omega) (by rw[c3];rfl))
      show 6*(t.size-(s.pos+1))+1≤n
      omega
     ·rw[if_neg c3]
      exact ho.imp fun m _ h2=>⟨h2.1,h2.2,fun h6=>by rcases h6 with h6 | h6 | h6;exact c1 h6;exact c2 h6;exact c3 h6⟩
  ·have hp:aB t s≠-1:=fun e=>hs (.inl e)
   have hl:=(cA hp).2
   have hav:=hi.adv hp
   have simple:∀ c:Nat,c≠40→c≠41→c≠124→¬ (c=42∨c=43∨c=63)→c≠91→c≠92→aB t s=(c:Int)→jX t (aS s) (fun m'=>m'.op=m.op∧m'.st=1):=fun c a1 a2 a3 a4 a5 a6 e=>by
    refine .inl ⟨⟨1,m.op,m.fr⟩,ha.adv e ?_,rfl,rfl⟩
    rw[kD hm]
    unfold tM
    rw[if_neg a1,if_neg a2,if_neg a3,if_neg a4,if_neg a5,if_neg a6]
   rw[jM]
   by_cases c1:aB t s=40
   ·rw[if_pos c1]
    have h1:AtM t (aS s) ⟨0,m.op+1,m.fr⟩:=ha.adv (c:=40) (by rw[c1];rfl) (by rw[kD hm];simp[tM])
    have h2:=ih.alt (aS s) _ hav h1 rfl (by show 6*(t.size-(s.pos+1))+3≤n;omega)
    generalize jN t n (aS s)=A at *
    simp only at h2 ⊢
    unfold eF
    rcases h2 with ⟨m2,g1,g2⟩ | h2
    ·have hop:=g2.op
     by_cases c41:aB t A.2=41
     ·rw[if_pos c41]
      refine .inl ⟨⟨1,m.op,m2.fr⟩,g1.adv (c:=41) (by rw[c41];rfl) ?_,rfl,rfl⟩
      rw[kD g2.st]
      simp[tM,hop]
     ·rw[if_neg c41]
      refine .inr ⟨rfl,?_⟩
      show uB t A.2.pos
      rcases g2.stop with e | e | e | e
      ·exact g1.end_ e (.inr (by omega))
      ·exact absurd e c41
      ·exact absurd e g2.bar
      ·have h0:=g2.mark e
       obtain⟨c,hc,e'⟩:∃ c:Nat,(c=42∨c=43∨c=63)∧aB t A.2=(c:Int):=by
        rcases e with e | e | e
        ·exact⟨42,.inl rfl,e⟩
        ·exact⟨43,.inr (.inl rfl),e⟩
        ·exact⟨63,.inr (.inr rfl),e⟩
       refine g1.err e' ?_
       rw[kD g2.st]
       unfold tM
       rw[if_neg (by omega),if_neg (by omega),if_neg (by omega),if_pos hc,if_pos h0]
    ·rw[if_neg (by rw[bX h2.1];decide)]
     exact .inr ⟨rfl,h2.2⟩
   ·rw[if_neg c1]
    by_cases c2:aB t s=91
    ·rw[if_pos c2]
     have h1:AtM t (aS s) ⟨3,m.op,m.fr⟩:=ha.adv (c:=91) (by rw[c2];rfl) (by rw[kD hm];simp[tM])
     exact aSb n h1 (by show t.size-(s.pos+1)<n;omega)
    ·rw[if_neg c2]
     by_cases c3:aB t s=46
     ·rw[if_pos c3];exact (simple 46 (by decide) (by decide) (by decide) (by decide) (by decide) (by decide) (by rw[c3];rfl)).take _
     ·rw[if_neg c3]
      by_cases c4:aB t s=94
      ·rw[if_pos c4];exact simple 94 (by decide) (by decide) (by decide) (by decide) (by decide) (by decide) (by rw[c4];rfl)
      ·rw[if_neg c4]
       by_cases c5:aB t s=36
       ·rw[if_pos c5];exact simple 36 (by decide) (by decide) (by decide) (by decide) (by decide) (by decide) (by rw[c5];rfl)
       ·rw[if_neg c5];exact (aPn ha hm hs c1 c2).take _
def qH (t:ByteArray):Nat→Nat→fM→Nat × Bool
 | 0,k,m=>if 1<m.st∨0<m.op then (k,true) else (0,false)
 | f+1,k,m=>match gH m (aO t k) with
  | none=>(k,true)
  | some m'=>qH t f (k+1) m'
def aNz (t:ByteArray):Nat × Bool:=qH t t.size 0 ⟨0,0,0⟩
theorem yX (t:ByteArray):∀ f k m,k+f=t.size→mW t k=some m→∀ j,uB t j→k≤j→qH t f k m=(j,true)
 | 0,k,m,h,hr,j,⟨m',h1,h2⟩,hk=>by
  have:j=k:=by omega
  subst this
  rw[hr] at h1
  obtain rfl:=Option.some.inj h1
  rcases h2 with ⟨h2,-⟩ | ⟨-,h2⟩
  ·omega
  ·rw[qH,if_pos h2]
 | f+1,k,m,h,hr,j,⟨m',h1,h2⟩,hk=>by
  rw[qH]
  rcases Nat.eq_or_lt_of_le hk with e | e
  ·subst e
   rw[hr] at h1
   obtain rfl:=Option.some.inj h1
   rcases h2 with ⟨-,h2⟩ | ⟨h2,-⟩
   ·rw[h2]
   ·omega
  ·cases hn:gH m (aO t k) with
   | none=>
    exfalso
    have hz:∀ d,mW t (k+1+d)=none:=by
     intro d
     induction d with
     | zero=>rw[Nat.add_zero,mW,hr,Option.bind_some,hn]
     | succ d ih=>rw[← Nat.add_assoc,mW,ih];rfl
    have:=hz (j-(k+1))
    rw[show k+1+(j-(k+1))=j by omega,h1] at this
    cases this
   | some m2=>
    simp only
    exact yX t f (k+1) m2 (by omega) (by rw[mW,hr,Option.bind_some,hn]) j ⟨m',h1,h2⟩ e
theorem aHt (t:ByteArray):∀ f k m,k+f=t.size→mW t k=some m→∀ m',mW t t.size=some m'→¬ (1<m'.st∨0<m'.op)→qH t f k m=(0,false)
 | 0,k,m,h,hr,m',h1,h2=>by
  rw[show k=t.size by omega,h1] at hr
  obtain rfl:=Option.some.inj hr
  rw[qH,if_neg h2]
 | f+1,k,m,h,hr,m',h1,h2=>by
  rw[qH]
  cases hn:gH m (aO t k) with
  | none=>
   exfalso
   have hz:∀ d,mW t (k+1+d)=none:=by
    intro d
    induction d with
    | zero=>rw[Nat.add_zero,mW,hr,Option.bind_some,hn]
    | succ d ih=>rw[← Nat.add_assoc,mW,ih];rfl
   have:=hz (t.size-(k+1))
   rw[show k+1+(t.size-(k+1))=t.size by omega,h1] at this
   cases this
  | some m2=>
   simp only
   exact aHt t f (k+1) m2 (by omega) (by rw[mW,hr,Option.bind_some,hn]) m' h1 h2
theorem aHs (t:ByteArray)(ht:t.size≤50):aNz t=if gD t=true then (0,false) else ((eW t).2.pos,true):=by
 have h:=(aKt t 400).alt st0 ⟨0,0,0⟩ (nW t) ⟨rfl,Nat.zero_le _,rfl⟩ rfl (by show 6*(t.size-0)+3≤400;omega)
 have hi:=aGp t
 change jX t (eW t).2 (aZw t (eW t).2 0) at h
 rcases h with ⟨m,h1,h2⟩ | ⟨h1,h2⟩
 ·by_cases he:t.size≤(eW t).2.pos
  ·rw[if_pos (bFa h1.f he)]
   have hp:(eW t).2.pos=t.size:=by have:=hi.pos;omega
   have hr:=h1.r
   rw[hp] at hr
   exact aHt t _ _ _ (by omega) rfl m hr (by have:=h2.st;have:=h2.op;omega)
  ·have hno:¬ gD t=true:=fun hok=>he (by rw[(rJ hok).2];exact Nat.le_refl _)
   rw[if_neg hno]
   refine yX t _ _ _ (by omega) rfl _ ?_ (Nat.zero_le _)
   have hop:=h2.op
   rcases kR t (eW t).2 with e | ⟨c,hc,e⟩
   ·have:=aDj (t:=t) h1.f (show (eW t).2.pos<t.size by omega);omega
   ·refine h1.err e ?_
    rw[kD h2.st]
    have hs:=h2.stop
    have hm:=h2.mark
    have hb:=h2.bar
    rw[e] at hs hm hb
    unfold aCh at hs
    unfold tM
    rw[if_neg (by omega)]
    by_cases c41:c=41
    ·rw[if_pos c41,if_pos hop]
    ·rw[if_neg c41,if_neg (by omega)]
     have hmk:c=42∨c=43∨c=63:=by omega
     rw[if_pos hmk,if_pos (hm (by unfold aOr;omega))]
 ·have hno:¬ gD t=true:=fun hok=>by rw[(rJ hok).1] at h1;cases h1
  rw[if_neg hno]
  exact yX t _ _ _ (by omega) rfl _ h2 (Nat.zero_le _)
end
open Go.RowKit
structure jS (W:World) (mb st op fr:Nat):Prop where
 c0:W.cell? ⟨mb,0,none⟩=some (.int .i64 st)
 c1:W.cell? ⟨mb,1,none⟩=some (.int .i64 op)
 c2:W.cell? ⟨mb,2,none⟩=some (.int .u8 fr)
 z0:W.frozen? ⟨mb,0,none⟩=false
 z1:W.frozen? ⟨mb,1,none⟩=false
 z2:W.frozen? ⟨mb,2,none⟩=false
theorem jS.set0 {W:World}{mb st op fr:Nat} (h:jS W mb st op fr) (s:Nat):jS (W.setCell ⟨mb,0,none⟩ (.int .i64 s)) mb s op fr:=
 ⟨World.cell?_setCell_same' _ _ _ (by rw[h.c0];rfl),(aA (by decide)).trans h.c1,(aA (by decide)).trans h.c2,(wfz _ _ _ _).trans h.z0,(wfz _ _ _ _).trans h.z1,(wfz _ _ _ _).trans h.z2⟩
theorem jS.set1 {W:World}{mb st op fr:Nat} (h:jS W mb st op fr) (s:Nat):jS (W.setCell ⟨mb,1,none⟩ (.int .i64 s)) mb st s fr:=
 ⟨(aA (by decide)).trans h.c0,World.cell?_setCell_same' _ _ _ (by rw[h.c1];rfl),(aA (by decide)).trans h.c2,(wfz _ _ _ _).trans h.z0,(wfz _ _ _ _).trans h.z1,(wfz _ _ _ _).trans h.z2⟩
theorem jS.set2 {W:World}{mb st op fr:Nat} (h:jS W mb st op fr) (s:Nat):jS (W.setCell ⟨mb,2,none⟩ (.int .u8 s)) mb st op s:=
 ⟨(aA (by decide)).trans h.c0,(aA (by decide)).trans h.c1,World.cell?_setCell_same' _ _ _ (by rw[h.c2];rfl),(wfz _ _ _ _).trans h.z0,(wfz _ _ _ _).trans h.z1,(wfz _ _ _ _).trans h.z2⟩
def dO (mb st:Nat) (nx:Option fM) (w:World) (e:Ending) (w':World):Prop:=
 Fr [mb] w w'∧match nx with
  | none=>e=.returned (.int .i64 (-1))
  | some m=>e=.returned (.int .i64 m.st)∧jS w' mb st m.op m.fr
theorem dO.no {mb st:Nat}{w w':World}{e:Ending} (h1:Fr [mb] w w') (h2:e=.returned (.int .i64 (-1))):dO mb st none w e w':=⟨h1,h2⟩
theorem dO.yes {mb st:Nat}{m:fM}{w w':World}{e:Ending} (h1:Fr [mb] w w') (h2:e=.returned (.int .i64 m.st)) (h3:jS w' mb st m.op m.fr):dO mb st (some m) w e w':=⟨h1,h2,h3⟩
theorem aHd (mb c:Nat)(m:fM)(w:World)(hc:c<256)(hop:m.op≤1000)(hM:jS w mb m.st m.op m.fr) :
  Calls prog 107 #[.pointer (some ⟨mb,0,none⟩),.int .u8 c] w (dO mb m.st (tM m c) w):=by
 have c0:=hM.c0
 have c1:=hM.c1
 have z1:=hM.z1
 unfold tM
 by_cases h40:c=40
 ·subst h40
  rw[if_pos rfl]
  have k:=hM.set1 (m.op+1)
  rw[show ((m.op+1:Nat):Int)=(m.op:Int)+1 by omega] at k
  go_enter func107,ntmps107
  go_wp2
  go_ret
  exact dO.yes ((Fr.refl _ _).setCell (p:=⟨mb,1,none⟩) (.inl (by simp)) _) rfl k
 ·rw[if_neg h40]
  have n40:((c:Int)==40)=false:=by simp;omega
  by_cases h41:c=41
  ·subst h41
   rw[if_pos rfl]
   by_cases h0:m.op=0
   ·rw[if_pos h0]
    have h0z:((m.op:Int)==0)=true:=by simp;omega
    clear h0
    go_enter func107,ntmps107
    go_wp2
    go_ret
    exact dO.no (Fr.refl _ _) rfl
   ·rw[if_neg h0]
    have h0z:((m.op:Int)==0)=false:=by simp;omega
    have k:=hM.set1 (m.op-1)
    rw[show ((m.op-1:Nat):Int)=(m.op:Int)-1 by omega] at k
    go_enter func107,ntmps107
    go_wp2
    go_ret
    exact dO.yes ((Fr.refl _ _).setCell (p:=⟨mb,1,none⟩) (.inl (by simp)) _) rfl k
  ·rw[if_neg h41]
   have n41:((c:Int)==41)=false:=by simp;omega
   by_cases h124:c=124
   ·subst h124
    rw[if_pos rfl]
    go_enter func107,ntmps107
    go_wp2
    go_ret
    exact dO.yes (Fr.refl _ _) rfl hM
   ·rw[if_neg h124]
    have n124:((c:Int)==124)=false:=by simp;omega
    by_cases hmk:c=42∨c=43∨c=63
    ·rw[if_pos hmk]
     by_cases h0:m.st=0
     ·rw[if_pos h0]
      have h0z:((m.st:Int)==0)=true:=by simp;omega
      clear h0 h40 h41 h124
      rcases hmk with rfl | rfl | rfl
      all_goals
       go_enter func107,ntmps107
       go_wp2
       go_ret
       exact dO.no (Fr.refl _ _) rfl
     ·rw[if_neg h0]
      have h0z:((m.st:Int)==0)=false:=by simp;omega
      clear h40 h41 h124
      rcases hmk with rfl | rfl | rfl
      all_goals
       go_enter func107,ntmps107
       go_wp2
       go_ret
       exact dO.yes (Fr.refl _ _) rfl hM
    ·rw[if_neg hmk]
     have n42:((c:Int)==42)=false:=by simp;omega
     have n43:((c:Int)==43)=false:=by simp;omega
     have n63:((c:Int)==63)=false:=by simp;omega
     by_cases h91:c=91
     ·subst h91
      rw[if_pos rfl]
      go_enter func107,ntmps107
      go_wp2
      go_ret
      exact dO.yes (Fr.refl _ _) rfl hM
     ·rw[if_neg h91]
      have n91:((c:Int)==91)=false:=by simp;omega
      by_cases h92:c=92
      ·subst h92
       rw[if_pos rfl]
       go_enter func107,ntmps107
       go_wp2
       go_ret
       exact dO.yes (Fr.refl _ _) rfl hM
      ·rw[if_neg h92]
       have n92:((c:Int)==92)=false:=by simp;omega
       clear h40 h41 h124 hmk h91 h92
       go_enter func107,ntmps107
       go_wp2
       go_ret
       exact dO.yes (Fr.refl _ _) rfl hM
theorem aLl (mb c:Nat)(m:fM)(w:World)(hc:c<256)(hM:jS w mb m.st m.op m.fr) :
  Calls prog 108 #[.pointer (some ⟨mb,0,none⟩),.int .u8 c] w (dO mb m.st (inM m c) w):=by
 have c0:=hM.c0
 have c2:=hM.c2
 have z2:=hM.z2
 unfold inM
 by_cases h93:c=93
 ·subst h93
  by_cases h3:m.st=3
  ·rw[if_pos ⟨rfl,.inl h3⟩]
   have e3:((m.st:Int)==3)=true:=by simp;omega
   clear h3
   go_enter func108,ntmps108
   go_wp2
   go_ret
   exact dO.no (Fr.refl _ _) rfl
  ·have e3:((m.st:Int)==3)=false:=by simp;omega
   by_cases h4:m.st=4
   ·rw[if_pos ⟨rfl,.inr h4⟩]
    have e4:((m.st:Int)==4)=true:=by simp;omega
    clear h3 h4
    go_enter func108,ntmps108
    go_wp2
    go_ret
    exact dO.no (Fr.refl _ _) rfl
   ·have e4:((m.st:Int)==4)=false:=by simp;omega
    rw[if_neg (fun h=>h.2.elim h3 h4),if_pos rfl]
    clear h3 h4
    go_enter func108,ntmps108
    go_wp2
    go_ret
    exact dO.yes (Fr.refl _ _) rfl hM
 ·rw[if_neg (fun h=>h93 h.1),if_neg h93]
  have n93:((c:Int)==93)=false:=by simp;omega
  by_cases h94:c=94∧m.st=3
  ·obtain⟨rfl,h3⟩:=h94
   rw[if_pos ⟨rfl,h3⟩]
   have e3:((m.st:Int)==3)=true:=by simp;omega
   clear h3 h93
   go_enter func108,ntmps108
   go_wp2
   go_ret
   exact dO.yes (Fr.refl _ _) rfl hM
  ·rw[if_neg h94]
   by_cases h92:c=92
   ·subst h92
    rw[if_pos rfl]
    clear h93 h94
    go_enter func108,ntmps108
    go_wp2
    go_ret
    exact dO.yes (Fr.refl _ _) rfl hM
   ·rw[if_neg h92]
    have n92:((c:Int)==92)=false:=by simp;omega
    have k:=hM.set2 c
    have fk:Fr [mb] w (w.setCell ⟨mb,2,none⟩ (.int .u8 c)):=(Fr.refl _ _).setCell (p:=⟨mb,2,none⟩) (.inl (by simp)) _
    by_cases c94:c=94
    ·subst c94
     have e3:((m.st:Int)==3)=false:=by simp;omega
     rw[if_neg (by omega)]
     clear h93 h94 h92
     go_enter func108,ntmps108
     go_wp2
     go_ret
     exact dO.yes fk rfl k
    ·have n94:((c:Int)==94)=false:=by simp;omega
     by_cases c45:c=45
     ·subst c45
      by_cases h7:m.st=7
      ·rw[if_pos ⟨rfl,h7⟩]
       have e7:((m.st:Int)==7)=true:=by simp;omega
       clear h93 h94 h92 c94 h7 k fk
       go_enter func108,ntmps108
       go_wp2
       go_ret
       exact dO.yes (Fr.refl _ _) rfl hM
      ·rw[if_neg (fun h=>h7 h.2)]
       have e7:((m.st:Int)==7)=false:=by simp;omega
       clear h93 h94 h92 c94 h7
       go_enter func108,ntmps108
       go_wp2
       go_ret
       exact dO.yes fk rfl k
     ·rw[if_neg (fun h=>c45 h.1)]
      have n45:((c:Int)==45)=false:=by simp;omega
      clear h93 h94 h92 c94 c45
      go_enter func108,ntmps108
      go_wp2
      go_ret
      exact dO.yes fk rfl k
theorem aUn (mb c:Nat)(m:fM)(w:World)(hc:c<256)(hop:m.op≤1000)(hM:jS w mb m.st m.op m.fr) :
  Calls prog 47 #[.pointer (some ⟨mb,0,none⟩),.int .u8 c] w (dO mb m.st (gH m c) w):=by
 have ho:=aHd mb c m w hc hop hM
 have hi:=aLl mb c m w hc hM
 have c0:=hM.c0
 have c2:=hM.c2
 have z2:=hM.z2
 unfold gH
 have E:∀ k:Nat,((m.st:Int)==(k:Int))=decide (m.st=k):=fun k=>by
  rw[Bool.eq_iff_iff];simp;omega
 have e0:=E 0
 have e1:=E 1
 have e2:=E 2
 have e6:=E 6
 have e8:=E 8
 have e9:=E 9
 clear E
 by_cases h01:m.st=0∨m.st=1
 ·rw[if_pos h01]
  generalize tM m c=nx at *
  rcases h01 with h | h
  ·rw[decide_eq_true h] at e0
   clear e1 e2 e6 e8 e9 h hi
   go_enter func47,ntmps47
   go_wp2_with fail
   refine ho.mono ?_
   rintro e w1 ⟨f1,h1⟩
   cases nx with
   | none=>subst h1;go_wp2;go_ret;exact dO.no f1 rfl
   | some m'=>obtain⟨h1,h2⟩:=h1;subst h1;go_wp2;go_ret;exact dO.yes f1 rfl h2
  ·rw[decide_eq_false (by omega)] at e0
   rw[decide_eq_true h] at e1
   clear e2 e6 e8 e9 h hi
   go_enter func47,ntmps47
   go_wp2_with fail
   refine ho.mono ?_
   rintro e w1 ⟨f1,h1⟩
   cases nx with
   | none=>subst h1;go_wp2;go_ret;exact dO.no f1 rfl
   | some m'=>obtain⟨h1,h2⟩:=h1;subst h1;go_wp2;go_ret;exact dO.yes f1 rfl h2
 ·rw[if_neg h01]
  rw[decide_eq_false (by omega)] at e0
  rw[decide_eq_false (by omega)] at e1
  clear ho
  by_cases h2:m.st=2
  ·rw[if_pos h2]
   rw[decide_eq_true h2] at e2
   clear e6 e8 e9 h01 hi h2
   go_enter func47,ntmps47
   go_wp2
   go_ret
   exact dO.yes (Fr.refl _ _) rfl hM
  ·rw[if_neg h2]
   rw[decide_eq_false h2] at e2
   by_cases h6:m.st=6
   ·rw[if_pos h6]
    rw[decide_eq_true h6] at e6
    have k:=hM.set2 c
    have fk:Fr [mb] w (w.setCell ⟨mb,2,none⟩ (.int .u8 c)):=(Fr.refl _ _).setCell (p:=⟨mb,2,none⟩) (.inl (by simp)) _
    clear e8 e9 h01 hi h2 h6
    go_enter func47,ntmps47
    go_wp2
    go_ret
    exact dO.yes fk rfl k
   ·rw[if_neg h6]
    rw[decide_eq_false h6] at e6
    by_cases h8:m.st=8
    ·rw[if_pos h8]
     rw[decide_eq_true h8] at e8
     clear e9 h01 hi h2 h6 h8
     by_cases c93:c=93
     ·subst c93
      rw[if_pos rfl]
      go_enter func47,ntmps47
      go_wp2
      go_ret
      exact dO.yes (Fr.refl _ _) rfl hM
     ·rw[if_neg c93]
      have n93:((c:Int)==93)=false:=by simp;omega
      by_cases c92:c=92
      ·subst c92
       rw[if_pos rfl]
       clear c93
       go_enter func47,ntmps47
       go_wp2
       go_ret
       exact dO.yes (Fr.refl _ _) rfl hM
      ·rw[if_neg c92]
       have n92:((c:Int)==92)=false:=by simp;omega
       by_cases cl:c<m.fr
       ·rw[if_pos cl]
        have gl:(c:Int)<m.fr:=by omega
        clear c93 c92
        go_enter func47,ntmps47
        go_wp2
        go_ret
        exact dO.no (Fr.refl _ _) rfl
       ·rw[if_neg cl]
        have gl:¬ ((c:Int)<m.fr):=by omega
        clear c93 c92
        go_enter func47,ntmps47
        go_wp2
        go_ret
        exact dO.yes (Fr.refl _ _) rfl hM
    ·rw[if_neg h8]
     rw[decide_eq_false h8] at e8
     by_cases h9:m.st=9
     ·rw[if_pos h9]
      rw[decide_eq_true h9] at e9
      clear h01 hi h2 h6 h8 h9
      by_cases cl:c<m.fr
      ·rw[if_pos cl]
       have gl:(c:Int)<m.fr:=by omega
       go_enter func47,ntmps47
       go_wp2
       go_ret
       exact dO.no (Fr.refl _ _) rfl
      ·rw[if_neg cl]
       have gl:¬ ((c:Int)<m.fr):=by omega
       go_enter func47,ntmps47
       go_wp2
       go_ret
       exact dO.yes (Fr.refl _ _) rfl hM
     ·rw[if_neg h9]
      rw[decide_eq_false h9] at e9
      generalize inM m c=nx at *
      clear h01 h2 h6 h8 h9
      go_enter func47,ntmps47
      go_wp2_with fail
      refine hi.mono ?_
      rintro e w1 ⟨f1,h1⟩
      cases nx with
      | none=>subst h1;go_wp2;go_ret;exact dO.no f1 rfl
      | some m'=>obtain⟨h1,h2⟩:=h1;subst h1;go_wp2;go_ret;exact dO.yes f1 rfl h2
end Go.Proofs.YtgpamchpeamnfaaGreatDoor
