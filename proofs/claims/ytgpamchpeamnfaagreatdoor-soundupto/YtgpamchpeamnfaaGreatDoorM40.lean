/-
  Texts Xd Xe Xf.
-/
import Derived.Test.YtgpamchpeamnfaaGreatDoorMA
import Derived.Test.YtgpamchpeamnfaaGreatDoorM39
import Derived.Test.YtgpamchpeamnfaaGreatDoorM13
import Derived.Test.YtgpamchpeamnfaaGreatDoorM06
set_option linter.unusedSimpArgs false
set_option linter.unusedVariables false
set_option maxRecDepth 100000
set_option maxHeartbeats 40000000
open _root_.Go.Proofs.Tryz
namespace Go.Proofs.YtgpamchpeamnfaaGreatDoor
open Go.RowKit
open Wire
section
variable {w w' W W' : World} {r B rb mb F f i : Nat} {b : ByteArray} {a a' e k : Nat} {c p t : List UInt8} {V : List Value} {v : Value}
theorem GR.opn (h:GR w r b a e (p++t)):GR (w.setCell ⟨r,2,none⟩ (.int .i64 ((a:Int)+p.length))) r b a (a+p.length) p:=by
 have hl:=h.len
 have h1:=h.le
 simp at hl
 exact⟨by have:=h.c.set2 (a+p.length);rwa [Int.natCast_add] at this,by omega,by rw[← rF _ _ e _ (by omega),h.s,List.take_left]⟩
theorem GR.cls (h:GR w r b a e (p++t))(h':GR W r b a' (a+p.length) []):GR (W.setCell ⟨r,2,none⟩ (.int .i64 e)) r b a' e t:=by
 have:=gX h.s h.le.1 (by rw[aD];exact h.le.2.1)
 have hl:=h.len
 have h1:=h.le
 have h2:=h'.len
 have h3:=h'.le
 simp at hl h2
 obtain rfl:a'=a+p.length:=by omega
 exact⟨h'.c.set2 e,by omega,by rw[← this.2.1];exact this.1⟩
theorem J9 (hF:F=91∨F=94∨F=96∨F=98∨F=99){kI:Int}(hkI:kI=(k:Int))(hk:k<256)(Q:World→Prop)(hQ:∀ W W',Fr [r] W W'→Q W→Q W')
  (hc:∀ W e,Fr [r] w W→GS W r b e c→Calls prog F #[.pointer (some ⟨rb,0,none⟩),.pointer (some ⟨mb,0,none⟩)] W fun ee W'=>ee=.returned (.tuple #[])∧GS W' r b e []∧Q W'∧Fr [r,mb] W W')
  (h:GS w r b b.size (bR k c++t)) :
  Calls prog 90 #[.pointer (some ⟨r,0,none⟩),.int .u8 kI,.func (.func F) #[] #[.pointer (some ⟨rb,0,none⟩),.pointer (some ⟨mb,0,none⟩)]] w fun ee w'=>ee=.returned (.tuple #[])∧GS w' r b b.size t∧Q w'∧Fr [r,mb] w w':=by
 have hkc:kI=((UInt8.ofNat k).toNat:Int):=by rw[hkI];simp[UInt8.toNat_ofNat];omega
 obtain⟨a,h⟩:=h
 have hl:=h.len
 have hle:=h.le
 simp only[bR,List.cons_append,List.append_assoc,List.length_cons,Lla] at h hl
 have c1:=bAg (nI:=7) hkc h
 have c2:=fun W hW=>aNt (w:=W) (r:=r) (b:=b) (a:=a+1) (e:=b.size) (n:=c.length) (t:=c++t) (by omega) hW
 have hd:=cQ c.length
 generalize hz:a+1+(aY c.length).length=z at *
 have g1:¬ (b.size:Int)-(z:Int)<c.length:=by omega
 have g1b:(z:Int)+c.length≤40000:=by omega
 have C1:Hid _:=c1
 have C2:Hid _:=c2
 have HC:Hid _:=hc
 clear c1 c2 hc h hz hl hkI hkc
 rcases hF with rfl | rfl | rfl | rfl | rfl
 all_goals
  go_enter func90,ntmps90
  go_wp2_with fail
  refine Calls.mono C1.out ?_
  rintro ee w1 ⟨rfl,K1,F1⟩
  have a1:=K1.c.c1
  go_wp2_with fail
  refine (C2.out w1 K1).mono ?_
  rintro ee w2 ⟨rfl,K2,F2⟩
  have b1:=K2.c.c1
  have b2:=K2.c.c2
  have b3:=K2.c.f2
  clear a1 K1
  go_wp2
  go_quiet (fail)
  go_wp2_with fail
  have K3:=GR.opn (K2.heap (w':=w2.drewN nq) rfl)
  have FF:=(F1.trans F2).trans (((Fr.refl [r] w2).drewN nq).setCell (p:=⟨r,2,none⟩) (.inl (by simp)) (.int .i64 ((z:Int)+c.length)))
  refine (HC.out _ _ FF ⟨_,K3⟩).mono ?_
  rintro ee w4 ⟨rfl,⟨y,K4⟩,hq,F4⟩
  have hy:y=z+c.length:=by have h2:=K4.len;have h3:=K4.le;simp at h2;omega
  have d1:=K4.c.c1
  have d2:=K4.c.c2
  have g2:¬ (y:Int)<((z+c.length:Nat):Int):=by omega
  clear b1 b2 b3 F1 F2 K3
  go_wp2
  go_quiet (fail)
  have K5:=K4.heap (w':=w4.drewN nq) rfl
  have e0:=K5.c.c0
  have e1:=K5.c.f2
  have e2:=K5.c.c2
  have K6:=K2.cls K5
  have F6:Fr [r] w4 ((w4.drewN nq).setCell ⟨r,2,none⟩ (.int .i64 b.size)):=((Fr.refl [r] w4).drewN nq).setCell (p:=⟨r,2,none⟩) (.inl (by simp)) _
  clear d1 d2 K4 K5 K2
  go_wp2
  go_end0
  exact⟨rfl,⟨_,K6⟩,hQ _ _ F6 hq,((FF.mono (by simp)).trans F4).trans (F6.mono (by simp))⟩
structure BX (B r rb mb:Nat) (V:List Value) (W:World):Prop where
 tab:Tab W
 rc:W.cell? ⟨rb,0,none⟩=some (.pointer (some ⟨r,0,none⟩))
 cs:∀ i,W.cell? ⟨mb,i,none⟩=V[i]?
 fz:∀ i,W.frozen? ⟨mb,i,none⟩=false
 n:r≠5∧mb≠5∧r≠mb∧r≠rb∧mb≠rb∧r<B∧mb<B∧B≤W.heap.size∧V.length=5
theorem BX.fr (h:BX B r rb mb V W)(hf:Fr [r] W W'):BX B r rb mb V W':=by
 obtain⟨n0,n1,n2,n3,n4,n5,n6,n7,n8⟩:=h.n
 have hm:mb ∉ [r]:=by simpa using fun e=>n2 e.symm
 exact⟨h.tab.fr hf (by simpa using fun e=>n0 e.symm),(hf.cell (p:=⟨rb,0,none⟩) (aC h.rc) (by simpa using fun e=>n3 e.symm)).trans h.rc,fun i=>(hf.cell (p:=⟨mb,i,none⟩) (by simp only;omega) hm).trans (h.cs i),fun i=>(hf.frozen (p:=⟨mb,i,none⟩) (by simp only;omega) hm).trans (h.fz i),n0,n1,n2,n3,n4,n5,n6,Nat.le_trans n7 hf.size,n8⟩
theorem BX.set (h:BX B r rb mb V W)(hi:i<5)(v:Value):BX B r rb mb (V.set i v) (W.setCell ⟨mb,i,none⟩ v):=by
 obtain⟨n0,n1,n2,n3,n4,n5,n6,n7,n8⟩:=h.n
 have hf:=cG W mb i v
 refine⟨h.tab.fr hf (by simpa using fun e=>n1 e.symm),(aQ n4).trans h.rc,fun j=>?_,fun j=>by rw[wfz];exact h.fz j,n0,n1,n2,n3,n4,n5,n6,Nat.le_trans n7 hf.size,by simpa using n8⟩
 by_cases hij:i=j
 ·subst hij
  rw[List.getElem?_set_self (by omega)]
  exact aP ((h.cs i).trans (Lge (by omega)))
 ·rw[List.getElem?_set_ne hij]
  exact (aA hij).trans (h.cs j)
theorem BX.at (h:BX B r rb mb V W)(hi:i<5):∃ u,W.cell? ⟨mb,i,none⟩=some u:=⟨_,(h.cs i).trans (Lge (by have:=h.n;omega))⟩
theorem BX.put (h:BX B r rb mb V w)(hi:i<5)(h1:Fr [r] w W)(hK:GS W r b e t):BX B r rb mb (V.set i v) (W.setCell ⟨mb,i,none⟩ v)∧GS (W.setCell ⟨mb,i,none⟩ v) r b e t∧Fr [r,mb] w (W.setCell ⟨mb,i,none⟩ v):=
 ⟨(h.fr h1).set hi v,hK.fr (cG W mb i v) (by simpa using h.n.2.2.1),(h1.mono (by simp)).setCell (p:=⟨mb,i,none⟩) (.inl (by simp)) _⟩
theorem aWa {L:List ByteArray}(hF:F=91∧f=93∧i=0∨F=94∧f=95∧i=1)(hL:L.length≤1000)(hB:BX B r rb mb V w)
  (hone:∀ (W:World) (s:ByteArray) (t:List UInt8),s ∈ L→Tab W→GS W r b e (fP s++t)→Calls prog f #[.pointer (some ⟨r,0,none⟩)] W fun ee w'=>ee=.returned (.string s)∧GS w' r b e t∧Fr [r] W w') (h:GS w r b e (aZ L)) :
  Calls prog F #[.pointer (some ⟨rb,0,none⟩),.pointer (some ⟨mb,0,none⟩)] w fun ee W'=>ee=.returned (.tuple #[])∧GS W' r b e []∧(∃ v,BX B r rb mb (V.set i v) W'∧bW w.heap.size W' v L)∧Fr [r,mb] w W':=by
 rw[← List.append_nil (aZ L)] at h
 have ht:=bAy (w:=w) f (by omega) hL (fun W s t hs hf=>hone W s t hs (hB.fr hf).tab) h
 have rc:=hB.rc
 have hm:mb<w.heap.size:=by have:=hB.n;omega
 clear hone h
 rcases hF with ⟨rfl,rfl,rfl⟩ | ⟨rfl,rfl,rfl⟩
 go_enter func91,ntmps91
 rotate_left
 go_enter func94,ntmps94
 all_goals
  go_wp2_with fail
  refine ht.mono ?_
  rintro ee w1 ⟨v,rfl,hv,K1,F1⟩
  have hB1:=hB.fr F1
  have fz:=hB1.fz
  obtain⟨z0,a0⟩:=hB1.at (i:=0) (by omega)
  obtain⟨z1,a1⟩:=hB1.at (i:=1) (by omega)
  have hv0:=fun i=>hv.fr (cG w1 mb i v) (by simpa using hm)
  have hq0:=hB.put (i:=0) (v:=v) (by omega) F1 K1
  have hq1:=hB.put (i:=1) (v:=v) (by omega) F1 K1
  have HQ:Hid _:=AI hv0 (AI hq0 hq1)
  obtain⟨x0,cap,g,off,rfl,-⟩:=hv
  clear ht rc hv0 hq0 hq1
  go_wp2
  go_end0
  obtain⟨h0,⟨h1,h2,h3⟩,h4,h5,h6⟩:=HQ.out
  first
   | exact⟨rfl,h2,⟨_,h1,h0 _⟩,h3⟩
   | exact⟨rfl,h5,⟨_,h4,h0 _⟩,h6⟩
theorem aWb {n:Nat}(hF:F=96∧i=2∨F=98∧i=3)(hn:n≤1000)(hB:BX B r rb mb V w)(h:GS w r b e (aY n)) :
  Calls prog F #[.pointer (some ⟨rb,0,none⟩),.pointer (some ⟨mb,0,none⟩)] w fun ee W'=>ee=.returned (.tuple #[])∧GS W' r b e []∧BX B r rb mb (V.set i (.int .i64 n)) W'∧Fr [r,mb] w W':=by
 rw[← List.append_nil (aY n)] at h
 have ht:=h.lim (lo:=0) (hi:=1000) rfl rfl (by omega) hn (by omega)
 change Calls prog 97 #[.pointer (some ⟨r,0,none⟩),.int .i64 0,.int .i64 1000] w _ at ht
 have rc:=hB.rc
 clear h
 rcases hF with ⟨rfl,rfl⟩ | ⟨rfl,rfl⟩
 go_enter func96,ntmps96
 rotate_left
 go_enter func98,ntmps98
 all_goals
  go_wp2_with fail
  refine ht.mono ?_
  rintro ee w1 ⟨rfl,K1,F1⟩
  have hB1:=hB.fr F1
  have fz:=hB1.fz
  obtain⟨z0,a0⟩:=hB1.at (i:=2) (by omega)
  obtain⟨z1,a1⟩:=hB1.at (i:=3) (by omega)
  have hq0:=hB.put (i:=2) (v:=.int .i64 n) (by omega) F1 K1
  have hq1:=hB.put (i:=3) (v:=.int .i64 n) (by omega) F1 K1
  have HQ:Hid _:=AI hq0 hq1
  clear ht rc hq0 hq1
  go_wp2
  go_end0
  obtain⟨⟨h1,h2,h3⟩,h4,h5,h6⟩:=HQ.out
  first
   | exact⟨rfl,h2,h1,h3⟩
   | exact⟨rfl,h5,h4,h6⟩
theorem aWc {L:List Wire.Fn}(hL:3≤L.length∧L.length≤1000)(hf:bC L 0=true)(hB:BX B r rb mb V w)(h:GS w r b e (gZ L)) :
  Calls prog 99 #[.pointer (some ⟨rb,0,none⟩),.pointer (some ⟨mb,0,none⟩)] w fun ee W'=>ee=.returned (.tuple #[])∧GS W' r b e []∧(∃ v,BX B r rb mb (V.set 4 v) W'∧eN w.heap.size W' v L)∧Fr [r,mb] w W':=by
 rw[← List.append_nil (gZ L)] at h
 have ht:=bCp hL hf h
 have rc:=hB.rc
 have hm:mb<w.heap.size:=by have:=hB.n;omega
 clear h
 go_enter func99,ntmps99
 go_wp2_with fail
 refine ht.mono ?_
 rintro ee w1 ⟨v,rfl,hv,K1,F1⟩
 have hB1:=hB.fr F1
 have fz:=hB1.fz
 obtain⟨z0,a0⟩:=hB1.at (i:=4) (by omega)
 have hv0:=hv.fr (cG w1 mb 4 v) (by simpa using hm)
 have hq0:=hB.put (i:=4) (v:=v) (by omega) F1 K1
 have HQ:Hid _:=AI hv0 hq0
 obtain⟨x0,cap,g,off,rfl,-⟩:=hv
 clear ht rc hv0 hq0
 go_wp2
 go_end0
 obtain⟨h0,h1,h2,h3⟩:=HQ.out
 exact⟨rfl,h2,⟨_,h1,h0⟩,h3⟩
theorem bAa {L:List ByteArray}{kI:Int} (hF:F=91∧f=93∧i=0∨F=94∧f=95∧i=1) (hkI:kI=(k:Int)) (hk:k<256) (hL:L.length≤1000) (hB:BX B r rb mb V w)
  (hone:∀ e (W:World) (s:ByteArray) (t:List UInt8),s ∈ L→Tab W→GS W r b e (fP s++t)→Calls prog f #[.pointer (some ⟨r,0,none⟩)] W fun ee w'=>ee=.returned (.string s)∧GS w' r b e t∧Fr [r] W w') (h:GS w r b b.size (bR k (aZ L)++t)) :
  Calls prog 90 #[.pointer (some ⟨r,0,none⟩),.int .u8 kI,.func (.func F) #[] #[.pointer (some ⟨rb,0,none⟩),.pointer (some ⟨mb,0,none⟩)]] w fun ee w'=>ee=.returned (.tuple #[])∧GS w' r b b.size t∧(∃ v,BX B r rb mb (V.set i v) w'∧bW w.heap.size w' v L)∧Fr [r,mb] w w':=by
 have hr:=h.lt
 exact J9 (by omega) hkI hk (fun W=>∃ v,BX B r rb mb (V.set i v) W∧bW w.heap.size W v L) (fun W W' f ⟨v,h1,h2⟩=>⟨v,h1.fr f,h2.fr f (by simpa using hr)⟩)
  (fun W e f hW=>(aWa hF hL (hB.fr f) (hone e) hW).mono fun _ _ ⟨h1,h2,⟨v,h3,h4⟩,h5⟩=>⟨h1,h2,⟨v,h3,h4.base f.size⟩,h5⟩) h
theorem bAb {n:Nat}{kI:Int} (hF:F=96∧i=2∨F=98∧i=3) (hkI:kI=(k:Int)) (hk:k<256) (hn:n≤1000) (hB:BX B r rb mb V w) (h:GS w r b b.size (bR k (aY n)++t)) :
  Calls prog 90 #[.pointer (some ⟨r,0,none⟩),.int .u8 kI,.func (.func F) #[] #[.pointer (some ⟨rb,0,none⟩),.pointer (some ⟨mb,0,none⟩)]] w fun ee w'=>ee=.returned (.tuple #[])∧GS w' r b b.size t∧BX B r rb mb (V.set i (.int .i64 n)) w'∧Fr [r,mb] w w':=
 J9 (by omega) hkI hk _ (fun W W' f h1=>h1.fr f) (fun W e f hW=>aWb hF hn (hB.fr f) hW) h
theorem bEp {L:List Wire.Fn}(hL:3≤L.length∧L.length≤1000)(hf:bC L 0=true)(hB:BX B r rb mb V w)(h:GS w r b b.size (bR 5 (gZ L)++t)) :
  Calls prog 90 #[.pointer (some ⟨r,0,none⟩),.int .u8 5,.func (.func 99) #[] #[.pointer (some ⟨rb,0,none⟩),.pointer (some ⟨mb,0,none⟩)]] w fun ee w'=>ee=.returned (.tuple #[])∧GS w' r b b.size t∧(∃ v,BX B r rb mb (V.set 4 v) w'∧eN w.heap.size w' v L)∧Fr [r,mb] w w':=by
 have hr:=h.lt
 exact J9 (k:=5) (by omega) rfl (by omega) (fun W=>∃ v,BX B r rb mb (V.set 4 v) W∧eN w.heap.size W v L) (fun W W' f ⟨v,h1,h2⟩=>⟨v,h1.fr f,h2.fr f (by simpa using hr)⟩)
  (fun W e f hW=>(aWc hL hf (hB.fr f) hW).mono fun _ _ ⟨h1,h2,⟨v,h3,h4⟩,h5⟩=>⟨h1,h2,⟨v,h3,h4.base f.size⟩,h5⟩) h
end
theorem BX.start (w:World)(r:Nat)(hr:r<w.heap.size)(hr0:r≠5)(hT:Tab w) :
  BX (w.heap.size+1+1+1) r w.heap.size (w.heap.size+1+1) [.slice none 0 0,.slice none 0 0,.int .i64 0,.int .i64 0,.slice none 0 0] (((w.alloc (.cells #[.pointer (some ⟨r,0,none⟩)] 145)).alloc (.cells #[.slice none 0 0,.slice none 0 0,.int .i64 0,.int .i64 0,.slice none 0 0] 25)).alloc (.cells #[.slice none 0 0,.slice none 0 0,.int .i64 0,.int .i64 0,.slice none 0 0] 25)):=by
 have hT0:=hT.lt
 have f0:Fr [] (w.alloc (.cells #[.pointer (some ⟨r,0,none⟩)] 145)) (((w.alloc (.cells #[.pointer (some ⟨r,0,none⟩)] 145)).alloc (.cells #[.slice none 0 0,.slice none 0 0,.int .i64 0,.int .i64 0,.slice none 0 0] 25)).alloc (.cells #[.slice none 0 0,.slice none 0 0,.int .i64 0,.int .i64 0,.slice none 0 0] 25)):=((Fr.refl [] _).alloc _).alloc _
 have hm:=wan ((w.alloc (.cells #[.pointer (some ⟨r,0,none⟩)] 145)).alloc (.cells #[.slice none 0 0,.slice none 0 0,.int .i64 0,.int .i64 0,.slice none 0 0] 25)) (.cells #[.slice none 0 0,.slice none 0 0,.int .i64 0,.int .i64 0,.slice none 0 0] 25)
 rw[World.size_alloc,World.size_alloc] at hm
 have h1:=(f0.block w.heap.size (by simp) (by simp)).trans (wan w (.cells #[.pointer (some ⟨r,0,none⟩)] 145))
 exact⟨hT.fr (((Fr.refl [] w).alloc _).trans f0) (by simp),cof h1 rfl,fun i=>by unfold World.cell?;rw[hm];simp,fun i=>by unfold World.frozen?;rw[hm];simp,hr0,by omega,by omega,by omega,by omega,by omega,by omega,by simp,rfl⟩
def bAr (m:Mo) (r:Nat) (b:ByteArray) (w:World) (ee:Ending) (w':World):Prop:=
 ∃ (a0 a1 a4:Option Addr) (n0 c0 n1 c1 n4 c4 gn an:Nat),ee=.returned (.agg #[.slice a0 n0 c0,.slice a1 n1 c1,.int .i64 gn,.int .i64 an,.slice a4 n4 c4])∧GS w' r b b.size (dG (body m))∧Fr [r] w w'∧lU w.heap.size w' (.agg #[.slice a0 n0 c0,.slice a1 n1 c1,.int .i64 gn,.int .i64 an,.slice a4 n4 c4]) m
theorem aYd {w:World}{r:Nat}{b:ByteArray}{m:Mo} (hw:cE ipF m=true) (hb:bl b=Wire.written m) (h:GR w r b 0 b.size (Wire.written m)) (hT:Tab w) (hr0:r≠5) :
  Calls prog 44 #[.pointer (some ⟨r,0,none⟩)] w (bAr m r b w):=by
 have hm:prog.follows Departure.mixedOrders=true:=by kernel_rfl
 have hrl:=h.c.lt
 have hle:=h.le
 have B0:=BX.start w r hrl hr0 hT
 have F0:Fr [] w (((w.alloc (.cells #[.pointer (some ⟨r,0,none⟩)] 145)).alloc (.cells #[.slice none 0 0,.slice none 0 0,.int .i64 0,.int .i64 0,.slice none 0 0] 25)).alloc (.cells #[.slice none 0 0,.slice none 0 0,.int .i64 0,.int .i64 0,.slice none 0 0] 25)):=(((Fr.refl [] w).alloc _).alloc _).alloc _
 have K0:=h.fr F0 (by simp)
 have hm1:=wan (w.alloc (.cells #[.pointer (some ⟨r,0,none⟩)] 145)) (.cells #[.slice none 0 0,.slice none 0 0,.int .i64 0,.int .i64 0,.slice none 0 0] 25)
 rw[World.size_alloc] at hm1
 have hres:(((w.alloc (.cells #[.pointer (some ⟨r,0,none⟩)] 145)).alloc (.cells #[.slice none 0 0,.slice none 0 0,.int .i64 0,.int .i64 0,.slice none 0 0] 25)).alloc (.cells #[.slice none 0 0,.slice none 0 0,.int .i64 0,.int .i64 0,.slice none 0 0] 25)).heap[w.heap.size+1]?=some (.cells #[.slice none 0 0,.slice none 0 0,.int .i64 0,.int .i64 0,.slice none 0 0] 25):=by
  rw[Below.heap_alloc _ _ _ (by simp),hm1]
 simp only[cE,Bool.and_eq_true,decide_eq_true_eq,List.all_eq_true] at hw
 obtain⟨⟨⟨⟨⟨⟨⟨⟨⟨⟨hx0,hx1⟩,hx2⟩,hx3⟩,hx4⟩,hx5⟩,hx6⟩,hx7⟩,hx8⟩,hx9⟩,hx10⟩:=hw
 obtain⟨gN,eg⟩:∃ x:Nat,m.globs=x:=⟨m.globs.toNat,by omega⟩
 obtain⟨aN,ea⟩:∃ x:Nat,m.arrs=x:=⟨m.arrs.toNat,by omega⟩
 have hwr:Wire.written m=71 :: 76 :: 1 :: (bR 1 (aZ m.texts)++(bR 2 (aZ m.pats)++(bR 3 (aY gN)++(bR 4 (aY aN)++(bR 5 (gZ m.fns)++dG (body m)))))):=by
  unfold Wire.written
  generalize dG (body m)=q
  simp only[body,eg,ea,Int.toNat_natCast,List.cons_append,List.append_assoc]
 rw[hwr] at K0
 have HW:Hid _:=hwr
 clear hm1 hT h hwr
 have HB:Hid (bl b=Wire.written m):=hb
 clear hb
 go_enter func44,ntmps44
 go_wp2_with fail
 generalize (((w.alloc (.cells #[.pointer (some ⟨r,0,none⟩)] 145)).alloc (.cells #[.slice none 0 0,.slice none 0 0,.int .i64 0,.int .i64 0,.slice none 0 0] 25)).alloc (.cells #[.slice none 0 0,.slice none 0 0,.int .i64 0,.int .i64 0,.slice none 0 0] 25))=W0 at *
 refine wp_loop_rounds 5 ?_
 have FA:Fr [r] W0 W0:=Fr.refl _ _
 iterate 3
  rw[rounds_succ]
  have rc:=B0.rc
  go_wp2
  refine aR 3 hm (by kernel_rfl) ?_
  simp only[List.take_succ_cons,List.take_zero,List.drop_succ_cons,List.drop_zero]
  repeat still_step
  refine wpStill_nil ?_
  go_wp2_with fail
  refine Calls.mono (bAg (by rfl) (GR.heap K0 (by rfl))) ?_
  rintro ee W2 ⟨rfl,K1,G⟩
  replace K0:=K1
  replace B0:=B0.fr (W':=W2) ⟨G.os,G.tape,G.output,G.size,G.block⟩
  replace FA:=FA.trans (c:=W2) ⟨G.os,G.tape,G.output,G.size,G.block⟩
  clear rc G K1
  go_wp2
 rw[rounds_succ]
 have S0:GS _ r b b.size _:=⟨_,K0⟩
 clear K0
 have rc:=B0.rc
 go_wp2_with fail
 refine (bAa (k:=1) (.inl ⟨rfl,rfl,rfl⟩) rfl (by omega) hx0 B0 (fun e W s t hs hT ⟨a,h⟩=>(bEl (hx8 s hs) h).mono fun _ _ ⟨h1,h2,h3⟩=>⟨h1,⟨_,h2⟩,h3⟩) S0).mono ?_
 rintro ee W4 ⟨rfl,S1,⟨v0,B1,f0⟩,G1⟩
 clear rc S0
 have rc:=B1.rc
 go_wp2_with fail
 refine (bAa (k:=2) (.inr ⟨rfl,rfl,rfl⟩) rfl (by omega) hx1 B1 (fun e W s t hs hT ⟨a,h⟩=>(aUg (hx9 s hs).2 hT hr0 h).mono fun _ _ ⟨h1,h2,h3⟩=>⟨h1,⟨_,h2⟩,h3⟩) S1).mono ?_
 rintro ee W5 ⟨rfl,S2,⟨v1,B2,f1⟩,G2⟩
 have hdis:∀ g,v0.ownBlock=some g→v1.ownBlock=some g→False:=fun g e0 e1=>by
  have:=(f0.own.lt g e0).2
  have:=(f1.own.lt g e1).1
  omega
 clear rc S1
 have rc:=B2.rc
 go_wp2_with fail
 refine (bAb (k:=3) (.inl ⟨rfl,rfl⟩) rfl (by omega) (by omega) B2 S2).mono ?_
 rintro ee W6 ⟨rfl,S3,B3,G3⟩
 clear rc S2
 have rc:=B3.rc
 go_wp2_with fail
 refine (bAb (k:=4) (.inr ⟨rfl,rfl⟩) rfl (by omega) (by omega) B3 S3).mono ?_
 rintro ee W7 ⟨rfl,S4,B4,G4⟩
 clear rc S3
 have rc:=B4.rc
 go_wp2_with fail
 refine (bEp ⟨hx2,hx3⟩ hx10 B4 S4).mono ?_
 rintro ee W8 ⟨rfl,⟨A,K8⟩,⟨v4,B8,f4⟩,G5⟩
 clear rc S4
 simp only[List.set_cons_zero,List.set_cons_succ] at B8
 obtain⟨-,-,-,-,-,hl1,hl2,hl3,-⟩:=B0.n
 have G25:=((G2.trans G3).trans G4).trans G5
 have z1:=G1.size
 have z2:=G2.size
 have z3:=((G2.trans G3).trans G4).size
 have hS0:∀ x,x ∈ [r,w.heap.size+1+1]→x<w.heap.size+1+1+1:=fun x hx=>by simp at hx;omega
 have f0:=(f0.base (B':=w.heap.size+1+1+1) (by omega)).fr G25 hS0
 have f1:=(f1.base (B':=w.heap.size+1+1+1) (by omega)).fr ((G3.trans G4).trans G5) hS0
 have f4:=f4.base (B':=w.heap.size+1+1+1) (by omega)
 have G:=G1.trans G25
 have FT:Fr [r] w W8:=((F0.mono (by simp)).trans FA).trans' G (fun x hx=>by simp at hx;rcases hx with rfl | rfl;exact .inl (by simp);exact .inr (by omega))
 have hres8:=(((FA.mono (by simp)).trans G).block _ ((Age.1 hres).1) (by simp;omega)).trans hres
 clear G G1 G2 G3 G4 G5 G25 B0 B1 B2 B3 B4 FA F0 hres z1 z2 z3 hx0 hx1 hx2 hx3 hx4 hx5 hx6 hx7 hx8 hx9 hx10 HW
 have hlB:=aD b
 have hA:A=(body m).length∧A≤b.size:=by
  have h1:=K8.len
  have h2:=K8.le
  have h3:(dG (body m)).length=3:=rfl
  rw[HB.out,Wire.written,Lla,h3] at hlB
  omega
 have e1:b.extract A b.size=mkB (dG (body m)):=mO (by rw[bZ,K8.s,zK])
 have e2:bl (b.extract 0 A)=body m:=by rw[bZ,HB.out,hA.1];unfold seg;rw[List.drop_zero,Wire.written,List.take_left]
 have hS:=fun (W:World)=>aCz (b.extract 0 A) W (by rw[ByteArray.size_extract];omega)
 rw[e2] at hS
 change ∀ W:World,Calls prog 101 _ W (fun e w'=>e=.returned (.string (mkB (dG (body m))))∧Fr [] W w') at hS
 have HS:Hid _:=hS
 obtain⟨SS,hSS⟩:∃ x,mkB (dG (body m))=x:=⟨_,rfl⟩
 rw[hSS] at HS e1
 have E1:Hid _:=e1
 have rc:=B8.rc
 have c0:=K8.c.c0
 have c1:=K8.c.c1
 have g1:(0:Int)≤(A:Int):=by omega
 have g2:(A:Int)≤(b.size:Int):=by omega
 clear hS hSS e1 e2 HB hA hlB
 go_wp2
 refine aE (fun w1:World=>w1.cell? ⟨w.heap.size,0,none⟩=some (.pointer (some ⟨r,0,none⟩))∧w1.cell? ⟨r,0,none⟩=some (.string b)∧w1.cell? ⟨r,1,none⟩=some (.int .i64 A)) hm ?_
 have hSp:(fun w1:World=>w1.cell? ⟨w.heap.size,0,none⟩=some (.pointer (some ⟨r,0,none⟩))∧w1.cell? ⟨r,0,none⟩=some (.string b)∧w1.cell? ⟨r,1,none⟩=some (.int .i64 A)) W8.drew:=AI rc (AI c0 c1)
 refine aH (fun _ _ _ _ _ h=>h) hSp [0,1,2,3,4,5,6,7,8,9,10,11,12,13,14,15,16,17] (by kernel_rfl) ?_
 iterate 18
  refine Yls.cons (v:=?_) rfl (.inl ⟨rfl,fun w1 hS1=>?_⟩) ?_
  rotate_left
  ·obtain⟨q0,q1,q2⟩:=hS1
   go_simp
   rfl
  simp only[Act.put,Z1,Z2,Z3]
 refine Yls.nil ?_
 refine rd1 (r:=18) (by kernel_rfl) rfl fun K' hK=>?_
 go_simp
 refine (HS.out _).mono ?_
 rintro ee W9 ⟨rfl,G9⟩
 have F9:Fr [] W8 W9:=⟨G9.os,G9.tape,G9.output,G9.size,G9.block⟩
 have K9:=K8.fr F9 (by simp)
 have B9:=B8.fr (F9.mono (by simp))
 have hSp:=AI B9.rc (AI K9.c.c0 K9.c.c1)
 refine hK _ _ hSp ?_
 clear hK K'
 intro _
 refine rd1 (r:=19) (by kernel_rfl) rfl fun K' hK=>?_
 go_simp
 refine hK _ _ hSp ?_
 clear hK K'
 intro _
 refine wpAnyH_done (by kernel_rfl) ?_ _
 have FX:=FT.trans (F9.mono (by simp))
 have hresX:W9.heap[w.heap.size+1]?=some (.cells #[.slice none 0 0,.slice none 0 0,.int .i64 0,.int .i64 0,.slice none 0 0] 25):=by
  rw[F9.block _ ((Age.1 hres8).1) (by simp),hres8]
 have g3:((b.extract A b.size).toList==SS.toList)=true:=by rw[uT];simp[E1.out]
 simp only[g3,Bool.not_true]
 have a0:=B9.cs 0
 have a1:=B9.cs 1
 have a2:=B9.cs 2
 have a3:=B9.cs 3
 have a4:=B9.cs 4
 simp only[List.getElem?_cons_zero,List.getElem?_cons_succ] at a0 a1 a2 a3 a4
 have FP:=cV W9 (w.heap.size+1) v0 v1 (.int .i64 gN) (.int .i64 aN) v4
 have hS1:∀ x,x ∈ [w.heap.size+1]→x<w.heap.size+1+1+1:=fun x hx=>by simp at hx;omega
 have hmod:lU w.heap.size (cK W9 (w.heap.size+1) v0 v1 (.int .i64 gN) (.int .i64 aN) v4) (.agg #[v0,v1,.int .i64 gN,.int .i64 aN,v4]) m:=
  ⟨v0,v1,v4,by rw[eg,ea],((f0.fr F9 (by simp)).fr FP hS1).base (by omega),((f1.fr F9 (by simp)).fr FP hS1).base (by omega),((f4.fr F9 (by simp)).fr FP hS1).base (by omega),hdis⟩
 obtain⟨aa0,cc0,-,-,rfl,-⟩:=f0
 obtain⟨aa1,cc1,-,-,rfl,-⟩:=f1
 obtain⟨aa4,cc4,-,-,rfl,-⟩:=f4
 have rr:∀ i,W9.cell? ⟨w.heap.size+1,i,none⟩=(#[.slice none 0 0,.slice none 0 0,.int .i64 0,.int .i64 0,.slice none 0 0]:Array Value)[i]?:=fun i=>by unfold World.cell?;rw[hresX];simp
 have rz:∀ i,W9.frozen? ⟨w.heap.size+1,i,none⟩=false:=fun i=>by unfold World.frozen?;rw[hresX];simp
 have r0:=rr 0
 have r1:=rr 1
 have r2:=rr 2
 have r3:=rr 3
 have r4:=rr 4
 simp only[List.getElem?_toArray,List.getElem?_cons_zero,List.getElem?_cons_succ] at r0 r1 r2 r3 r4
 have HY:Hid _:=bQ (W:=W9) (g:=w.heap.size+1) (.slice aa0 m.texts.length cc0) (.slice aa1 m.pats.length cc1) (.int .i64 gN) (.int .i64 aN) (.slice aa4 m.fns.length cc4) r0 r1 r2 r3 r4
 have HZ:Hid _:=AI (FX.trans' FP (fun x hx=>.inr (by simp at hx;omega))) (AI (K9.fr FP (by simp;omega)) hmod)
 clear g3 hmod FP FX hresX HS E1 hSp K8 B8 G9 FT F9 hres8 K9 B9 c0 c1 rc rr hdis
 go_wp2
 obtain⟨y0,y1,y2,y3,y4⟩:=HY.out
 obtain⟨FZ,KZ,MZ⟩:=HZ.out
 clear HY HZ
 change bodyPost prog f44 (bAr m r b w) Exit.ret _ (cK W9 (w.heap.size+1) (.slice aa0 m.texts.length cc0) (.slice aa1 m.pats.length cc1) (.int .i64 gN) (.int .i64 aN) (.slice aa4 m.fns.length cc4))
 clear r0 r1 r2 r3 r4 rz a0 a1 a2 a3 a4
 generalize cK W9 (w.heap.size+1) (.slice aa0 m.texts.length cc0) (.slice aa1 m.pats.length cc1) (.int .i64 gN) (.int .i64 aN) (.slice aa4 m.fns.length cc4)=Z at *
 refine bodyPost_ret (v:=.agg #[.slice aa0 m.texts.length cc0,.slice aa1 m.pats.length cc1,.int .i64 gN,.int .i64 aN,.slice aa4 m.fns.length cc4]) (by simp[results,results44,go_sem,y0,y1,y2,y3,y4]) rfl ?_
 exact⟨aa0,aa1,aa4,_,cc0,_,cc1,_,cc4,gN,aN,rfl,⟨_,KZ⟩,FZ,MZ⟩
theorem GR.start (w:World)(b:ByteArray)(hs:b.size≤40000):GR (w.alloc (.cells #[.string b,.int .i64 0,.int .i64 b.size,.int .i64 0,.int .i64 0] 95)) w.heap.size b 0 b.size (bl b):=by
 have hm:=wan w (.cells #[.string b,.int .i64 0,.int .i64 b.size,.int .i64 0,.int .i64 0] 95)
 have hc:∀ i,(w.alloc (.cells #[.string b,.int .i64 0,.int .i64 b.size,.int .i64 0,.int .i64 0] 95)).cell? ⟨w.heap.size,i,none⟩=(#[.string b,.int .i64 0,.int .i64 b.size,.int .i64 0,.int .i64 0]:Array Value)[i]?:=fun i=>by unfold World.cell?;rw[hm];simp
 have hz:∀ i,(w.alloc (.cells #[.string b,.int .i64 0,.int .i64 b.size,.int .i64 0,.int .i64 0] 95)).frozen? ⟨w.heap.size,i,none⟩=false:=fun i=>by unfold World.frozen?;rw[hm];simp
 exact⟨⟨hc 0,hc 1,hc 2,hc 3,hc 4,hz 1,hz 2,hz 3,hz 4⟩,by omega,by unfold seg;rw[← aD b,List.take_length];rfl⟩
def aZo (m:Mo) (w:World) (ee:Ending) (w':World):Prop:=
 Fr [] w w'∧∃ (a0 a1 a4:Option Addr) (n0 c0 n1 c1 n4 c4 gn an:Nat),ee=.returned (.tuple #[.agg #[.slice a0 n0 c0,.slice a1 n1 c1,.int .i64 gn,.int .i64 an,.slice a4 n4 c4],.int .i64 0,.int .i64 0])∧lU w.heap.size w' (.agg #[.slice a0 n0 c0,.slice a1 n1 c1,.int .i64 gn,.int .i64 an,.slice a4 n4 c4]) m
theorem aXh {m:Mo}(b:ByteArray)(w:World)(hw:cE ipF m=true)(hb:bl b=Wire.written m)(hs:b.size≤40000)(hT:Tab w):Calls prog 18 #[.string b] w (aZo m w):=by
 have g1:¬ (40000:Int)<b.size:=by omega
 have hT0:=hT.lt
 have F0:Fr [] w ((w.alloc (.cells #[.slice none 0 0,.slice none 0 0,.int .i64 0,.int .i64 0,.slice none 0 0] 25)).alloc (.cells #[.string b,.int .i64 0,.int .i64 b.size,.int .i64 0,.int .i64 0] 95)):=((Fr.refl [] w).alloc _).alloc _
 have K0:=GR.start (w.alloc (.cells #[.slice none 0 0,.slice none 0 0,.int .i64 0,.int .i64 0,.slice none 0 0] 25)) b hs
 rw[World.size_alloc,hb] at K0
 have hres:((w.alloc (.cells #[.slice none 0 0,.slice none 0 0,.int .i64 0,.int .i64 0,.slice none 0 0] 25)).alloc (.cells #[.string b,.int .i64 0,.int .i64 b.size,.int .i64 0,.int .i64 0] 95)).heap[w.heap.size]?=some (.cells #[.slice none 0 0,.slice none 0 0,.int .i64 0,.int .i64 0,.slice none 0 0] 25):=by
  rw[Below.heap_alloc _ _ _ (by simp),wan]
 have hsz0:((w.alloc (.cells #[.slice none 0 0,.slice none 0 0,.int .i64 0,.int .i64 0,.slice none 0 0] 25)).alloc (.cells #[.string b,.int .i64 0,.int .i64 b.size,.int .i64 0,.int .i64 0] 95)).heap.size=w.heap.size+2:=by simp
 have HM:Hid _:=aYd hw hb K0 (hT.fr F0 (by simp)) (by omega)
 clear hw hb K0
 go_enter func18,ntmps18
 go_wp2_with fail
 generalize ((w.alloc (.cells #[.slice none 0 0,.slice none 0 0,.int .i64 0,.int .i64 0,.slice none 0 0] 25)).alloc (.cells #[.string b,.int .i64 0,.int .i64 b.size,.int .i64 0,.int .i64 0] 95))=W0 at *
 refine Calls.mono HM.out ?_
 rintro ee W1 ⟨a0,a1,a4,n0,c0,n1,c1,n4,c4,gn,an,rfl,⟨A,K1⟩,F1,hmod⟩
 have hres1:=(F1.block _ (Age.1 hres).1 (by simp)).trans hres
 have F2:Fr [] w W1:=F0.trans' F1 (fun x hx=>.inr (by simp at hx;omega))
 have d3:=K1.c.c3
 have d4:=K1.c.c4
 have hrl:=K1.c.lt
 have hlt1:w.heap.size<W1.heap.size:=(Age.1 hres1).1
 have rr:∀ i,W1.cell? ⟨w.heap.size,i,none⟩=(#[.slice none 0 0,.slice none 0 0,.int .i64 0,.int .i64 0,.slice none 0 0]:Array Value)[i]?:=fun i=>by unfold World.cell?;rw[hres1];simp
 have rz:∀ i,W1.frozen? ⟨w.heap.size,i,none⟩=false:=fun i=>by unfold World.frozen?;rw[hres1];simp
 have r0:=rr 0
 have r1:=rr 1
 have r2:=rr 2
 have r3:=rr 3
 have r4:=rr 4
 simp only[List.getElem?_toArray,List.getElem?_cons_zero,List.getElem?_cons_succ] at r0 r1 r2 r3 r4
 obtain⟨y0,y1,y2,y3,y4⟩:=bQ (.slice a0 n0 c0) (.slice a1 n1 c1) (.int .i64 gn) (.int .i64 an) (.slice a4 n4 c4) r0 r1 r2 r3 r4
 have hltP:=aC y0
 have FA:Fr [] (cK W1 w.heap.size (.slice a0 n0 c0) (.slice a1 n1 c1) (.int .i64 gn) (.int .i64 an) (.slice a4 n4 c4)) ((cK W1 w.heap.size (.slice a0 n0 c0) (.slice a1 n1 c1) (.int .i64 gn) (.int .i64 an) (.slice a4 n4 c4)).alloc (.cells #[.slice a0 n0 c0,.slice a1 n1 c1,.int .i64 gn,.int .i64 an,.slice a4 n4 c4] 25)):=(Fr.refl [] _).alloc _
 have FP:=cV W1 w.heap.size (.slice a0 n0 c0) (.slice a1 n1 c1) (.int .i64 gn) (.int .i64 an) (.slice a4 n4 c4)
 have FW:Fr [w.heap.size] W1 ((cK W1 w.heap.size (.slice a0 n0 c0) (.slice a1 n1 c1) (.int .i64 gn) (.int .i64 an) (.slice a4 n4 c4)).alloc (.cells #[.slice a0 n0 c0,.slice a1 n1 c1,.int .i64 gn,.int .i64 an,.slice a4 n4 c4] 25)):=FP.trans (FA.mono (by simp))
 have HY:Hid _:=AI ((FA.cell (p:=⟨w.heap.size,0,none⟩) hltP (by simp)).trans y0) (AI ((FA.cell (p:=⟨w.heap.size,1,none⟩) hltP (by simp)).trans y1) (AI ((FA.cell (p:=⟨w.heap.size,2,none⟩) hltP (by simp)).trans y2) (AI ((FA.cell (p:=⟨w.heap.size,3,none⟩) hltP (by simp)).trans y3) ((FA.cell (p:=⟨w.heap.size,4,none⟩) hltP (by simp)).trans y4))))
 have HZ:Hid _:=AI ((F2.trans' FP (fun x hx=>.inr (by simp at hx;omega))).trans FA) ((hmod.fr FW (by simp;omega)).base (B':=w.heap.size) (by omega))
 clear y0 y1 y2 y3 y4 FW FA FP hltP F2 hres hres1 HM hmod F1 K1 rr F0
 go_wp2
 change bodyPost prog f18 (aZo m w) Exit.ret _ ((cK W1 w.heap.size (.slice a0 n0 c0) (.slice a1 n1 c1) (.int .i64 gn) (.int .i64 an) (.slice a4 n4 c4)).alloc (.cells #[.slice a0 n0 c0,.slice a1 n1 c1,.int .i64 gn,.int .i64 an,.slice a4 n4 c4] 25))
 obtain⟨z0,z1,z2,z3,z4⟩:=HY.out
 obtain⟨FZ,MZ⟩:=HZ.out
 clear HY HZ r0 r1 r2 r3 r4 rz
 generalize (cK W1 w.heap.size (.slice a0 n0 c0) (.slice a1 n1 c1) (.int .i64 gn) (.int .i64 an) (.slice a4 n4 c4)).alloc (.cells #[.slice a0 n0 c0,.slice a1 n1 c1,.int .i64 gn,.int .i64 an,.slice a4 n4 c4] 25)=Z at *
 refine bodyPost_ret (v:=.tuple #[.agg #[.slice a0 n0 c0,.slice a1 n1 c1,.int .i64 gn,.int .i64 an,.slice a4 n4 c4],.int .i64 0,.int .i64 0]) (by simp[results,results18,go_sem,z0,z1,z2,z3,z4]) rfl ?_
 exact⟨FZ,a0,a1,a4,n0,c0,n1,c1,n4,c4,gn,an,rfl,MZ⟩
section
variable {w w' W : World} {r : Nat} {b : ByteArray} {a e k : Nat} {l c p t : List UInt8}
def GO (w:World) (r:Nat) (b:ByteArray) (l:List UInt8):Prop:=∃ a e,RdC w r b a e 0 0∧(a≤b.size∧b.size≤40000)∧seg (bl b) a b.size=l
theorem aHm {n:Nat}(hn:n<34359738368)(h2:a≤e∧e≤b.size∧b.size≤40000)(hs:seg (bl b) a e=aY n++t)(W:World) :
  Calls prog 48 #[.string b,.int .i64 a,.int .i64 e] W fun r w'=>r=.returned (.tuple #[.int .i64 n,.int .i64 ((a+(aY n).length:Nat):Int)])∧w'=W:=by
 have hr:=nK b a e h2.1 h2.2.1 (by omega) W
 have hd:num (seg (bl b) a e)=some (n,t):=by rw[hs];exact rL hn t
 have hl:=(gX hs h2.1 (by rw[aD];exact h2.2.1)).2.1
 have hX:nR b a e=n:=by simp only[nR,hd]
 have hY:nA b a e=a+(aY n).length:=by simp only[nA,hd];exact hl
 rw[hX,hY] at hr
 exact hr
theorem O0 {n lo hi:Nat}{loI hiI:Int} (hlo:loI=(lo:Int)) (hhi:hiI=(hi:Int)) (h1:lo≤n) (h2:n≤hi) (h3:hi≤100000) (h:GS w r b e (aY n++t)) :
  Calls prog 30 #[.pointer (some ⟨r,0,none⟩),.int .i64 loI,.int .i64 hiI] w fun ee w'=>ee=.returned (.int .i64 n)∧GS w' r b e t∧Fr [r] w w':=by
 obtain⟨a,h⟩:=h
 subst hlo hhi
 have HR:Hid _:=fun (W:World)=>aHm (by omega) h.le h.s W
 have K:=h.adv rfl
 rw[← Int.natCast_add] at K
 obtain⟨c0,c1,c2,c3,c4,f1,f2,f3,f4⟩:=h.c
 have hle:=h.le
 have g0:¬ ((n:Int)<0):=by omega
 have g1:¬ (n:Int)<lo:=by omega
 have g2:¬ (n:Int)>hi:=by omega
 generalize a+(aY n).length=y at *
 clear h
 go_enter func30,ntmps30
 go_wp2
 go_quiet (first | (go_at_call 48;refine Calls.quiet_of_same (HR.out _)))
 go_wp2
 go_ret
 exact⟨rfl,⟨_,K.heap rfl⟩,(D5 _ _ _).drewN _⟩
theorem aOl {s:ByteArray}{lim:Nat}{lI:Int} (hlim:lI=(lim:Int)) (h1:s.size≤lim) (h2:lim≤20000) (h:GS w r b e (fP s++t)) :
  Calls prog 49 #[.pointer (some ⟨r,0,none⟩),.int .i64 lI] w fun ee w'=>ee=.returned (.string s)∧GS w' r b e t∧Fr [r] w w':=by
 subst hlim
 have hm:prog.follows Departure.mixedOrders=true:=by kernel_rfl
 have h':GS w r b e (aY s.size++(bl s++t)):=by rw[← List.append_assoc];exact h
 have hlm:=O0 (lo:=0) (hi:=lim) rfl rfl (by omega) h1 (by omega) h'
 change Calls prog 30 #[.pointer (some ⟨r,0,none⟩),.int .i64 0,.int .i64 lim] w _ at hlm
 obtain⟨a,h⟩:=h
 have c1:=h.c.c1
 clear h h'
 go_enter func49,ntmps49
 go_wp2_with fail
 refine hlm.mono ?_
 rintro ee w1 ⟨rfl,⟨a1,K1⟩,F1⟩
 have hl1:=K1.len
 simp[aD] at hl1
 have hle1:=K1.le
 have hs:b.extract a1 (a1+s.size)=s:=by
  apply mO
  rw[bZ,← rF (bl b) a1 e s.size (by omega),K1.s,List.take_left' (aD s)]
 obtain⟨d0,d1,d2,d3,d4,f1,f2,f3,f4⟩:=K1.c
 have g1:¬ (s.size:Int)>(e:Int)-(a1:Int):=by omega
 obtain⟨j,hj⟩:∃ j:Nat,a1+s.size=j:=⟨_,rfl⟩
 have hjI:(a1:Int)+(s.size:Int)=(j:Int):=by omega
 have g2:(0:Int)≤(a1:Int):=by omega
 have g3:(a1:Int)≤(j:Int):=by omega
 have g4:(j:Int)≤(b.size:Int):=by omega
 rw[hj] at hs
 have K2:GS (w1.setCell ⟨r,1,none⟩ (.int .i64 j)) r b e t:=⟨_,hjI ▸ K1.adv (aD s)⟩
 clear hlm hl1 hj K1
 go_wp2
 go_quiet (fail)
 go_wp2
 go_quiet (fail)
 go_wp2
 go_ret
 obtain⟨a2,K2⟩:=K2
 exact⟨rfl,⟨a2,K2.heap rfl⟩,(F1.drewN _).setCell (p:=⟨r,1,none⟩) (.inl (by simp)) _⟩
theorem N8 {kI:Int}(hkI:kI=(k:Int))(hk:k<256)(h:GO w r b (bR k c++t)) :
  Calls prog 27 #[.pointer (some ⟨r,0,none⟩),.int .i64 kI] w fun ee w'=>ee=.returned (.tuple #[])∧(∃ e,GS w' r b e c∧seg (bl b) e b.size=t)∧Fr [r] w w':=by
 subst hkI
 obtain⟨a,e,KC,⟨h1,h2⟩,hs⟩:=h
 have hL:=aD b
 have hl:=congrArg List.length hs
 rw[bS (by omega)] at hl
 simp only[bR,List.cons_append,List.append_assoc,List.length_cons,Lla] at hs hl
 have hz:a<b.size:=by omega
 rw[mU hz (Nat.le_refl _)] at hs
 obtain⟨hc,hs⟩:=List.cons.inj hs
 have hck:b[a].toNat=k:=by rw[hc];simp[UInt8.toNat_ofNat];omega
 have hwr:IntKind.i64.wrap (b[a].toNat:Int)=(b[a].toNat:Int):=by rw[IntKind.wrap_i64];have:=b[a].toNat_lt;omega
 have hx8:=b[a].toNat_lt
 have z1:¬ ((a:Int) ≥ (b.size:Int)):=by omega
 have z2:decide (b.size≤a)=false:=by simp;omega
 have z3:((b[a].toNat:Int)!=(k:Int))=false:=by simp;omega
 have z4:(decide (b.size≤a) || IntKind.i64.wrap (b[a].toNat:Int)!=(k:Int))=false:=by rw[hwr,z2,z3];rfl
 have hR:=fun (W:World)=>aHm (a:=a+1) (e:=b.size) (by omega) ⟨by omega,by omega,h2⟩ hs W
 obtain⟨q1,q2,-⟩:=gX hs (by omega) (by omega)
 rw[q2] at q1
 have hd:=cQ c.length
 generalize hy:a+1+(aY c.length).length=y at *
 have ea:((a+1:Nat):Int)=(a:Int)+1:=by omega
 rw[ea] at hR
 have hyl:y+c.length≤b.size:=by omega
 obtain⟨q3,q4,-⟩:=gX q1 (by omega) (by omega)
 rw[q4] at q3
 have g0:¬ ((c.length:Int)<0):=by omega
 have g1:¬ (c.length:Int)>(b.size:Int)-(y:Int):=by omega
 have HK:Hid (∀ w:World,RdC w r b a e 0 0→GR ((w.setCell ⟨r,1,none⟩ (.int .i64 y)).setCell ⟨r,2,none⟩ (.int .i64 ((y:Int)+c.length))) r b y (y+c.length) c):=fun w K=>
  ⟨by have:=(K.set1 y).set2 (y+c.length);rwa [Int.natCast_add] at this,by omega,by rw[← rF _ _ b.size _ hyl,q1,List.take_left]⟩
 have HR:Hid _:=hR
 have HQ:Hid _:=q3
 obtain⟨c0,c1,c2,c3,c4,f1,f2,f3,f4⟩:=KC
 have KC:RdC w r b a e 0 0:=⟨c0,c1,c2,c3,c4,f1,f2,f3,f4⟩
 clear hR hs hl hc hck q1 q2 q3 q4 hy hd ea
 go_enter func27,ntmps27
 go_wp2
 go_quiet (fail)
 go_wp2
 have c0':(w.drewN nq).cell? ⟨r,0,none⟩=some (.string b):=c0
 have KC':RdC (w.drewN nq) r b a e 0 0:=KC.of_block rfl
 have F0:Fr [r] w (w.drewN nq):=(Fr.refl [r] w).drewN nq
 have f1':=KC'.f1
 have f2':=KC'.f2
 have c1':=KC'.c1
 have c2':=KC'.c2
 clear c0 c1 c2 c3 c4 f1 f2 f3 f4 KC
 generalize w.drewN nq=W at *
 go_quiet (first | (go_at_call 48;refine Calls.quiet_of_same (HR.out _)))
 go_wp2
 go_end0
 exact⟨rfl,⟨_,⟨y,(HK.out W KC').heap rfl⟩,HQ.out⟩,F0.trans ((((Fr.refl [r] W).setCell (p:=⟨r,1,none⟩) (.inl (by simp)) _).setCell (p:=⟨r,2,none⟩) (.inl (by simp)) _).drewN _)⟩
theorem I8 (h:GS w r b e [])(ht:seg (bl b) e b.size=t) :
  Calls prog 29 #[.pointer (some ⟨r,0,none⟩)] w fun ee w'=>ee=.returned (.tuple #[])∧GO w' r b t∧Fr [r] w w':=by
 obtain⟨a,h⟩:=h
 have hl:=h.len
 have hle:=h.le
 rw[List.length_nil] at hl
 obtain rfl:a=e:=by omega
 have c1:=h.c.c1
 have c2:=h.c.c2
 have HO:Hid _:=AI h ht
 clear h ht hl
 go_enter func29,ntmps29
 go_wp2
 go_quiet (fail)
 go_wp2
 go_end0
 exact⟨rfl,⟨a,a,HO.out.1.c.of_block rfl,hle.2,HO.out.2⟩,(Fr.refl [r] w).drewN _⟩
theorem bCh (h:RdC w r b 0 e 0 0)(hs:b.size≤40000)(hb:bl b=71 :: 76 :: 1 :: t) :
  Calls prog 26 #[.pointer (some ⟨r,0,none⟩)] w fun ee w'=>ee=.returned (.tuple #[])∧GO w' r b t∧Fr [r] w w':=by
 have hL:=aD b
 have hsz:3≤b.size:=by rw[← hL,hb];simp
 have h0:seg (bl b) 0 b.size=71 :: 76 :: 1 :: t:=by rw[← hb];unfold seg;rw[← hL,List.take_length];rfl
 rw[mU (by omega) (Nat.le_refl _),mU (by omega) (Nat.le_refl _),mU (by omega) (Nat.le_refl _)] at h0
 simp only[List.cons.injEq] at h0
 obtain⟨e0,e1,e2,q⟩:=h0
 have z0:decide (b=ByteArray.empty)=false:=by simp only[decide_eq_false_iff_not];intro he;rw[he] at hsz;exact absurd hsz (by decide)
 have z1:decide (b.size≤1)=false:=by simp;omega
 have z1i:decide ((b.size:Int)≤1)=false:=by simp;omega
 have z2:decide (b.size≤2)=false:=by simp;omega
 have z2i:decide ((b.size:Int)≤2)=false:=by simp;omega
 have y0:((b[0].toNat:Int)!=((⟨#[71,76,1]⟩:ByteArray)[0]'(by decide)).toNat)=false:=by rw[e0];rfl
 have y1:((b[1].toNat:Int)!=((⟨#[71,76,1]⟩:ByteArray)[1]'(by decide)).toNat)=false:=by rw[e1];rfl
 have y2:((b[2].toNat:Int)!=((⟨#[71,76,1]⟩:ByteArray)[2]'(by decide)).toNat)=false:=by rw[e2];rfl
 have i0:(0:Int)<(b.size:Int):=by omega
 have i1:(1:Int)<(b.size:Int):=by omega
 have i2:(2:Int)<(b.size:Int):=by omega
 have n0:0<b.size:=by omega
 have n1:1<b.size:=by omega
 have n2:2<b.size:=by omega
 have HQ:Hid _:=q
 clear e0 e1 e2 q hb
 go_enter func26,ntmps26
 go_wp2
 go_loopw [3] (fun i W=>∃ k:Nat,k≤3∧i=.int .i64 k∧RdC W r b 0 e 0 0∧Fr [r] w W) (fun i _=>3-(intOf i).toNat)
 case atStart=>exact⟨0,by omega,rfl,h,Fr.refl [r] w⟩
 case round=>
  clear h
  obtain⟨k,hk3,rfl,KC,FR⟩:=hrel
  have KC':=KC
  obtain⟨c0,c1,c2,c3,c4,f1,f2,f3,f4⟩:=KC
  obtain rfl | rfl | rfl | rfl:k=3∨k=0∨k=1∨k=2:=by omega
  ·go_wp2
   go_end0
   exact⟨rfl,⟨3,e,KC'.set1 3,by omega,HQ.out⟩,FR.setCell (p:=⟨r,1,none⟩) (.inl (by simp)) _⟩
  all_goals
   go_wp2
   go_quiet (fail)
   go_wp2
   first
    | exact⟨⟨1,by omega,rfl,KC'.of_block rfl,FR.drewN _⟩,by decide⟩
    | exact⟨⟨2,by omega,rfl,KC'.of_block rfl,FR.drewN _⟩,by decide⟩
    | exact⟨⟨3,by omega,rfl,KC'.of_block rfl,FR.drewN _⟩,by decide⟩
end
end Go.Proofs.YtgpamchpeamnfaaGreatDoor
