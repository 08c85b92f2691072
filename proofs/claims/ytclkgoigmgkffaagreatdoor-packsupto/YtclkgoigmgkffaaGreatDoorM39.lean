/-
  Texts Ai.
-/
import Derived.Lib.LazyBuf
import Derived.Test.YtclkgoigmgkffaaGreatDoorM37
set_option linter.unusedSimpArgs false
set_option linter.unusedVariables false
set_option maxRecDepth 100000
set_option maxHeartbeats 40000000
namespace Go.Proofs.YtclkgoigmgkffaaGreatDoor
open Go.RowKit
open Wire Flow Mach
theorem modUnpack_bad (w0 W:World) (b:Nat) (tag:Nat→Nat) (c:Nat→Value) (ms:Value) (bs:ByteArray) (N:Nat→Nat) (X:Nat→List Value) (bk fk:List Bk) (a b':Int) (s t u:ByteArray) (H:Hst w0 W b tag c ms bs N X bk fk) (hT:Tab w0) (hE:(unpA bs).2.2≠0) (hl:(X 11).length+(X 13).length≤500000000) :
  Calls Tryz.prog 29 #[.pointer (some ⟨b,0,none⟩),opV 13 a b' s t u] W fun e W'=>e=.returned (.bool true)∧∃ tag',KpT w0 W W' b tag tag' ms bs N X bk fk 4 2:=by
 unfold opV
 obtain⟨W1,hW1⟩:∃ W1,W.alloc (.cells #[.int .i64 13,.int .i64 a,.int .i64 b',.string s,.string t,.string u] 61)=W1:=⟨_,rfl⟩
 have F1:Fr [] W W1:=by rw[← hW1];exact (Fr.refl [] W).alloc _
 have k1:=World.alloc_heap_new W (.cells #[.int .i64 13,.int .i64 a,.int .i64 b',.string s,.string t,.string u] 61)
 rw[hW1] at k1
 have c0:W1.cell? ⟨W.heap.size,0,none⟩=some (.int .i64 13):=by unfold World.cell?;rw[k1];rfl
 have KS:Hid _:=KpT.refl (H.fr F1)
 have HF:Hid _:=F1
 have HT:Hid _:=And.intro hT True.intro
 have HE:Hid _:=hE
 clear H F1 k1 hT hE
 go_enter Tryz.func29,Tryz.ntmps29
 go_wp2
 go_loopw [23] (fun i wr=>∃ (k:Nat) (tagr:Nat→Nat),k≤2∧i=.int .i64 k∧Hid (KpT w0 W1 wr b tag tagr ms bs N X bk fk (2*k) k)) (fun i _=>2-(intOf i).toNat)
 case atStart=>exact⟨0,tag,by omega,rfl,KS⟩
 case round=>
  clear KS c0
  obtain⟨k,tagr,hk,rfl,KR⟩:=hrel
  by_cases hlt:k<2
  ·have g1:(k:Int)<2:=by omega
   obtain⟨c',N',X',H',l11,l13,l3,l4⟩:=KR.out.st
   have F0:Fr [] w0 wr:=H'.I.core.fr
   have hb1:=H'.I.core.cell 1 (by decide)
   rw[H'.I.n1] at hb1
   have hbl:=H'.I.core.lt
   have HU:=unpack_any bs wr H'.I.sz (HT.out.1.fr F0 (by simp))
   obtain⟨⟨m,p,e⟩,hA⟩:∃ x,unpA bs=x:=⟨_,rfl⟩
   have HH:Hid _:=And.intro H' (And.intro l11 (And.intro l13 (And.intro l3 l4)))
   have HC:Hid _:=And.intro F0 (And.intro hbl hb1)
   have he:Hid (e≠0):=by have:=HE.out;rw[hA] at this;exact this
   have HA:Hid _:=hA
   clear H' l11 l13 l3 l4 F0 hbl hA
   go_wp2_with fail
   refine HU.mono ?_
   intro ee W2 hp
   obtain⟨f2,a0,a1,a4,d0,d1,d4,rfl,R,hz⟩:=unp_rows hp
   rw[HA.out] at R hz ⊢
   simp only at R hz ⊢
   obtain⟨W3,hW3⟩:∃ W3,W2.alloc (.cells #[.slice a0 m.texts.length d0,.slice a1 m.pats.length d1,.int .i64 m.globs,.int .i64 m.arrs,.slice a4 m.fns.length d4] 30)=W3:=⟨_,rfl⟩
   have F3:Fr [] W2 W3:=by rw[← hW3];exact (Fr.refl [] W2).alloc _
   have e5:=C5.new W2 (.slice a0 m.texts.length d0) (.slice a1 m.pats.length d1) (.int .i64 m.globs) (.int .i64 m.arrs) (.slice a4 m.fns.length d4)
   rw[hW3] at e5
   have hb3:=((f2.trans F3).cell (p:=⟨b,1,none⟩) HC.out.2.1 (by simp)).trans HC.out.2.2
   have HV:=unpackRf_any bs W3 (HH.out.1.I.sz)
   have K2:Hid _:=And.intro f2 (And.intro F3 (And.intro R e5))
   have Hz:Hid _:=hz
   clear hb1 f2 F3 R e5 hz HU hp
   go_wp2_with fail
   refine HV.mono ?_
   intro ee W4 hp
   obtain⟨f4,a5,a6,a7,d5,d6,d7,rfl,D,-⟩:=unp_rows hp
   rw[HA.out] at D ⊢
   simp only at D ⊢
   obtain⟨W5,hW5⟩:∃ W5,W4.alloc (.cells #[.slice a5 m.texts.length d5,.slice a6 m.pats.length d6,.int .i64 m.globs,.int .i64 m.arrs,.slice a7 m.fns.length d7] 30)=W5:=⟨_,rfl⟩
   have F5:Fr [] W4 W5:=by rw[← hW5];exact (Fr.refl [] W4).alloc _
   have g5:=C5.new W4 (.slice a5 m.texts.length d5) (.slice a6 m.pats.length d6) (.int .i64 m.globs) (.int .i64 m.arrs) (.slice a7 m.fns.length d7)
   rw[hW5] at g5
   obtain⟨f2,F3,R,e5⟩:=K2.out
   have f35:=f4.trans F5
   have R5:=R.fr (F3.trans f35)
   have D5:=D.fr F5
   have HS:=sameM_P m.texts m.pats m.fns m.globs m.arrs a0 a5 a1 a6 a4 a7 d0 d5 d1 d6 d4 d7 W5 R.lt R.lp R.lf (LsAt.of_own R5.t) (LsAt.of_own D5.t) (LsAt.of_own R5.p) (LsAt.of_own D5.p) (LsAt.of_own R5.f) (LsAt.of_own D5.f)
   have e55:=e5.fr f35 (by simp)
   obtain⟨hlt1,p0,p1,p2,p3,p4⟩:=id e55
   obtain⟨hlt2,q0,q1,q2,q3,q4⟩:=id g5
   have hsz:W2.heap.size≤W3.heap.size:=F3.size
   have hsz2:W3.heap.size≤W4.heap.size:=f4.size
   have K5:Hid _:=And.intro ((f2.trans F3).trans f35) (And.intro (F3.trans f35) (And.intro R (And.intro D5 (And.intro e55 (And.intro g5 (And.intro hsz (And.intro hsz2 f2.size)))))))
   clear f2 F3 R e5 f35 R5 D5 f4 F5 D g5 e55 hlt1 hlt2 hsz hsz2 hb3 HV hp K2
   go_wp2_with fail
   refine HS.mono ?_
   rintro ee W6 ⟨rfl,f6⟩
   obtain⟨Fr6,f36,R,D5,e55,g5,hs1,hs2,hs0⟩:=K5.out
   obtain⟨H',l11,l13,l3,l4⟩:=HH.out
   obtain⟨M6,rt,r6⟩:=mks_start (w0:=w0) (W:=wr) (W2:=W2) (W6:=W6) (tag:=tagr) (n11:=(X' 11).length) (n13:=(X' 13).length) HC.out.1.size R (f36.trans f6) (D5.fr f6) hs1 hs0
   generalize unpTag tagr wr.heap.size (.slice a0 m.texts.length d0) (.slice a1 m.pats.length d1) (.slice a4 m.fns.length d4) (X' 11).length (X' 13).length=tag2 at M6 rt r6
   have F06:Fr [] wr W6:=Fr6.trans f6
   have H6:Hst w0 W6 b tag2 c' ms bs N' X' bk fk:=(H'.re rt).fr F06
   have e6:=e55.fr f6 (by simp)
   have g6:=g5.fr f6 (by simp)
   have HT1:=keepT_step w0 W6 b tag2 c' ms bs N' X' bk fk m.texts a0 d0 (.slice a5 m.texts.length d5) H6 M6.t M6.ut.1 M6.ut.2 R.lt (by omega)
   have K6:Hid _:=And.intro M6 (And.intro (r6 W2.heap.size (Nat.le_refl _)) (And.intro (r6 W4.heap.size (by omega)) (And.intro e6 g6)))
   have HR:Hid _:=And.intro F06 rt
   have HL:Hid _:=And.intro R.lt (And.intro R.lp (And.intro R.lf (And.intro (show (X' 11).length≤500000010 by omega) (show (X' 13).length≤500000010 by omega))))
   have HN:Hid _:=fun (n:Int) (W:World)=>numC_any n W
   obtain⟨-,p0,p1,p2,p3,p4⟩:=id e6
   obtain⟨-,q0,q1,q2,q3,q4⟩:=id g6
   clear Fr6 f36 R D5 e55 g5 hs1 hs2 hs0 H' l11 l13 l3 l4 M6 rt r6 F06 H6 e6 g6 f6 HS K5 hW3 hW5
   have j1:((p:Int)==(p:Int))=true:=by simp
   have j2:((e:Int)==(e:Int))=true:=by simp
   obtain⟨rfl,rfl,rfl⟩:=Hz.out he.out
   have j3:((e:Int)==0)=false:=by have:=he.out;simp;omega
   have hn27:∀ W n c,(binOp .neq 27 (.slice none n c) (.slice none 0 0)).run Tryz.prog W=.ok (.bool false) W:=fun W n c=>by
    have:=run_neq_slice_nil (P:=Tryz.prog) W 27 9 none n c Tryz.underlying27
    simpa using this
   have hn28:∀ W n c,(binOp .neq 28 (.slice none n c) (.slice none 0 0)).run Tryz.prog W=.ok (.bool false) W:=fun W n c=>by
    have:=run_neq_slice_nil (P:=Tryz.prog) W 28 65 none n c Tryz.underlying28
    simpa using this
   go_wp2_with fail
   refine (HN.out _ _).mono ?_
   rintro ee wz ⟨rfl,hw⟩
   replace hw:=hw.symm
   subst hw
   go_wp2_with fail
   refine HT1.mono ?_
   rintro ee W7 ⟨rfl,tag3,k7⟩
   obtain⟨hM6,ht2,ht4,e6,g6⟩:=K6.out
   have hM7:=hM6.step k7.chg k7.ret
   have e7:=e6.chg k7.chg (by rw[ht2];simp)
   have g7:=g6.chg k7.chg (by rw[ht4];simp)
   have u2:tag3 W2.heap.size=6:=by rw[k7.ret _ e6.lt];exact ht2
   have u4:tag3 W4.heap.size=6:=by rw[k7.ret _ g6.lt];exact ht4
   obtain⟨c7,N7,X7,H7,m11,m13,m3,m4⟩:=k7.st
   have rp:RowT w0.heap.size W7 tag3 (12+2*(X7 11).length) 9 1 (.slice none m.pats.length d1) m.pats.length (m.pats.map .string):=by rw[m11];exact hM7.p
   have HT2:=keepT_step w0 W7 b tag3 c7 ms bs N7 X7 bk fk m.pats none d1 (.slice a6 m.pats.length d6) H7 rp hM7.up.1 hM7.up.2 HL.out.2.1 (by rw[m11];have:=HL.out.2.2.2.1;omega)
   obtain⟨-,-,p1,-,-,-⟩:=id e7
   obtain⟨-,-,q1,-,-,-⟩:=id g7
   have K7:Hid _:=And.intro hM7 (And.intro u2 (And.intro u4 (And.intro e7 (And.intro g7 (And.intro k7 (And.intro m11 (And.intro m13 (And.intro m3 m4))))))))
   clear hM6 ht2 ht4 e6 g6 hM7 e7 g7 u2 u4 H7 m11 m13 m3 m4 rp k7 HT1 p0 q0
   go_wp2_with fail
   refine HT2.mono ?_
   rintro ee W8 ⟨rfl,tag4,k8⟩
   obtain⟨hM7,u2,u4,e7,g7,k7,m11,m13,m3,m4⟩:=K7.out
   have hM8:=hM7.step k8.chg k8.ret
   have e8:=e7.chg k8.chg (by rw[u2];simp)
   have g8:=g7.chg k8.chg (by rw[u4];simp)
   obtain⟨c8,N8,X8,H8,r11,r13,r3,r4⟩:=k8.st
   have rf:RowT w0.heap.size W8 tag4 (13+2*(X8 13).length) 65 3 (.slice none m.fns.length d4) m.fns.length (m.fns.flatMap fnC):=by rw[r13,m13];exact hM8.f
   have HT3:=keepF_step w0 W8 b tag4 c8 ms bs N8 X8 bk fk m.fns none d4 (.slice a7 m.fns.length d7) H8 rf hM8.uf.1 hM8.uf.2 HL.out.2.2.1 (by rw[r13,m13];have:=HL.out.2.2.2.2;omega)
   obtain⟨-,-,-,-,-,p4⟩:=id e8
   obtain⟨-,-,-,-,-,q4⟩:=id g8
   have k78:=k7.trans k8 m11 m13 m3 m4
   have K8:Hid _:=And.intro k78 (And.intro (show (X8 11).length=(X' 11).length+(1+1) by omega) (And.intro (show (X8 13).length=(X' 13).length+(0+0) by omega) (And.intro (show N8 3=N' 3 by omega) (show N8 4=N' 4 by omega))))
   clear hM7 u2 u4 e7 g7 k7 m11 m13 m3 m4 hM8 e8 g8 H8 r11 r13 r3 r4 rf k8 k78 HT2 K7 p1 q1
   go_wp2_with fail
   refine HT3.mono ?_
   rintro ee W9 ⟨rfl,tag5,k9⟩
   obtain⟨k78,s11,s13,s3,s4⟩:=K8.out
   have kr:=KpT.after HR.out.1 HR.out.2 (k78.trans k9 s11 s13 s3 s4)
   obtain⟨-,l11,l13,l3,l4⟩:=HH.out
   have kn:=KR.out.trans kr l11 l13 l3 l4
   have kf:KpT w0 W1 W9 b tag tag5 ms bs N X bk fk (2*(k+1)) (k+1):=by
    have e1:2*k+(1+1+0)=2*(k+1):=by omega
    have e2:k+(0+0+1)=k+1:=by omega
    rw[e1,e2] at kn
    exact kn
   have KF:Hid _:=kf
   clear k78 s11 s13 s3 s4 kr l11 l13 l3 l4 kn kf k9 HT3 K8 KR HH HR HL HC HT HF HA Hz K6 p4 q4
   go_wp2
   exact⟨⟨k+1,tag5,by omega,by go_num,KF⟩,by simp[intOf];omega⟩
  ·have g1:¬ ((k:Int)<2):=by omega
   obtain rfl:k=2:=by omega
   go_wp2
   go_ret
   exact⟨rfl,tagr,KpT.after HF.out (fun _ _=>rfl) KR.out⟩
end Go.Proofs.YtclkgoigmgkffaaGreatDoor
