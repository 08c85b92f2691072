import Derived.Test.YtmolfmgchbjnbaaGreatDoorM30
set_option linter.unusedSimpArgs false
set_option linter.unusedVariables false
set_option linter.unusedSectionVars false
set_option maxRecDepth 100000
set_option maxHeartbeats 40000000
open _root_.Go.Proofs.Tryz
namespace Go.Proofs.YtmolfmgchbjnbaaGreatDoor
open Go.RowKit
open Wire
namespace Tok
open Ev (TabS)
section
variable {ss:LY}{w0:WL}{r:Nat}{s:BA}{R:List Tk}
theorem Rdr.start (w0:WL)(s:BA)(hs:s.size≤100000):Rdr w0 w0.heap.size s 0 0 [] (w0.alloc (.cells #[.string s,iA 0,iA 0,.slice none 0 0,.slice none 0 0] 162)):=by
 have k:=wan w0 (.cells #[.string s,iA 0,iA 0,.slice none 0 0,.slice none 0 0] 162);refine⟨⟨.slice none 0 0,.slice none 0 0,⟨?_,?_,?_,?_,?_,?_,?_,?_,?_⟩,World.ownsRow_nil _ _ _ _⟩,⟨Nat.zero_le _,Nat.le_refl _,hs,by simp⟩,(Fr.refl [] w0).alloc _,Nat.le_refl _⟩ <;> first | (unfold World.cell?;rw[k];rfl) | (unfold World.frozen?;rw[k];rfl)
theorem lk_end {b:Nat}(h:b=s.size):lk s b = -1:=by unfold lk;rw[dif_neg (by omega)]
theorem tokens_any (ht:TabS ss w0)(hss:ss.length≤100)(hs:s.size≤80000)(hR:Rds ss s 0 [] R):Calls prog 37 #[.string s] w0 (TokP w0 R):=by
 have HR:Hid _:=hR
 obtain⟨r,hr⟩:=eXi (w0.heap.size)
 have hS:=Rdr.start w0 s (by omega)
 rw[hr] at hS
 have HS:Hid _:=hS
 clear hR hS
 go_enter func37,ntmps37
 go_wp2_with fail
 refine wp_scopeR (JT (j0 ss w0 r s R) (j2 ss w0 r s R) (j3 ss w0 r s R) (j4 ss w0 r s R) (j6 ss w0 r s R) (j7 w0 r s R)) (muT r s) rfl ?_ ?_ ?_
 ·go_wp2
  exact⟨⟨_,_,_,_,_,_,_,_,_,_,_,_,_,_,_,_,_,_,_,_,_,_,_,_,_,_,_,_,_,_,_,_,_,_,_,_,_,_,_,_,_,_,_,_,_,_,_,_,_,_,_,_,rfl⟩,0,0,[],HS.out,by simp;omega,HR.out⟩
 ·rintro a w ⟨⟨u1,u2,u4,u5,u6,u7,u8,u9,u10,u11,u12,u13,u14,u15,u16,u17,u18,u19,u20,u21,u22,u23,u24,u25,u26,u27,u28,u29,u30,u31,u32,u33,u34,u35,u36,u37,u38,u39,u40,u41,u42,u43,u44,u45,u46,u47,u48,u49,u50,u51,u52,u53,rfl⟩,a,f,L,K,hL,hR⟩
  clear HR HS
  obtain⟨b,hb,hcase⟩:=hR.inv
  have HC:Hid _:=hcase
  have e0:=K.atOf
  have hp:=passAll_any (.inl rfl) isBlank_any (by decide) K
  clear K hR hcase
  go_wp2_with fail
  refine hp.mono ?_
  rintro e w1 ⟨rfl,b',hb',K1⟩
  obtain rfl:=skip_same hb hb'
  have hbg:=begin_nil K1
  clear hp K1 hb'
  go_wp2_with fail
  refine hbg.mono ?_
  rintro e w2 ⟨rfl,K2⟩
  have hlk:=look_x K2.rdr
  have HK2:Hid _:=K2
  clear hbg K2
  go_wp2_with fail
  refine hlk.mono ?_
  rintro e w3 ⟨rfl,z1,z2,z3,z4⟩
  have X3:=HK2.out.heap z1 z2 z3 z4
  have K3:=X3.rdr
  have HX3:Hid _:=X3
  clear hlk z1 z2 z3 z4 HK2 X3
  have hbl:=hb.le
  have e3:=K3.atOf
  have HK:Hid _:=K3
  have HM:Hid (∀ l,l≠0→l≠7→∀ a',muT r s l a' w3<4*(s.size-a)+2):=fun l h1 h2 a'=>by unfold muT;rw[if_neg h2,if_neg h1,e3];omega
  have HM0:Hid (∀ a',muT r s 0 a' w=4*(s.size-a)+2):=fun a'=>by unfold muT;rw[if_neg (by omega),if_pos rfl,e0]
  have hd:=fun (W:WL)=>isDigit_any (lk s b) W
  have hl:=fun (W:WL)=>isLetter_any (lk s b) W
  clear K3 e3 e0
  rcases HC.out with ⟨c1,c2⟩ | ⟨e,⟨c1,c2⟩,c3⟩ | ⟨e,x,v,c1,c2⟩ | ⟨g,c1,c2,c3,c4⟩ | ⟨e,X,c1,c2,c3⟩
  ·have g1:(lk s b == -1)=true:=by rw[lk_end c1];rfl
   have hen:=end_any HK.out (by omega) endK
   have HR2:Hid _:=c2
   generalize lk s b=c at *
   clear hd hl HC c2 HK
   go_wp2_with fail
   refine hen.mono ?_
   rintro e w4 ⟨vv,rfl,o4,f4⟩
   have HO:Hid _:=AI o4 f4
   clear o4 f4 hen
   go_wp2
   simp only[ExJ]
   go_ret
   exact⟨vv,rfl,by rw[HR2.out,hr,Lla];exact HO.out.1,HO.out.2⟩
  ·rw[c1] at hd
   have HD:Hid _:=hd
   have g1:(lk s b == -1)=false:=by
    cases h:lk s b == -1 with
    | false=>rfl
    | true=>rw[eq_of_beq h] at c1;exact absurd c1 (by decide)
   have g2:(lk s b==35)=false:=by
    cases h:lk s b==35 with
    | false=>rfl
    | true=>rw[eq_of_beq h] at c1;exact absurd c1 (by decide)
   have HF:Hid (q2 ss w0 r s R w3):=⟨b,e,L,HK.out,by omega,⟨c1,c2⟩,c3⟩
   generalize lk s b=c at *
   clear hd hl HC c1 c2 c3 HK
   go_wp2_with fail
   refine (HD.out _).mono ?_
   rintro e w4 ⟨rfl,rfl⟩
   go_wp2
   go_step3
   try simp only[Exit.inBlock,Exit.then,ExJ]
   exact⟨⟨⟨_,_,_,_,_,_,_,_,_,_,_,_,_,_,_,_,_,_,_,_,_,_,_,_,_,_,_,_,_,_,_,_,_,_,_,_,_,_,_,_,_,_,_,_,_,_,_,_,_,_,_,_,rfl⟩,HF.out⟩,by rw[HM0.out];exact HM.out 2 (by decide) (by decide) _⟩
  ·have hdg:=c1.2.1
   rw[hdg] at hd
   rw[c1.1] at hl
   have HD:Hid _:=hd
   have HL:Hid _:=hl
   have g1:(lk s b == -1)=false:=by
    cases h:lk s b == -1 with
    | false=>rfl
    | true=>have:=c1.1;rw[eq_of_beq h] at this;exact absurd this (by decide)
   have g2:(lk s b==35)=false:=by
    cases h:lk s b==35 with
    | false=>rfl
    | true=>have:=c1.1;rw[eq_of_beq h] at this;exact absurd this (by decide)
   have HF:Hid (q3 ss w0 r s R w3):=⟨b,e,L,x,v,HK.out,by omega,c1,c2⟩
   generalize lk s b=c at *
   clear hd hl HC c1 c2 HK hdg
   go_wp2_with fail
   refine (HD.out _).mono ?_
   rintro e w4 ⟨rfl,rfl⟩
   go_wp2_with fail
   refine (HL.out _).mono ?_
   rintro e w4 ⟨rfl,rfl⟩
   go_wp2
   go_step3
   try simp only[Exit.inBlock,Exit.then,ExJ]
   exact⟨⟨⟨_,_,_,_,_,_,_,_,_,_,_,_,_,_,_,_,_,_,_,_,_,_,_,_,_,_,_,_,_,_,_,_,_,_,_,_,_,_,_,_,_,_,_,_,_,_,_,_,_,_,_,_,rfl⟩,HF.out⟩,by rw[HM0.out];exact HM.out 3 (by decide) (by decide) _⟩
  ·obtain⟨p1,p2,p3,p4,p5,p6⟩:=c1
   rw[p3] at hd
   rw[p4] at hl
   have HD:Hid _:=hd
   have HL:Hid _:=hl
   have g1:(lk s b == -1)=false:=by simpa using p1
   have g2:(lk s b==35)=false:=by simpa using p2
   have g3:(lk s b==34)=false:=by simpa using p5
   have HF:Hid (∀ w',Rdr w0 r s b b L w'→q6 ss w0 r s R w'):=fun w' K=>⟨b,L,g,K,by omega,c2,c3,c4⟩
   have HM6:Hid (∀ w' a',Rdr w0 r s b b L w'→muT r s 6 a' w'<4*(s.size-a)+2):=fun w' a' K=>by unfold muT;rw[if_neg (by omega),if_neg (by omega),K.atOf];omega
   rcases Decidable.em (lk s b=47) with q | q
   ·obtain⟨L',pp,nn,tt,rfl⟩:∃ L' p n t,L=L'++[⟨⟨#[41]⟩,p,n,t⟩]:=p6.resolve_left (fun h=>h q)
    have hmd:=mayDivide_any HK.out
    have g4:(lk s b==47)=true:=by simpa using q
    generalize lk s b=c at *
    clear hd hl HC c2 c3 c4 HK p1 p2 p3 p4 p5 p6 q
    go_wp2_with fail
    refine (HD.out _).mono ?_
    rintro e w4 ⟨rfl,rfl⟩
    go_wp2_with fail
    refine (HL.out _).mono ?_
    rintro e w4 ⟨rfl,rfl⟩
    go_wp2_with fail
    refine hmd.mono ?_
    rintro e w5 ⟨rfl,K5⟩
    have HK5:Hid _:=K5
    clear K5 hmd
    go_wp2
    go_step3
    try simp only[Exit.inBlock,Exit.then,ExJ]
    exact⟨⟨⟨_,_,_,_,_,_,_,_,_,_,_,_,_,_,_,_,_,_,_,_,_,_,_,_,_,_,_,_,_,_,_,_,_,_,_,_,_,_,_,_,_,_,_,_,_,_,_,_,_,_,_,_,rfl⟩,HF.out _ HK5.out⟩,by rw[HM0.out];exact HM6.out _ _ HK5.out⟩
   ·have g4:(lk s b==47)=false:=by simpa using q
    generalize lk s b=c at *
    clear hd hl HC c2 c3 c4 p1 p2 p3 p4 p5 p6 q
    go_wp2_with fail
    refine (HD.out _).mono ?_
    rintro e w4 ⟨rfl,rfl⟩
    go_wp2_with fail
    refine (HL.out _).mono ?_
    rintro e w4 ⟨rfl,rfl⟩
    go_wp2
    go_step3
    try simp only[Exit.inBlock,Exit.then,ExJ]
    exact⟨⟨⟨_,_,_,_,_,_,_,_,_,_,_,_,_,_,_,_,_,_,_,_,_,_,_,_,_,_,_,_,_,_,_,_,_,_,_,_,_,_,_,_,_,_,_,_,_,_,_,_,_,_,_,_,rfl⟩,HF.out _ HK.out⟩,by rw[HM0.out];exact HM6.out _ _ HK.out⟩
  ·have hd':=hd
   have hl':=hl
   rw[c1] at hd' hl'
   have HD:Hid (∀ W:WL,Calls prog 76 #[iA 34] W fun e w'=>e=.returned (.bool false)∧w'=W):=hd'
   have HL:Hid (∀ W:WL,Calls prog 77 #[iA 34] W fun e w'=>e=.returned (.bool false)∧w'=W):=hl'
   have HF:Hid (q4 ss w0 r s R w3):=⟨b,e,L,X,HX3.out,by omega,c1,c2,c3⟩
   rw[c1]
   clear hd hl hd' hl' HC c1 c2 c3 HK HX3
   go_wp2_with fail
   refine (HD.out _).mono ?_
   rintro e w4 ⟨rfl,rfl⟩
   go_wp2_with fail
   refine (HL.out _).mono ?_
   rintro e w4 ⟨rfl,rfl⟩
   go_wp2
   go_step3
   try simp only[Exit.inBlock,Exit.then,ExJ]
   exact⟨⟨⟨_,_,_,_,_,_,_,_,_,_,_,_,_,_,_,_,_,_,_,_,_,_,_,_,_,_,_,_,_,_,_,_,_,_,_,_,_,_,_,_,_,_,_,_,_,_,_,_,_,_,_,_,rfl⟩,HF.out⟩,by rw[HM0.out];exact HM.out 4 (by decide) (by decide) _⟩
 ·intro l a w hJ
  match l,hJ with
  | 0,hJ=>exact hJ.elim
  | 1,hJ=>
   obtain⟨⟨u1,u2,u4,u5,u6,u7,u8,u9,u10,u11,u12,u13,u14,u15,u16,u17,u18,u19,u20,u21,u22,u23,u24,u25,u26,u27,u28,u29,u30,u31,u32,u33,u34,u35,u36,u37,u38,u39,u40,u41,u42,u43,u44,u45,u46,u47,u48,u49,u50,u51,u52,u53,rfl⟩,b,e,L,K,hL,⟨c1,c2⟩,c3⟩:=hJ
   clear HR HS
   refine⟨_,rfl,?_⟩
   have hlt:=skip_lt c2 c1
   have hle:=c2.le
   have e0:=K.atOf
   have HM0:Hid (∀ a',muT r s 2 a' w=4*(s.size-b)+1):=fun a'=>by unfold muT;rw[if_neg (by omega),if_neg (by omega),e0]
   have hp:=passAll_any (.inr (.inl rfl)) isDigit_any (by decide) K
   clear K e0
   go_wp2_with fail
   refine hp.mono ?_
   rintro e1 w1 ⟨rfl,b',hb',K1⟩
   obtain rfl:=skip_same c2 hb'
   have han:=addNumeral_any K1 (by omega) c2.all
   clear hp K1 hb'
   rcases c3 with ⟨c3,c4⟩ | ⟨c3,c4⟩
   ·have HC4:Hid _:=c4
    have HC3:Hid _:=c3
    clear c4 c3
    go_wp2_with fail
    refine han.mono ?_
    intro e1 w2 hn
    unfold NumP at hn
    rw[if_pos HC3.out] at hn
    obtain⟨rfl,K2⟩:=hn
    have e2:=K2.atOf
    have HK:Hid _:=K2
    have HM:Hid (∀ a',muT r s 0 a' w2<4*(s.size-b)+1):=fun a'=>by unfold muT;rw[if_neg (by omega),if_pos rfl,e2];omega
    clear K2 han e2 HC3
    go_wp2
    go_step3
    try simp only[Exit.inBlock,Exit.then,ExJ]
    exact⟨⟨⟨_,_,_,_,_,_,_,_,_,_,_,_,_,_,_,_,_,_,_,_,_,_,_,_,_,_,_,_,_,_,_,_,_,_,_,_,_,_,_,_,_,_,_,_,_,_,_,_,_,_,_,_,rfl⟩,e,b,_,HK.out,by simp;omega,HC4.out⟩,by rw[HM0.out];exact HM.out _⟩
   ·have HC4:Hid _:=c4
    have HC3:Hid _:=c3
    clear c4 c3
    go_wp2_with fail
    refine han.mono ?_
    intro e1 w2 hn
    unfold NumP at hn
    rw[if_neg HC3.out] at hn
    obtain⟨rfl,K2⟩:=hn
    have HK:Hid _:=K2
    clear K2 han HC3
    go_wp2
    go_step3
    try simp only[Exit.inBlock,Exit.then,ExJ]
    exact⟨⟨⟨_,_,_,_,_,_,_,_,_,_,_,_,_,_,_,_,_,_,_,_,_,_,_,_,_,_,_,_,_,_,_,_,_,_,_,_,_,_,_,_,_,_,_,_,_,_,_,_,_,_,_,_,rfl⟩,e,b,L,HK.out,by omega,HC4.out⟩,by rw[HM0.out];unfold muT;rw[if_pos rfl];omega⟩
  | 2,hJ=>
   obtain⟨⟨u1,u2,u4,u5,u6,u7,u8,u9,u10,u11,u12,u13,u14,u15,u16,u17,u18,u19,u20,u21,u22,u23,u24,u25,u26,u27,u28,u29,u30,u31,u32,u33,u34,u35,u36,u37,u38,u39,u40,u41,u42,u43,u44,u45,u46,u47,u48,u49,u50,u51,u52,u53,rfl⟩,b,e,L,x,v,K,hL,⟨c1,c0,c2,c3,c4⟩,c5⟩:=hJ
   clear HR HS
   refine⟨_,rfl,?_⟩
   have hlt:=skip_lt c2 (by unfold isIw;rw[c1];rfl)
   have hle:=c2.le
   have e0:=K.atOf
   have HM0:Hid (∀ a',muT r s 3 a' w=4*(s.size-b)+1):=fun a'=>by unfold muT;rw[if_neg (by omega),if_neg (by omega),e0]
   have hp:=passAll_any (.inr (.inr rfl)) isInWord_any (by decide) K
   have HC5:Hid _:=c5
   clear K e0 c5
   go_wp2_with fail
   refine hp.mono ?_
   rintro e1 w1 ⟨rfl,b',hb',K1⟩
   obtain rfl:=skip_same c2 hb'
   have han:=addWord_any K1 (by omega) c3 c4
   clear hp K1 hb' c3 c4
   go_wp2_with fail
   refine han.mono ?_
   rintro e1 w2 ⟨rfl,K2⟩
   have e2:=K2.atOf
   have HK:Hid _:=K2
   have HM:Hid (∀ a',muT r s 0 a' w2<4*(s.size-b)+1):=fun a'=>by unfold muT;rw[if_neg (by omega),if_pos rfl,e2];omega
   clear K2 han e2
   go_wp2
   go_step3
   try simp only[Exit.inBlock,Exit.then,ExJ]
   exact⟨⟨⟨_,_,_,_,_,_,_,_,_,_,_,_,_,_,_,_,_,_,_,_,_,_,_,_,_,_,_,_,_,_,_,_,_,_,_,_,_,_,_,_,_,_,_,_,_,_,_,_,_,_,_,_,rfl⟩,e,b,_,HK.out,by simp;omega,HC5.out⟩,by rw[HM0.out];exact HM.out _⟩
  | 3,hJ=>
   obtain⟨⟨u1,u2,u4,u5,u6,u7,u8,u9,u10,u11,u12,u13,u14,u15,u16,u17,u18,u19,u20,u21,u22,u23,u24,u25,u26,u27,u28,u29,u30,u31,u32,u33,u34,u35,u36,u37,u38,u39,u40,u41,u42,u43,u44,u45,u46,u47,u48,u49,u50,u51,u52,u53,rfl⟩,b,e,L,X,K,hL,c1,c2,c3⟩:=hJ
   clear HR HS
   refine⟨_,rfl,?_⟩
   have hle:=txt_end c2
   have e0:=K.rdr.atOf
   have HM0:Hid (∀ a',muT r s 4 a' w=4*(s.size-b)+1):=fun a'=>by unfold muT;rw[if_neg (by omega),if_neg (by omega),e0]
   have hp:=passText_any K c1 c2
   clear K e0 c1
   go_wp2_with fail
   refine hp.mono ?_
   rintro e1 w1 ⟨rfl,K1⟩
   have han:=addText_any K1 (by omega)
   clear hp K1 c2
   rcases c3 with ⟨c3,c4⟩ | ⟨c3,c4⟩
   ·have HC4:Hid _:=c4
    have HC3:Hid _:=c3
    clear c4 c3
    go_wp2_with fail
    refine han.mono ?_
    intro e1 w2 hn
    unfold TxtP at hn
    rw[if_pos HC3.out] at hn
    obtain⟨rfl,K2⟩:=hn
    have e2:=K2.atOf
    have HK:Hid _:=K2
    have HM:Hid (∀ a',muT r s 0 a' w2<4*(s.size-b)+1):=fun a'=>by unfold muT;rw[if_neg (by omega),if_pos rfl,e2];omega
    clear K2 han e2 HC3
    go_wp2
    go_step3
    try simp only[Exit.inBlock,Exit.then,ExJ]
    exact⟨⟨⟨_,_,_,_,_,_,_,_,_,_,_,_,_,_,_,_,_,_,_,_,_,_,_,_,_,_,_,_,_,_,_,_,_,_,_,_,_,_,_,_,_,_,_,_,_,_,_,_,_,_,_,_,rfl⟩,e,b,_,HK.out,by simp;omega,HC4.out⟩,by rw[HM0.out];exact HM.out _⟩
   ·have HC4:Hid _:=c4
    have HC3:Hid _:=c3
    clear c4 c3
    go_wp2_with fail
    refine han.mono ?_
    intro e1 w2 hn
    unfold TxtP at hn
    rw[if_neg HC3.out] at hn
    obtain⟨rfl,K2⟩:=hn
    have HK:Hid _:=K2
    clear K2 han HC3
    go_wp2
    go_step3
    try simp only[Exit.inBlock,Exit.then,ExJ]
    exact⟨⟨⟨_,_,_,_,_,_,_,_,_,_,_,_,_,_,_,_,_,_,_,_,_,_,_,_,_,_,_,_,_,_,_,_,_,_,_,_,_,_,_,_,_,_,_,_,_,_,_,_,_,_,_,_,rfl⟩,e,b,L,HK.out,by omega,HC4.out⟩,by rw[HM0.out];unfold muT;rw[if_pos rfl];omega⟩
  | 4,hJ=>exact hJ.elim
  | 5,hJ=>
   obtain⟨⟨u1,u2,u4,u5,u6,u7,u8,u9,u10,u11,u12,u13,u14,u15,u16,u17,u18,u19,u20,u21,u22,u23,u24,u25,u26,u27,u28,u29,u30,u31,u32,u33,u34,u35,u36,u37,u38,u39,u40,u41,u42,u43,u44,u45,u46,u47,u48,u49,u50,u51,u52,u53,rfl⟩,b,L,g,K,hL,c2,c3,c4⟩:=hJ
   clear HR HS
   refine⟨_,rfl,?_⟩
   have e0:=K.atOf
   have HM0:Hid (∀ a',muT r s 6 a' w=4*(s.size-b)+1):=fun a'=>by unfold muT;rw[if_neg (by omega),if_neg (by omega),e0]
   have hbl:=K.le
   have han:=addSign_any ht hss K (by omega) c3
   have HC4:Hid _:=c4
   clear K e0 c4 c3
   go_wp2_with fail
   refine han.mono ?_
   rintro e1 w2 ⟨rfl,K2⟩
   have e2:=K2.atOf
   have hb2:=K2.le
   have HK:Hid _:=K2
   have HM:Hid (∀ a',muT r s 0 a' w2<4*(s.size-b)+1):=fun a'=>by unfold muT;rw[if_neg (by omega),if_pos rfl,e2];omega
   clear K2 han e2
   go_wp2
   go_step3
   try simp only[Exit.inBlock,Exit.then,ExJ]
   exact⟨⟨⟨_,_,_,_,_,_,_,_,_,_,_,_,_,_,_,_,_,_,_,_,_,_,_,_,_,_,_,_,_,_,_,_,_,_,_,_,_,_,_,_,_,_,_,_,_,_,_,_,_,_,_,_,rfl⟩,b+g.size,b,_,HK.out,by simp;omega,HC4.out⟩,by rw[HM0.out];exact HM.out _⟩
  | 6,hJ=>
   obtain⟨⟨u1,u2,u4,u5,u6,u7,u8,u9,u10,u11,u12,u13,u14,u15,u16,u17,u18,u19,u20,u21,u22,u23,u24,u25,u26,u27,u28,u29,u30,u31,u32,u33,u34,u35,u36,u37,u38,u39,u40,u41,u42,u43,u44,u45,u46,u47,u48,u49,u50,u51,u52,u53,rfl⟩,a0,b,L,K,hL,c2⟩:=hJ
   clear HR HS
   refine⟨_,rfl,?_⟩
   have hen:=end_any K (by omega) wrongK
   have HR2:Hid _:=c2
   clear c2 K
   go_wp2_with fail
   refine hen.mono ?_
   rintro e w4 ⟨vv,rfl,o4,f4⟩
   have HO:Hid _:=AI o4 f4
   clear o4 f4 hen
   go_wp2
   simp only[ExJ]
   go_ret
   exact⟨vv,rfl,by rw[HR2.out,hr,Lla];exact HO.out.1,HO.out.2⟩
  | n+7,hJ=>exact hJ.elim
end
end Tok
open Go.RowKit
open Wire
namespace Tok
open Ev
variable [Inhabited (Nat→BA)]
def rest2:Option Code→Code
 | some (.seq _ (.seq _ c))=>c
 | _=>.skip
def hT (ss:LY) (n:Nat) (T:LV):AH:=
 (((hs0 ss).new (AO.row 63 [.slice none 0 0,.slice none 0 0,.slice none 0 0,.slice none 0 0])).new (tb T)).new
  (AO.row 84 [.slice (some ⟨4,0,none⟩) n n,.int .i64 0,.bool false,.slice none 0 0,.slice none 0 0,.slice none 0 0,.slice none 0 0,.slice none 0 0,.int .i64 (-1),.bool false,.int .i64 0])
def aT0:Option AA:=putAll [ptrTo 3,.int .i64 0,.int .i64 0,ptrTo 5] 2 (AA.nil 45)
def evT (P:Program) (fn:Func) (ss:LY) (n:Nat) (T:LV) (M k:Nat):Option (Value × AH):=
 aT0.bind fun a=>(evC P 2 (evF P 2 M noX k) M none (rest2 fn.body) a (hT ss n T)).bind (aftBody P fn)
theorem kept_of {w w':WL}(h:Fr [] w w'):Kept w w':=⟨h.os,h.tape,h.output,h.size,fun b hb=>h.block b hb (by simp)⟩
theorem four_nil (m:Mp)(i:Nat)(v:Value)(h:([.slice none 0 0,.slice none 0 0,.slice none 0 0,.slice none 0 0]:LV)[i]?=some v):S1 m v v:=by
 have:=List.mem_of_getElem? h;simp only[List.mem_cons,List.not_mem_nil,or_false,or_self] at this;subst this;exact .inl ⟨rfl,rfl⟩
def TkSm (t:Tk):Prop:=t.p≤80000∧t.n≤1000000000
theorem rds_small {ss:LY}{s:BA} (hs:s.size≤80000):∀ (n:Nat) {a:Nat}{L R:List Tk},RdsN ss s n a L R→(∀ t ∈ L,TkSm t)→∀ t ∈ R,TkSm t
 | 0,_,_,_,h,_=>h.elim
 | n+1,a,L,R,h,hL=>by
  obtain⟨b,h1,h2⟩:=h
  have hb:b≤80000:=Nat.le_trans h1.le.2 hs
  have ap:∀ t:Tk,TkSm t→∀ x ∈ L++[t],TkSm x:=fun t ht x hx=>by
   rcases List.mem_append.1 hx with q | q
   ·exact hL x q
   ·rw[List.mem_singleton.1 q];exact ht
  rcases h2 with ⟨-,rfl⟩ | ⟨e,-,⟨h3,h4⟩ | ⟨-,rfl⟩⟩ | ⟨e,x,v,-,h3⟩ | ⟨g,-,-,-,h5⟩ | ⟨e,X,-,-,⟨-,h5⟩ | ⟨-,rfl⟩⟩
  ·exact ap _ ⟨hb,Nat.zero_le _⟩
  ·exact rds_small hs n h4 (ap _ ⟨hb,h3⟩)
  ·exact ap _ ⟨hb,Nat.zero_le _⟩
  ·exact rds_small hs n h3 (ap _ (by cases v <;> exact⟨hb,Nat.zero_le _⟩))
  ·exact rds_small hs n h5 (ap _ ⟨hb,Nat.zero_le _⟩)
  ·exact rds_small hs n h5 (ap _ ⟨hb,Nat.zero_le _⟩)
  ·exact ap _ ⟨hb,Nat.zero_le _⟩
theorem tk_plain {R:List Tk}(hR:∀ t ∈ R,TkSm t){i:Nat}{v:Value} (h:(R.flatMap tkC)[i]?=some v):plainV v=true:=by
 obtain⟨t,htR,ht⟩:=List.mem_flatMap.1 (List.mem_of_getElem? h);obtain⟨q1,q2⟩:=hR t htR;have key:∀ n:Nat,n≤1000000000→plainV (iA (n:Nat))=true:=fun n hn=>by
  show Nat.blt n 9223372036854775808=true;rw[Nat.blt_eq];omega
 simp only[tkC,List.mem_cons,List.not_mem_nil,or_false] at ht;rcases ht with rfl | rfl | rfl | rfl
 ·rfl
 ·exact key _ (by omega)
 ·exact key _ (by omega)
 rfl
def TVs (TV:LV) (R:List Tk):Prop:=∀ (i:Nat) v,TV[i]?=some v→∃ v',(R.flatMap tkC)[i]?=some v'∧∀ m,S1 m v v'
theorem tvs_self {ss:LY}{s:BA} (hs:s.size≤80000) {R:List Tk} (hR:Rds ss s 0 [] R):TVs (R.flatMap tkC) R:=fun i v hv=>⟨v,hv,fun m=>plain_s1 (tk_plain (by
 obtain⟨n,hn⟩:=hR
 exact rds_small hs n hn (by simp)) hv)⟩
theorem parser_cells {m:Mp}{g n cap:Nat} (hcap:n≤cap) (hn:0<n) (hm:m 4=some none∨m 4=some (some ⟨g,0,cap*4,4⟩)) (i:Nat) (v:Value)
  (h:([.slice (some (Ad 4 0)) n n,iA 0,.bool false,.slice none 0 0,.slice none 0 0,.slice none 0 0,.slice none 0 0,.slice none 0 0,iA (-1),.bool false,iA 0]:LV)[i]?=some v) :
  ∃ v',(#[.slice (some (Ad g 0)) n cap,iA 0,.bool false,.slice none 0 0,.slice none 0 0,.slice none 0 0,.slice none 0 0,.slice none 0 0,iA (-1),.bool false,iA 0]:Array Value)[0+i]?=some v'∧S1 m v v':=by
 rw[Nat.zero_add]
 match i,h with
 | 0,h=>
  cases h
  refine⟨_,rfl,.inl ⟨rfl,hcap,fun q=>by omega,rfl,rfl,?_⟩⟩
  rcases hm with e | e
  ·exact .inl e
  ·exact .inr ⟨_,e,rfl,rfl,by simp⟩
 | 1,h=>cases h;exact⟨_,rfl,.inl ⟨rfl,rfl,fun _=>by decide⟩⟩
 | 2,h=>cases h;exact⟨_,rfl,.inl rfl⟩
 | 3,h=>cases h;exact⟨_,rfl,.inl ⟨rfl,rfl⟩⟩
 | 4,h=>cases h;exact⟨_,rfl,.inl ⟨rfl,rfl⟩⟩
 | 5,h=>cases h;exact⟨_,rfl,.inl ⟨rfl,rfl⟩⟩
 | 6,h=>cases h;exact⟨_,rfl,.inl ⟨rfl,rfl⟩⟩
 | 7,h=>cases h;exact⟨_,rfl,.inl ⟨rfl,rfl⟩⟩
 | 8,h=>cases h;exact⟨_,rfl,.inl ⟨rfl,rfl,fun _=>by decide⟩⟩
 | 9,h=>cases h;exact⟨_,rfl,.inl rfl⟩
 | 10,h=>cases h;exact⟨_,rfl,.inl ⟨rfl,rfl,fun _=>by decide⟩⟩
 | n+11,h=>simp at h
theorem syntax_any {ss:LY}{w0:WL}{s:BA}{R:List Tk} (ht:TabS ss w0) (hss:ss.length≤100) (hs:s.size≤80000) (hR:Rds ss s 0 [] R) (hn:0<R.length) {TV:LV} (hTV:TVs TV R) {M k:Nat}{q:Value × AH} (hq:evT prog f28 ss R.length TV M k=some q) :
  Calls prog 28 #[.string s] w0 fun e w'=>∃ v' m,e=.returned v'∧Ev.Left prog w0 q m v' w':=by
 obtain⟨W1,hW1⟩:=eXi (w0.alloc (.cells #[.slice none 0 0,.slice none 0 0,.slice none 0 0,.slice none 0 0] 63));have F1:=frA hW1
 have htk:=tokens_any (tabS_fr ht F1) hss hs hR;have HSM:Hid _:=hTV;clear hTV;go_enter func28,ntmps28;refine wp_seq_k (fun K0 h0=>?_);have H0:Hid _:=h0;clear h0;go_wp2;refine H0.out _ _ ?_;refine wp_seq_k (fun K1 h1=>?_);have H1:Hid _:=h1;clear h1 H0;go_wp2_with fail;refine htk.mono ?_;rintro e w2 ⟨v,rfl,own,F2⟩;obtain⟨g,cap,rfl⟩:∃ g cap,v=.slice (some (Ad g 0)) R.length cap:=by
  rcases own.2 with ⟨_,h0⟩ | ⟨g,cap,cur,hv,_⟩
  ·omega
  exact⟨g,cap,hv⟩
 have HO:Hid _:=own;clear own htk;go_wp2;refine H1.out _ _ ?_;clear H1;obtain⟨B,o,c,h1,h2,h3,h4,h5,h6⟩:=ht;have R0:Rel prog 2 (Ev.ms0 B o (o+c)) (hs0 ss) w0:=rel0 h1 h2 h3 h4 h5 h6;have n0:(hs0 ss).n=3:=by simp only[hs0,AH.set_n];rfl
 have k1:W1.heap[w0.heap.size]?=some (.cells #[.slice none 0 0,.slice none 0 0,.slice none 0 0,.slice none 0 0] 63):=by rw[← hW1];exact wan w0 _
 have l1:W1.heap.size=w0.heap.size+1:=by rw[← hW1];simp
 obtain⟨R1,E1⟩:=R0.plus (w':=W1) (by rw[n0];omega) (kept_of F1) (o:=AO.row 63 [.slice none 0 0,.slice none 0 0,.slice none 0 0,.slice none 0 0]) (x:=⟨w0.heap.size,0,4,4⟩) (Nat.le_refl _) rfl (by show w0.heap.size<_;omega) (fun m' hm=>.inl ⟨rfl,by kernel_rfl,_,_,_,k1,rfl,.inl rfl,by simp[AO.row],fun i v hv=>⟨v,by rw[Nat.zero_add,List.getElem?_toArray];exact hv,four_nil m' i v hv⟩⟩);rw[n0] at R1 E1;obtain⟨g0,cap0,cur,hv,hg1,hg2,hg3,hg4,hg5,hg6⟩:=(HO.out.2).resolve_left (fun h=>by omega);cases hv;have hgl:g<w2.heap.size:=(World.ownsRow.lt HO.out g rfl).2;have n1:((hs0 ss).new (AO.row 63 [.slice none 0 0,.slice none 0 0,.slice none 0 0,.slice none 0 0])).n=4:=by rw[AH.new_n,n0]
 obtain⟨R2,E2⟩:=R1.plus (w':=w2) (by rw[n1];omega) (kept_of F2) (o:=tb TV) (x:=⟨g,0,cap*4,4⟩) (by show W1.heap.size≤g;omega) rfl hgl (fun m' hm=>.inr (.inr ⟨rfl,fun i v hv=>by
  obtain⟨v',h1,h2⟩:=HSM.out i v hv;exact⟨v',own_cell HO.out h1,h2 m'⟩⟩))
 rw[n1] at R2 E2;have n2:(((hs0 ss).new (AO.row 63 [.slice none 0 0,.slice none 0 0,.slice none 0 0,.slice none 0 0])).new (tb TV)).n=5:=by rw[AH.new_n,n1]
 have k3:=wan w2 (.cells #[.slice (some (Ad g 0)) R.length cap,iA 0,.bool false,.slice none 0 0,.slice none 0 0,.slice none 0 0,.slice none 0 0,.slice none 0 0,iA (-1),.bool false,iA 0] 84);obtain⟨W3,hW3⟩:=eXi (w2.alloc (.cells #[.slice (some (Ad g 0)) R.length cap,iA 0,.bool false,.slice none 0 0,.slice none 0 0,.slice none 0 0,.slice none 0 0,.slice none 0 0,iA (-1),.bool false,iA 0] 84));have F3:=frA hW3
 have l3:W3.heap.size=w2.heap.size+1:=by rw[← hW3];simp
 rw[hW3] at k3 ⊢;obtain⟨R3,E3⟩:=R2.plus (w':=W3) (by rw[n2];omega) (kept_of F3) (o:=AO.row 84 [.slice (some (Ad 4 0)) R.length R.length,iA 0,.bool false,.slice none 0 0,.slice none 0 0,.slice none 0 0,.slice none 0 0,.slice none 0 0,iA (-1),.bool false,iA 0]) (x:=⟨w2.heap.size,0,11,11⟩) (Nat.le_refl _) rfl (by show w2.heap.size<_;omega) (fun m' hm=>.inl ⟨rfl,by kernel_rfl,_,_,_,k3,rfl,.inl rfl,by simp[AO.row],fun i v hv=>parser_cells (g:=g) (cap:=cap) hg3 hn (by
  rcases (hm 4).2 ⟨g,0,cap*4,4⟩ (by simp[Mp.put]) with h | h
  ·exact .inr h
  exact .inl h) i v hv⟩)
 rw[n2] at R3 E3;have EE:=(E1.trans E2).trans E3;have hT3:hT ss R.length TV=((((hs0 ss).new (AO.row 63 [.slice none 0 0,.slice none 0 0,.slice none 0 0,.slice none 0 0])).new (tb TV)).new (AO.row 84 [.slice (some (Ad 4 0)) R.length R.length,iA 0,.bool false,.slice none 0 0,.slice none 0 0,.slice none 0 0,.slice none 0 0,.slice none 0 0,iA (-1),.bool false,iA 0])):=rfl;rw[← hT3] at R3 E3 EE;unfold evT at hq;obtain⟨a,ha,hq1⟩:=bind_some hq;obtain⟨⟨ex,a',h'⟩,hc,hq2⟩:=bind_some hq1;obtain⟨p1,p2,p3⟩:=putAll_ok _ _ _ _ ha;refine (evC_ok (evF_ok mixed M noX_ok k) mixed [] M none _ a a' _ h' ex hc _ W3 _ _ R3 ?_ ?_).1
 ·refine⟨p1,fun i v hv=>?_⟩;rw[p3 i] at hv;split at hv
  ·rename_i hi
   have:i=2∨i=3∨i=4∨i=5:=by simp at hi;omega
   rcases this with rfl | rfl | rfl | rfl
   ·cases hv;exact .inl (.inl (.inl ⟨rfl,rfl,.inr ⟨⟨w0.heap.size,0,4,4⟩,by simp[Mp.put],rfl,rfl⟩⟩))
   ·cases hv;exact .inl (.inl (.inl ⟨rfl,rfl,fun _=>by decide⟩))
   ·cases hv;exact .inl (.inl (.inl ⟨rfl,rfl,fun _=>by decide⟩))
   cases hv;exact .inl (.inl (.inl ⟨rfl,rfl,.inr ⟨⟨w2.heap.size,0,11,11⟩,by simp[Mp.put],rfl,rfl⟩⟩))
  rw[AA.nil_get] at hv;cases hv
 intro m' w' t' R' E' S';have fin:resultsA prog f28 a' h'=some q→∃ v,(results f28 t').run prog w'=.ok v w'∧∃ v' m,Ending.returned v=.returned v'∧Ev.Left prog w0 q m v' w':=by
  intro hres;obtain⟨e1,v',z1,z2⟩:=results_ok R' S' hres;have E0:=EE.trans E';refine⟨v',z1,v',m',rfl,by rw[e1];exact R',kept0 E0,z2,fun r x hr hx=>?_,by rw[e1];exact tab3 E0⟩;rcases E0.new r x hx with e | ⟨-,e | ⟨r0,x0,e0,-,-,e2⟩⟩
  ·simp only[Ev.ms0] at e;rw[if_neg (by omega),if_neg (by omega),if_neg (by omega)] at e;cases e
  ·exact e
  exfalso;simp only[hs0_get] at e2;simp only[Ev.ms0] at e0;split at e0
  ·rename_i z;exact e2 (tb []) (by rw[if_pos z]) rfl
  split at e0
  ·rename_i z' z;exact e2 _ (by rw[if_neg z',if_pos z]) rfl
  split at e0
  ·rename_i z1 z2 z;exact e2 _ (by rw[if_neg z1,if_neg z2,if_pos z]) rfl
  cases e0
 unfold aftBody at hq2;split at hq2
 ·rename_i heq
  cases heq;obtain⟨v,q1,q2⟩:=fin hq2;exact⟨rfl,v,q1,q2⟩
 ·rename_i heq
  cases heq;obtain⟨v,q1,q2⟩:=fin hq2;exact⟨rfl,v,q1,q2⟩
 cases hq2
end Tok
open Go.RowKit
open Wire
namespace Tok
open Ev
variable [Inhabited (Nat→BA)]
def intsOf:LV→Option (List Int)
 | []=>some []
 | .int .i64 z :: l=>(intsOf l).map (z :: ·)
 | _ :: _=>none
def opsOf (h:AH):OA→Nat→Nat→Option (List Int)
 | none,0,_=>some []
 | some ⟨r,off,none⟩,n,c=>cond (Nat.ble n 2 && Nat.ble n c) ((Ev.rowAt r h).bind fun p=>(Ev.cut p.1 off n).bind intsOf) none
 | _,_,_=>none
def lineOf (h:AH):Value→Value→Value→Option Ln
 | .int .u8 (.ofNat op),.slice a n c,.int .i64 t=>cond (ieq t (-1) && Nat.blt op 256) ((opsOf h a n c).map fun os=>(op,os)) none
 | _,_,_=>none
def lnsOf (h:AH):Nat→LV→Option (List Ln)
 | 0,[]=>some []
 | n+1,a :: b :: c :: l=>(lineOf h a b c).bind fun x=>(lnsOf h n l).map (x :: ·)
 | _,_=>none
def bodyAt (h:AH):Value→Option (List Ln)
 | .slice (some ⟨q,o,none⟩) n c=>cond (Nat.blt 0 n && Nat.ble n 1000 && Nat.ble n c) ((Ev.rowAt q h).bind fun p=>(Ev.cut p.1 o (n*3)).bind (lnsOf h n)) none
 | _=>none
def bodyOf (h:AH):Value→Option (List Ln)
 | .pointer (some ⟨r,off,none⟩)=>(Ev.rowAt r h).bind fun p=>(nth p.1 off).bind (bodyAt h)
 | _=>none
def codeV (h:AH):LV→Option (Option (Value × AH))
 | [v]=>(bodyOf h v).map fun L=>some (.string ⟨(L.flatMap lnB).toArray⟩,h)
 | _=>none
def codeX (k:FuncId) (f:FuncId) (args:LV) (h:AH):Option (Option (Value × AH)):=cond (Nat.beq f k) (codeV h args) none
theorem rowAt_ok {r:Nat}{h:AH}{p:LV × TypeId} (e:Ev.rowAt r h=some p):∃ es,h.get r=some ⟨1,p.1,p.2,es⟩:=by
 unfold Ev.rowAt Ev.asRow at e;split at e
 ·rename_i xs t es he
  cases e;exact⟨es,he⟩
 cases e
section
variable {m:Mp}{h:AH}{w:WL}
theorem ptrAt (R:Rel prog 2 m h w){r off:Nat}{v':Value} (hv:S3 m (.pointer (some (Ad r off))) v') {p:LV × TypeId} (hg:Ev.rowAt r h=some p) :
  ∃ x:MB,v'=.pointer (some (Ad x.b (off+x.s)))∧∀ (i:Nat) v,p.1[i]?=some v→∃ u,w.cell? (Ad x.b (i+x.s))=some u∧S1 m v u:=by
 obtain⟨es,hg⟩:=rowAt_ok hg;obtain⟨⟨b,o,sp⟩,rfl,h1,h2,h4⟩:=hv.ptr;rcases h4 with h4 | ⟨x,h4,h5,h6⟩
 ·exact absurd ((R.dead r h4).2 _ hg) (by simp)
 obtain⟨-,k2,o',k3,k4⟩:=R.row r x h4;rw[hg] at k3;cases k3;simp only at h2 h5 h6;subst h2 h5 h6;refine⟨x,rfl,fun i v hv=>?_⟩;rcases k4 with ⟨-,k4⟩ | ⟨q,-⟩ | ⟨q,-⟩
 ·exact k4.cell hv
 ·cases q
 cases q
theorem sliceAt' (R:Rel prog 2 m h w){r off n c:Nat}{v':Value} (hv:S3 m (.slice (some (Ad r off)) n c) v') {p:LV × TypeId} (hg:Ev.rowAt r h=some p) :
  ∃ (x:MB) (c':Nat),v'=.slice (some (Ad x.b (off+x.s))) n c'∧c≤c'∧x.b<w.heap.size∧∀ (i:Nat) v,p.1[i]?=some v→∃ u,w.cell? (Ad x.b (i+x.s))=some u∧S1 m v u:=by
 obtain⟨es,hg⟩:=rowAt_ok hg;obtain⟨x,c',-,h2,h3,h4,h5⟩:=R.sliceAt hv hg;exact⟨x,c',h2,h3,h4,h5⟩
theorem cut_ok {l r:LV}{i n:Nat} (e:Ev.cut l i n=some r):i+n≤l.length∧r.length=n∧∀ j,j<n→r[j]?=l[i+j]?:=by
 unfold Ev.cut at e;cases hb:Nat.ble (i+n) l.length with
 | false=>rw[hb] at e;cases e
 | true=>
  rw[hb] at e;cases e;have:=Nat.le_of_ble_eq_true hb;refine⟨this,by rw[List.length_take,List.length_drop];omega,fun j hj=>?_⟩;rw[List.getElem?_take_of_lt hj,List.getElem?_drop]
theorem intsOf_ok:∀ {l:LV}{zs:List Int},intsOf l=some zs→l=zs.map (.int .i64)
 | [],zs,e=>by cases e;rfl
 | v :: l,zs,e=>by
  unfold intsOf at e
  split at e
  ·rename_i h;cases h
  ·rename_i z r h
   cases h
   cases hq:intsOf l with
   | none=>rw[hq] at e;cases e
   | some q=>rw[hq] at e;cases e;rw[intsOf_ok hq];rfl
  ·cases e
theorem opsOf_ok (R:Rel prog 2 m h w){a:OA}{n c:Nat}{v':Value} (hv:S1 m (.slice a n c) v') {zs:List Int} (e:opsOf h a n c=some zs):IntsIn w v' zs∧zs.length≤2∧∀ z ∈ zs,z<(9223372036854775808:Int):=by
 unfold opsOf at e;split at e
 ·cases e;obtain rfl:=S3.slN hv.s3;exact⟨⟨none,c,0,0,rfl,Nat.zero_le _,by simp,by simp⟩,by simp,by simp⟩
 ·rename_i r off
  cases hb:(Nat.ble n 2 && Nat.ble n c) with
  | false=>rw[hb] at e;cases e
  | true=>
   rw[hb] at e;simp only[cond_true] at e;obtain⟨p,hp,e⟩:=bind_some e;obtain⟨q,hq,e⟩:=bind_some e;obtain⟨h1,h2,h3⟩:=cut_ok hq;obtain⟨x,c',rfl,h4,h5,h6⟩:=sliceAt' R hv.s3 hp;have hz:=intsOf_ok e;have hl:zs.length=n:=by rw[← h2,hz,List.length_map]
   obtain⟨hb1,hb2⟩:=Bool.and_eq_true_iff.1 hb;have hc:n≤c':=Nat.le_trans (Nat.le_of_ble_eq_true hb2) h4;have key:∀ (k:Nat) z,zs[k]?=some z→w.cell? (Ad x.b (off+x.s+k))=some (iA z)∧z<9223372036854775808:=fun k z hk=>by
    have hkn:k<n:=by rw[← hl];exact (Lgs.1 hk).1
    have:p.1[off+k]?=some (iA z):=by rw[← h3 k hkn,hz,List.getElem?_map,hk];rfl
    obtain⟨u,hu,su⟩:=h6 _ _ this;have:=su.s3.rng rfl;rw[su.s3.int] at hu;rw[show off+x.s+k=off+k+x.s by omega];exact⟨hu,this⟩
   refine⟨⟨_,c',x.b,off+x.s,by rw[hl],by rw[hl];exact hc,fun _=>⟨rfl,h5⟩,fun k z hk=>(key k z hk).1⟩,by rw[hl];exact Nat.le_of_ble_eq_true hb1,fun z hz=>?_⟩;obtain⟨k,hk⟩:=List.getElem?_of_mem hz;exact (key k z hk).2
 cases e
theorem lineOf_ok (R:Rel prog 2 m h w){a b c a' b' c':Value}(sa:S1 m a a')(sb:S1 m b b')(sc:S1 m c c'){x:Ln}(e:lineOf h a b c=some x):a'=.int .u8 (x.1:Nat)∧IntsIn w b' x.2∧c'=iA (-1)∧LnOk x:=by
 unfold lineOf at e;split at e
 ·rename_i op q n cc t
  cases hb:(ieq t (-1) && Nat.blt op 256) with
  | false=>rw[hb] at e;cases e
  | true=>
   rw[hb] at e;simp only[cond_true] at e;obtain⟨os,ho,rfl⟩:=map_some e;obtain⟨hb1,hb2⟩:=Bool.and_eq_true_iff.1 hb;rw[ieq_eq] at hb1;have ht:=of_decide_eq_true hb1;subst ht;obtain⟨h1,h2,h3⟩:=opsOf_ok R sb ho;exact⟨sa.s3.int,h1,sc.s3.int,Nat.blt_eq ▸ hb2,h2,h3⟩
 cases e
theorem lnsOf_ok (R:Rel prog 2 m h w){g:Nat}:∀ {n off:Nat}{l:LV}{L:List Ln},lnsOf h n l=some L→(∀ (i:Nat) v,l[i]?=some v→∃ u,w.cell? (Ad g (off+i))=some u∧S1 m v u)→L.length=n∧(∀ x ∈ L,LnOk x)∧∀ (k:Nat) x,L[k]?=some x→LineIn w g (off+k*3) x
 | 0,off,[],L,e,hc=>by cases e;exact⟨rfl,by simp,by simp⟩
 | 0,off,_ :: _,L,e,hc=>by cases e
 | n+1,off,[],L,e,hc=>by cases e
 | n+1,off,[_],L,e,hc=>by cases e
 | n+1,off,[_,_],L,e,hc=>by cases e
 | n+1,off,a :: b :: c :: l,L,e,hc=>by
  simp only[lnsOf] at e
  obtain⟨x,hx,e⟩:=bind_some e
  obtain⟨L',hL,rfl⟩:=map_some e
  obtain⟨a',ca,sa⟩:=hc 0 a rfl
  obtain⟨b',cb,sb⟩:=hc 1 b rfl
  obtain⟨c',cc,sc⟩:=hc 2 c rfl
  obtain⟨rfl,h2,rfl,h4⟩:=lineOf_ok R sa sb sc hx
  obtain⟨k1,k2,k3⟩:=lnsOf_ok R (g:=g) (off:=off+3) hL (fun i v hv=>by
   obtain⟨u,hu,su⟩:=hc (i+3) v (by simpa using hv)
   exact⟨u,by rw[show off+3+i=off+(i+3) by omega];exact hu,su⟩)
  refine⟨by simp[k1],fun y hy=>?_,fun k y hk=>?_⟩
  ·rcases List.mem_cons.1 hy with rfl | hy
   ·exact h4
   ·exact k2 y hy
  ·cases k with
   | zero=>
    simp at hk
    subst hk
    refine⟨?_,⟨b',?_,h2⟩,?_⟩
    ·simpa using ca
    ·simpa using cb
    ·simpa using cc
   | succ k=>
    have:=k3 k y (by simpa using hk)
    rw[show off+(k+1)*3=off+3+k*3 by omega]
    exact this
theorem bodyOf_ok (R:Rel prog 2 m h w){v v':Value}(sv:S3 m v v'){L:List Ln}(e:bodyOf h v=some L):∃ pb po,v'=.pointer (some (Ad pb po))∧BodyIn w (Ad pb po) L∧0<L.length∧L.length≤1000∧∀ x ∈ L,LnOk x:=by
 unfold bodyOf at e;split at e
 ·rename_i r off
  obtain⟨p,hp,e⟩:=bind_some e;obtain⟨y,hy,e⟩:=bind_some e;rw[nth_eq] at hy;obtain⟨x,rfl,hx⟩:=ptrAt R sv hp;obtain⟨u,hu,su⟩:=hx off y hy;unfold bodyAt at e;split at e
  ·rename_i q o n c
   cases hb:(Nat.blt 0 n && Nat.ble n 1000 && Nat.ble n c) with
   | false=>rw[hb] at e;cases e
   | true=>
    rw[hb] at e;simp only[cond_true] at e;obtain⟨hb12,hb3⟩:=Bool.and_eq_true_iff.1 hb;obtain⟨hb1,hb2⟩:=Bool.and_eq_true_iff.1 hb12;have q1:0<n:=Nat.blt_eq ▸ hb1;have q2:=Nat.le_of_ble_eq_true hb2;obtain⟨p2,hp2,e⟩:=bind_some e;obtain⟨l,hl,e⟩:=bind_some e;obtain⟨h1,h2,h3⟩:=cut_ok hl;obtain⟨z,c',rfl,h4,h5,h6⟩:=sliceAt' R su.s3 hp2;obtain⟨k1,k2,k3⟩:=lnsOf_ok R (g:=z.b) (off:=o+z.s) e (fun i v hv=>by
     have hi:i<n*3:=by rw[← h2];exact (Lgs.1 hv).1
     obtain⟨u,hu,su⟩:=h6 (o+i) v (by rw[← h3 i hi];exact hv);exact⟨u,by rw[show o+z.s+i=o+i+z.s by omega];exact hu,su⟩)
    exact⟨x.b,off+x.s,rfl,⟨_,c',z.b,o+z.s,by rw[k1];exact hu,by rw[k1];exact Nat.le_trans (Nat.le_of_ble_eq_true hb3) h4,fun _=>⟨rfl,h5⟩,k3⟩,by omega,by omega,k2⟩
  cases e
 cases e
theorem codeX_ok (he:∃ fn,entered prog 163=some fn) :
  ∀ f args h r,codeX 163 f args h=some (some r)→(∃ fn,entered prog f=some fn)∧∀ m w args',Rel prog 2 m h w→L2 (S3 m) args args'.toList→Calls prog f args' w fun
  | .returned v',w'=>Wrote prog 2 m h w r v' w'
  | _,_=>False:=by
 intro f args h r hr;unfold codeX at hr;cases hb:Nat.beq f 163 with
 | false=>rw[hb] at hr;cases hr
 | true=>
  rw[hb] at hr;simp only[cond_true] at hr;have hf:=Nat.eq_of_beq_eq_true hb;subst hf;refine⟨he,fun m w args' R ha=>?_⟩;unfold codeV at hr;split at hr
  ·rename_i v
   obtain⟨L,hL,e⟩:=map_some hr;cases e;obtain⟨y,q,e,hy,hq⟩:=ha.cons_left;rw[hq.nil_left] at e;obtain⟨pb,po,rfl,h1,h2,h3,h4⟩:=bodyOf_ok R hy hL;obtain rfl:args'=#[.pointer (some (Ad pb po))]:=Array.ext' e;refine (code_any h1 h3 h2 h4).mono fun e' w' ⟨he',F⟩=>?_;subst he';obtain⟨R',E'⟩:=R.grow (kept_of F);exact⟨m,R',E',S0.s3 (s0_str _)⟩
  cases hr
end
end Tok
open Go.RowKit
open Wire
namespace Tok
open Ev
variable [Inhabited (Nat→BA)]
def isSl:Value→Bool
 | .slice _ _ _=>true
 | _=>false
def sl4 (cs:Array Value):Bool:=Nat.beq cs.toList.length 4 && cs.toList.all isSl
theorem isSl_ok {m:Mp}{v v':Value} (h:isSl v=true) (s:S1 m v v'):∃ o n c,v'=.slice o n c:=by
 unfold isSl at h;split at h
 ·rename_i o n c
  cases o with
  | none=>exact⟨none,n,c,S3.slN s.s3⟩
  | some a=>
   obtain⟨b,c',e,-⟩:=S3.sl s.s3;exact⟨some b,n,c',e⟩
 cases h
def thenT (P:Program) (h:AH):LV→Option (Value × AH)
 | [.agg cs,.int .i64 p,.int .i64 e]=>cond (sl4 cs && ieq p 0 && ieq e 0) (evF P 2 2000 (codeX 163) 100 30 [.agg cs] h) none
 | _=>none
def thenM (P:Program):Option (Value × AH)→Option (Value × AH)
 | some (.tuple vs,h)=>thenT P h vs.toList
 | _=>none
def rowL (h:AH):Value→Option (LV)
 | .slice (some ⟨b,0,none⟩) n c=>cond (Nat.ble n c) ((Ev.rowAt b h).bind fun p=>Ev.cut p.1 0 (n*3)) none
 | _=>none
def errT:LV→Option Int
 | [.agg cs,.int .i64 p,.int .i64 (.ofNat 14)]=>cond (sl4 cs) (some p) none
 | _=>none
def errF:Option (Value × AH)→Option Int
 | some (.tuple vs,_)=>errT vs.toList
 | _=>none
theorem agg4 {m:Mp}{cs:Array Value}{v':Value} (hl:sl4 cs=true) (h:S2 m (.agg cs) v'):∃ o1 n1 c1 o2 n2 c2 o3 n3 c3 o4 n4 c4,v'=.agg #[.slice o1 n1 c1,.slice o2 n2 c2,.slice o3 n3 c3,.slice o4 n4 c4]:=by
 obtain⟨c',rfl,hc⟩:=S3.agg (S2.s3 h)
 obtain⟨h1,h2⟩:=Bool.and_eq_true_iff.1 hl
 have h4:=Nat.eq_of_beq_eq_true h1
 match hq:cs.toList,h4 with
 | [a,b,c,d],_=>
  rw[hq] at hc h2
  simp only[List.all_cons,Bool.and_eq_true] at h2
  obtain⟨a',r1,e1,s1,hc⟩:=hc.cons_left
  obtain⟨b',r2,e2,s2,hc⟩:=hc.cons_left
  obtain⟨c2',r3,e3,s3,hc⟩:=hc.cons_left
  obtain⟨d',r4,e4,s4,hc⟩:=hc.cons_left
  rw[hc.nil_left] at e4
  subst e4 e3 e2
  obtain⟨o1,n1,c1,rfl⟩:=isSl_ok h2.1 s1
  obtain⟨o2,n2,c2,rfl⟩:=isSl_ok h2.2.1 s2
  obtain⟨o3,n3,c3,rfl⟩:=isSl_ok h2.2.2.1 s3
  obtain⟨o4,n4,c4,rfl⟩:=isSl_ok h2.2.2.2.1 s4
  exact⟨o1,n1,c1,o2,n2,c2,o3,n3,c3,o4,n4,c4,by congr 1;exact Array.ext' e1⟩
theorem tup3 {m:Mp}{vs:Array Value}{v1 v2 v3 v':Value} (hl:vs.toList=[v1,v2,v3]) (h:S3 m (.tuple vs) v'):∃ a b c,v'=.tuple #[a,b,c]∧S2 m v1 a∧S2 m v2 b∧S2 m v3 c:=by
 obtain⟨c',rfl,hc⟩:=h.tuple;rw[hl] at hc;obtain⟨a,r1,e1,s1,hc⟩:=hc.cons_left;obtain⟨b,r2,e2,s2,hc⟩:=hc.cons_left;obtain⟨c,r3,e3,s3,hc⟩:=hc.cons_left;rw[hc.nil_left] at e3;subst e3 e2;exact⟨a,b,c,by congr 1;exact Array.ext' e1,s1,s2,s3⟩
theorem S2.int' {m:Mp}{k:IntKind}{n:Int}{v':Value} (h:S2 m (.int k n) v'):v'=.int k n:=S3.int (S2.s3 h)
theorem compile_bad {w:WL}{s:BA}{R:List Tk}{p:Int} (ht:TabS signs w) (hs:s.size≤1000) (hR:Rds signs s 0 [] R) (hn:0<R.length) (hq:errF (evT prog f28 signs R.length (R.flatMap tkC) 2000 100)=some p) :
  Calls prog 19 #[.string s] w fun e w'=>e=.returned (.tuple #[.string ⟨#[]⟩,iA p,iA 14])∧Fr [] w w':=by
 cases he:evT prog f28 signs R.length (R.flatMap tkC) 2000 100 with
 | none=>rw[he] at hq;cases hq
 | some q=>
  have hS:=syntax_any ht (by decide) (by omega) hR hn (tvs_self (by omega) hR) he;rw[he] at hq;obtain⟨qv,qh⟩:=q;unfold errF at hq;split at hq
  ·rename_i vs h0 e0
   cases e0;unfold errT at hq;split at hq
   ·rename_i cs p' hvs
    cases hb:sl4 cs with
    | false=>rw[hb] at hq;cases hq
    | true=>
     rw[hb] at hq;cases hq;have g1:¬ (1000:Int)<s.size:=by omega
     clear he hR;go_enter func19,ntmps19;go_wp2_with fail;refine hS.mono ?_;rintro e w1 ⟨v',m,rfl,L⟩;obtain⟨a,b,c,rfl,s1,s2,s3⟩:=tup3 hvs L.val;obtain rfl:=S2.int' s2;obtain rfl:=S2.int' s3;obtain⟨o1,n1,c1,o2,n2,c2,o3,n3,c3,o4,n4,c4,rfl⟩:=agg4 hb s1;have F:Hid (Fr [] w w1):=⟨L.kept.os,L.kept.tape,L.kept.output,L.kept.size,fun k hk _=>L.kept.blk k hk⟩;clear L s1 s2 s3 hS;go_wp2;go_ret3;exact⟨rfl,F.out.alloc _⟩
   cases hq
  cases hq
end Tok
open Go.RowKit
open Wire
namespace Tok
open Ev
variable [Inhabited (Nat→BA)]
theorem fns_of {m:Mp}{h:AH}{w:WL} (R:Rel prog 2 m h w) {v u:Value}{fns:List Wire.Fn} (hv:S1 m v u) (hr:rowL h v=some (fns.flatMap fnC)):FnsIn w u fns:=by
 unfold rowL at hr;split at hr
 ·rename_i b n c
  cases hb:Nat.ble n c with
  | false=>rw[hb] at hr;cases hr
  | true=>
   rw[hb] at hr;simp only[cond_true] at hr;obtain⟨p,hp,e⟩:=bind_some hr;obtain⟨x,c',rfl,h4,h5,h6⟩:=sliceAt' R hv.s3 hp;obtain⟨k1,k2,k3⟩:=cut_ok e;have hl:(fns.flatMap fnC).length=fns.length*3:=by rw[List.length_flatMap];simp[fnC,List.map_const']
   obtain rfl:n=fns.length:=by omega
   have hcap:fns.length≤c':=Nat.le_trans (Nat.le_of_ble_eq_true hb) h4;refine⟨_,c',x.b,0+x.s,rfl,hcap,fun _=>⟨rfl,h5⟩,fun i y hy=>?_⟩;have hi:=(Lgs.1 hy).1;have key:∀ (j:Nat) v,(fnC y)[j]?=some v→j<3→∃ u,w.cell? (Ad x.b (0+x.s+i*3+j))=some u∧S1 m v u:=fun j v hv hj=>by
    have:p.1[i*3+j]?=some v:=by
     rw[← Nat.zero_add (i*3+j),← k3 (i*3+j) (by omega),flat_get (f:=fnC) (z:=3) (fun _=>rfl) hy hj];exact hv
    obtain⟨u,hu,su⟩:=h6 _ _ this;exact⟨u,by rw[show 0+x.s+i*3+j=i*3+j+x.s by omega];exact hu,su⟩
   obtain⟨u0,hu0,s0⟩:=key 0 _ rfl (by omega);obtain⟨u1,hu1,s1⟩:=key 1 _ rfl (by omega);obtain⟨u2,hu2,s2⟩:=key 2 _ rfl (by omega);rw[S3.int s0.s3] at hu0;rw[S3.int s1.s3] at hu1;rw[S3.string s2.s3] at hu2;exact⟨hu0,hu1,hu2⟩
 cases hr
end Tok
end Go.Proofs.YtmolfmgchbjnbaaGreatDoor
