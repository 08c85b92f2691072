import Derived.Test.YtmolfmgchbjnbaaGreatDoorM29
set_option linter.unusedSimpArgs false
set_option linter.unusedVariables false
set_option linter.unusedSectionVars false
set_option maxRecDepth 100000
set_option maxHeartbeats 40000000
open _root_.Go.Proofs.Tryz
namespace Go.Proofs.YtmolfmgchbjnbaaGreatDoor
open Go.RowKit
open Wire
namespace Tok
theorem own_gr {W W':WL}{B:Nat}{e:TypeId}{z n:Nat}{v:Value}{xs:LV}{o:Option Nat} (h:W.ownsRow B e z v n xs) (hg:W.grownBy W' o) (hn:∀ b,o=some b→v.ownBlock≠some b):W'.ownsRow B e z v n xs:=by
 refine⟨h.1,?_⟩;rcases h.2 with h' | ⟨g,cap,cur,hv,hb,hh,r⟩
 ·exact .inl h'
 exact .inr ⟨g,cap,cur,hv,hb,by rw[hg.block g (Age.1 hh).1 (fun e=>hn g e.symm (by rw[hv];rfl))];exact hh,r⟩
theorem RC.txt {w:WL}{r:Nat}{s:BA}{a f:Nat}{xv tv:Value} (h:RC w r s a f xv tv) (u:Value):RC (w.setCell ⟨r,3,none⟩ u) r s a f u tv:=
 ⟨(setCell_off (by decide)).trans h.c0,(setCell_off (by decide)).trans h.c1,(setCell_off (by decide)).trans h.c2,cell_set h.c3,(setCell_off (by decide)).trans h.c4,by rw[wfz];exact h.f1,by rw[wfz];exact h.f2,by rw[wfz];exact h.f3,by rw[wfz];exact h.f4⟩
theorem wpList_appB {ops:Array Oper}{rest:List Oper}{o:Oper}{a:Act}{w w':WL}{Q:Exit→Act→WL→Prop} (hgd:o.guard=none) (s x:Operand) (t:TypeId) (ho:o.op=.call { callee:=.builtin .append,args:=#[s,x],argTypes:=#[t,t] }) (v u r:Value) (hs:a.eval s=v) (hx:a.eval x=u)
  (hr:(Builtin.append_ #[t,t] o.type #[v,u]).run prog w=.ok r w') (h:wpList prog ops Q rest (a.put o.dst r) w'):wpList prog ops Q (o :: rest) a w:=by
 refine wpList_plain hgd fun K hK=>?_;exact oper_appendB s x t ho v u r hs hx hr (hK _ _ h)
theorem wp_scopeK {P:Program}{a:Act}{w:WL}{Q:Exit→Act→WL→Prop}{g x:Code} (k:Nat) (J:Nat→Act→WL→Prop) (μ:Nat→Act→WL→Nat)
  (h0:findLabel (.seq g (.seq (.label k) x)) k=some (.seq .skip x))
  (first:g.wp P (Exit.then (J k) (ExJ J Q)) a w)
  (lab0:∀ a w,J k a w→x.wp P (ExJ (fun l' a' w'=>J l' a' w'∧μ l' a' w'<μ k a w) Q) a w)
  (hall:∀ l a w,l≠k→J l a w→∃ r,findLabel (.seq g (.seq (.label k) x)) l=some r∧r.wp P (ExJ (fun l' a' w'=>J l' a' w'∧μ l' a' w'<μ l a w) Q) a w):(Code.scope (.seq g (.seq (.label k) x))).wp P Q a w:=by
 refine wp_scopeJ J μ (wp_seq (wp_mono first fun e a w h=>?_)) (fun l a w h=>?_)
 ·cases e with
  | normal=>
   refine wp_seq (wp_label ?_);refine wp_mono (lab0 a w h) fun e a w h=>?_;cases e with
   | goto l=>exact h.1
   | _=>exact h
  | _=>exact h
 by_cases c:l=k
 ·subst c;exact⟨_,h0,wp_seq (wp_skip (lab0 a w h))⟩
 exact hall l a w c h
section
variable {w0 w:WL}{r:Nat}{s:BA}{a f:Nat}{L:List Tk}{D:LB}
theorem Rdx.app (K:Rdx w0 r s a f L D w)(hD:D.length<a)(x:UInt8){n:Int}(hn:n=(x.toNat:Int)):∃ so sc vo vc W3 W4,w.alloc (.cells #[.int .u8 n] 5)=W3∧w.cell? (Ad r 3)=some (.slice so D.length sc) ∧
  (Builtin.append_ #[92,92] 92 #[.slice so D.length sc,.slice (some (Ad w.heap.size 0)) 1 1]).run prog W3=.ok (.slice vo (D.length+1) vc) W4∧W4.cell? (Ad r 3)=some (.slice so D.length sc)∧W4.frozen? (Ad r 3)=false ∧
  Rdx w0 r s a f L (D++[x]) (W4.setCell ⟨r,3,none⟩ (.slice vo (D.length+1) vc)):=by
 subst hn;obtain⟨i0,hi,hz0,hz1,hz2⟩:=info_parts infoB5;obtain⟨xv,tv,hc,h1,h2,h3⟩:=K.c;have hle:=K.le;have hrl:r<w.heap.size:=lt_of_cell (a:=Ad r 0) hc.c0;have hw0:w0.heap.size≤r:=K.hr;obtain⟨so,sc,rfl⟩:=own_form h2;obtain⟨W3,hW3⟩:=eXi (w.alloc (.cells #[.int .u8 (x.toNat:Int)] 5));have F03:=frA hW3
 have hnews:=cells_new w #[.int .u8 (x.toNat:Int)] 5;rw[hW3] at hnews;have own3:W3.ownsRow (r+1) 5 1 (.slice so D.length sc) D.length (D.map bv):=own_fr h2 F03 (by simp);have hsz3:=F03.size;obtain⟨v',W4,hr4,hown',hgrow,-,hwh⟩:=run_append_own_at (P:=prog) (w:=W3) (r+1) 92 92 5 i0 _ 1 1 underlying92 hi hz0 hz1 hz2 rfl (by decide) _ _ _ own3 (Ad w.heap.size 0) 1 1 [.int .u8 (x.toNat:Int)] rfl hnews (by intro u hu;simp at hu;subst hu;rfl) (by unfold maxLen;omega) (by omega) (by omega);obtain⟨vo,vc,rfl⟩:=own_form hown';have hnr:(Value.slice so D.length sc).ownBlock≠some r:=fun e=>by have:=(own3.lt r e).1;omega
 have C4:RC W4 r s a f (.slice so D.length sc) tv:=(hc.of_block (F03.block r hrl (by simp))).of_block (hgrow.block r (by omega) (fun e=>hnr e.symm));have F4:Fr [] w0 W4:=by
  have g:=K.fr.trans F03;exact⟨hgrow.os.trans g.os,hgrow.tape.trans g.tape,hgrow.output.trans g.output,Nat.le_trans g.size hgrow.size,fun j hj _=>(hgrow.block j (by have:=g.size;omega) (fun e=>by have:=(own3.lt j e.symm).1;omega)).trans (g.block j hj (by simp))⟩
 have t3:W3.ownsRow (r+1) 88 4 tv L.length (L.flatMap tkC):=own_fr h1 F03 (by simp);have t4:=own_gr t3 hgrow h3;have F:Fr [r] W4 (W4.setCell ⟨r,3,none⟩ (.slice vo (D.length+1) vc)):=(Fr.refl [r] W4).setCell (p:=⟨r,3,none⟩) (.inl (by simp)) _;refine⟨so,sc,vo,vc,W3,W4,hW3,hc.c3,hr4,C4.c3,C4.f3,⟨_,tv,C4.txt _,own_fr t4 F (by simp),?_,fun b hb=>?_⟩,⟨hle.1,hle.2.1,hle.2.2.1,hle.2.2.2.1,by simp;omega⟩,F4.setCell (p:=⟨r,3,none⟩) (.inr hw0) _,hw0⟩
 ·have:=own_fr hown' F (by simp);rw[Lla,List.map_append];exact this
 rcases hwh with e | e
 ·rw[e] at hb;exact h3 b hb
 rw[e] at hb;cases hb;intro e2;have:=(t3.lt _ e2).2;omega
def FmX (r:Nat) (a:Act):Prop:=∃ (u1 u2 u3 u4 u5 u6 u7 u8 u9 u10 u11 u12 u13 u14 u15 u16 u17 u18 u19 u20 u21 u22 u23 u24 u25 u26 u27 u28 u29 u30 u31 u32 u33 u34 u35 u36 u37 u38 u39 u40 u41 u42 u43 u44 u45 u46 u47 u48 u49 u50 u51 u52 u53 u54 u55 u56 u57 u58 u59 u60 u61 u62 u63 u64 u65 u66 u67 u68 u69 u70 u71 u72:Value),a=⟨#[ptr r,u1,u2,u3,u4,u5,u6,u7,u8,u9,u10,u11,u12,u13,u14,u15,u16,u17,u18,u19,u20,u21,u22,u23,u24,u25,u26,u27,u28,u29,u30,u31,u32,u33,u34,u35,u36,u37,u38,u39,u40,u41,u42,u43,u44,u45,u46,u47,u48,u49,u50,u51,u52,u53,u54,u55,u56,u57,u58,u59,u60,u61,u62,u63,u64,u65,u66,u67,u68,u69,u70,u71,u72],[]⟩
def x0 (w0:WL) (r:Nat) (s:BA) (f e:Nat) (L:List Tk) (X:LB) (w:WL):Prop:=∃ a D T,Rdx w0 r s a f L D w∧D.length<a∧D++T=X∧Txt s T a e
def x1 (w0:WL) (r:Nat) (s:BA) (f e:Nat) (L:List Tk) (X:LB) (w:WL):Prop:=∃ a D x T,Rdx w0 r s a f L D w∧D.length<a∧D++x :: T=X∧Esc (lk s a) x∧Txt s T (a+1) e
def JX (w0:WL) (r:Nat) (s:BA) (f e:Nat) (L:List Tk) (X:LB):Nat→Act→WL→Prop
 | 1,a,w=>FmX r a∧x0 w0 r s f e L X w
 | 0,a,w=>FmX r a∧x1 w0 r s f e L X w
 | _,_,_=>False
def muX (r:Nat) (s:BA) (_:Nat) (_:Act) (w:WL):Nat:=s.size-atOf r w
theorem Rdx.mu (h:Rdx w0 r s a f L D w)(l:Nat)(u:Act):muX r s l u w=s.size-a:=by unfold muX;rw[h.rdr.atOf]
theorem passText_any {X:LB}{e:Nat} (h:Rdx w0 r s a f L [] w) (hq:lk s a=34) (hX:Txt s X (a+1) e) :
  Calls prog 83 #[.pointer (some (Ad r 0))] w fun z w'=>z=.returned (.bool true)∧Rdx w0 r s e f L X w':=by
 have hm:=hmX
 have hp:=pass_x h (lk_lt (by rw[hq];decide))
 have HX0:Hid _:=hX
 clear h hq hX
 go_enter func83,ntmps83
 go_wp2_with fail
 refine wp_scopeK 1 (JX w0 r s f e L X) (muX r s) rfl ?_ ?_ ?_
 ·go_wp2_with fail
  refine hp.mono ?_
  rintro z w1 ⟨rfl,K1⟩
  have HK:Hid _:=K1
  clear hp K1
  go_wp2
  exact⟨⟨_,_,_,_,_,_,_,_,_,_,_,_,_,_,_,_,_,_,_,_,_,_,_,_,_,_,_,_,_,_,_,_,_,_,_,_,_,_,_,_,_,_,_,_,_,_,_,_,_,_,_,_,_,_,_,_,_,_,_,_,_,_,_,_,_,_,_,_,_,_,_,_,rfl⟩,a+1,[],X,HK.out,by simp,rfl,HX0.out⟩
 ·clear hp HX0
  rintro u w1 ⟨⟨u1,u2,u3,u4,u5,u6,u7,u8,u9,u10,u11,u12,u13,u14,u15,u16,u17,u18,u19,u20,u21,u22,u23,u24,u25,u26,u27,u28,u29,u30,u31,u32,u33,u34,u35,u36,u37,u38,u39,u40,u41,u42,u43,u44,u45,u46,u47,u48,u49,u50,u51,u52,u53,u54,u55,u56,u57,u58,u59,u60,u61,u62,u63,u64,u65,u66,u67,u68,u69,u70,u71,u72,rfl⟩,a,D,T,K,hD,hX,hT⟩
  have hal:=txt_lt hT
  have hp:=pass_x K hal
  have HM0:Hid (∀ u,muX r s 1 u w1=s.size-a):=fun u=>K.mu 1 u
  have HM:Hid (∀ {l:Nat}{D':LB}{w':WL} (u:Act),Rdx w0 r s (a+1) f L D' w'→muX r s l u w'<s.size-a):=fun u h=>by rw[h.mu];omega
  clear K
  go_wp2_with fail
  refine hp.mono ?_
  rintro z w2 ⟨rfl,K1⟩
  clear hp
  cases T with
  | nil=>
   obtain⟨t1,rfl⟩:=hT
   rw[t1]
   rw[List.append_nil] at hX
   have HK:Hid _:=K1
   have HX:Hid _:=hX
   clear K1 hX
   go_wp2
   simp only[ExJ]
   go_ret
   exact⟨rfl,by rw[← HX.out];exact HK.out⟩
  | cons x T=>
   rcases hT with ⟨t1,t2,t3,t4,t5⟩ | ⟨t1,t2,t3⟩
   ·rw[t1]
    have hxl:=x.toNat_lt
    have g1:((x.toNat:Int) == -1)=false:=by simp
    have g2:((x.toNat:Int)==10)=false:=by
     simp only[beq_eq_false_iff_ne,ne_eq];intro q;exact t4 (UInt8.toNat.inj (by simpa using (by omega:x.toNat=10)))
    have g3:((x.toNat:Int)==34)=false:=by
     simp only[beq_eq_false_iff_ne,ne_eq];intro q;exact t2 (UInt8.toNat.inj (by simpa using (by omega:x.toNat=34)))
    have g4:((x.toNat:Int)==92)=false:=by
     simp only[beq_eq_false_iff_ne,ne_eq];intro q;exact t3 (UInt8.toNat.inj (by simpa using (by omega:x.toNat=92)))
    have g5:(x.toNat:Int) % 256=(x.toNat:Int):=by omega
    have HX:Hid _:=hX
    have HT:Hid _:=t5
    clear t1 t2 t3 t4 t5 hX
    have K9:=K1.app (by omega) x (n:=(x.toNat:Int)) rfl
    obtain⟨so,sc,vo,vc,W3,W4,hW3,c30,hr4,c44,f44,FI⟩:=K9
    have Hr4:Hid _:=hr4
    have FIN:Hid _:=FI
    have hbs:=buildS_b (x.toNat:Int)
    have eM:=K1.le
    clear hr4 FI K1
    go_wp2_with (at_builtin;refine wpList_appB rfl (.tmp 13) (.tmp 16) 92 rfl _ _ _ rfl rfl Hr4.out ?_)
    go_wp2
    go_step3
    try simp only[Exit.inBlock,Exit.then,ExJ]
    exact⟨⟨⟨_,_,_,_,_,_,_,_,_,_,_,_,_,_,_,_,_,_,_,_,_,_,_,_,_,_,_,_,_,_,_,_,_,_,_,_,_,_,_,_,_,_,_,_,_,_,_,_,_,_,_,_,_,_,_,_,_,_,_,_,_,_,_,_,_,_,_,_,_,_,_,_,rfl⟩,a+1,D++[x],T,FIN.out,by simp;omega,by simpa using HX.out,HT.out⟩,by rw[HM0.out];exact HM.out _ FIN.out⟩
   ·rw[t1]
    have HF:Hid (x1 w0 r s f e L X w2):=⟨a+1,D,x,T,K1,by omega,hX,t2,t3⟩
    have HK:Hid _:=K1
    clear K1 hX t2 t3
    go_wp2
    go_step3
    try simp only[Exit.inBlock,Exit.then,ExJ]
    exact⟨⟨⟨_,_,_,_,_,_,_,_,_,_,_,_,_,_,_,_,_,_,_,_,_,_,_,_,_,_,_,_,_,_,_,_,_,_,_,_,_,_,_,_,_,_,_,_,_,_,_,_,_,_,_,_,_,_,_,_,_,_,_,_,_,_,_,_,_,_,_,_,_,_,_,_,rfl⟩,HF.out⟩,by rw[HM0.out];exact HM.out _ HK.out⟩
 ·clear hp HX0
  intro l u w1 hl hJ
  match l,hl,hJ with
  | 1,hl,_=>exact absurd rfl hl
  | n+2,_,hJ=>exact hJ.elim
  | 0,_,hJ=>
   obtain⟨⟨u1,u2,u3,u4,u5,u6,u7,u8,u9,u10,u11,u12,u13,u14,u15,u16,u17,u18,u19,u20,u21,u22,u23,u24,u25,u26,u27,u28,u29,u30,u31,u32,u33,u34,u35,u36,u37,u38,u39,u40,u41,u42,u43,u44,u45,u46,u47,u48,u49,u50,u51,u52,u53,u54,u55,u56,u57,u58,u59,u60,u61,u62,u63,u64,u65,u66,u67,u68,u69,u70,u71,u72,rfl⟩,a,D,x,T,K,hD,hX,hE,hT⟩:=hJ
   refine⟨_,rfl,?_⟩
   have hal:a<s.size:=lk_lt (by rcases hE with ⟨q,-⟩ | ⟨q,-⟩ | ⟨q,-⟩ | ⟨q,-⟩ <;> rw[q] <;> decide)
   have hp:=pass_x K hal
   have HM0:Hid (∀ u,muX r s 0 u w1=s.size-a):=fun u=>K.mu 0 u
   have HM:Hid (∀ {l:Nat}{D':LB}{w':WL} (u:Act),Rdx w0 r s (a+1) f L D' w'→muX r s l u w'<s.size-a):=fun u h=>by rw[h.mu];omega
   have HX:Hid _:=hX
   have HT:Hid _:=hT
   clear K hX hT
   go_wp2_with fail
   refine hp.mono ?_
   rintro z w2 ⟨rfl,K1⟩
   clear hp
   rcases hE with ⟨q,rfl⟩ | ⟨q,rfl⟩ | ⟨q,rfl⟩ | ⟨q,rfl⟩
   ·rw[q]
    have K9:=K1.app (by omega) 10 (n:=10) rfl
    obtain⟨so,sc,vo,vc,W3,W4,hW3,c30,hr4,c44,f44,FI⟩:=K9
    have Hr4:Hid _:=hr4
    have FIN:Hid _:=FI
    have hbs:=buildS_b 10
    have eM:=K1.le
    clear hr4 FI K1
    go_wp2_with (at_builtin;refine wpList_appB rfl (.tmp 35) (.tmp 36) 92 rfl _ _ _ rfl rfl Hr4.out ?_)
    go_wp2
    go_step3
    try simp only[Exit.inBlock,Exit.then,ExJ]
    exact⟨⟨⟨_,_,_,_,_,_,_,_,_,_,_,_,_,_,_,_,_,_,_,_,_,_,_,_,_,_,_,_,_,_,_,_,_,_,_,_,_,_,_,_,_,_,_,_,_,_,_,_,_,_,_,_,_,_,_,_,_,_,_,_,_,_,_,_,_,_,_,_,_,_,_,_,rfl⟩,a+1,D++[10],T,FIN.out,by simp;omega,by simpa using HX.out,HT.out⟩,by rw[HM0.out];exact HM.out _ FIN.out⟩
   ·rw[q]
    have K9:=K1.app (by omega) 9 (n:=9) rfl
    obtain⟨so,sc,vo,vc,W3,W4,hW3,c30,hr4,c44,f44,FI⟩:=K9
    have Hr4:Hid _:=hr4
    have FIN:Hid _:=FI
    have hbs:=buildS_b 9
    have eM:=K1.le
    clear hr4 FI K1
    go_wp2_with (at_builtin;refine wpList_appB rfl (.tmp 46) (.tmp 47) 92 rfl _ _ _ rfl rfl Hr4.out ?_)
    go_wp2
    go_step3
    try simp only[Exit.inBlock,Exit.then,ExJ]
    exact⟨⟨⟨_,_,_,_,_,_,_,_,_,_,_,_,_,_,_,_,_,_,_,_,_,_,_,_,_,_,_,_,_,_,_,_,_,_,_,_,_,_,_,_,_,_,_,_,_,_,_,_,_,_,_,_,_,_,_,_,_,_,_,_,_,_,_,_,_,_,_,_,_,_,_,_,rfl⟩,a+1,D++[9],T,FIN.out,by simp;omega,by simpa using HX.out,HT.out⟩,by rw[HM0.out];exact HM.out _ FIN.out⟩
   ·rw[q]
    have K9:=K1.app (by omega) 34 (n:=34) rfl
    obtain⟨so,sc,vo,vc,W3,W4,hW3,c30,hr4,c44,f44,FI⟩:=K9
    have Hr4:Hid _:=hr4
    have FIN:Hid _:=FI
    have hbs:=buildS_b 34
    have eM:=K1.le
    clear hr4 FI K1
    go_wp2_with (at_builtin;refine wpList_appB rfl (.tmp 57) (.tmp 58) 92 rfl _ _ _ rfl rfl Hr4.out ?_)
    go_wp2
    go_step3
    try simp only[Exit.inBlock,Exit.then,ExJ]
    exact⟨⟨⟨_,_,_,_,_,_,_,_,_,_,_,_,_,_,_,_,_,_,_,_,_,_,_,_,_,_,_,_,_,_,_,_,_,_,_,_,_,_,_,_,_,_,_,_,_,_,_,_,_,_,_,_,_,_,_,_,_,_,_,_,_,_,_,_,_,_,_,_,_,_,_,_,rfl⟩,a+1,D++[34],T,FIN.out,by simp;omega,by simpa using HX.out,HT.out⟩,by rw[HM0.out];exact HM.out _ FIN.out⟩
   ·rw[q]
    have K9:=K1.app (by omega) 92 (n:=92) rfl
    obtain⟨so,sc,vo,vc,W3,W4,hW3,c30,hr4,c44,f44,FI⟩:=K9
    have Hr4:Hid _:=hr4
    have FIN:Hid _:=FI
    have hbs:=buildS_b 92
    have eM:=K1.le
    clear hr4 FI K1
    go_wp2_with (at_builtin;refine wpList_appB rfl (.tmp 68) (.tmp 69) 92 rfl _ _ _ rfl rfl Hr4.out ?_)
    go_wp2
    go_step3
    try simp only[Exit.inBlock,Exit.then,ExJ]
    exact⟨⟨⟨_,_,_,_,_,_,_,_,_,_,_,_,_,_,_,_,_,_,_,_,_,_,_,_,_,_,_,_,_,_,_,_,_,_,_,_,_,_,_,_,_,_,_,_,_,_,_,_,_,_,_,_,_,_,_,_,_,_,_,_,_,_,_,_,_,_,_,_,_,_,_,_,rfl⟩,a+1,D++[92],T,FIN.out,by simp;omega,by simpa using HX.out,HT.out⟩,by rw[HM0.out];exact HM.out _ FIN.out⟩
end
end Tok
open Go.RowKit
open Wire
namespace Tok
theorem txt_end {s:BA}:∀ {T:LB}{a e:Nat},Txt s T a e→a<e∧e≤s.size
 | [],a,e,h=>by
  have:=txt_lt (T:=[]) h
  have:=h.2
  omega
 | x :: T,a,e,h=>by
  rcases h with h | h
  ·have:=txt_end h.2.2.2.2
   omega
  ·have:=txt_end h.2.2
   omega
section
variable {w0 w:WL}{r:Nat}{s:BA}{a f:Nat}{L:List Tk}{X:LB}
def TxtP (w0:WL) (r:Nat) (s:BA) (a f:Nat) (L:List Tk) (X:LB) (e:Ending) (w':WL):Prop:=
 if X.length≤100 then e=.returned (.bool true)∧Rdr w0 r s a f (L++[⟨textK,f,0,⟨X.toArray⟩⟩]) w' else e=.returned (.bool false)∧Rdr w0 r s a f L w'
theorem conv_x {W:WL}{B:Nat}{so:OA}{sc:Nat} (h:W.ownsRow B 5 1 (.slice so X.length sc) X.length (X.map bv)):(convert 92 9 (.slice so X.length sc)).run prog W=.ok (.string ⟨X.toArray⟩) W:=by
 rcases h.2 with ⟨hv,hz⟩ | ⟨g,cap,cur,hv,_⟩
 ·obtain rfl:=List.eq_nil_of_length_eq_zero hz;cases hv;kernel_rfl
 cases hv;exact conv_bytes W g _ X.length X rfl (fun j hj=>own_cell h (by simp[Lib.byteCells,bv,List.getElem?_map,Lge hj]))
theorem addText_any (h:Rdx w0 r s a f L X w)(hL:L.length<100000):Calls prog 84 #[.pointer (some (Ad r 0))] w (TxtP w0 r s a f L X):=by
 obtain⟨xv,tv,⟨c0,c1,c2,c3,c4,f1,f2,f3,f4⟩,-,hx,-⟩:=id h.c;have HR:Hid _:=h.rdr;have hle:=h.le;obtain⟨so,sc,rfl⟩:=own_form hx;have HX:Hid _:=hx;have ha:=fun (W:WL) (K:Rdr w0 r s a f L W)=>add_any K hL textK ⟨X.toArray⟩ 0 0;have HA:Hid _:=ha;clear ha h;by_cases hl:X.length≤100
 ·have g1:¬ (100:Int)<X.length:=by omega
  have hcv:=conv_x hx;clear hx;go_enter func84,ntmps84;go_wp2_with fail;refine (HA.out _ HR.out).mono ?_;rintro e w1 ⟨rfl,K1⟩;have HK:Hid _:=K1;clear K1 hcv;go_wp2;go_ret;unfold TxtP;rw[if_pos hl];exact⟨rfl,HK.out⟩
 have g1:(100:Int)<X.length:=by omega
 clear hx;go_enter func84,ntmps84;go_wp2;go_ret;unfold TxtP;rw[if_neg hl];exact⟨rfl,HR.out⟩
end
end Tok
end Go.Proofs.YtmolfmgchbjnbaaGreatDoor
