import Derived.Test.YtmolfmgchbjnbaaGreatDoorM09
set_option linter.unusedSimpArgs false
set_option linter.unusedVariables false
set_option linter.unusedSectionVars false
set_option maxRecDepth 100000
set_option maxHeartbeats 40000000
open _root_.Go.Proofs.Tryz
namespace Go.Proofs.YtmolfmgchbjnbaaGreatDoor
open Go.RowKit
open Wire Flow Mach
section
variable {E:Env}{X:Nat}{g:Pl}{s:Ms}{W W':WL}{tag:NN}
abbrev PyH (E:Env) (X:Nat) (g:Pl) (s:Ms) (W:WL) (tag:NN) (f:Nat) (args:Array Value) (P:Ending→WL→Prop):Prop:=∀ (W1:WL) (t1:NN),MM E X g s W1 t1→Kp tag t1 W W1→Calls prog f args W1 P
abbrev Py0 (Q:Int→WL→Prop):Ending→WL→Prop:=fun e W'=>e=.returned unit∧Q 0 W'
abbrev Py1 (Q:Int→WL→Prop):Ending→WL→Prop:=fun e W'=>∃ st:Int,e=.returned (stI st)∧Q st W'
theorem MM.playD (h:MM E X g s W tag)(op:Nat)(pl a b q:Int){Q:Int→WL→Prop}(H:((0≤op∧op≤6)∧PyH E X g s W tag 116 #[ptr X,fp g s,inV (op:Nat) pl a b q] (Py0 Q))∨((7≤op∧op≤10)∧PyH E X g s W tag 117 #[ptr X,fp g s,.int .u8 (op:Nat)] (Py1 Q))∨((17≤op∧op≤17)∧PyH E X g s W tag 118 #[fp g s,iA q] (Py0 Q))∨((11≤op∧op≤16)∧PyH E X g s W tag 119 #[ptr X,fp g s,inV (op:Nat) pl a b q] (Py1 Q))∨((18≤op∧op≤22)∧PyH E X g s W tag 120 #[fp g s,.int .u8 (op:Nat)] (Py1 Q))∨((25≤op∧op≤25)∧PyH E X g s W tag 121 #[fp g s] (Py1 Q))∨((op=23∨op=24∨26≤op∧op≤28)∧PyH E X g s W tag 122 #[fp g s,.int .u8 (op:Nat)] (Py0 Q))∨((29≤op∧op≤34)∧PyH E X g s W tag 123 #[fp g s,.int .u8 (op:Nat)] (Py0 Q))∨((35≤op∧op≤38)∧PyH E X g s W tag 124 #[ptr X,fp g s,inV (op:Nat) pl a b q] (Py1 Q))∨((39≤op∧op≤41)∧PyH E X g s W tag 125 #[fp g s,.int .u8 (op:Nat)] (Py0 Q))∨((42≤op∧op≤44)∧PyH E X g s W tag 126 #[ptr X,fp g s,inV (op:Nat) pl a b q] (Py1 Q))∨((45≤op∧op≤47)∧PyH E X g s W tag 127 #[fp g s,.int .u8 (op:Nat)] (Py0 Q))∨((48≤op∧op≤53)∧PyH E X g s W tag 128 #[ptr X,fp g s,inV (op:Nat) pl a b q] (Py1 Q))) :
  Calls prog 65 #[ptr X,inV (op:Nat) pl a b q] W (Py1 Q):=by
 obtain⟨W1,hW1,F1,⟨b0,b1,b2,b3,b4⟩,l1⟩:=box5 W (op:Nat) pl a b q;obtain⟨t1,h1,k1,hb1⟩:=MM.box h F1;have hq:t1 W.heap.size<10:=by rw[hb1 _ (Nat.le_refl _)];decide
 have HB:Hid _:=fun (W2:WL) (t2:NN) (k:Kp t1 t2 W1 W2)=>AI ((k.cell (p:=Ad W.heap.size 0) l1 hq).trans b0) (AI ((k.cell (p:=Ad W.heap.size 1) l1 hq).trans b1) (AI ((k.cell (p:=Ad W.heap.size 2) l1 hq).trans b2) (AI ((k.cell (p:=Ad W.heap.size 3) l1 hq).trans b3) ((k.cell (p:=Ad W.heap.size 4) l1 hq).trans b4))));have HM1:Hid _:=AI h1 k1;have HF:Hid _:=fun (_:Unit)=>h1.frame;clear h h1 k1 F1 l1 hb1 hq b0 b1 b2 b3 b4;rcases H with ⟨ho,H⟩ | ⟨ho,H⟩ | ⟨ho,H⟩ | ⟨ho,H⟩ | ⟨ho,H⟩ | ⟨ho,H⟩ | ⟨ho,H⟩ | ⟨ho,H⟩ | ⟨ho,H⟩ | ⟨ho,H⟩ | ⟨ho,H⟩ | ⟨ho,H⟩ | ⟨ho,H⟩
 all_goals
  have HC:Hid _:=fun (_:Unit)=>H
  first | have e0:(op:Int)≤6:=by omega | have e0:¬ (op:Int)≤6:=by omega
  first | have e1:(op:Int)≤10:=by omega | have e1:¬ (op:Int)≤10:=by omega
  first | have e2:((op:Int)==17)=true:=by simp;omega | have e2:((op:Int)==17)=false:=by simp;omega
  first | have e3:(op:Int)≤16:=by omega | have e3:¬ (op:Int)≤16:=by omega
  first | have e4:(op:Int)≤22:=by omega | have e4:¬ (op:Int)≤22:=by omega
  first | have e5:((op:Int)==25)=true:=by simp;omega | have e5:((op:Int)==25)=false:=by simp;omega
  first | have e6:(op:Int)≤28:=by omega | have e6:¬ (op:Int)≤28:=by omega
  first | have e7:(op:Int)≤34:=by omega | have e7:¬ (op:Int)≤34:=by omega
  first | have e8:(op:Int)≤38:=by omega | have e8:¬ (op:Int)≤38:=by omega
  first | have e9:(op:Int)≤41:=by omega | have e9:¬ (op:Int)≤41:=by omega
  first | have e10:(op:Int)≤44:=by omega | have e10:¬ (op:Int)≤44:=by omega
  first | have e11:(op:Int)≤47:=by omega | have e11:¬ (op:Int)≤47:=by omega
  clear H;go_enter func65,ntmps65;go_wp2_with fail;refine (HF.out ()).mono ?_;rintro e W2 ⟨rfl,t2,h2,k2⟩;have HM2:Hid _:=AI h2 (HM1.out.2.trans k2);have HK2:Hid _:=k2;clear h2 k2 HF;obtain⟨b0,b1,b2,b3,b4⟩:=HB.out W2 t2 HK2.out;have HD:Hid _:=fun (_:Unit)=>HC.out () W2 t2 HM2.out.1 HM2.out.2;clear HB HK2 HC;go_wp2_with fail;refine (HD.out ()).mono ?_
  first | rintro e W3 ⟨rfl,hQ⟩ | rintro e W3 ⟨st,rfl,hQ⟩
  have HQ:Hid _:=hQ;clear hQ HD;go_wp2_with fail;go_ret;exact⟨_,rfl,HQ.out⟩
theorem MM.play62 (h:MM E X g s W tag)(op:Nat)(hop:0≤op∧op≤6)(pl a b q:Int){Q:Int→WL→Prop}(H:PyH E X g s W tag 116 #[ptr X,fp g s,inV (op:Nat) pl a b q] (Py0 Q)):Calls prog 65 #[ptr X,inV (op:Nat) pl a b q] W (Py1 Q):=h.playD op pl a b q (.inl ⟨hop,H⟩)
theorem MM.play63 (h:MM E X g s W tag)(op:Nat)(hop:7≤op∧op≤10)(pl a b q:Int){Q:Int→WL→Prop}(H:PyH E X g s W tag 117 #[ptr X,fp g s,.int .u8 (op:Nat)] (Py1 Q)):Calls prog 65 #[ptr X,inV (op:Nat) pl a b q] W (Py1 Q):=h.playD op pl a b q (.inr (.inl ⟨hop,H⟩))
theorem MM.play64 (h:MM E X g s W tag)(op:Nat)(hop:17≤op∧op≤17)(pl a b q:Int){Q:Int→WL→Prop}(H:PyH E X g s W tag 118 #[fp g s,iA q] (Py0 Q)):Calls prog 65 #[ptr X,inV (op:Nat) pl a b q] W (Py1 Q):=h.playD op pl a b q (.inr (.inr (.inl ⟨hop,H⟩)))
theorem MM.play65 (h:MM E X g s W tag)(op:Nat)(hop:11≤op∧op≤16)(pl a b q:Int){Q:Int→WL→Prop}(H:PyH E X g s W tag 119 #[ptr X,fp g s,inV (op:Nat) pl a b q] (Py1 Q)):Calls prog 65 #[ptr X,inV (op:Nat) pl a b q] W (Py1 Q):=h.playD op pl a b q (.inr (.inr (.inr (.inl ⟨hop,H⟩))))
theorem MM.play66 (h:MM E X g s W tag)(op:Nat)(hop:18≤op∧op≤22)(pl a b q:Int){Q:Int→WL→Prop}(H:PyH E X g s W tag 120 #[fp g s,.int .u8 (op:Nat)] (Py1 Q)):Calls prog 65 #[ptr X,inV (op:Nat) pl a b q] W (Py1 Q):=h.playD op pl a b q (.inr (.inr (.inr (.inr (.inl ⟨hop,H⟩)))))
theorem MM.play67 (h:MM E X g s W tag)(op:Nat)(hop:25≤op∧op≤25)(pl a b q:Int){Q:Int→WL→Prop}(H:PyH E X g s W tag 121 #[fp g s] (Py1 Q)):Calls prog 65 #[ptr X,inV (op:Nat) pl a b q] W (Py1 Q):=h.playD op pl a b q (.inr (.inr (.inr (.inr (.inr (.inl ⟨hop,H⟩))))))
theorem MM.play68 (h:MM E X g s W tag)(op:Nat)(hop:op=23∨op=24∨26≤op∧op≤28)(pl a b q:Int){Q:Int→WL→Prop}(H:PyH E X g s W tag 122 #[fp g s,.int .u8 (op:Nat)] (Py0 Q)):Calls prog 65 #[ptr X,inV (op:Nat) pl a b q] W (Py1 Q):=h.playD op pl a b q (.inr (.inr (.inr (.inr (.inr (.inr (.inl ⟨hop,H⟩)))))))
theorem MM.play69 (h:MM E X g s W tag)(op:Nat)(hop:29≤op∧op≤34)(pl a b q:Int){Q:Int→WL→Prop}(H:PyH E X g s W tag 123 #[fp g s,.int .u8 (op:Nat)] (Py0 Q)):Calls prog 65 #[ptr X,inV (op:Nat) pl a b q] W (Py1 Q):=h.playD op pl a b q (.inr (.inr (.inr (.inr (.inr (.inr (.inr (.inl ⟨hop,H⟩))))))))
theorem MM.play70 (h:MM E X g s W tag)(op:Nat)(hop:35≤op∧op≤38)(pl a b q:Int){Q:Int→WL→Prop}(H:PyH E X g s W tag 124 #[ptr X,fp g s,inV (op:Nat) pl a b q] (Py1 Q)):Calls prog 65 #[ptr X,inV (op:Nat) pl a b q] W (Py1 Q):=h.playD op pl a b q (.inr (.inr (.inr (.inr (.inr (.inr (.inr (.inr (.inl ⟨hop,H⟩)))))))))
theorem MM.play71 (h:MM E X g s W tag)(op:Nat)(hop:39≤op∧op≤41)(pl a b q:Int){Q:Int→WL→Prop}(H:PyH E X g s W tag 125 #[fp g s,.int .u8 (op:Nat)] (Py0 Q)):Calls prog 65 #[ptr X,inV (op:Nat) pl a b q] W (Py1 Q):=h.playD op pl a b q (.inr (.inr (.inr (.inr (.inr (.inr (.inr (.inr (.inr (.inl ⟨hop,H⟩))))))))))
theorem MM.play72 (h:MM E X g s W tag)(op:Nat)(hop:42≤op∧op≤44)(pl a b q:Int){Q:Int→WL→Prop}(H:PyH E X g s W tag 126 #[ptr X,fp g s,inV (op:Nat) pl a b q] (Py1 Q)):Calls prog 65 #[ptr X,inV (op:Nat) pl a b q] W (Py1 Q):=h.playD op pl a b q (.inr (.inr (.inr (.inr (.inr (.inr (.inr (.inr (.inr (.inr (.inl ⟨hop,H⟩)))))))))))
theorem MM.play73 (h:MM E X g s W tag)(op:Nat)(hop:45≤op∧op≤47)(pl a b q:Int){Q:Int→WL→Prop}(H:PyH E X g s W tag 127 #[fp g s,.int .u8 (op:Nat)] (Py0 Q)):Calls prog 65 #[ptr X,inV (op:Nat) pl a b q] W (Py1 Q):=h.playD op pl a b q (.inr (.inr (.inr (.inr (.inr (.inr (.inr (.inr (.inr (.inr (.inr (.inl ⟨hop,H⟩))))))))))))
theorem MM.play74 (h:MM E X g s W tag)(op:Nat)(hop:48≤op∧op≤53)(pl a b q:Int){Q:Int→WL→Prop}(H:PyH E X g s W tag 128 #[ptr X,fp g s,inV (op:Nat) pl a b q] (Py1 Q)):Calls prog 65 #[ptr X,inV (op:Nat) pl a b q] W (Py1 Q):=h.playD op pl a b q (.inr (.inr (.inr (.inr (.inr (.inr (.inr (.inr (.inr (.inr (.inr (.inr (⟨hop,H⟩)))))))))))))
end
theorem valC {c:Cell}(hp:c.list=false→c=cv c.v)(h:le (kd c) 97):∃ v,c=cv v:=⟨c.v,hp (kd_val (le_any h))⟩
theorem txtC {c:Cell}(hp:c.list=false→c=cv c.v)(h:le (kd c) 116):∃ v,c=cv v∧v.kind=2:=⟨c.v,hp (kd_txt (le_txt h)).1,(kd_txt (le_txt h)).2⟩
theorem numC {c:Cell}(hp:c.list=false→c=cv c.v)(h:le (kd c) 110):∃ v,c=cv v∧v.kind=1:=⟨c.v,hp (kd_num (le_num h)).1,(kd_num (le_num h)).2⟩
theorem text2 (E:Env){v:Val}(h:v.kind=2):textV E v=v.s:=by simp[textV,h]
theorem no_top {top:List Cell}(h:leS (top.map kd) []):top=[]:=by
 cases top with
 | nil=>rfl
 | cons=>exact h.elim
def EffR (E:Env) (X:Nat) (g:Pl) (s:Ms) (tag:NN) (W:WL) (rest:List Cell) (e:Eff) (st:Int) (W':WL):Prop:=
 st=(e.st:Nat)∧∃ s' t',MM E X g s' W' t'∧Kp tag t' W W'∧s'.st=s.st∧s'.used=s.used∧s'.w=e.w∧s'.code=(if e.st=0 then s.code else e.code)∧(e.st=0→s'.low=s.low∧s'.fr=⟨s.fr.f,e.go.getD s.fr.at_,e.locs,rest++e.top⟩)
section
variable {E:Env}{X:Nat}{g:Pl}{s:Ms}{W W':WL}{tag t1:NN}
theorem EffR.mk0 {rest:List Cell}{e:Eff}{s':Ms}{W1:WL}{v:Value}{ee:Ending}{W':WL} (k1:Kp tag t1 W W1) (h:MP E X g s' t1 W1 v ee W') (h0:e.st=0) (h1:s'.st=s.st∧s'.used=s.used∧s'.w=e.w∧s'.code=s.code∧s'.low=s.low∧s'.fr=⟨s.fr.f,e.go.getD s.fr.at_,e.locs,rest++e.top⟩):EffR E X g s tag W rest e 0 W':=by
 obtain⟨-,t',M,K⟩:=h;refine⟨by rw[h0];rfl,s',t',M,k1.trans K,h1.1,h1.2.1,h1.2.2.1,?_,fun _=>⟨h1.2.2.2.2.1,h1.2.2.2.2.2⟩⟩;rw[if_pos h0];exact h1.2.2.2.1
theorem EffR.mk1 {rest:List Cell}{e:Eff}{s':Ms}{W1:WL}{v:Value}{ee:Ending}{W':WL}{st:Int} (k1:Kp tag t1 W W1) (h:MP E X g s' t1 W1 v ee W') (h0:st=(e.st:Nat)) (hne:e.st≠0) (h1:s'.st=s.st∧s'.used=s.used∧s'.w=e.w∧s'.code=e.code):EffR E X g s tag W rest e st W':=by
 obtain⟨-,t',M,K⟩:=h;refine⟨h0,s',t',M,k1.trans K,h1.1,h1.2.1,h1.2.2.1,?_,fun h=>absurd h hne⟩;rw[if_neg hne];exact h1.2.2.2
structure Fnd (E:Env) (s:Ms) (op a:Nat) (rest top:List Cell):Prop where
 stk:s.fr.stk=rest++top
 hl:s.fr.stk.length≤1024
 takes:leS (top.map kd) (want (parOf E.mo) op a)
 high:rest.length+(give op (top.map kd)).length≤1024
 sm:∀ c ∈ top,SmC c
 pr:∀ c ∈ top,c.list=false→c=cv c.v
 w:SmW s.w
 code:s.code=0
 na:s.w.arrs.length≤1000
abbrev OpG (E:Env) (X:Nat) (g:Pl) (s:Ms) (W:WL) (tag:NN) (rest top:List Cell) (op a bb:Nat) (pl x y z:Int):Prop:=Calls prog 65 #[ptr X,inV (op:Int) pl x y z] W (fun e W'=>∃ st:Int,e=.returned (stI st)∧EffR E X g s tag W rest (eff E s.w s.fr.locs op a bb top) st W')
theorem op1 (hE:EnvOk E)(hS:SmE E)(h:MM E X g s W tag){a bb:Nat}{rest top:List Cell} (H:Fnd E s 1 a rest top) (ha:a<E.mo.texts.length) (pl q b:Int) :
  OpG E X g s W tag rest top 1 a bb pl (a:Nat) b q:=by
 have hstk:=H.stk;have hlen:=H.hl;have hhigh:=H.high;refine MM.play62 h 1 (by omega) pl _ _ _ (fun W1 t1 h1 k1=>?_);obtain rfl:=no_top H.takes;rw[List.append_nil] at hstk;have hl1:s.fr.stk.length<1024:=by rw[hstk];have:rest.length+1≤1024:=hhigh;omega
 obtain⟨t,ht⟩:∃ t,E.mo.texts[a]?=some t:=⟨_,Lge ha⟩;have e:E.mo.texts.getD a none0=t:=by rw[List.getD_eq_getElem?_getD,ht];rfl
 refine (MM.vstr h1 hl1 ht pl b q).mono (fun e' W' hp=>⟨hp.1,EffR.mk0 k1 hp rfl ⟨rfl,rfl,rfl,rfl,rfl,?_⟩⟩);show Frm.mk s.fr.f s.fr.at_ s.fr.locs (s.fr.stk++[cv (words t)])=⟨s.fr.f,s.fr.at_,s.fr.locs,rest++[cv (words (E.mo.texts.getD a none0))]⟩;rw[hstk,e]
theorem op5 (hE:EnvOk E)(hS:SmE E)(h:MM E X g s W tag){a bb:Nat}{rest top:List Cell} (H:Fnd E s 5 a rest top) (ha:a<s.w.globs.length) (pl q b:Int) :
  OpG E X g s W tag rest top 5 a bb pl (a:Nat) b q:=by
 have hstk:=H.stk;have hlen:=H.hl;have hhigh:=H.high;refine MM.play62 h 5 (by omega) pl _ _ _ (fun W1 t1 h1 k1=>?_);obtain rfl:=no_top H.takes;rw[List.append_nil] at hstk;have hl1:s.fr.stk.length<1024:=by rw[hstk];have:rest.length+1≤1024:=hhigh;omega
 exact (MM.vgload h1 hl1 ha pl b q).mono (fun e W' hp=>⟨hp.1,EffR.mk0 k1 hp rfl ⟨rfl,rfl,rfl,rfl,rfl,by show Frm.mk s.fr.f s.fr.at_ s.fr.locs (s.fr.stk++_)=_;rw[hstk];rfl⟩⟩)
theorem op6 (hE:EnvOk E)(hS:SmE E)(h:MM E X g s W tag){a bb:Nat}{rest top:List Cell} (H:Fnd E s 6 a rest top) (ha:a<s.w.globs.length) (pl q b:Int) :
  OpG E X g s W tag rest top 6 a bb pl (a:Nat) b q:=by
 have hstk:=H.stk;have hlen:=H.hl;have hhigh:=H.high;refine MM.play62 h 6 (by omega) pl _ _ _ (fun W1 t1 h1 k1=>?_);obtain⟨c,rfl,hc⟩:=one_top H.takes;obtain⟨v,rfl⟩:=valC (H.pr c (by simp)) hc;have sv:SmV v:=(H.sm (cv v) (by simp)).1;exact (MM.vgstore h1 hstk hlen ha pl b q).mono (fun e W' hp=>⟨hp.1,EffR.mk0 k1 hp rfl ⟨rfl,rfl,rfl,rfl,rfl,by show Frm.mk _ _ _ rest=Frm.mk _ _ _ (rest++[]);rw[List.append_nil];rfl⟩⟩)
end
section
variable {E:Env}{X:Nat}{g:Pl}{s:Ms}{W W':WL}{tag t1:NN}
end
section
variable {E:Env}{X:Nat}{g:Pl}{s:Ms}{W W':WL}{tag t1:NN}
theorem op27 (hE:EnvOk E)(hS:SmE E)(h:MM E X g s W tag){a bb:Nat}{rest top:List Cell} (H:Fnd E s 27 a rest top) (pl q b:Int) (q2:Int) :
  OpG E X g s W tag rest top 27 a bb pl q2 b q:=by
 have hstk:=H.stk;have hlen:=H.hl;have hhigh:=H.high;refine MM.play68 h 27 (by omega) pl _ _ _ (fun W1 t1 h1 k1=>?_);obtain⟨c,rfl,hc⟩:=one_top H.takes;obtain⟨v,rfl⟩:=valC (H.pr c (by simp)) hc;have sv:SmV v:=(H.sm (cv v) (by simp)).1;have e0:oneV E 27 v=words (textV E v):=rfl;have hc:=MM.one hE h1 (op:=27) (by omega) hstk hlen sv;rw[e0] at hc;exact hc.mono fun e W' hp=>⟨hp.1,EffR.mk0 k1 hp rfl ⟨rfl,rfl,rfl,rfl,rfl,rfl⟩⟩
theorem op25 (hE:EnvOk E)(hS:SmE E)(h:MM E X g s W tag){a bb:Nat}{rest top:List Cell} (H:Fnd E s 25 a rest top) (pl q b:Int) (q2:Int) :
  OpG E X g s W tag rest top 25 a bb pl q2 b q:=by
 have hstk:=H.stk;have hlen:=H.hl;have hhigh:=H.high;refine MM.play67 h 25 (by omega) pl _ _ _ (fun W1 t1 h1 k1=>?_);obtain⟨c,d,rfl,hc,hd⟩:=two_top H.takes;obtain⟨u,rfl,ku⟩:=txtC (H.pr c (by simp)) hc;have su:SmV u:=(H.sm (cv u) (by simp)).1;have xu:(textV E u).size≤100:=textV_sm hS su;obtain⟨v,rfl,kv⟩:=txtC (H.pr d (by simp)) hd;have sv:SmV v:=(H.sm (cv v) (by simp)).1;have xv:(textV E v).size≤100:=textV_sm hS sv;have hc:=MM.cat hE h1 hstk hlen su sv xu xv;rw[text2 E ku,text2 E kv] at hc;by_cases c:u.s.size+v.s.size>100
 ·have he:eff E s.w s.fr.locs 25 a bb [cv u,cv v]=.bad s.w s.fr.locs 6:=if_pos c;rw[he];rw[if_pos c,if_pos c] at hc;exact hc.mono fun e W' hp=>⟨6,hp.1,EffR.mk1 k1 hp rfl (show (6:Nat)≠0 by decide) ⟨rfl,rfl,rfl,H.code⟩⟩
 have he:eff E s.w s.fr.locs 25 a bb [cv u,cv v]=.put s.w s.fr.locs (words (u.s++v.s)):=if_neg c;rw[he];rw[if_neg c,if_neg c] at hc;exact hc.mono fun e W' hp=>⟨0,hp.1,EffR.mk0 k1 hp rfl ⟨rfl,rfl,rfl,rfl,rfl,rfl⟩⟩
theorem op29 (hE:EnvOk E)(hS:SmE E)(h:MM E X g s W tag){op a bb:Nat}(ho:op=29∨op=30∨op=31∨op=32∨op=33∨op=34){rest top:List Cell}(H:Fnd E s op a rest top)(pl q b:Int)(q2:Int) :
  OpG E X g s W tag rest top op a bb pl q2 b q:=by
 have hstk:=H.stk;have hlen:=H.hl;refine MM.play69 h op (by omega) pl _ _ _ (fun W1 t1 h1 k1=>?_);have hw:leS (top.map kd) [97,97]:=by
  have:=H.takes;rcases ho with rfl | rfl | rfl | rfl | rfl | rfl <;> exact this
 obtain⟨c,d,rfl,hc,hd⟩:=two_top hw;obtain⟨u,rfl⟩:=valC (H.pr c (by simp)) hc;have su:SmV u:=(H.sm (cv u) (by simp)).1;obtain⟨v,rfl⟩:=valC (H.pr d (by simp)) hd;have sv:SmV v:=(H.sm (cv v) (by simp)).1;have hc:=MM.compare hE h1 (op:=op) (by omega) hstk hlen su sv;rcases ho with rfl | rfl | rfl | rfl | rfl | rfl <;> exact hc.mono fun e W' hp=>⟨hp.1,EffR.mk0 k1 hp rfl ⟨rfl,rfl,rfl,rfl,rfl,rfl⟩⟩
theorem op39 (hE:EnvOk E)(hS:SmE E)(h:MM E X g s W tag){a bb:Nat}{rest top:List Cell} (H:Fnd E s 39 a rest top) (pl q b:Int) (q2:Int) :
  OpG E X g s W tag rest top 39 a bb pl q2 b q:=by
 have hstk:=H.stk;have hlen:=H.hl;have hhigh:=H.high;refine MM.play71 h 39 (by omega) pl _ _ _ (fun W1 t1 h1 k1=>?_);obtain⟨c,rfl,hc⟩:=one_top H.takes;obtain⟨v,rfl,kv⟩:=txtC (H.pr c (by simp)) hc;have sv:SmV v:=(H.sm (cv v) (by simp)).1;have xv:(textV E v).size≤100:=textV_sm hS sv;have hc:=MM.len hE h1 hstk hlen sv;rw[text2 E kv] at hc;exact hc.mono fun e W' hp=>⟨hp.1,EffR.mk0 k1 hp rfl ⟨rfl,rfl,rfl,rfl,rfl,rfl⟩⟩
theorem op45 (hE:EnvOk E)(hS:SmE E)(h:MM E X g s W tag){a bb:Nat}{rest top:List Cell} (H:Fnd E s 45 a rest top) (pl q b:Int) (q2:Int) :
  OpG E X g s W tag rest top 45 a bb pl q2 b q:=by
 have hstk:=H.stk;have hlen:=H.hl;have hhigh:=H.high;refine MM.play73 h 45 (by omega) pl _ _ _ (fun W1 t1 h1 k1=>?_);obtain⟨c,rfl,hc⟩:=one_top H.takes;obtain⟨v,rfl⟩:=valC (H.pr c (by simp)) hc;have sv:SmV v:=(H.sm (cv v) (by simp)).1;have hl1:s.fr.stk.length<1024:=by rw[hstk,Lla];have:rest.length+2≤1024:=hhigh;simp;omega
 exact (MM.dup h1 hstk hl1).mono fun e W' hp=>⟨hp.1,EffR.mk0 k1 hp rfl ⟨rfl,rfl,rfl,rfl,rfl,rfl⟩⟩
theorem op47 (hE:EnvOk E)(hS:SmE E)(h:MM E X g s W tag){a bb:Nat}{rest top:List Cell} (H:Fnd E s 47 a rest top) (pl q b:Int) (q2:Int) :
  OpG E X g s W tag rest top 47 a bb pl q2 b q:=by
 have hstk:=H.stk;have hlen:=H.hl;have hhigh:=H.high;refine MM.play73 h 47 (by omega) pl _ _ _ (fun W1 t1 h1 k1=>?_);obtain⟨c,rfl,hc⟩:=one_top H.takes;refine (MM.drop h1 hstk hlen).mono fun e W' hp=>⟨hp.1,EffR.mk0 k1 hp rfl ⟨rfl,rfl,rfl,rfl,rfl,?_⟩⟩;show Frm.mk _ _ _ rest=Frm.mk _ _ _ (rest++[]);rw[List.append_nil];rfl
end
section
variable {E:Env}{X:Nat}{g:Pl}{s:Ms}{W W':WL}{tag t1:NN}
theorem txts_top {top:List Cell}{n:Nat} (h:leS (top.map kd) (List.replicate n 116)) (hp:∀ c ∈ top,c.list=false→c=cv c.v):∃ vs:List Val,top=vs.map cv∧vs.length=n∧∀ v ∈ vs,v.kind=2:=by
 induction top generalizing n with
 | nil=>
  cases n with
  | zero=>exact⟨[],rfl,rfl,by simp⟩
  | succ n=>exact h.elim
 | cons c top ih=>
  cases n with
  | zero=>exact h.elim
  | succ n=>
   have h':le (kd c) 116∧leS (top.map kd) (List.replicate n 116):=h;obtain⟨v,rfl,hv⟩:=txtC (hp c (by simp)) h'.1;obtain⟨vs,rfl,hl,hk⟩:=ih h'.2 fun c hc=>hp c (by simp[hc]);exact⟨v :: vs,rfl,by simp[hl],fun u hu=>by
    rcases List.mem_cons.1 hu with rfl | hu
    ·exact hv
    exact hk u hu⟩
theorem op44 (hE:EnvOk E)(hS:SmE E)(h:MM E X g s W tag){a bb:Nat}{rest top:List Cell} (H:Fnd E s 44 a rest top) (pl q b:Int) :
  OpG E X g s W tag rest top 44 a bb pl (a:Nat) b q:=by
 have hstk:=H.stk;have hlen:=H.hl;have htk:leS (top.map kd) (List.replicate a 116):=H.takes;obtain⟨vs,rfl,hvl,hvk⟩:=txts_top htk H.pr;have hsm:∀ v ∈ vs,SmV v:=fun v hv=>(H.sm (cv v) (List.mem_map.2 ⟨v,hv,rfl⟩)).1;refine MM.play72 h 44 (by omega) pl _ _ _ (fun W1 t1 h1 k1=>?_);have hc:=MM.iprint hE h1 hstk hlen hsm (fun x hx=>by
  obtain⟨v,hv,rfl⟩:=List.mem_map.1 hx;exact Nat.le_trans (textV_sm hS (hsm v hv)) (by decide)) H.w.out pl b q
 rw[hvl] at hc;have et:vs.map (textV E)=(vs.map cv).map fun c=>c.v.s:=by
  rw[List.map_map];refine List.map_congr_left fun v hv=>?_;exact text2 E (hvk v hv)
 rw[et] at hc;by_cases c0:(printW s.w ((vs.map cv).map fun c=>c.v.s)).2=0
 ·refine hc.mono fun e W' hp=>⟨_,hp.1,?_⟩;rw[show ((printW s.w ((vs.map cv).map fun c=>c.v.s)).2:Int)=0 by rw[c0];rfl];refine EffR.mk0 k1 hp c0 ⟨rfl,rfl,rfl,rfl,rfl,?_⟩;show Frm.mk _ _ _ rest=Frm.mk _ _ _ (rest++[]);rw[List.append_nil];rfl
 exact hc.mono fun e W' hp=>⟨_,hp.1,EffR.mk1 k1 hp rfl c0 ⟨rfl,rfl,rfl,H.code⟩⟩
end
theorem operand_b {m:Mo}{f locs:Nat}{c:LB}{i:Nat}{s:Stp} (h:decodeL m f locs c i=.inr s) (h38:s.op=38):fitN m locs 6 s.b=true:=by
 unfold decodeL at h;split at h
 ·split at h
  ·rename_i h0
   simp only[Sum.inr.injEq] at h;subst h;simp only at h38;rw[h38] at h0;exact absurd h0 (by decide)
  split at h
  ·cases h
  split at h
  ·split at h
   ·cases h
   ·rename_i hop
    obtain⟨-,-,hf⟩:=operandL_next hop;simp only[Sum.inr.injEq] at h;subst h;exact hf
  ·rename_i hne
   simp only[Sum.inr.injEq] at h;subst h;exact absurd h38 hne
 cases h
def opB (op:Nat):Bool:=[1,5,6,25,27,31,39,44,45,47,52].contains op
structure Lim (E:Env):Prop where
 ops:∀ (f:Nat) (L:List Stp),f<E.mo.fns.length→Reads E.mo f (locsOf E.mo f) (codeOf E.mo f) L→∀ s ∈ L,opB s.op=true
 texts:E.mo.texts.length≤2000000000
 globs:E.mo.globs.toNat≤2000000000
 pats:E.mo.pats.length≤2000000000
 arrs:E.mo.arrs.toNat≤1000
 locs:∀ f,f<E.mo.fns.length→locsOf E.mo f≤16
 spl:∀ p x:BA,x.size≤100→(E.spl p x).length≤1000000
structure Opd (E:Env) (s:Ms) (i:Stp) (t:Nat):Prop where
 mem:opB i.op=true
 fit:∀ sort,sortsT.getD i.op 0=sort→sort≠0→fitN E.mo (locsOf E.mo s.fr.f) sort i.a=true
 fitb:i.op=38→fitN E.mo (locsOf E.mo s.fr.f) 6 i.b=true
 go:far i.op=true→∀ L,Reads E.mo s.fr.f (locsOf E.mo s.fr.f) (codeOf E.mo s.fr.f) L→PlcAt E.mo s.fr.f L t i.a
 locs:s.fr.locs.length=locsOf E.mo s.fr.f
 l16:locsOf E.mo s.fr.f≤16
 arrs:s.w.arrs.length=E.mo.arrs.toNat
 globs:s.w.globs.length=E.mo.globs.toNat
section
variable {E:Env}{X:Nat}{g:Pl}{s:Ms}{W W':WL}{tag t1:NN}
theorem play_eff (hE:EnvOk E)(hS:SmE E)(hL:Lim E)(h:MM E X g s W tag){i:Stp}{t:Nat}{rest top:List Cell} (H:Fnd E s i.op i.a rest top) (O:Opd E s i t) (hop:i.op<54) (h50:i.op≠50) (h51:i.op≠51) (h52:i.op≠52) :
  Calls prog 65 #[ptr X,inV (i.op:Nat) (i.pl:Nat) (min i.a 2000000000:Nat) (min i.b 2000000000:Nat) (t:Nat)] W (fun e W'=>∃ st:Int,e=.returned (stI st)∧EffR E X g s tag W rest (eff E s.w s.fr.locs i.op i.a i.b top) st W'):=by
 obtain⟨pl,nx,op,a,b⟩:=i
 simp only at *
 match op,hop with
 | 1,_=>
  have hf:=fitN_iff (O.fit 2 rfl (by decide))
  simp[Flow.low,above] at hf
  have:=hL.texts
  rw[show min a 2000000000=a by omega]
  exact op1 hE hS h H hf _ _ _
 | 5,_=>
  have hf:=fitN_iff (O.fit 4 rfl (by decide))
  simp[Flow.low,above] at hf
  have:=hL.globs
  have:=O.globs
  rw[show min a 2000000000=a by omega]
  exact op5 hE hS h H (by omega) _ _ _
 | 6,_=>
  have hf:=fitN_iff (O.fit 4 rfl (by decide))
  simp[Flow.low,above] at hf
  have:=hL.globs
  have:=O.globs
  rw[show min a 2000000000=a by omega]
  exact op6 hE hS h H (by omega) _ _ _
 | 25,_=>
  exact op25 hE hS h H _ _ _ _
 | 27,_=>
  exact op27 hE hS h H _ _ _ _
 | 31,_=>
  exact op29 hE hS h (by decide) H _ _ _ _
 | 39,_=>
  exact op39 hE hS h H _ _ _ _
 | 44,_=>
  have hf:=fitN_iff (O.fit 8 rfl (by decide))
  simp[Flow.low,above] at hf
  rw[show min a 2000000000=a by omega]
  exact op44 hE hS h H _ _ _
 | 45,_=>
  exact op45 hE hS h H _ _ _ _
 | 47,_=>
  exact op47 hE hS h H _ _ _ _
 | 50,_=>exact absurd rfl h50
 | 51,_=>exact absurd rfl h51
 | 52,_=>exact absurd rfl h52
 | 0,_ | 2,_ | 3,_ | 4,_ | 7,_ | 8,_ | 9,_ | 10,_ | 11,_ | 12,_ | 13,_ | 14,_ | 15,_ | 16,_ | 17,_ | 18,_ | 19,_ | 20,_ | 21,_ | 22,_ | 23,_ | 24,_ | 26,_ | 28,_ | 29,_ | 30,_ | 32,_ | 33,_ | 34,_ | 35,_ | 36,_ | 37,_ | 38,_ | 40,_ | 41,_ | 42,_ | 43,_ | 46,_ | 48,_ | 49,_ | 53,_=>exact absurd (show false=true from O.mem) (by decide)
 | n+54,h=>exact absurd h (by omega)
end
def Pr (frs:List Frm):Prop:=∀ g ∈ frs,∀ c ∈ g.stk,c.list=false→c=cv c.v
theorem vals_top {top:List Cell}{n:Nat} (h:leS (top.map kd) (List.replicate n 97)) (hp:∀ c ∈ top,c.list=false→c=cv c.v):∃ vs:List Val,top=vs.map cv∧vs.length=n:=by
 induction top generalizing n with
 | nil=>
  cases n with
  | zero=>exact⟨[],rfl,rfl⟩
  | succ n=>exact h.elim
 | cons c top ih=>
  cases n with
  | zero=>exact h.elim
  | succ n=>
   have h':le (kd c) 97∧leS (top.map kd) (List.replicate n 97):=h;obtain⟨v,rfl⟩:=valC (hp c (by simp)) h'.1;obtain⟨vs,rfl,hl⟩:=ih h'.2 fun c hc=>hp c (by simp[hc]);exact⟨v :: vs,rfl,by simp[hl]⟩
def PlP (E:Env) (X:Nat) (g:Pl) (s:Ms) (tag:NN) (W:WL) (D:St) (st:Int) (W':WL):Prop:=
 st=(D.st:Nat)∧∃ g' s' t',MM E X g' s' W' t'∧Kp tag t' W W'∧g'.en=g.en∧s'.st=s.st∧s'.w=D.w∧s'.code=D.code∧s'.used=D.used∧(D.st=0→s'.low++[s'.fr]=D.frs)
def fetched (S:St) (low:List Frm) (fr:Frm) (i:Stp):Ms:=⟨S.w,low,⟨fr.f,i.nx,fr.locs,fr.stk⟩,S.st,S.code,S.used+1⟩
section
variable {E:Env}{X:Nat}{g:Pl}{W W':WL}{tag t1:NN}{S:St}{low:List Frm}{fr:Frm}{i:Stp}{rest top:List Cell}{t:Nat}
theorem found (hL:Lim E)(hG:Mach.Good E S)(hP:Pr S.frs)(hst:S.st=0)(hcode:S.code=0)(hR:Ready E S low fr i rest top):Fnd E (fetched S low fr i) i.op i.a rest top:=by
 obtain⟨hI,hF,-⟩:=hG.inv hst;have hfr:fr ∈ S.frs:=by rw[hR.frs];simp
 have hon:=hI.on fr (by rw[hR.frs];simp);have htop:∀ c ∈ top,c ∈ fr.stk:=fun c hc=>by rw[hR.stk];simp[hc]
 exact⟨hR.stk,hon.2,hR.takes,hR.high,fun c hc=>(hF fr hfr).2 c (htop c hc),fun c hc=>hP fr hfr c (htop c hc),hG.w,hcode,by show S.w.arrs.length≤1000;rw[hG.arrs];exact hL.arrs⟩
theorem chain_dec {m:Mo}{f locs:Nat}{c:LB}:∀ {l:List Stp}{i j:Nat},Chain m f locs c i l j→∀ s ∈ l,decodeL m f locs c s.pl=.inr s
 | [],_,_,_,s,hs=>by cases hs
 | a :: l,i,j,h,s,hs=>by
  rcases List.mem_cons.1 hs with rfl | hs
  ·rw[(decodeL_next h.1 h.2.1).1];exact h.2.1
  ·exact chain_dec h.2.2 s hs
theorem operands (hL:Lim E)(hG:Mach.Good E S)(hst:S.st=0)(hR:Ready E S low fr i rest top)(ht:far i.op=true→∀ L,Reads E.mo fr.f (locsOf E.mo fr.f) (codeOf E.mo fr.f) L→PlcAt E.mo fr.f L t i.a):Opd E (fetched S low fr i) i t:=by
 obtain⟨hI,hF,-⟩:=hG.inv hst;have hfr:fr ∈ S.frs:=by rw[hR.frs];simp
 obtain⟨h1,h2⟩:=hI.fns fr hfr;obtain⟨L,G,hLr,-,k,s,t',hs,hp,-⟩:=(hI.on fr (by rw[hR.frs];simp)).1;have hmem:=List.mem_of_getElem? hs;have hdec:=chain_dec hLr s hmem;rw[hp,hR.dec] at hdec;obtain rfl:=Sum.inr.inj hdec;exact⟨hL.ops _ L h1 hLr _ hmem,operand_call hR.dec,operand_b hR.dec,ht,h2,hL.locs _ h1,hG.arrs,hG.globs⟩
theorem play_does (hE:EnvOk E)(hS:SmE E)(hL:Lim E)(hM:ModOk E.mo)(hG:Mach.Good E S)(hP:Pr S.frs)(hst:S.st=0)(hcode:S.code=0)(hR:Ready E S low fr i rest top)(h:MM E X g (fetched S low fr i) W tag)(ht:far i.op=true→∀ L,Reads E.mo fr.f (locsOf E.mo fr.f) (codeOf E.mo fr.f) L→PlcAt E.mo fr.f L t i.a)(h52:i.op≠52) :
  Calls prog 65 #[ptr X,inV (i.op:Nat) (i.pl:Nat) (min i.a 2000000000:Nat) (min i.b 2000000000:Nat) (t:Nat)] W (fun e W'=>∃ st:Int,e=.returned (stI st)∧PlP E X g (fetched S low fr i) tag W (does E S low fr i rest top) st W'):=by
 have H:=found hL hG hP hst hcode hR;have O:=operands (t:=t) hL hG hst hR ht;obtain⟨hI,hF,hlen21⟩:=hG.inv hst;have hop:=(decodeL_next hR.at_ hR.dec).2.2.2.2;have hop54:i.op<54:=by
  unfold mayOp at hop;simp at hop;exact hop.1.1
 by_cases h50:i.op=50
 ·obtain⟨ha3,haf⟩:=hR.call h50;have hD:does E S low fr i rest top=if 20<low.length+1 then { S with st:=9,used:=S.used+1 } else { S with used:=S.used+1,frs:=low++[⟨fr.f,i.nx,fr.locs,rest⟩,enter E.mo i.a (top.map Cell.v)] }:=by
   unfold does;rw[if_pos h50]
  rw[h50];by_cases c:20<low.length+1
  ·rw[if_pos c] at hD;rw[hD];refine MM.play74 h 50 (by omega) _ _ _ _ (fun W1 t1 h1 k1=>?_);refine (MM.fcallDeep h1 (show 20≤low.length by omega) _ _ _ _).mono fun e W' hp=>⟨9,hp.1,?_⟩;obtain⟨-,t',M,K⟩:=hp;exact⟨rfl,g,_,t',M,k1.trans K,rfl,rfl,rfl,rfl,rfl,fun h=>by cases h⟩
  rw[if_neg c] at hD;rw[hD];have htk:=H.takes;rw[h50] at htk;have htk':leS (top.map kd) (List.replicate (parOf E.mo i.a) 97):=htk;obtain⟨vs,rfl,hvl⟩:=vals_top htk' H.pr;obtain⟨gf,fc,-,hfn,-⟩:=h.fnAt haf;have hp16:vs.length≤16:=by
   have:=hM.par i.a haf;have:=hL.locs i.a haf;omega
  rw[show min i.a 2000000000=i.a by omega];refine MM.play74 h 50 (by omega) _ _ _ _ (fun W1 t1 h1 k1=>?_);refine (MM.fcall h1 (show low.length<20 by omega) haf H.stk H.hl hvl.symm hp16 _ _ _).mono fun e W' ⟨he,vb,t',M,K⟩=>⟨0,he,by show (0:Int)=(S.st:Nat);rw[hst];rfl,_,_,t',M,k1.trans K,rfl,rfl,rfl,rfl,rfl,fun _=>?_⟩;show (low++[Frm.mk fr.f i.nx fr.locs rest])++[enter E.mo i.a vs]=low++[Frm.mk fr.f i.nx fr.locs rest,enter E.mo i.a ((vs.map cv).map Cell.v)];have:(vs.map cv).map Cell.v=vs:=by
   rw[List.map_map];exact (List.map_congr_left fun v _=>rfl).trans (List.map_id vs)
  rw[this];simp
 by_cases h51:i.op=51
 ·have hlow:low≠[]:=by
   intro e;have h1:=hI.kinds low.length fr (by rw[hR.frs];simp);rw[e] at h1;have h3:fr.f<3:=h1.1 rfl;unfold mayOp at hop;rw[h51] at hop;simp at hop;omega
  obtain⟨lo,f,hlo⟩:∃ lo f,low=lo++[f]:=by
   rcases List.eq_nil_or_concat low with h0 | ⟨lo,f,h0⟩
   ·exact absurd h0 hlow
   exact⟨lo,f,by simpa using h0⟩
  have htk:=H.takes;rw[h51] at htk;obtain⟨c,rfl,hc⟩:=one_top (b:=97) htk;obtain⟨v,rfl⟩:=valC (H.pr c (by simp)) hc;have hD:does E S low fr i rest [cv v] = { S with used:=S.used+1,frs:=lo++[⟨f.f,f.at_,f.locs,f.stk++[cv v]⟩] }:=by
   unfold does;rw[if_neg h50,if_pos h51,hlo];simp;rfl
  rw[hD,h51];have hfl:f.stk.length<1024:=by
   have:=(hI.low f (by rw[hR.frs,hlo];simp)).2;omega
  refine MM.play74 h 51 (by omega) _ _ _ _ (fun W1 t1 h1 k1=>?_);refine (MM.fret h1 H.stk H.hl (lo:=lo) (f:=f) hlo hfl _ _ _ _).mono fun e W' hp=>⟨0,hp.1,?_⟩;obtain⟨-,t',M,K⟩:=hp;exact⟨by show (0:Int)=(S.st:Nat);rw[hst];rfl,g,_,t',M,k1.trans K,rfl,rfl,rfl,rfl,rfl,fun _=>rfl⟩
 refine (play_eff hE hS hL h H O hop54 h50 h51 h52).mono ?_;rintro e W' ⟨st,he,hst',s',t',M,K,e1,e2,e3,e4,e5⟩;refine⟨st,he,?_⟩;unfold does;rw[if_neg h50,if_neg h51,if_neg h52];have e3':s'.w=(eff E S.w fr.locs i.op i.a i.b top).w:=e3;have hst2:st=((eff E S.w fr.locs i.op i.a i.b top).st:Nat):=hst';by_cases c:(eff E S.w fr.locs i.op i.a i.b top).st≠0
 ·rw[if_pos c];refine⟨hst2,g,s',t',M,K,rfl,e1,e3',?_,e2,fun h0=>absurd h0 c⟩;rw[e4];exact if_neg c
 rw[if_neg c];have c':(eff E S.w fr.locs i.op i.a i.b top).st=0:=Decidable.not_not.1 c;refine⟨?_,g,s',t',M,K,rfl,e1,e3',?_,e2,fun _=>?_⟩
 ·rw[hst2,c',hst]
 ·rw[e4];exact if_pos c'
 obtain⟨q1,q2⟩:=e5 c';show s'.low++[s'.fr]=low++[_];rw[q1,q2];rfl
end
theorem pr_cv (v:Val):∀ c ∈ [cv v],c.list=false→c=cv c.v:=by
 intro c hc _;simp only[List.mem_singleton] at hc;subst hc;rfl
theorem pr_nil:∀ c ∈ ([]:List Cell),c.list=false→c=cv c.v:=by
 intro c hc;cases hc
theorem pr_get {top:List Cell}(h:∀ c ∈ top,c.list=false→c=cv c.v)(i:Nat)(hl:(top.getD i c0).list=false):top.getD i c0=cv (top.getD i c0).v:=by
 rw[List.getD_eq_getElem?_getD] at hl ⊢;cases hq:top[i]? with
 | none=>rfl
 | some c=>
  rw[hq] at hl;exact h c (List.mem_of_getElem? hq) hl
theorem eff_pr {E:Env}{w:Wd}{locs:List Val}{op a b:Nat}{top:List Cell} (h:∀ c ∈ top,c.list=false→c=cv c.v):∀ c ∈ (eff E w locs op a b top).top,c.list=false→c=cv c.v:=by
 unfold eff;split <;> (try exact pr_cv _) <;> (try exact pr_nil)
 ·split
  ·exact pr_cv _
  split
  ·exact pr_nil
  exact pr_cv _
 ·split <;> exact pr_nil
 ·intro c hc hl;simp only[List.mem_singleton] at hc;subst hc;cases hl
 ·split
  ·exact pr_nil
  intro c hc hl;simp only[List.mem_cons,List.not_mem_nil,or_false] at hc;rcases hc with rfl | rfl
  ·cases hl
  rfl
 ·split
  ·exact pr_nil
  exact pr_cv _
 ·split
  ·exact pr_nil
  exact pr_cv _
 ·split
  ·exact pr_nil
  exact pr_cv _
 ·split <;> exact pr_cv _
 ·intro c hc hl;simp only[List.mem_cons,List.not_mem_nil,or_false] at hc;rcases hc with rfl | rfl <;> exact pr_get h 0 hl
 intro c hc hl;simp only[List.mem_cons,List.not_mem_nil,or_false] at hc;rcases hc with rfl | rfl | rfl
 ·exact pr_get h 1 hl
 ·exact pr_get h 0 hl
 exact pr_get h 1 hl
def hd (frs:List Frm):Option Nat:=frs.head?.map Frm.f
theorem hd_cons (low:List Frm)(f f':Frm)(l l':List Frm)(h:f.f=f'.f):hd (low++f :: l)=hd (low++f' :: l'):=by
 cases low with
 | nil=>simp[hd,h]
 | cons a low=>simp[hd]
theorem pr_enter (m:Mo)(f:Nat)(args:List Val):∀ c ∈ (enter m f args).stk,c.list=false→c=cv c.v:=pr_nil
theorem Pr.does {E:Env}{S:St}{low:List Frm}{fr:Frm}{i:Stp}{rest top:List Cell} (hP:Pr S.frs) (hR:Ready E S low fr i rest top):Pr (does E S low fr i rest top).frs:=by
 have hlow:∀ g ∈ low,∀ c ∈ g.stk,c.list=false→c=cv c.v:=fun g hg=>hP g (by rw[hR.frs];simp[hg]);have hfr:∀ c ∈ fr.stk,c.list=false→c=cv c.v:=hP fr (by rw[hR.frs];simp);have hrest:∀ c ∈ rest,c.list=false→c=cv c.v:=fun c hc=>hfr c (by rw[hR.stk];simp[hc]);have htop:∀ c ∈ top,c.list=false→c=cv c.v:=fun c hc=>hfr c (by rw[hR.stk];simp[hc]);unfold Mach.does;split
 ·split
  ·exact hP
  intro g hg;rcases List.mem_append.1 hg with hg | hg
  ·exact hlow g hg
  simp only[List.mem_cons,List.not_mem_nil,or_false] at hg;rcases hg with rfl | rfl
  ·exact hrest
  exact pr_enter _ _ _
 split
 ·split
  ·exact hP
  ·rename_i g0 hg0
   intro g hg;rcases List.mem_append.1 hg with hg | hg
   ·exact hlow g (List.dropLast_subset low hg)
   simp only[List.mem_singleton] at hg;subst hg;intro c hc;rcases List.mem_append.1 hc with hc | hc
   ·exact hlow g0 (List.mem_of_getLast? hg0) c hc
   exact pr_cv _ c hc
 split
 ·unfold over;split
  ·exact hP
  split
  ·intro g hg;simp only[List.mem_singleton] at hg;subst hg;exact pr_enter _ _ _
  intro g hg;simp only[List.mem_singleton] at hg;subst hg;exact pr_enter _ _ _
 split
 ·exact hP
 intro g hg;rcases List.mem_append.1 hg with hg | hg
 ·exact hlow g hg
 simp only[List.mem_singleton] at hg;subst hg;intro c hc;rcases List.mem_append.1 hc with hc | hc
 ·exact hrest c hc
 exact eff_pr htop c hc
theorem hd_does {E:Env}{S:St}{low:List Frm}{fr:Frm}{i:Stp}{rest top:List Cell} (hR:Ready E S low fr i rest top) (h52:i.op≠52):hd (Mach.does E S low fr i rest top).frs=hd S.frs:=by
 unfold Mach.does;split
 ·split
  ·rfl
  rw[hR.frs];exact hd_cons low _ _ _ _ rfl
 split
 ·split
  ·rfl
  ·rename_i g0 hg0
   rw[hR.frs];obtain⟨lo,e⟩:∃ lo,low=lo++[g0]:=by
    obtain⟨h1,h2⟩:=List.getLast?_eq_some_iff.1 hg0;exact⟨h1,h2⟩
   rw[e,List.dropLast_concat,List.append_assoc];exact hd_cons lo _ _ _ _ rfl
 split
 ·rfl
 rw[hR.frs];exact hd_cons low _ _ _ _ rfl
theorem code_does {E:Env}{S:St}{low:List Frm}{fr:Frm}{i:Stp}{rest top:List Cell} (hc:S.code=0) (hR:Ready E S low fr i rest top) (h0:(Mach.does E S low fr i rest top).st=0) (hst:S.st=0):(Mach.does E S low fr i rest top).code=0:=by
 revert h0
 unfold Mach.does;split
 ·split
  ·intro h;cases h
  intro _;exact hc
 split
 ·split
  ·intro _;exact hc
  intro _;exact hc
 split
 ·unfold over;split
  ·intro h;cases h
  split
  ·intro _;exact hc
  intro _;exact hc
 split
 ·rename_i hne
  intro h;exact absurd h hne
 intro _;exact hc
open Go Go.RowKit
def J4 (j0 j1 j2 j3:Act→WL→Prop):Nat→Act→WL→Prop
 | 0=>j0
 | 1=>j1
 | 2=>j2
 | 3=>j3
 | _=>fun _ _=>False
def ExJ (J:Nat→Act→WL→Prop) (Q:Exit→Act→WL→Prop):Exit→Act→WL→Prop
 | .goto l,a,w=>J l a w
 | e,a,w=>Q e a w
theorem wp_scope4 {P:Program}{a:Act}{w:WL}{Q:Exit→Act→WL→Prop}{c r0 r1 r2 r3:Code} (j0 j1 j2 j3:Act→WL→Prop) (μ:Nat→Act→WL→Nat)
  (h0:findLabel c 0=some r0) (h1:findLabel c 1=some r1) (h2:findLabel c 2=some r2) (h3:findLabel c 3=some r3)
  (first:c.wp P (ExJ (J4 j0 j1 j2 j3) Q) a w)
  (p0:∀ a w,j0 a w→r0.wp P (ExJ (fun l' a' w'=>J4 j0 j1 j2 j3 l' a' w'∧μ l' a' w'<μ 0 a w) Q) a w)
  (p1:∀ a w,j1 a w→r1.wp P (ExJ (fun l' a' w'=>J4 j0 j1 j2 j3 l' a' w'∧μ l' a' w'<μ 1 a w) Q) a w)
  (p2:∀ a w,j2 a w→r2.wp P (ExJ (fun l' a' w'=>J4 j0 j1 j2 j3 l' a' w'∧μ l' a' w'<μ 2 a w) Q) a w)
  (p3:∀ a w,j3 a w→r3.wp P (ExJ (fun l' a' w'=>J4 j0 j1 j2 j3 l' a' w'∧μ l' a' w'<μ 3 a w) Q) a w):(Code.scope c).wp P Q a w:=by
 have hall:∀ l a w,J4 j0 j1 j2 j3 l a w→∃ r,findLabel c l=some r∧r.wp P (ExJ (fun l' a' w'=>J4 j0 j1 j2 j3 l' a' w'∧μ l' a' w'<μ l a w) Q) a w:=by
  intro l a w hJ
  match l,hJ with
  | 0,hJ=>exact⟨r0,h0,p0 a w hJ⟩
  | 1,hJ=>exact⟨r1,h1,p1 a w hJ⟩
  | 2,hJ=>exact⟨r2,h2,p2 a w hJ⟩
  | 3,hJ=>exact⟨r3,h3,p3 a w hJ⟩
  | n+4,hJ=>exact hJ.elim
 intro b k cs
 have key:∀ n l a w r,μ l a w=n→J4 j0 j1 j2 j3 l a w→findLabel c l=some r→∃ e a' w',Q e a' w'∧Arrives P (lone (b.at a (.code r :: .inScope c :: k)) cs w) b k cs e a' w':=by
  intro n
  induction n using Nat.strongRecOn with
  | _ n ih=>
   intro l a w r hn hJ hr
   obtain⟨r',hr',hwp⟩:=hall l a w hJ
   obtain rfl:r=r':=by rw[hr] at hr';simpa using hr'
   obtain⟨e,a₁,w₁,hq,harr⟩:=hwp b (.inScope c :: k) cs
   cases e with
   | normal=>exact⟨.normal,a₁,w₁,hq,Steps.trans harr (.one step_inScope)⟩
   | exit id=>exact⟨.exit id,a₁,w₁,hq,fun k' hk=>harr k' (by simp[exitTo,hk])⟩
   | goto l'=>
    obtain⟨hJ',hlt⟩:=hq
    obtain⟨r2,hr2,-⟩:=hall l' a₁ w₁ hJ'
    have hg:gotoIn l' (.inScope c :: k)=some (.code r2 :: .inScope c :: k):=by simp[gotoIn,hr2]
    obtain⟨e₂,a₂,w₂,hq₂,harr₂⟩:=ih _ (by omega) l' a₁ w₁ r2 rfl hJ' hr2
    exact⟨e₂,a₂,w₂,hq₂,.of_steps (harr _ hg) harr₂⟩
   | ret=>exact⟨_,a₁,w₁,hq,harr⟩
   | panic ch=>exact⟨_,a₁,w₁,hq,harr⟩
   | outgrown=>exact⟨_,a₁,w₁,hq,harr⟩
 obtain⟨e,a₁,w₁,hq,harr⟩:=first b (.inScope c :: k) cs
 cases e with
 | normal=>exact⟨.normal,a₁,w₁,hq,.head step_scope (Steps.trans harr (.one step_inScope))⟩
 | exit id=>exact⟨.exit id,a₁,w₁,hq,fun k' hk=>.head step_scope (harr k' (by simp[exitTo,hk]))⟩
 | goto l'=>
  have hJ':J4 j0 j1 j2 j3 l' a₁ w₁:=hq
  obtain⟨r2,hr2,-⟩:=hall l' a₁ w₁ hJ'
  have hg:gotoIn l' (.inScope c :: k)=some (.code r2 :: .inScope c :: k):=by simp[gotoIn,hr2]
  obtain⟨e₂,a₂,w₂,hq₂,harr₂⟩:=key _ l' a₁ w₁ r2 rfl hJ' hr2
  exact⟨e₂,a₂,w₂,hq₂,.of_steps (.head step_scope (harr _ hg)) harr₂⟩
 | ret=>exact⟨_,a₁,w₁,hq,.of_steps (.one step_scope) harr⟩
 | panic ch=>exact⟨_,a₁,w₁,hq,.of_steps (.one step_scope) harr⟩
 | outgrown=>exact⟨_,a₁,w₁,hq,.of_steps (.one step_scope) harr⟩
def msOf (S:St) (low:List Frm) (fr:Frm):Ms:=⟨S.w,low,fr,S.st,S.code,S.used⟩
theorem used_does {E:Env}{S:St}{low:List Frm}{fr:Frm}{i:Stp}{rest top:List Cell}:(Mach.does E S low fr i rest top).used≤S.used+1:=by
 unfold Mach.does;split
 ·split <;> exact Nat.le_refl _
 split
 ·split
  ·exact Nat.le_succ _
  exact Nat.le_refl _
 split
 ·unfold over;split
  ·exact Nat.le_refl _
  split <;> exact Nat.le_refl _
 split <;> exact Nat.le_refl _
structure GoE (E:Env):Prop where
 env:EnvOk E
 sm:SmE E
 lim:Lim E
 mod:ModOk E.mo
def BxI (w:WL) (t:NN) (b:Nat) (v0 v1 v2 v3 v4:Value):Prop:=t b=6∧6≤b∧w.heap[b]?=some (.cells #[v0,v1,v2,v3,v4] 150)
theorem BxI.kp {w w':WL}{t t':NN}{b:Nat}{v0 v1 v2 v3 v4:Value} (h:BxI w t b v0 v1 v2 v3 v4) (k:Kp t t' w w'):BxI w' t' b v0 v1 v2 v3 v4:=
 have hl:=(Age.1 h.2.2).1
 ⟨(k.ret b hl).trans h.1,h.2.1,(k.blk b hl (by rw[h.1];decide)).trans h.2.2⟩
theorem cells5F {w:WL}{b:Nat}{v0 v1 v2 v3 v4:Value}{t:TypeId} (h:w.heap[b]?=some (.cells #[v0,v1,v2,v3,v4] t)):(w.cell? (Ad b 0)=some v0∧w.cell? (Ad b 1)=some v1∧w.cell? (Ad b 2)=some v2∧w.cell? (Ad b 3)=some v3∧w.cell? (Ad b 4)=some v4)∧∀ j,w.frozen? (Ad b j)=false:=by
 refine⟨⟨?_,?_,?_,?_,?_⟩,fun j=>?_⟩ <;> first | (unfold World.cell?;rw[h];rfl) | (unfold World.frozen?;rw[h];simp)
def set5W (w:WL) (b:Nat) (v0 v1 v2 v3 v4:Value):WL:=((((w.setCell ⟨b,0,none⟩ v0).setCell ⟨b,1,none⟩ v1).setCell ⟨b,2,none⟩ v2).setCell ⟨b,3,none⟩ v3).setCell ⟨b,4,none⟩ v4
theorem set5_block {w:WL}{b:Nat}{u0 u1 u2 u3 u4:Value}{t:TypeId} (h:w.heap[b]?=some (.cells #[u0,u1,u2,u3,u4] t)) (v0 v1 v2 v3 v4:Value):(set5W w b v0 v1 v2 v3 v4).heap[b]?=some (.cells #[v0,v1,v2,v3,v4] t):=by
 have hl:=(Age.1 h).1;have hg:=(Age.1 h).2;unfold set5W World.setCell;simp[hl,Array.getElem_modify,hg]
theorem set5_cells {w:WL}{b:Nat}{u0 u1 u2 u3 u4:Value}{t:TypeId} (h:w.heap[b]?=some (.cells #[u0,u1,u2,u3,u4] t)) (v0 v1 v2 v3:Value) :
  (w.setCell ⟨b,0,none⟩ v0).cell? (Ad b 1)=some u1∧((w.setCell ⟨b,0,none⟩ v0).setCell ⟨b,1,none⟩ v1).cell? (Ad b 2)=some u2∧(((w.setCell ⟨b,0,none⟩ v0).setCell ⟨b,1,none⟩ v1).setCell ⟨b,2,none⟩ v2).cell? (Ad b 3)=some u3∧((((w.setCell ⟨b,0,none⟩ v0).setCell ⟨b,1,none⟩ v1).setCell ⟨b,2,none⟩ v2).setCell ⟨b,3,none⟩ v3).cell? (Ad b 4)=some u4:=by
 obtain⟨⟨h0,h1,h2,h3,h4⟩,-⟩:=cells5F h;refine⟨?_,?_,?_,?_⟩
 ·rw[setCell_off (by decide)];exact h1
 ·rw[setCell_off (by decide),setCell_off (by decide)];exact h2
 ·rw[setCell_off (by decide),setCell_off (by decide),setCell_off (by decide)];exact h3
 rw[setCell_off (by decide),setCell_off (by decide),setCell_off (by decide),setCell_off (by decide)];exact h4
section
variable (E:Env)(X b4:Nat)(S0:St)(N:Nat)(tag:NN)(W:WL)
def RF (n:Nat) (w:WL):Prop:=∃ S g low fr t m v0 v1 v2 v3 v4,Plays E m S0 S∧m+n=N∧S.st=0∧S.code=0∧Mach.Good E S∧Pr S.frs∧S.used+n≤4611686018427387904∧S.frs=low++[fr]∧hd S.frs=some g.en∧MM E X g (msOf S low fr) w t∧Kp tag t W w∧BxI w t b4 v0 v1 v2 v3 v4
def RP (e:Bool) (n:Nat) (w:WL):Prop:=∃ S g low fr i rest top t m q,Plays E m S0 S∧m+(n+1)=N∧S.st=0∧S.code=0∧Mach.Good E S∧Pr S.frs∧S.used+(n+1)≤4611686018427387904∧Ready E S low fr i rest top∧hd S.frs=some g.en∧MM E X g (fetched S low fr i) w t∧Kp tag t W w∧(decide (i.op=52))=e∧(far i.op=true→∀ L,Reads E.mo fr.f (locsOf E.mo fr.f) (codeOf E.mo fr.f) L→PlcAt E.mo fr.f L q i.a) ∧
 BxI w t b4 (.int .u8 (i.op:Nat)) (.int .i64 (i.pl:Nat)) (.int .i64 ((min i.a 2000000000:Nat):Int)) (.int .i64 ((min i.b 2000000000:Nat):Int)) (.int .i64 (q:Nat))
def RE (st:Int) (w:WL):Prop:=∃ D g s t m,Plays E m S0 D∧m≤N∧D.st≠0∧st=(D.st:Nat)∧Mach.Good E D∧MM E X g s w t∧Kp tag t W w∧s.w=D.w∧s.code=D.code∧s.used=D.used
def GoQ (e:Ending) (w:WL):Prop:=e=.returned unit∧∃ D g s t,Plays E N S0 D∧Mach.Good E D∧MM E X g s w t∧Kp tag t W w∧s.w=D.w∧s.st=D.st∧s.code=D.code∧s.used=D.used∧(D.st=0→s.low++[s.fr]=D.frs∧hd D.frs=some g.en∧Pr D.frs∧D.code=0)
end
section
variable {E:Env}{X b4:Nat}{S0:St}{N:Nat}{tag:NN}{W w:WL}
theorem RF.stop (h:RF E X b4 S0 N tag W 0 w):GoQ E X S0 N tag W (.returned unit) w:=by
 obtain⟨S,g,low,fr,t,m,-,-,-,-,-,hp,hn,hst,hc,hG,hP,-,hf,hh,M,K,-⟩:=h;have:m=N:=by omega
 subst this;exact⟨rfl,S,g,msOf S low fr,t,hp,hG,M,K,rfl,rfl,rfl,rfl,fun _=>⟨hf.symm,hh,hP,hc⟩⟩
theorem RF.step {n:Nat}(hb4:W.heap.size≤b4)(h:RF E X b4 S0 N tag W (n+1) w):∃ (u:Nat) (g:Pl) (s:Ms),u<4611686018427387904∧w.cell? (Ad X 15)=some (iA (u:Nat))∧w.frozen? (Ad X 15)=false ∧
  Calls prog 63 #[ptr X] (w.setCell ⟨X,15,none⟩ (.int .i64 ((u+1:Nat):Int))) (fun e w2=>e=.returned (fp g s)∧Calls prog 64 #[fp g s] w2 (fun e w3=>∃ (op pl a b q:Int) (u0 u1 u2 u3 u4:Value),e=.returned (inV op pl a b q)∧w3.heap[b4]?=some (.cells #[u0,u1,u2,u3,u4] 150)∧RP E X b4 S0 N tag W (decide (op=52)) n (set5W w3 b4 (.int .u8 op) (iA pl) (iA a) (iA b) (iA q))∧(set5W w3 b4 (.int .u8 op) (iA pl) (iA a) (iA b) (iA q)).cell? (Ad b4 0)=some (.int .u8 op))):=by
 obtain⟨S,g,low,fr,t,m,v0,v1,v2,v3,v4,hp,hn,hst,hc,hG,hP,hu,hf,hh,M,K,B⟩:=h;obtain⟨hI,-,-⟩:=hG.inv hst;obtain⟨low',fr',i,rest,top,hR,-⟩:=hI.ready (E:=E) (s:=S);obtain⟨e1,e2⟩:=List.append_inj' (hf.symm.trans hR.frs) rfl;simp only[List.cons.injEq,and_true] at e2;subst e1 e2;obtain⟨z15,-,M1,K1⟩:=M.setUsed (S.used+1);refine⟨S.used,g,{ msOf S low fr with used:=S.used+1 },by omega,M.xused,z15,?_⟩;refine M1.frame.mono ?_;rintro e w2 ⟨he,t2,M2,K2⟩;refine⟨he,?_⟩;refine (M2.next (i:=i) hR.at_ hR.dec).mono ?_;rintro e w3 ⟨q,he3,hfar,t3,M3,K3⟩;have B3:=((B.kp K1).kp K2).kp K3;have hb3:t3 b4=6:=B3.1;refine⟨_,_,_,_,_,_,_,_,_,_,he3,B3.2.2,⟨S,g,low,fr,i,rest,top,t3,m,q,hp,hn,hst,hc,hG,hP,hu,hR,hh,?_,?_,?_,hfar,?_⟩,?_⟩
 ·exact ((((M3.poke hb3 B3.2.1 0 _).poke hb3 B3.2.1 1 _).poke hb3 B3.2.1 2 _).poke hb3 B3.2.1 3 _).poke hb3 B3.2.1 4 _
 ·exact ((((((K.trans K1).trans K2).trans K3).poke hb4 0 _).poke hb4 1 _).poke hb4 2 _).poke hb4 3 _ |>.poke hb4 4 _
 ·apply Bool.eq_iff_iff.2;simp only[decide_eq_true_eq];omega
 ·exact⟨hb3,B3.2.1,set5_block B3.2.2 _ _ _ _ _⟩
 exact (cells5F (set5_block B3.2.2 _ _ _ _ _)).1.1
end
theorem nextR_none {w:Wd}(h:(nextR w).2=false):(nextR w).1=w:=by
 unfold Mach.nextR at h ⊢;cases hq:w.recs[w.nr]? with
 | none=>rfl
 | some t=>rw[hq] at h;cases h
section
variable {E:Env}{X b4:Nat}{S0:St}{N:Nat}{tag:NN}{W w:WL}
theorem RP.play (hE:GoE E){n:Nat}(h:RP E X b4 S0 N tag W false n w):∃ op pl a b q:Int,(w.cell? (Ad b4 0)=some (.int .u8 op)∧w.cell? (Ad b4 1)=some (iA pl)∧w.cell? (Ad b4 2)=some (iA a)∧w.cell? (Ad b4 3)=some (iA b)∧w.cell? (Ad b4 4)=some (iA q)) ∧
  Calls prog 65 #[ptr X,inV op pl a b q] w (fun e w'=>∃ st:Int,e=.returned (stI st)∧(st=0→RF E X b4 S0 N tag W n w')∧(st≠0→RE E X S0 N tag W st w')):=by
 obtain⟨S,g,low,fr,i,rest,top,t,m,q,hp,hn,hst,hc,hG,hP,hu,hR,hh,M,K,h52,hfar,B⟩:=h;have h52':i.op≠52:=by simpa using h52
 refine⟨_,_,_,_,_,(cells5F B.2.2).1,?_⟩;refine (play_does hE.env hE.sm hE.lim hE.mod hG hP hst hc hR M hfar h52').mono ?_;rintro e w' ⟨st,he,hst',g',s',t',M',K',q1,q2,q3,q4,q5,q6⟩;have hGD:=hG.does hE.sm hE.mod hst hR;refine⟨st,he,fun h0=>?_,fun hne=>?_⟩
 ·have hD0:(Mach.does E S low fr i rest top).st=0:=by omega
  have hfr:=q6 hD0;have hused:=used_does (E:=E) (S:=S) (low:=low) (fr:=fr) (i:=i) (rest:=rest) (top:=top);refine⟨Mach.does E S low fr i rest top,g',s'.low,s'.fr,t',m+1,_,_,_,_,_,hp.more hst hR,by omega,hD0,code_does hc hR hD0 hst,hGD,hP.does hR,by omega,hfr.symm,?_,?_,K.trans K',B.kp K'⟩
  ·rw[hd_does hR h52',hh,q1]
  have e:msOf (Mach.does E S low fr i rest top) s'.low s'.fr=s':=by
   unfold msOf;rw[← q3,← q4,← q5,hD0];have:s'.st=0:=by rw[q2];exact hst
   rw[← this]
  rw[e];exact M'
 exact⟨Mach.does E S low fr i rest top,g',s',t',m+1,hp.more hst hR,by omega,by omega,hst',hGD,M',K.trans K',q3,q4,q5⟩
theorem RP.ends (hE:GoE E){n:Nat}(h:RP E X b4 S0 N tag W true n w):∃ en:Nat,en≤1000000∧w.cell? (Ad X 10)=some (iA (en:Nat))∧(en=2→RE E X S0 N tag W 1 w)∧(en≠2→Calls prog 66 #[ptr X] w (fun e w'=>e=.returned unit∧RF E X b4 S0 N tag W n w')):=by
 obtain⟨S,g,low,fr,i,rest,top,t,m,q,hp,hn,hst,hc,hG,hP,hu,hR,hh,M,K,h52,hfar,B⟩:=h;have h52':i.op=52:=by simpa using h52
 obtain⟨hI,-,-⟩:=hG.inv hst;have hmay:=(decodeL_next hR.at_ hR.dec).2.2.2.2;have hf3:fr.f<3:=by
  unfold mayOp at hmay;rw[h52'] at hmay;simp at hmay;omega
 have hlow:low=[]:=by
  have h1:=(hI.kinds low.length fr (by rw[hR.frs];simp)).2 hf3;exact List.length_eq_zero_iff.1 h1
 subst hlow;have hen:g.en=fr.f:=by
  rw[hR.frs] at hh;simpa [hd] using hh.symm
 have hGD:=hG.does hE.sm hE.mod hst hR;have hD:Mach.does E S [] fr i rest top=Mach.over E.mo { S with used:=S.used+1 } fr.f:=by
  unfold Mach.does;rw[if_neg (by omega),if_neg (by omega),if_pos h52']
 have hx10:w.cell? (Ad X 10)=some (iA (g.en:Nat)):=by
  obtain⟨h6,lv,R,mp,x,hx,h⟩:=M;exact h.xc (by rw[← hx.1.2.1];rfl)
 refine⟨g.en,by omega,hx10,fun h2=>?_,fun h2=>?_⟩
 ·have hD1:Mach.does E S [] fr i rest top = { S with used:=S.used+1,st:=1 }:=by
   rw[hD];unfold Mach.over;rw[if_pos (by omega)]
  exact⟨Mach.does E S [] fr i rest top,g,_,t,m+1,hp.more hst hR,by omega,by rw[hD1];show (1:Nat)≠0;decide,by rw[hD1];rfl,hGD,M,K,by rw[hD1];rfl,by rw[hD1];rfl,by rw[hD1];rfl⟩
 have hw:SmW S.w:=hG.w;refine (M.nextFn (fun t ht=>Nat.le_trans (hw.recs t (List.mem_of_getElem? ht)) (by decide)) (Nat.le_trans hw.nrec (by decide)) (by have:=hE.mod.three;omega)).mono ?_;rintro e w' ⟨he,b,t',M',K'⟩;refine⟨he,?_⟩;have hw':(fetched S [] fr i).w=S.w:=rfl;rw[hw'] at M';have hD1:Mach.does E S [] fr i rest top=⟨(nextR S.w).1,[enter E.mo (if (nextR S.w).2=true then 1 else 2) []],S.st,S.code,S.used+1⟩:=by
  rw[hD];unfold Mach.over;rw[if_neg (by omega)];rcases hb:(nextR S.w).2 with _ | _
  ·simp only[hb,Bool.false_eq_true,if_false,nextR_none hb]
  simp only[hb,if_true]
 have hD0:(Mach.does E S [] fr i rest top).st=0:=by rw[hD1];exact hst
 refine⟨Mach.does E S [] fr i rest top,g.at_ b (if (nextR S.w).2=true then 1 else 2),[],enter E.mo (if (nextR S.w).2=true then 1 else 2) [],t',m+1,_,_,_,_,_,hp.more hst hR,by omega,hD0,code_does hc hR hD0 hst,hGD,hP.does hR,by rw[hD1];show S.used+1+n≤_;omega,by rw[hD1];rfl,?_,?_,K.trans K',B.kp K'⟩
 ·rw[hD1];rfl
 rw[hD1];exact M'
end
def jE (E:Env) (X b4:Nat) (S0:St) (N:Nat) (tag:NN) (W:WL):Act→WL→Prop:=fun a w=>∃ (n:Nat) (st:Int) (u2 u3 u6 u7 u8 u9 u10 u11 u12 u13 u14 u15 u16 u17 u18 u19 u20 u21 u22 u23 u24 u25 u26 u27 u28 u29 u30 u31 u32 u33 u34 u35 u36 u37 u38 u39 u40 u41 u42 u43 u44 u45 u46 u47 u48:Value),a=⟨#[ptr X,.int .i64 ((n:Nat)),u2,u3,ptr b4,.int .i64 st,u6,u7,u8,u9,u10,u11,u12,u13,u14,u15,u16,u17,u18,u19,u20,u21,u22,u23,u24,u25,u26,u27,u28,u29,u30,u31,u32,u33,u34,u35,u36,u37,u38,u39,u40,u41,u42,u43,u44,u45,u46,u47,u48],[]⟩∧Hid (RE E X S0 N tag W st w)
def jF (E:Env) (X b4:Nat) (S0:St) (N:Nat) (tag:NN) (W:WL):Act→WL→Prop:=fun a w=>∃ (n:Nat) (u2 u3 u5 u6 u7 u8 u9 u10 u11 u12 u13 u14 u15 u16 u17 u18 u19 u20 u21 u22 u23 u24 u25 u26 u27 u28 u29 u30 u31 u32 u33 u34 u35 u36 u37 u38 u39 u40 u41 u42 u43 u44 u45 u46 u47 u48:Value),a=⟨#[ptr X,.int .i64 ((n:Nat)),u2,u3,ptr b4,u5,u6,u7,u8,u9,u10,u11,u12,u13,u14,u15,u16,u17,u18,u19,u20,u21,u22,u23,u24,u25,u26,u27,u28,u29,u30,u31,u32,u33,u34,u35,u36,u37,u38,u39,u40,u41,u42,u43,u44,u45,u46,u47,u48],[]⟩∧Hid (RF E X b4 S0 N tag W n w)
def jN (E:Env) (X b4:Nat) (S0:St) (N:Nat) (tag:NN) (W:WL):Act→WL→Prop:=fun a w=>∃ (n:Nat) (u2 u3 u5 u6 u7 u8 u9 u10 u11 u12 u13 u14 u15 u16 u17 u18 u19 u20 u21 u22 u23 u24 u25 u26 u27 u28 u29 u30 u31 u32 u33 u34 u35 u36 u37 u38 u39 u40 u41 u42 u43 u44 u45 u46 u47 u48:Value),a=⟨#[ptr X,.int .i64 ((n:Nat)),u2,u3,ptr b4,u5,u6,u7,u8,u9,u10,u11,u12,u13,u14,u15,u16,u17,u18,u19,u20,u21,u22,u23,u24,u25,u26,u27,u28,u29,u30,u31,u32,u33,u34,u35,u36,u37,u38,u39,u40,u41,u42,u43,u44,u45,u46,u47,u48],[]⟩∧Hid (RP E X b4 S0 N tag W true n w)
def jP (E:Env) (X b4:Nat) (S0:St) (N:Nat) (tag:NN) (W:WL):Act→WL→Prop:=fun a w=>∃ (n:Nat) (u2 u3 u5 u6 u7 u8 u9 u10 u11 u12 u13 u14 u15 u16 u17 u18 u19 u20 u21 u22 u23 u24 u25 u26 u27 u28 u29 u30 u31 u32 u33 u34 u35 u36 u37 u38 u39 u40 u41 u42 u43 u44 u45 u46 u47 u48:Value),a=⟨#[ptr X,.int .i64 ((n:Nat)),u2,u3,ptr b4,u5,u6,u7,u8,u9,u10,u11,u12,u13,u14,u15,u16,u17,u18,u19,u20,u21,u22,u23,u24,u25,u26,u27,u28,u29,u30,u31,u32,u33,u34,u35,u36,u37,u38,u39,u40,u41,u42,u43,u44,u45,u46,u47,u48],[]⟩∧Hid (RP E X b4 S0 N tag W false n w)
def muG (l:Nat) (a:Act) (_:WL):Nat:=if l=0 then 0 else if l=1 then 4*(intOf (a.tmps.getD 1 undef)).toNat+3 else 4*(intOf (a.tmps.getD 1 undef)).toNat+5
theorem RF.le {E:Env}{X b4:Nat}{S0:St}{N n:Nat}{tag:NN}{W w:WL} (h:RF E X b4 S0 N tag W n w):n≤N:=by
 obtain⟨S,g,low,fr,t,m,-,-,-,-,-,-,hn,-⟩:=h;omega
theorem cell15_zero (W:WL):∃ W1,W.alloc (.cells #[.int .u8 0,iA 0,iA 0,iA 0,iA 0] 150)=W1∧Fr [] W W1∧W1.heap[W.heap.size]?=some (.cells #[.int .u8 0,iA 0,iA 0,iA 0,iA 0] 150):=
 ⟨_,rfl,(Fr.refl [] W).alloc _,wan W _⟩
section
variable {E:Env}{X:Nat}{g:Pl}{S0:St}{low:List Frm}{fr:Frm}{tag:NN}{W:WL}{N:Nat}
theorem go_any (hE:GoE E)(h:MM E X g (msOf S0 low fr) W tag)(hG:Mach.Good E S0)(hN:N≤1000000)(hu:S0.used+N≤4611686018427387904)(h0:S0.st=0→S0.code=0∧Pr S0.frs∧S0.frs=low++[fr]∧hd S0.frs=some g.en)(hst9:S0.st≤9) :
  Calls prog 34 #[ptr X,iA (N:Nat)] W (GoQ E X S0 N tag W):=by
 obtain⟨W1,hW1,F1,k1⟩:=cell15_zero W;obtain⟨t1,M1,K1,hb1⟩:=MM.box h F1;obtain⟨b4,hb⟩:=eXi (W.heap.size);rw[hb] at k1;have hb4:W.heap.size≤b4:=Nat.le_of_eq hb;have x12:=M1.xst;have x12':W1.cell? (Ad X 12)=some (iA (S0.st:Nat)):=x12;have HR:Hid (S0.st=0→RF E X b4 S0 N tag W N W1):=fun hst=>by
  obtain⟨q1,q2,q3,q4⟩:=h0 hst;exact⟨S0,g,low,fr,t1,0,_,_,_,_,_,rfl,by omega,hst,q1,hG,q2,hu,q3,q4,M1,K1,hb1 b4 hb4,by rw[← hb];exact h.six,k1⟩
 have HX:Hid (S0.st≠0→RE E X S0 N tag W (S0.st:Nat) W1):=fun hst=>⟨S0,g,_,t1,0,rfl,Nat.zero_le _,hst,rfl,hG,M1,K1,rfl,rfl,rfl⟩;generalize S0.st=st0 at *;clear h M1 K1 hb1 k1 h0 x12 hG F1;go_enter func34,ntmps34;go_wp2_with fail;refine wp_scope4 (jE E X b4 S0 N tag W) (jF E X b4 S0 N tag W) (jN E X b4 S0 N tag W) (jP E X b4 S0 N tag W) muG rfl rfl rfl rfl ?_ ?_ ?_ ?_ ?_
 ·rcases Decidable.em (st0=0) with c | c
  ·subst c;have J:Hid (RF E X b4 S0 N tag W N W1):=HR.out rfl;clear HR HX;rcases N with _ | k
   ·go_wp2_with fail
    go_step3
    go_wp2_with fail;simp only[ExJ];refine bodyPost_ret (results_none rfl _ _ _) rfl ?_;exact RF.stop J.out
   go_wp2_with fail
   go_step3
   obtain⟨u,g,s,hu,x15,z15,HC⟩:=RF.step hb4 J.out;have hkN:=RF.le J.out;have HC1:Hid _:=fun (_:Unit)=>HC;have hwu:IntKind.i64.wrap ((u:Int)+1)=((u+1:Nat):Int):=by rw[IntKind.wrap_i64];omega
   have hwn:IntKind.i64.wrap (((k+1:Nat):Int)-1)=(k:Int):=by rw[IntKind.wrap_i64];omega
   have hn0:(((k+1:Nat):Int)==0)=false:=by simp;omega
   have ec:((u+1:Nat):Int)=(u:Int)+1:=by omega
   rw[ec] at HC1 hwu;clear HC J ec;go_wp2_with fail;refine (HC1.out ()).mono ?_;rintro e w2 ⟨rfl,HN⟩;have HN1:Hid _:=fun (_:Unit)=>HN;clear HN HC1;go_wp2_with fail;refine (HN1.out ()).mono ?_;rintro e w3 ⟨op,pl,a,b,q,v0,v1,v2,v3,v4,rfl,hb,JP,c0⟩;obtain⟨⟨y0,y1,y2,y3,y4⟩,zz⟩:=cells5F hb;have z0:=zz 0;have z1:=zz 1;have z2:=zz 2;have z3:=zz 3;have z4:=zz 4;obtain⟨q1,q2,q3,q4⟩:=set5_cells hb (.int .u8 op) (iA pl) (iA a) (iA b);unfold set5W at JP c0;obtain⟨w4,hw4⟩:=eXi (((((w3.setCell ⟨b4,0,none⟩ (.int .u8 op)).setCell ⟨b4,1,none⟩ (.int .i64 pl)).setCell ⟨b4,2,none⟩ (.int .i64 a)).setCell ⟨b4,3,none⟩ (.int .i64 b)).setCell ⟨b4,4,none⟩ (.int .i64 q));rw[hw4] at JP c0;clear zz hb HN1;by_cases c52:op=52
   ·subst c52;have JP:RP E X b4 S0 (k+1) tag W true k w4:=JP;have HJ:Hid _:=JP;clear JP;go_wp2_with fail
    go_step3
    exact⟨k,_,_,_,_,_,_,_,_,_,_,_,_,_,_,_,_,_,_,_,_,_,_,_,_,_,_,_,_,_,_,_,_,_,_,_,_,_,_,_,_,_,_,_,_,_,_,rfl,HJ⟩
   have e52:(op==52)=false:=by simp[c52]
   rw[show decide (op=52)=false from decide_eq_false c52] at JP;have HJ:Hid _:=JP;clear JP;go_wp2_with fail
   go_step3
   exact⟨k,_,_,_,_,_,_,_,_,_,_,_,_,_,_,_,_,_,_,_,_,_,_,_,_,_,_,_,_,_,_,_,_,_,_,_,_,_,_,_,_,_,_,_,_,_,_,rfl,HJ⟩
  have c1:((st0:Int)!=0)=true:=by simp;omega
  have HE:Hid _:=HX.out c;clear HR HX;go_wp2_with fail
  go_step3
  exact⟨N,(st0:Int),_,_,_,_,_,_,_,_,_,_,_,_,_,_,_,_,_,_,_,_,_,_,_,_,_,_,_,_,_,_,_,_,_,_,_,_,_,_,_,_,_,_,_,_,_,rfl,HE⟩
 ·rintro a w ⟨n,st,u2,u3,u6,u7,u8,u9,u10,u11,u12,u13,u14,u15,u16,u17,u18,u19,u20,u21,u22,u23,u24,u25,u26,u27,u28,u29,u30,u31,u32,u33,u34,u35,u36,u37,u38,u39,u40,u41,u42,u43,u44,u45,u46,u47,u48,rfl,J⟩;obtain⟨D,gg,s,t,m,hp,hm,hne,rfl,hGD,M,K,q1,q2,q3⟩:=J.out;obtain⟨z12,⟨u12,y12⟩,M2,K2⟩:=M.setSt D.st;obtain⟨w2,hw2⟩:=eXi (w.setCell ⟨X,12,none⟩ (.int .i64 (D.st:Nat)));rw[hw2] at M2 K2;have HF:Hid (GoQ E X S0 N tag W (.returned unit) w2):=by
   refine⟨rfl,D,gg,_,t,?_,hGD,M2,K.trans K2,q1,rfl,q2,q3,fun h0=>absurd h0 hne⟩;have:=hp.append (plays_ended E (N-m) hne)
   rwa [show m+(N-m)=N by omega] at this
  clear M M2 K K2 J HR HX hp hGD q1 q2 q3;generalize (D.st:Int)=ds at *;go_wp2_with fail;refine bodyPost_end (results_none rfl _ _ _) rfl ?_;exact HF.out
 ·rintro a w ⟨n,u2,u3,u5,u6,u7,u8,u9,u10,u11,u12,u13,u14,u15,u16,u17,u18,u19,u20,u21,u22,u23,u24,u25,u26,u27,u28,u29,u30,u31,u32,u33,u34,u35,u36,u37,u38,u39,u40,u41,u42,u43,u44,u45,u46,u47,u48,rfl,J⟩;clear HR HX;rcases n with _ | k
  ·go_wp2_with fail;simp only[ExJ];refine bodyPost_ret (results_none rfl _ _ _) rfl ?_;exact RF.stop J.out
  skip;obtain⟨u,g,s,hu,x15,z15,HC⟩:=RF.step hb4 J.out;have hkN:=RF.le J.out;have HC1:Hid _:=fun (_:Unit)=>HC;have hwu:IntKind.i64.wrap ((u:Int)+1)=((u+1:Nat):Int):=by rw[IntKind.wrap_i64];omega
  have hwn:IntKind.i64.wrap (((k+1:Nat):Int)-1)=(k:Int):=by rw[IntKind.wrap_i64];omega
  have hn0:(((k+1:Nat):Int)==0)=false:=by simp;omega
  have ec:((u+1:Nat):Int)=(u:Int)+1:=by omega
  rw[ec] at HC1 hwu;clear HC J ec;go_wp2_with fail;refine (HC1.out ()).mono ?_;rintro e w2 ⟨rfl,HN⟩;have HN1:Hid _:=fun (_:Unit)=>HN;clear HN HC1;go_wp2_with fail;refine (HN1.out ()).mono ?_;rintro e w3 ⟨op,pl,a,b,q,v0,v1,v2,v3,v4,rfl,hb,JP,c0⟩;obtain⟨⟨y0,y1,y2,y3,y4⟩,zz⟩:=cells5F hb;have z0:=zz 0;have z1:=zz 1;have z2:=zz 2;have z3:=zz 3;have z4:=zz 4;obtain⟨q1,q2,q3,q4⟩:=set5_cells hb (.int .u8 op) (iA pl) (iA a) (iA b);unfold set5W at JP c0;obtain⟨w4,hw4⟩:=eXi (((((w3.setCell ⟨b4,0,none⟩ (.int .u8 op)).setCell ⟨b4,1,none⟩ (.int .i64 pl)).setCell ⟨b4,2,none⟩ (.int .i64 a)).setCell ⟨b4,3,none⟩ (.int .i64 b)).setCell ⟨b4,4,none⟩ (.int .i64 q));rw[hw4] at JP c0;clear zz hb HN1;by_cases c52:op=52
  ·subst c52;have JP:RP E X b4 S0 N tag W true k w4:=JP;have HJ:Hid _:=JP;clear JP;go_wp2_with fail
   go_step3
   exact⟨⟨k,_,_,_,_,_,_,_,_,_,_,_,_,_,_,_,_,_,_,_,_,_,_,_,_,_,_,_,_,_,_,_,_,_,_,_,_,_,_,_,_,_,_,_,_,_,_,rfl,HJ⟩,by simp[muG,intOf];omega⟩
  have e52:(op==52)=false:=by simp[c52]
  rw[show decide (op=52)=false from decide_eq_false c52] at JP;have HJ:Hid _:=JP;clear JP;go_wp2_with fail
  go_step3
  exact⟨⟨k,_,_,_,_,_,_,_,_,_,_,_,_,_,_,_,_,_,_,_,_,_,_,_,_,_,_,_,_,_,_,_,_,_,_,_,_,_,_,_,_,_,_,_,_,_,_,rfl,HJ⟩,by simp[muG,intOf];omega⟩
 ·rintro a w ⟨n,u2,u3,u5,u6,u7,u8,u9,u10,u11,u12,u13,u14,u15,u16,u17,u18,u19,u20,u21,u22,u23,u24,u25,u26,u27,u28,u29,u30,u31,u32,u33,u34,u35,u36,u37,u38,u39,u40,u41,u42,u43,u44,u45,u46,u47,u48,rfl,J⟩;obtain⟨en,hen,x10,H2,H3⟩:=RP.ends hE J.out;clear HR HX J;by_cases c:en=2
  ·subst c;have HJ:Hid _:=H2 rfl;clear H2 H3;go_wp2_with fail
   go_step3
   exact⟨⟨n,1,_,_,_,_,_,_,_,_,_,_,_,_,_,_,_,_,_,_,_,_,_,_,_,_,_,_,_,_,_,_,_,_,_,_,_,_,_,_,_,_,_,_,_,_,_,rfl,HJ⟩,by simp[muG]⟩
  have c1:((en:Int)==2)=false:=by simp;omega
  have HC:Hid _:=fun (_:Unit)=>H3 c;clear H2 H3;go_wp2_with fail;refine (HC.out ()).mono ?_;rintro e w2 ⟨rfl,J2⟩;have HJ:Hid _:=J2;clear J2 HC;go_wp2_with fail
  go_step3
  exact⟨⟨n,_,_,_,_,_,_,_,_,_,_,_,_,_,_,_,_,_,_,_,_,_,_,_,_,_,_,_,_,_,_,_,_,_,_,_,_,_,_,_,_,_,_,_,_,_,_,rfl,HJ⟩,by simp[muG,intOf]⟩
 rintro a w ⟨n,u2,u3,u5,u6,u7,u8,u9,u10,u11,u12,u13,u14,u15,u16,u17,u18,u19,u20,u21,u22,u23,u24,u25,u26,u27,u28,u29,u30,u31,u32,u33,u34,u35,u36,u37,u38,u39,u40,u41,u42,u43,u44,u45,u46,u47,u48,rfl,J⟩;obtain⟨op,pl,a,b,q,⟨y0,y1,y2,y3,y4⟩,HC⟩:=RP.play hE J.out;have HC1:Hid _:=fun (_:Unit)=>HC;clear HR HX J HC;go_wp2_with fail;refine (HC1.out ()).mono ?_;rintro e w2 ⟨st,rfl,J1,J2⟩;clear HC1;by_cases c:st=0
 ·subst c;have HJ:Hid _:=J1 rfl;clear J1 J2;go_wp2_with fail
  go_step3
  exact⟨⟨n,_,_,_,_,_,_,_,_,_,_,_,_,_,_,_,_,_,_,_,_,_,_,_,_,_,_,_,_,_,_,_,_,_,_,_,_,_,_,_,_,_,_,_,_,_,_,rfl,HJ⟩,by simp[muG,intOf]⟩
 have c1:(st != 0)=true:=by simp[c]
 have HJ:Hid _:=J2 c;clear J1 J2;go_wp2_with fail
 go_step3
 exact⟨⟨n,st,_,_,_,_,_,_,_,_,_,_,_,_,_,_,_,_,_,_,_,_,_,_,_,_,_,_,_,_,_,_,_,_,_,_,_,_,_,_,_,_,_,_,_,_,_,rfl,HJ⟩,by simp[muG]⟩
end
end Go.Proofs.YtmolfmgchbjnbaaGreatDoor
