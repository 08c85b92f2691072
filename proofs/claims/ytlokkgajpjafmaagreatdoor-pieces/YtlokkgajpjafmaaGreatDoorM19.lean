import Derived.Test.YtlokkgajpjafmaaGreatDoorM18
set_option linter.unusedSimpArgs false
set_option linter.unusedVariables false
set_option maxRecDepth 100000
set_option maxHeartbeats 40000000
open _root_.Go.Proofs.Tryz
namespace Go.Proofs.YtlokkgajpjafmaaGreatDoor
open Go.RowKit
open Wire Flow Mach
section
variable {E:Env}{X:Nat}{g:Pl}{s:Ms}{W W':WL}{tag t1:NN}
theorem op8 (hE:aU E)(hS:SmE E)(h:MM E X g s W tag){a bb:Nat}{rest top:List aJ} (H:Fnd E s 8 a rest top) (pl q b:Int) (q2:Int) :
  OpG E X g s W tag rest top 8 a bb pl q2 b q:=by
 have hstk:=H.stk;have hlen:=H.hl;have hhigh:=H.high;refine MM.play63 h 8 (by omega) pl _ _ _ (fun W1 t1 h1 k1=>?_);obtain⟨c,d,rfl,hc,hd⟩:=iM H.takes;obtain⟨u,rfl,ku⟩:=zZ (H.pr c (by simp)) hc;have su:SmV u:=(H.sm (cv u) (by simp)).1;obtain⟨v,rfl⟩:=rP (H.pr d (by simp)) hd;have sv:SmV v:=(H.sm (cv v) (by simp)).1;have hnu:=b8 ku;have hc:=MM.rsetfield hE h1 hstk hlen su sv (cB hS sv) (Nat.le_trans H.w.nf (by decide)) (fun x hx=>Nat.le_trans (H.w.flds x hx) (by decide));rw[hnu] at hc;by_cases c0:(bO s.w u.n (aD E v)).2=0
 ·refine hc.mono fun e W' hp=>⟨_,hp.1,?_⟩;rw[show ((bO s.w u.n (aD E v)).2:Int)=0 by rw[c0];rfl];exact bV.mk0 k1 hp c0 ⟨rfl,rfl,rfl,rfl,rfl,by show Frm.mk _ _ _ rest=Frm.mk _ _ _ (rest++[]);rw[List.append_nil];rfl⟩
 exact hc.mono fun e W' hp=>⟨_,hp.1,bV.mk1 k1 hp rfl c0 ⟨rfl,rfl,rfl,H.code⟩⟩
theorem op9 (hE:aU E)(hS:SmE E)(h:MM E X g s W tag){a bb:Nat}{rest top:List aJ} (H:Fnd E s 9 a rest top) (pl q b:Int) (q2:Int) :
  OpG E X g s W tag rest top 9 a bb pl q2 b q:=by
 have hstk:=H.stk;have hlen:=H.hl;have hhigh:=H.high;refine MM.play63 h 9 (by omega) pl _ _ _ (fun W1 t1 h1 k1=>?_);obtain rfl:=jB H.takes;rw[List.append_nil] at hstk;have hl1:s.fr.stk.length<1024:=by rw[hstk];have:rest.length+1≤1024:=hhigh;omega
 exact (MM.rnf h1 hl1 (Nat.le_trans H.w.nf (by decide))).mono (fun e W' hp=>⟨0,hp.1,bV.mk0 k1 hp rfl ⟨rfl,rfl,rfl,rfl,rfl,by show Frm.mk s.fr.f s.fr.at_ s.fr.locs (s.fr.stk++_)=_;rw[hstk];rfl⟩⟩)
theorem bBq (hE:aU E)(hS:SmE E)(h:MM E X g s W tag){a bb:Nat}{rest top:List aJ} (H:Fnd E s 10 a rest top) (pl q b:Int) (q2:Int) :
  OpG E X g s W tag rest top 10 a bb pl q2 b q:=by
 have hstk:=H.stk;have hlen:=H.hl;have hhigh:=H.high;refine MM.play63 h 10 (by omega) pl _ _ _ (fun W1 t1 h1 k1=>?_);obtain rfl:=jB H.takes;rw[List.append_nil] at hstk;have hl1:s.fr.stk.length<1024:=by rw[hstk];have:rest.length+1≤1024:=hhigh;omega
 exact (MM.rnr h1 hl1).mono (fun e W' hp=>⟨0,hp.1,bV.mk0 k1 hp rfl ⟨rfl,rfl,rfl,rfl,rfl,by show Frm.mk s.fr.f s.fr.at_ s.fr.locs (s.fr.stk++_)=_;rw[hstk];rfl⟩⟩)
theorem bBp (hE:aU E)(hS:SmE E)(h:MM E X g s W tag){a bb:Nat}{rest top:List aJ} (H:Fnd E s 11 a rest top) (ha:a<s.w.arrs.length) (pl q b:Int) :
  OpG E X g s W tag rest top 11 a bb pl (a:Nat) b q:=by
 have hstk:=H.stk;have hlen:=H.hl;have hhigh:=H.high;refine MM.play65 h 11 (by omega) pl _ _ _ (fun W1 t1 h1 k1=>?_);obtain⟨c,rfl,hc⟩:=cC H.takes;obtain⟨v,rfl,kv⟩:=pV (H.pr c (by simp)) hc;have sv:SmV v:=(H.sm (cv v) (by simp)).1;have xv:(aD E v).size≤100:=cB hS sv;have hA:SmA (s.w.arrs.getD a []):=kU H.w.arrs a;have hO:=D9 hA;have hn2:(s.w.arrs.getD a []).length≤100000:=Nat.le_trans hA.len (by decide);have htx:aD E v=v.s:=iP E kv;have hxx:(aD E v).size≤1048576:=Nat.le_trans xv (by decide);cases hh:bI (s.w.arrs.getD a []) (aD E v) with
 | true=>
  have hh':bI (s.w.arrs.getD a []) v.s=true:=by rw[← htx];exact hh
  have he:eff E s.w s.fr.locs 11 a bb [cv v]=.put s.w s.fr.locs (iH (s.w.arrs.getD a []) v.s):=if_pos hh';rw[he];refine (MM.agetIn hE h1 hstk hlen sv hxx ha hO H.na hn2 hh pl b q).mono fun e W' hp=>⟨0,hp.1,bV.mk0 k1 hp rfl ⟨rfl,rfl,rfl,rfl,rfl,?_⟩⟩;show Frm.mk _ _ _ (rest++[cv (iH (s.w.arrs.getD a []) (aD E v))])=_;rw[htx];rfl
 | false=>
  have hh':¬ bI (s.w.arrs.getD a []) v.s=true:=by rw[← htx,hh];decide
  by_cases c:30≤(s.w.arrs.getD a []).length
  ·have he:eff E s.w s.fr.locs 11 a bb [cv v]=.bad s.w s.fr.locs 7:=(if_neg hh').trans (if_pos c);rw[he];exact (MM.agetFull hE h1 hstk hlen sv hxx ha hO H.na hh c hn2 pl b q).mono fun e W' hp=>⟨7,hp.1,bV.mk1 k1 hp rfl (show (7:Nat)≠0 by decide) ⟨rfl,rfl,rfl,H.code⟩⟩
  have he:eff E s.w s.fr.locs 11 a bb [cv v]=.put { s.w with arrs:=s.w.arrs.set a (cT (s.w.arrs.getD a []) v.s nothing) } s.fr.locs nothing:=(if_neg hh').trans (if_neg c);rw[he];refine (MM.agetNew hE h1 hstk hlen sv hxx ha hO H.na hh (by omega) pl b q).mono fun e W' hp=>⟨0,hp.1,bV.mk0 k1 hp rfl ⟨rfl,rfl,?_,rfl,rfl,rfl⟩⟩;show Wd.mk _ _ _ _ _ _ _ _ (s.w.arrs.set a (cT (s.w.arrs.getD a []) (aD E v) nothing))=_;rw[htx];rfl
theorem bBo (hE:aU E)(hS:SmE E)(h:MM E X g s W tag){a bb:Nat}{rest top:List aJ} (H:Fnd E s 12 a rest top) (ha:a<s.w.arrs.length) (pl q b:Int) :
  OpG E X g s W tag rest top 12 a bb pl (a:Nat) b q:=by
 have hstk:=H.stk;have hlen:=H.hl;have hhigh:=H.high;refine MM.play65 h 12 (by omega) pl _ _ _ (fun W1 t1 h1 k1=>?_);obtain⟨c,d,rfl,hc,hd⟩:=iM H.takes;obtain⟨u,rfl,ku⟩:=pV (H.pr c (by simp)) hc;have su:SmV u:=(H.sm (cv u) (by simp)).1;have xu:(aD E u).size≤100:=cB hS su;obtain⟨v,rfl⟩:=rP (H.pr d (by simp)) hd;have sv:SmV v:=(H.sm (cv v) (by simp)).1;have hA:SmA (s.w.arrs.getD a []):=kU H.w.arrs a;have hO:=D9 hA;have hn2:(s.w.arrs.getD a []).length≤100000:=Nat.le_trans hA.len (by decide);have htx:aD E u=u.s:=iP E ku;have hxx:(aD E u).size≤1048576:=Nat.le_trans xu (by decide);by_cases c:bI (s.w.arrs.getD a []) (aD E u)=false∧30≤(s.w.arrs.getD a []).length
 ·have c':bI (s.w.arrs.getD a []) u.s=false∧30≤(s.w.arrs.getD a []).length:=by rw[← htx];exact c
  have he:eff E s.w s.fr.locs 12 a bb [cv u,cv v]=.bad s.w s.fr.locs 7:=if_pos c';rw[he];exact (MM.asetFull hE h1 hstk hlen su hxx ha hO H.na c.1 c.2 hn2 pl b q).mono fun e W' hp=>⟨7,hp.1,bV.mk1 k1 hp rfl (show (7:Nat)≠0 by decide) ⟨rfl,rfl,rfl,H.code⟩⟩
 have c':¬ (bI (s.w.arrs.getD a []) u.s=false∧30≤(s.w.arrs.getD a []).length):=by rw[← htx];exact c
 have he:eff E s.w s.fr.locs 12 a bb [cv u,cv v]=.off { s.w with arrs:=s.w.arrs.set a (cT (s.w.arrs.getD a []) u.s v) } s.fr.locs 0:=if_neg c';rw[he];refine (MM.aset hE h1 hstk hlen su hxx ha hO H.na ?_ hn2 pl b q).mono fun e W' hp=>⟨0,hp.1,bV.mk0 k1 hp rfl ⟨rfl,rfl,?_,rfl,rfl,?_⟩⟩
 ·rcases hh:bI (s.w.arrs.getD a []) (aD E u) with _ | _
  ·right;apply Nat.lt_of_not_le;intro h30;exact c ⟨hh,h30⟩
  exact .inl rfl
 ·show Wd.mk _ _ _ _ _ _ _ _ (s.w.arrs.set a (cT (s.w.arrs.getD a []) (aD E u) v))=_;rw[htx];rfl
 show Frm.mk _ _ _ rest=Frm.mk _ _ _ (rest++[]);rw[List.append_nil];rfl
theorem bBn (hE:aU E)(hS:SmE E)(h:MM E X g s W tag){a bb:Nat}{rest top:List aJ} (H:Fnd E s 13 a rest top) (ha:a<s.w.arrs.length) (pl q b:Int) :
  OpG E X g s W tag rest top 13 a bb pl (a:Nat) b q:=by
 have hstk:=H.stk;have hlen:=H.hl;have hhigh:=H.high;refine MM.play65 h 13 (by omega) pl _ _ _ (fun W1 t1 h1 k1=>?_);obtain⟨c,rfl,hc⟩:=cC H.takes;obtain⟨v,rfl,kv⟩:=pV (H.pr c (by simp)) hc;have sv:SmV v:=(H.sm (cv v) (by simp)).1;have xv:(aD E v).size≤100:=cB hS sv;have hA:SmA (s.w.arrs.getD a []):=kU H.w.arrs a;have hO:=D9 hA;have hn2:(s.w.arrs.getD a []).length≤100000:=Nat.le_trans hA.len (by decide);have htx:aD E v=v.s:=iP E kv;have hxx:(aD E v).size≤1048576:=Nat.le_trans xv (by decide);refine (MM.ain hE h1 hstk hlen sv hxx ha hO H.na pl b q).mono fun e W' hp=>⟨0,hp.1,bV.mk0 k1 hp rfl ⟨rfl,rfl,rfl,rfl,rfl,?_⟩⟩;show Frm.mk _ _ _ (rest++[cv (whole (eZ (bI (s.w.arrs.getD a []) (aD E v))))])=_;rw[htx];rfl
theorem bBm (hE:aU E)(hS:SmE E)(h:MM E X g s W tag){a bb:Nat}{rest top:List aJ} (H:Fnd E s 14 a rest top) (ha:a<s.w.arrs.length) (pl q b:Int) :
  OpG E X g s W tag rest top 14 a bb pl (a:Nat) b q:=by
 have hstk:=H.stk;have hlen:=H.hl;have hhigh:=H.high;refine MM.play65 h 14 (by omega) pl _ _ _ (fun W1 t1 h1 k1=>?_);obtain⟨c,rfl,hc⟩:=cC H.takes;obtain⟨v,rfl,kv⟩:=pV (H.pr c (by simp)) hc;have sv:SmV v:=(H.sm (cv v) (by simp)).1;have xv:(aD E v).size≤100:=cB hS sv;have hA:SmA (s.w.arrs.getD a []):=kU H.w.arrs a;have hO:=D9 hA;have hn2:(s.w.arrs.getD a []).length≤100000:=Nat.le_trans hA.len (by decide);have htx:aD E v=v.s:=iP E kv;have hxx:(aD E v).size≤1048576:=Nat.le_trans xv (by decide);refine (MM.adel hE h1 hstk hlen sv hxx ha hO H.na hn2 pl b q).mono fun e W' hp=>⟨0,hp.1,bV.mk0 k1 hp rfl ⟨rfl,rfl,?_,rfl,rfl,?_⟩⟩
 ·show Wd.mk _ _ _ _ _ _ _ _ (s.w.arrs.set a (gP (s.w.arrs.getD a []) (aD E v)))=_;rw[htx];rfl
 show Frm.mk _ _ _ rest=Frm.mk _ _ _ (rest++[]);rw[List.append_nil];rfl
theorem bBl (hE:aU E)(hS:SmE E)(h:MM E X g s W tag){a bb:Nat}{rest top:List aJ} (H:Fnd E s 15 a rest top) (ha:a<s.w.arrs.length) (pl q b:Int) :
  OpG E X g s W tag rest top 15 a bb pl (a:Nat) b q:=by
 have hstk:=H.stk;have hlen:=H.hl;have hhigh:=H.high;refine MM.play65 h 15 (by omega) pl _ _ _ (fun W1 t1 h1 k1=>?_);obtain rfl:=jB H.takes;rw[List.append_nil] at hstk;refine (MM.aclear h1 ha H.na pl b q).mono fun e W' hp=>⟨0,hp.1,bV.mk0 k1 hp rfl ⟨rfl,rfl,rfl,rfl,rfl,?_⟩⟩;show Frm.mk s.fr.f s.fr.at_ s.fr.locs s.fr.stk=Frm.mk _ _ _ (rest++[]);rw[hstk,List.append_nil];rfl
theorem bBk (hE:aU E)(hS:SmE E)(h:MM E X g s W tag){a bb:Nat}{rest top:List aJ} (H:Fnd E s 16 a rest top) (ha:a<s.w.arrs.length) (pl q b:Int) :
  OpG E X g s W tag rest top 16 a bb pl (a:Nat) b q:=by
 have hstk:=H.stk;have hlen:=H.hl;have hhigh:=H.high;refine MM.play65 h 16 (by omega) pl _ _ _ (fun W1 t1 h1 k1=>?_);obtain rfl:=jB H.takes;rw[List.append_nil] at hstk;have hl1:s.fr.stk.length<1024:=by rw[hstk];have:rest.length+1≤1024:=hhigh;omega
 have hA:SmA (s.w.arrs.getD a []):=kU H.w.arrs a;have hO:=D9 hA;have hn2:(s.w.arrs.getD a []).length≤100000:=Nat.le_trans hA.len (by decide);exact (MM.keysOp h1 hl1 ha H.na hn2 pl b q).mono (fun e W' hp=>⟨0,hp.1,bV.mk0 k1 hp rfl ⟨rfl,rfl,rfl,rfl,rfl,by show Frm.mk s.fr.f s.fr.at_ s.fr.locs (s.fr.stk++_)=_;rw[hstk];rfl⟩⟩)
theorem bBj (hE:aU E)(hS:SmE E)(h:MM E X g s W tag){a bb t:Nat}{rest top:List aJ} (H:Fnd E s 17 a rest top) (ht:∀ L,eO E.mo s.fr.f (locsOf E.mo s.fr.f) (codeOf E.mo s.fr.f) L→fJ E.mo s.fr.f L t a) (pl b q:Int) :
  OpG E X g s W tag rest top 17 a bb pl q b (t:Nat):=by
 have hstk:=H.stk;have hlen:=H.hl;have hhigh:=H.high;obtain⟨c,rfl,hc⟩:=cC H.takes;have hcl:=aTu (aTe hc);obtain⟨li,v,ar,ks⟩:=c;have hcl':li=true:=hcl;subst hcl';have hO:dO (s.w.arrs.getD ar []):=D9 (kU H.w.arrs ar);have hK:∀ k ∈ ks,k.size≤1048576:=fun k hk=>Nat.le_trans ((H.sm ⟨true,v,ar,ks⟩ (by simp)).2 k hk) (by decide);refine MM.play64 h 17 (by omega) pl _ _ _ (fun W1 t1 h1 k1=>?_);cases hn:dJ (s.w.arrs.getD ar []) ks with
 | none=>
  have he:eff E s.w s.fr.locs 17 a bb [⟨true,v,ar,ks⟩]=⟨s.w,s.fr.locs,[],0,0,some a⟩:=by
   show (match dJ (s.w.arrs.getD ar []) ks with | none=>_ | some (k,l)=>_)=_;rw[hn]
  rw[he];refine (MM.eachNone h1 hstk hlen hO hK hn ht).mono fun e W' hp=>⟨hp.1,bV.mk0 k1 hp rfl ⟨rfl,rfl,rfl,rfl,rfl,?_⟩⟩;show Frm.mk _ _ _ rest=Frm.mk _ _ _ (rest++[]);rw[List.append_nil];rfl
 | some kl=>
  obtain⟨k,l⟩:=kl;have he:eff E s.w s.fr.locs 17 a bb [⟨true,v,ar,ks⟩]=⟨s.w,s.fr.locs,[⟨true,v,ar,l⟩,cv (dZ k)],0,0,none⟩:=by
   show (match dJ (s.w.arrs.getD ar []) ks with | none=>_ | some (k,l)=>_)=_;rw[hn];rfl
  rw[he];have hl1:s.fr.stk.length<1024:=by rw[hstk,Lla];have:rest.length+2≤1024:=hhigh;simp;omega
  exact (MM.eachSome h1 hstk hl1 hO hK hn _).mono fun e W' hp=>⟨hp.1,bV.mk0 k1 hp rfl ⟨rfl,rfl,rfl,rfl,rfl,rfl⟩⟩
end
section
variable {E:Env}{X:Nat}{g:Pl}{s:Ms}{W W':WL}{tag t1:NN}
theorem aOc (hE:aU E)(hS:SmE E)(h:MM E X g s W tag){op a bb:Nat}(ho:op=18∨op=19∨op=20∨op=21∨op=22){rest top:List aJ}(H:Fnd E s op a rest top)(pl q b:Int)(q2:Int) :
  OpG E X g s W tag rest top op a bb pl q2 b q:=by
 have hstk:=H.stk;have hlen:=H.hl;refine MM.play66 h op (by omega) pl _ _ _ (fun W1 t1 h1 k1=>?_);have hw:leS (top.map kd) [110,110]:=by
  have:=H.takes;rcases ho with rfl | rfl | rfl | rfl | rfl <;> exact this
 obtain⟨c,d,rfl,hc,hd⟩:=iM hw;obtain⟨u,rfl,ku⟩:=zZ (H.pr c (by simp)) hc;have su:SmV u:=(H.sm (cv u) (by simp)).1;obtain⟨v,rfl,kv⟩:=zZ (H.pr d (by simp)) hd;have sv:SmV v:=(H.sm (cv v) (by simp)).1;have hc:=MM.numbers hE h1 (op:=op) (by omega) hstk hlen su sv;rw[b8 ku,b8 kv] at hc;by_cases c0:(iR E op u.n v.n).2=0
 ·rw[if_pos c0] at hc;refine hc.mono fun e W' hp=>⟨_,hp.1,?_⟩;rw[show ((iR E op u.n v.n).2:Int)=0 by rw[c0];rfl];rcases ho with rfl | rfl | rfl | rfl | rfl <;> exact bV.mk0 k1 hp c0 ⟨rfl,rfl,rfl,rfl,rfl,rfl⟩
 rcases ho with rfl | rfl | rfl | rfl | rfl <;> exact hc.mono fun e W' hp=>⟨_,hp.1,bV.mk1 k1 hp rfl c0 ⟨rfl,rfl,rfl,H.code⟩⟩
theorem bBi (hE:aU E)(hS:SmE E)(h:MM E X g s W tag){a bb:Nat}{rest top:List aJ} (H:Fnd E s 23 a rest top) (pl q b:Int) (q2:Int) :
  OpG E X g s W tag rest top 23 a bb pl q2 b q:=by
 have hstk:=H.stk;have hlen:=H.hl;have hhigh:=H.high;refine MM.play68 h 23 (by omega) pl _ _ _ (fun W1 t1 h1 k1=>?_);obtain⟨c,rfl,hc⟩:=cC H.takes;obtain⟨v,rfl,kv⟩:=zZ (H.pr c (by simp)) hc;have sv:SmV v:=(H.sm (cv v) (by simp)).1;have:=sv.lo;have:=sv.hi;have e0:tP E 23 v=whole (E.wr (-v.n)):=by unfold tP;rw[if_pos rfl,b8 kv,hE.wr _ (by omega) (by omega)]
 have hc:=MM.one hE h1 (op:=23) (by omega) hstk hlen sv;rw[e0] at hc;exact hc.mono fun e W' hp=>⟨hp.1,bV.mk0 k1 hp rfl ⟨rfl,rfl,rfl,rfl,rfl,rfl⟩⟩
theorem bBh (hE:aU E)(hS:SmE E)(h:MM E X g s W tag){a bb:Nat}{rest top:List aJ} (H:Fnd E s 24 a rest top) (pl q b:Int) (q2:Int) :
  OpG E X g s W tag rest top 24 a bb pl q2 b q:=by
 have hstk:=H.stk;have hlen:=H.hl;have hhigh:=H.high;refine MM.play68 h 24 (by omega) pl _ _ _ (fun W1 t1 h1 k1=>?_);obtain⟨c,rfl,hc⟩:=cC H.takes;obtain⟨v,rfl,kv⟩:=zZ (H.pr c (by simp)) hc;have sv:SmV v:=(H.sm (cv v) (by simp)).1;have e0:tP E 24 v=whole (eZ (decide (v.n=0))):=by unfold tP;rw[if_neg (by decide),if_pos rfl,b8 kv];rfl
 have hc:=MM.one hE h1 (op:=24) (by omega) hstk hlen sv;rw[e0] at hc;exact hc.mono fun e W' hp=>⟨hp.1,bV.mk0 k1 hp rfl ⟨rfl,rfl,rfl,rfl,rfl,rfl⟩⟩
theorem bBf (hE:aU E)(hS:SmE E)(h:MM E X g s W tag){a bb:Nat}{rest top:List aJ} (H:Fnd E s 26 a rest top) (pl q b:Int) (q2:Int) :
  OpG E X g s W tag rest top 26 a bb pl q2 b q:=by
 have hstk:=H.stk;have hlen:=H.hl;have hhigh:=H.high;refine MM.play68 h 26 (by omega) pl _ _ _ (fun W1 t1 h1 k1=>?_);obtain⟨c,rfl,hc⟩:=cC H.takes;obtain⟨v,rfl⟩:=rP (H.pr c (by simp)) hc;have sv:SmV v:=(H.sm (cv v) (by simp)).1;have e0:tP E 26 v=whole (numV v):=rfl;have hc:=MM.one hE h1 (op:=26) (by omega) hstk hlen sv;rw[e0] at hc;exact hc.mono fun e W' hp=>⟨hp.1,bV.mk0 k1 hp rfl ⟨rfl,rfl,rfl,rfl,rfl,rfl⟩⟩
theorem bBe (hE:aU E)(hS:SmE E)(h:MM E X g s W tag){a bb:Nat}{rest top:List aJ} (H:Fnd E s 27 a rest top) (pl q b:Int) (q2:Int) :
  OpG E X g s W tag rest top 27 a bb pl q2 b q:=by
 have hstk:=H.stk;have hlen:=H.hl;have hhigh:=H.high;refine MM.play68 h 27 (by omega) pl _ _ _ (fun W1 t1 h1 k1=>?_);obtain⟨c,rfl,hc⟩:=cC H.takes;obtain⟨v,rfl⟩:=rP (H.pr c (by simp)) hc;have sv:SmV v:=(H.sm (cv v) (by simp)).1;have e0:tP E 27 v=dZ (aD E v):=rfl;have hc:=MM.one hE h1 (op:=27) (by omega) hstk hlen sv;rw[e0] at hc;exact hc.mono fun e W' hp=>⟨hp.1,bV.mk0 k1 hp rfl ⟨rfl,rfl,rfl,rfl,rfl,rfl⟩⟩
theorem bBd (hE:aU E)(hS:SmE E)(h:MM E X g s W tag){a bb:Nat}{rest top:List aJ} (H:Fnd E s 28 a rest top) (pl q b:Int) (q2:Int) :
  OpG E X g s W tag rest top 28 a bb pl q2 b q:=by
 have hstk:=H.stk;have hlen:=H.hl;have hhigh:=H.high;refine MM.play68 h 28 (by omega) pl _ _ _ (fun W1 t1 h1 k1=>?_);obtain⟨c,rfl,hc⟩:=cC H.takes;obtain⟨v,rfl⟩:=rP (H.pr c (by simp)) hc;have sv:SmV v:=(H.sm (cv v) (by simp)).1;have e0:tP E 28 v=whole (eZ (pB v)):=rfl;have hc:=MM.one hE h1 (op:=28) (by omega) hstk hlen sv;rw[e0] at hc;exact hc.mono fun e W' hp=>⟨hp.1,bV.mk0 k1 hp rfl ⟨rfl,rfl,rfl,rfl,rfl,rfl⟩⟩
theorem bBg (hE:aU E)(hS:SmE E)(h:MM E X g s W tag){a bb:Nat}{rest top:List aJ} (H:Fnd E s 25 a rest top) (pl q b:Int) (q2:Int) :
  OpG E X g s W tag rest top 25 a bb pl q2 b q:=by
 have hstk:=H.stk;have hlen:=H.hl;have hhigh:=H.high;refine MM.play67 h 25 (by omega) pl _ _ _ (fun W1 t1 h1 k1=>?_);obtain⟨c,d,rfl,hc,hd⟩:=iM H.takes;obtain⟨u,rfl,ku⟩:=pV (H.pr c (by simp)) hc;have su:SmV u:=(H.sm (cv u) (by simp)).1;have xu:(aD E u).size≤100:=cB hS su;obtain⟨v,rfl,kv⟩:=pV (H.pr d (by simp)) hd;have sv:SmV v:=(H.sm (cv v) (by simp)).1;have xv:(aD E v).size≤100:=cB hS sv;have hc:=MM.cat hE h1 hstk hlen su sv xu xv;rw[iP E ku,iP E kv] at hc;by_cases c:u.s.size+v.s.size>100
 ·have he:eff E s.w s.fr.locs 25 a bb [cv u,cv v]=.bad s.w s.fr.locs 6:=if_pos c;rw[he];rw[if_pos c,if_pos c] at hc;exact hc.mono fun e W' hp=>⟨6,hp.1,bV.mk1 k1 hp rfl (show (6:Nat)≠0 by decide) ⟨rfl,rfl,rfl,H.code⟩⟩
 have he:eff E s.w s.fr.locs 25 a bb [cv u,cv v]=.put s.w s.fr.locs (dZ (u.s++v.s)):=if_neg c;rw[he];rw[if_neg c,if_neg c] at hc;exact hc.mono fun e W' hp=>⟨0,hp.1,bV.mk0 k1 hp rfl ⟨rfl,rfl,rfl,rfl,rfl,rfl⟩⟩
theorem aJu (hE:aU E)(hS:SmE E)(h:MM E X g s W tag){op a bb:Nat}(ho:op=29∨op=30∨op=31∨op=32∨op=33∨op=34){rest top:List aJ}(H:Fnd E s op a rest top)(pl q b:Int)(q2:Int) :
  OpG E X g s W tag rest top op a bb pl q2 b q:=by
 have hstk:=H.stk;have hlen:=H.hl;refine MM.play69 h op (by omega) pl _ _ _ (fun W1 t1 h1 k1=>?_);have hw:leS (top.map kd) [97,97]:=by
  have:=H.takes;rcases ho with rfl | rfl | rfl | rfl | rfl | rfl <;> exact this
 obtain⟨c,d,rfl,hc,hd⟩:=iM hw;obtain⟨u,rfl⟩:=rP (H.pr c (by simp)) hc;have su:SmV u:=(H.sm (cv u) (by simp)).1;obtain⟨v,rfl⟩:=rP (H.pr d (by simp)) hd;have sv:SmV v:=(H.sm (cv v) (by simp)).1;have hc:=MM.compare hE h1 (op:=op) (by omega) hstk hlen su sv;rcases ho with rfl | rfl | rfl | rfl | rfl | rfl <;> exact hc.mono fun e W' hp=>⟨hp.1,bV.mk0 k1 hp rfl ⟨rfl,rfl,rfl,rfl,rfl,rfl⟩⟩
theorem bAy (hE:aU E)(hS:SmE E)(h:MM E X g s W tag){a bb:Nat}{rest top:List aJ} (H:Fnd E s 39 a rest top) (pl q b:Int) (q2:Int) :
  OpG E X g s W tag rest top 39 a bb pl q2 b q:=by
 have hstk:=H.stk;have hlen:=H.hl;have hhigh:=H.high;refine MM.play71 h 39 (by omega) pl _ _ _ (fun W1 t1 h1 k1=>?_);obtain⟨c,rfl,hc⟩:=cC H.takes;obtain⟨v,rfl,kv⟩:=pV (H.pr c (by simp)) hc;have sv:SmV v:=(H.sm (cv v) (by simp)).1;have xv:(aD E v).size≤100:=cB hS sv;have hc:=MM.len hE h1 hstk hlen sv;rw[iP E kv] at hc;exact hc.mono fun e W' hp=>⟨hp.1,bV.mk0 k1 hp rfl ⟨rfl,rfl,rfl,rfl,rfl,rfl⟩⟩
theorem bAx (hE:aU E)(hS:SmE E)(h:MM E X g s W tag){a bb:Nat}{rest top:List aJ} (H:Fnd E s 40 a rest top) (pl q b:Int) (q2:Int) :
  OpG E X g s W tag rest top 40 a bb pl q2 b q:=by
 have hstk:=H.stk;have hlen:=H.hl;have hhigh:=H.high;refine MM.play71 h 40 (by omega) pl _ _ _ (fun W1 t1 h1 k1=>?_);obtain⟨c,d,f,rfl,hc,hd,hf⟩:=aIq H.takes;obtain⟨t,rfl,kt⟩:=pV (H.pr c (by simp)) hc;have st:SmV t:=(H.sm (cv t) (by simp)).1;have xt:(aD E t).size≤100:=cB hS st;obtain⟨u,rfl,ku⟩:=zZ (H.pr d (by simp)) hd;have su:SmV u:=(H.sm (cv u) (by simp)).1;obtain⟨v,rfl,kv⟩:=zZ (H.pr f (by simp)) hf;have sv:SmV v:=(H.sm (cv v) (by simp)).1;have hc:=MM.part hE h1 hstk hlen st su sv xt;have:=su.lo;have:=su.hi;have:=sv.lo;have:=sv.hi;rw[iP E kt,b8 ku,b8 kv,← hE.wr (u.n+v.n) (by omega) (by omega)] at hc;exact hc.mono fun e W' hp=>⟨hp.1,bV.mk0 k1 hp rfl ⟨rfl,rfl,rfl,rfl,rfl,rfl⟩⟩
theorem bAw (hE:aU E)(hS:SmE E)(h:MM E X g s W tag){a bb:Nat}{rest top:List aJ} (H:Fnd E s 41 a rest top) (pl q b:Int) (q2:Int) :
  OpG E X g s W tag rest top 41 a bb pl q2 b q:=by
 have hstk:=H.stk;have hlen:=H.hl;have hhigh:=H.high;refine MM.play71 h 41 (by omega) pl _ _ _ (fun W1 t1 h1 k1=>?_);obtain⟨c,d,rfl,hc,hd⟩:=iM H.takes;obtain⟨u,rfl,ku⟩:=pV (H.pr c (by simp)) hc;have su:SmV u:=(H.sm (cv u) (by simp)).1;have xu:(aD E u).size≤100:=cB hS su;obtain⟨v,rfl,kv⟩:=pV (H.pr d (by simp)) hd;have sv:SmV v:=(H.sm (cv v) (by simp)).1;have xv:(aD E v).size≤100:=cB hS sv;have hc:=MM.index hE h1 hstk hlen su sv xu;rw[iP E ku,iP E kv] at hc;exact hc.mono fun e W' hp=>⟨hp.1,bV.mk0 k1 hp rfl ⟨rfl,rfl,rfl,rfl,rfl,rfl⟩⟩
theorem bAs (hE:aU E)(hS:SmE E)(h:MM E X g s W tag){a bb:Nat}{rest top:List aJ} (H:Fnd E s 45 a rest top) (pl q b:Int) (q2:Int) :
  OpG E X g s W tag rest top 45 a bb pl q2 b q:=by
 have hstk:=H.stk;have hlen:=H.hl;have hhigh:=H.high;refine MM.play73 h 45 (by omega) pl _ _ _ (fun W1 t1 h1 k1=>?_);obtain⟨c,rfl,hc⟩:=cC H.takes;obtain⟨v,rfl⟩:=rP (H.pr c (by simp)) hc;have sv:SmV v:=(H.sm (cv v) (by simp)).1;have hl1:s.fr.stk.length<1024:=by rw[hstk,Lla];have:rest.length+2≤1024:=hhigh;simp;omega
 exact (MM.dup h1 hstk hl1).mono fun e W' hp=>⟨hp.1,bV.mk0 k1 hp rfl ⟨rfl,rfl,rfl,rfl,rfl,rfl⟩⟩
theorem bAr (hE:aU E)(hS:SmE E)(h:MM E X g s W tag){a bb:Nat}{rest top:List aJ} (H:Fnd E s 46 a rest top) (pl q b:Int) (q2:Int) :
  OpG E X g s W tag rest top 46 a bb pl q2 b q:=by
 have hstk:=H.stk;have hlen:=H.hl;have hhigh:=H.high;refine MM.play73 h 46 (by omega) pl _ _ _ (fun W1 t1 h1 k1=>?_);obtain⟨c,d,rfl,hc,hd⟩:=iM H.takes;obtain⟨u,rfl⟩:=rP (H.pr c (by simp)) hc;have su:SmV u:=(H.sm (cv u) (by simp)).1;obtain⟨v,rfl⟩:=rP (H.pr d (by simp)) hd;have sv:SmV v:=(H.sm (cv v) (by simp)).1;have hl1:s.fr.stk.length<1024:=by rw[hstk,Lla];have:rest.length+3≤1024:=hhigh;simp;omega
 exact (MM.under h1 hstk hl1).mono fun e W' hp=>⟨hp.1,bV.mk0 k1 hp rfl ⟨rfl,rfl,rfl,rfl,rfl,rfl⟩⟩
theorem bAq (hE:aU E)(hS:SmE E)(h:MM E X g s W tag){a bb:Nat}{rest top:List aJ} (H:Fnd E s 47 a rest top) (pl q b:Int) (q2:Int) :
  OpG E X g s W tag rest top 47 a bb pl q2 b q:=by
 have hstk:=H.stk;have hlen:=H.hl;have hhigh:=H.high;refine MM.play73 h 47 (by omega) pl _ _ _ (fun W1 t1 h1 k1=>?_);obtain⟨c,rfl,hc⟩:=cC H.takes;refine (MM.drop h1 hstk hlen).mono fun e W' hp=>⟨hp.1,bV.mk0 k1 hp rfl ⟨rfl,rfl,rfl,rfl,rfl,?_⟩⟩;show Frm.mk _ _ _ rest=Frm.mk _ _ _ (rest++[]);rw[List.append_nil];rfl
end
section
variable {E:Env}{X:Nat}{g:Pl}{s:Ms}{W W':WL}{tag t1:NN}
theorem bBc (hE:aU E)(hS:SmE E)(h:MM E X g s W tag){a bb:Nat}{rest top:List aJ} (H:Fnd E s 35 a rest top) (ha:a<E.mo.pats.length) (pl q b:Int) :
  OpG E X g s W tag rest top 35 a bb pl (a:Nat) b q:=by
 have hstk:=H.stk;have hlen:=H.hl;have hhigh:=H.high;refine MM.play70 h 35 (by omega) pl _ _ _ (fun W1 t1 h1 k1=>?_);obtain⟨c,rfl,hc⟩:=cC H.takes;obtain⟨v,rfl,kv⟩:=pV (H.pr c (by simp)) hc;have sv:SmV v:=(H.sm (cv v) (by simp)).1;have xv:(aD E v).size≤100:=cB hS sv;obtain⟨t,ht⟩:∃ t,E.mo.pats[a]?=some t:=⟨_,Lge ha⟩;have et:E.mo.pats.getD a cU=t:=by rw[List.getD_eq_getElem?_getD,ht];rfl
 have hf:=hS.fnd t v.s sv.sz;have hc:=MM.pfind hE h1 hstk hlen sv xv ht (by rw[iP E kv];omega) pl b q;rw[iP E kv,← et] at hc;exact hc.mono fun e W' hp=>⟨0,hp.1,bV.mk0 k1 hp rfl ⟨rfl,rfl,rfl,rfl,rfl,rfl⟩⟩
theorem bBb (hE:aU E)(hS:SmE E)(h:MM E X g s W tag){a bb:Nat}{rest top:List aJ} (H:Fnd E s 36 a rest top) (ha:a<E.mo.pats.length) (pl q b:Int) :
  OpG E X g s W tag rest top 36 a bb pl (a:Nat) b q:=by
 have hstk:=H.stk;have hlen:=H.hl;have hhigh:=H.high;refine MM.play70 h 36 (by omega) pl _ _ _ (fun W1 t1 h1 k1=>?_);obtain⟨c,rfl,hc⟩:=cC H.takes;obtain⟨v,rfl,kv⟩:=pV (H.pr c (by simp)) hc;have sv:SmV v:=(H.sm (cv v) (by simp)).1;have xv:(aD E v).size≤100:=cB hS sv;obtain⟨t,ht⟩:∃ t,E.mo.pats[a]?=some t:=⟨_,Lge ha⟩;have et:E.mo.pats.getD a cU=t:=by rw[List.getD_eq_getElem?_getD,ht];rfl
 have hc:=MM.pspan hE h1 hstk hlen sv xv ht pl b q;rw[iP E kv,← et] at hc;exact hc.mono fun e W' hp=>⟨0,hp.1,bV.mk0 k1 hp rfl ⟨rfl,rfl,rfl,rfl,rfl,rfl⟩⟩
theorem bBa (hE:aU E)(hS:SmE E)(h:MM E X g s W tag){a bb:Nat}{rest top:List aJ} (H:Fnd E s 37 a rest top) (ha:a<E.mo.pats.length) (pl q b:Int) :
  OpG E X g s W tag rest top 37 a bb pl (a:Nat) b q:=by
 have hstk:=H.stk;have hlen:=H.hl;have hhigh:=H.high;refine MM.play70 h 37 (by omega) pl _ _ _ (fun W1 t1 h1 k1=>?_);obtain⟨c,d,rfl,hc,hd⟩:=iM H.takes;obtain⟨u,rfl,ku⟩:=pV (H.pr c (by simp)) hc;have su:SmV u:=(H.sm (cv u) (by simp)).1;have xu:(aD E u).size≤100:=cB hS su;obtain⟨v,rfl,kv⟩:=pV (H.pr d (by simp)) hd;have sv:SmV v:=(H.sm (cv v) (by simp)).1;have xv:(aD E v).size≤100:=cB hS sv;obtain⟨t,ht⟩:∃ t,E.mo.pats[a]?=some t:=⟨_,Lge ha⟩;have et:E.mo.pats.getD a cU=t:=by rw[List.getD_eq_getElem?_getD,ht];rfl
 have hc:=MM.pswap hE h1 hstk hlen su sv xu xv ht pl b q;rw[iP E ku,iP E kv,← et] at hc;by_cases c:(E.swp (E.mo.pats.getD a cU) u.s v.s).size>100
 ·have he:eff E s.w s.fr.locs 37 a bb [cv u,cv v]=.bad s.w s.fr.locs 6:=if_pos c;rw[he];rw[if_pos c,if_pos c] at hc;exact hc.mono fun e W' hp=>⟨6,hp.1,bV.mk1 k1 hp rfl (show (6:Nat)≠0 by decide) ⟨rfl,rfl,rfl,H.code⟩⟩
 have he:eff E s.w s.fr.locs 37 a bb [cv u,cv v]=.put s.w s.fr.locs (dZ (E.swp (E.mo.pats.getD a cU) u.s v.s)):=if_neg c;rw[he];rw[if_neg c,if_neg c] at hc;exact hc.mono fun e W' hp=>⟨0,hp.1,bV.mk0 k1 hp rfl ⟨rfl,rfl,rfl,rfl,rfl,rfl⟩⟩
theorem bAz (hE:aU E)(hS:SmE E)(h:MM E X g s W tag){a bb:Nat}{rest top:List aJ} (H:Fnd E s 38 a rest top) (ha:a<s.w.arrs.length) (hb:bb<E.mo.pats.length) (hbig:∀ p x:BA,x.size≤100→(E.spl p x).length≤1000000) (pl q:Int) :
  OpG E X g s W tag rest top 38 a bb pl (a:Nat) (bb:Nat) q:=by
 have hstk:=H.stk;have hlen:=H.hl;have hhigh:=H.high;refine MM.play70 h 38 (by omega) pl _ _ _ (fun W1 t1 h1 k1=>?_);obtain⟨c,rfl,hc⟩:=cC H.takes;obtain⟨v,rfl,kv⟩:=pV (H.pr c (by simp)) hc;have sv:SmV v:=(H.sm (cv v) (by simp)).1;have xv:(aD E v).size≤100:=cB hS sv;obtain⟨t,ht⟩:∃ t,E.mo.pats[bb]?=some t:=⟨_,Lge hb⟩;have et:E.mo.pats.getD bb cU=t:=by rw[List.getD_eq_getElem?_getD,ht];rfl
 have hc:=MM.psplit hE hS h1 hstk hlen sv xv ht ha H.na (hbig _ _ xv) pl q;rw[iP E kv,← et] at hc;by_cases c:(E.spl (E.mo.pats.getD bb cU) v.s).length>30
 ·have he:eff E s.w s.fr.locs 38 a bb [cv v]=.bad s.w s.fr.locs 7:=if_pos c;rw[he];rw[if_pos c,if_pos c] at hc;exact hc.mono fun e W' hp=>⟨7,hp.1,bV.mk1 k1 hp rfl (show (7:Nat)≠0 by decide) ⟨rfl,rfl,rfl,H.code⟩⟩
 have he:eff E s.w s.fr.locs 38 a bb [cv v]=.put { s.w with arrs:=s.w.arrs.set a (cH E 0 (E.spl (E.mo.pats.getD bb cU) v.s)) } s.fr.locs (whole ((E.spl (E.mo.pats.getD bb cU) v.s).length:Int)):=if_neg c;rw[he];rw[if_neg c,if_neg c] at hc;exact hc.mono fun e W' hp=>⟨0,hp.1,bV.mk0 k1 hp rfl ⟨rfl,rfl,rfl,rfl,rfl,rfl⟩⟩
theorem bAv (hE:aU E)(hS:SmE E)(h:MM E X g s W tag){a bb:Nat}{rest top:List aJ} (H:Fnd E s 42 a rest top) (pl q b:Int) (q2:Int) :
  OpG E X g s W tag rest top 42 a bb pl q2 b q:=by
 have hstk:=H.stk;have hlen:=H.hl;have hhigh:=H.high;refine MM.play72 h 42 (by omega) pl _ _ _ (fun W1 t1 h1 k1=>?_);obtain rfl:=jB H.takes;rw[List.append_nil] at hstk;have hl1:s.fr.stk.length<1024:=by rw[hstk];have:rest.length+1≤1024:=hhigh;omega
 exact (MM.igetline h1 hl1 (fun t ht=>Nat.le_trans (H.w.recs t (List.mem_of_getElem? ht)) (by decide)) (Nat.le_trans H.w.nrec (by decide)) pl q2 b q).mono (fun e W' hp=>⟨0,hp.1,bV.mk0 k1 hp rfl ⟨rfl,rfl,rfl,rfl,rfl,by show Frm.mk s.fr.f s.fr.at_ s.fr.locs (s.fr.stk++_)=_;rw[hstk];rfl⟩⟩)
theorem bAu (hE:aU E)(hS:SmE E)(h:MM E X g s W tag){a bb:Nat}{rest top:List aJ} (H:Fnd E s 43 a rest top) (pl q b:Int) (q2:Int) :
  OpG E X g s W tag rest top 43 a bb pl q2 b q:=by
 have hstk:=H.stk;have hlen:=H.hl;have hhigh:=H.high;refine MM.play72 h 43 (by omega) pl _ _ _ (fun W1 t1 h1 k1=>?_);obtain rfl:=jB H.takes;rw[List.append_nil] at hstk;have hl1:s.fr.stk.length<1024:=by rw[hstk];have:rest.length+1≤1024:=hhigh;omega
 cases hd:s.w.draws[s.w.drawn]? with
 | none=>
  have he:eff E s.w s.fr.locs 43 a bb []=.put s.w s.fr.locs (whole 0):=by
   show (match s.w.draws[s.w.drawn]? with | none=>_ | some n=>_)=_;rw[hd]
  rw[he];exact (MM.idraw0 h1 hl1 hd pl q2 b q).mono (fun e W' hp=>⟨0,hp.1,bV.mk0 k1 hp rfl ⟨rfl,rfl,rfl,rfl,rfl,by show Frm.mk s.fr.f s.fr.at_ s.fr.locs (s.fr.stk++_)=_;rw[hstk];rfl⟩⟩)
 | some n=>
  have he:eff E s.w s.fr.locs 43 a bb []=.put { s.w with drawn:=s.w.drawn+1 } s.fr.locs (whole n):=by
   show (match s.w.draws[s.w.drawn]? with | none=>_ | some n=>_)=_;rw[hd]
  rw[he];exact (MM.idraw1 h1 hl1 hd pl q2 b q).mono (fun e W' hp=>⟨0,hp.1,bV.mk0 k1 hp rfl ⟨rfl,rfl,rfl,rfl,rfl,by show Frm.mk s.fr.f s.fr.at_ s.fr.locs (s.fr.stk++_)=_;rw[hstk];rfl⟩⟩)
theorem aMd {top:List aJ}{n:Nat} (h:leS (top.map kd) (List.replicate n 116)) (hp:∀ c ∈ top,c.list=false→c=cv c.v):∃ vs:List Val,top=vs.map cv∧vs.length=n∧∀ v ∈ vs,v.kind=2:=by
 induction top generalizing n with
 | nil=>
  cases n with
  | zero=>exact⟨[],rfl,rfl,by simp⟩
  | succ n=>exact h.elim
 | cons c top ih=>
  cases n with
  | zero=>exact h.elim
  | succ n=>
   have h':le (kd c) 116∧leS (top.map kd) (List.replicate n 116):=h;obtain⟨v,rfl,hv⟩:=pV (hp c (by simp)) h'.1;obtain⟨vs,rfl,hl,hk⟩:=ih h'.2 fun c hc=>hp c (by simp[hc]);exact⟨v :: vs,rfl,by simp[hl],fun u hu=>by
    rcases List.mem_cons.1 hu with rfl | hu
    ·exact hv
    exact hk u hu⟩
theorem bAt (hE:aU E)(hS:SmE E)(h:MM E X g s W tag){a bb:Nat}{rest top:List aJ} (H:Fnd E s 44 a rest top) (pl q b:Int) :
  OpG E X g s W tag rest top 44 a bb pl (a:Nat) b q:=by
 have hstk:=H.stk;have hlen:=H.hl;have htk:leS (top.map kd) (List.replicate a 116):=H.takes;obtain⟨vs,rfl,hvl,hvk⟩:=aMd htk H.pr;have hsm:∀ v ∈ vs,SmV v:=fun v hv=>(H.sm (cv v) (List.mem_map.2 ⟨v,hv,rfl⟩)).1;refine MM.play72 h 44 (by omega) pl _ _ _ (fun W1 t1 h1 k1=>?_);have hc:=MM.iprint hE h1 hstk hlen hsm (fun x hx=>by
  obtain⟨v,hv,rfl⟩:=List.mem_map.1 hx;exact Nat.le_trans (cB hS (hsm v hv)) (by decide)) H.w.out pl b q
 rw[hvl] at hc;have et:vs.map (aD E)=(vs.map cv).map fun c=>c.v.s:=by
  rw[List.map_map];refine List.map_congr_left fun v hv=>?_;exact iP E (hvk v hv)
 rw[et] at hc;by_cases c0:(fN s.w ((vs.map cv).map fun c=>c.v.s)).2=0
 ·refine hc.mono fun e W' hp=>⟨_,hp.1,?_⟩;rw[show ((fN s.w ((vs.map cv).map fun c=>c.v.s)).2:Int)=0 by rw[c0];rfl];refine bV.mk0 k1 hp c0 ⟨rfl,rfl,rfl,rfl,rfl,?_⟩;show Frm.mk _ _ _ rest=Frm.mk _ _ _ (rest++[]);rw[List.append_nil];rfl
 exact hc.mono fun e W' hp=>⟨_,hp.1,bV.mk1 k1 hp rfl c0 ⟨rfl,rfl,rfl,H.code⟩⟩
theorem bAp (hE:aU E)(hS:SmE E)(h:MM E X g s W tag){a bb t:Nat}{rest top:List aJ} (H:Fnd E s 48 a rest top) (ht:∀ L,eO E.mo s.fr.f (locsOf E.mo s.fr.f) (codeOf E.mo s.fr.f) L→fJ E.mo s.fr.f L t a) (pl b q:Int) :
  OpG E X g s W tag rest top 48 a bb pl q b (t:Nat):=by
 have hstk:=H.stk;obtain rfl:=jB H.takes;rw[List.append_nil] at hstk;refine MM.play74 h 48 (by omega) pl _ _ _ (fun W1 t1 h1 k1=>?_);refine (MM.jump h1 ht pl q b).mono fun e W' hp=>⟨0,hp.1,bV.mk0 k1 hp rfl ⟨rfl,rfl,rfl,rfl,rfl,?_⟩⟩;show Frm.mk s.fr.f a s.fr.locs s.fr.stk=Frm.mk _ _ _ (rest++[]);rw[hstk,List.append_nil];rfl
theorem bAo (hE:aU E)(hS:SmE E)(h:MM E X g s W tag){a bb t:Nat}{rest top:List aJ} (H:Fnd E s 49 a rest top) (ht:∀ L,eO E.mo s.fr.f (locsOf E.mo s.fr.f) (codeOf E.mo s.fr.f) L→fJ E.mo s.fr.f L t a) (pl b q:Int) :
  OpG E X g s W tag rest top 49 a bb pl q b (t:Nat):=by
 have hstk:=H.stk;obtain⟨c,rfl,hc⟩:=cC H.takes;obtain⟨v,rfl,kv⟩:=zZ (H.pr c (by simp)) hc;have sv:SmV v:=(H.sm (cv v) (by simp)).1;refine MM.play74 h 49 (by omega) pl _ _ _ (fun W1 t1 h1 k1=>?_);have hc:=MM.jz h1 hstk H.hl sv ht pl q b;rw[b8 kv] at hc;by_cases c0:v.n=0
 ·have he:eff E s.w s.fr.locs 49 a bb [cv v]=⟨s.w,s.fr.locs,[],0,0,some a⟩:=by
   show Eff.mk _ _ _ _ _ (if v.n=0 then _ else _)=_;rw[if_pos c0]
  rw[he];rw[if_pos c0] at hc;refine hc.mono fun e W' hp=>⟨0,hp.1,bV.mk0 k1 hp rfl ⟨rfl,rfl,rfl,rfl,rfl,?_⟩⟩;show Frm.mk _ _ _ rest=Frm.mk _ _ _ (rest++[]);rw[List.append_nil];rfl
 have he:eff E s.w s.fr.locs 49 a bb [cv v]=⟨s.w,s.fr.locs,[],0,0,none⟩:=by
  show Eff.mk _ _ _ _ _ (if v.n=0 then _ else _)=_;rw[if_neg c0]
 rw[he];rw[if_neg c0] at hc;refine hc.mono fun e W' hp=>⟨0,hp.1,bV.mk0 k1 hp rfl ⟨rfl,rfl,rfl,rfl,rfl,?_⟩⟩;show Frm.mk _ _ _ rest=Frm.mk _ _ _ (rest++[]);rw[List.append_nil];rfl
theorem bAn (hE:aU E)(hS:SmE E)(h:MM E X g s W tag){a bb:Nat}{rest top:List aJ} (H:Fnd E s 53 a rest top) (pl b q t:Int) :
  OpG E X g s W tag rest top 53 a bb pl q b t:=by
 have hstk:=H.stk;obtain⟨c,rfl,hc⟩:=cC H.takes;obtain⟨v,rfl,kv⟩:=zZ (H.pr c (by simp)) hc;have sv:SmV v:=(H.sm (cv v) (by simp)).1;refine MM.play74 h 53 (by omega) pl _ _ _ (fun W1 t1 h1 k1=>?_);have hc:=MM.exit h1 hstk H.hl sv pl q b t;rw[b8 kv] at hc;exact hc.mono fun e W' hp=>⟨2,hp.1,bV.mk1 k1 hp rfl (show (2:Nat)≠0 by decide) ⟨rfl,rfl,rfl,rfl⟩⟩
end
theorem aJs {m:Mo}{f locs:Nat}{c:LB}{i:Nat}{s:Stp} (h:bH m f locs c i=.inr s) (h38:s.op=38):pE m locs 6 s.b=true:=by
 unfold bH at h;split at h
 ·split at h
  ·rename_i h0
   simp only[Sum.inr.injEq] at h;subst h;simp only at h38;rw[h38] at h0;exact absurd h0 (by decide)
  split at h
  ·cases h
  split at h
  ·split at h
   ·cases h
   ·rename_i hop
    obtain⟨-,-,hf⟩:=fS hop;simp only[Sum.inr.injEq] at h;subst h;exact hf
  ·rename_i hne
   simp only[Sum.inr.injEq] at h;subst h;exact absurd h38 hne
 cases h
structure Lim (E:Env):Prop where
 texts:E.mo.texts.length≤2000000000
 globs:E.mo.globs.toNat≤2000000000
 pats:E.mo.pats.length≤2000000000
 arrs:E.mo.arrs.toNat≤1000
 locs:∀ f,f<E.mo.fns.length→locsOf E.mo f≤16
 spl:∀ p x:BA,x.size≤100→(E.spl p x).length≤1000000
structure Opd (E:Env) (s:Ms) (i:Stp) (t:Nat):Prop where
 fit:∀ sort,eP.getD i.op 0=sort→sort≠0→pE E.mo (locsOf E.mo s.fr.f) sort i.a=true
 fitb:i.op=38→pE E.mo (locsOf E.mo s.fr.f) 6 i.b=true
 go:far i.op=true→∀ L,eO E.mo s.fr.f (locsOf E.mo s.fr.f) (codeOf E.mo s.fr.f) L→fJ E.mo s.fr.f L t i.a
 locs:s.fr.locs.length=locsOf E.mo s.fr.f
 l16:locsOf E.mo s.fr.f≤16
 arrs:s.w.arrs.length=E.mo.arrs.toNat
 globs:s.w.globs.length=E.mo.globs.toNat
section
variable {E:Env}{X:Nat}{g:Pl}{s:Ms}{W W':WL}{tag t1:NN}
theorem aNp (hE:aU E)(hS:SmE E)(hL:Lim E)(h:MM E X g s W tag){i:Stp}{t:Nat}{rest top:List aJ} (H:Fnd E s i.op i.a rest top) (O:Opd E s i t) (hop:i.op<54) (h50:i.op≠50) (h51:i.op≠51) (h52:i.op≠52) :
  Calls prog 43 #[ptr X,inV (i.op:Nat) (i.pl:Nat) (min i.a 2000000000:Nat) (min i.b 2000000000:Nat) (t:Nat)] W (fun e W'=>∃ st:Int,e=.returned (stI st)∧bV E X g s tag W rest (eff E s.w s.fr.locs i.op i.a i.b top) st W'):=by
 obtain⟨pl,nx,op,a,b⟩:=i
 simp only at *
 match op,hop with
 | 0,_=>
  have hf:=bY (O.fit 1 rfl (by decide))
  simp[Flow.low,dQ] at hf
  rw[show min a 2000000000=a by omega]
  exact op0 hE hS h H (by omega) _ _ _
 | 1,_=>
  have hf:=bY (O.fit 2 rfl (by decide))
  simp[Flow.low,dQ] at hf
  have:=hL.texts
  rw[show min a 2000000000=a by omega]
  exact op1 hE hS h H hf _ _ _
 | 2,_=>
  exact op2 hE hS h H _ _ _ _
 | 3,_=>
  have hf:=bY (O.fit 3 rfl (by decide))
  simp[Flow.low,dQ] at hf
  have:=O.l16
  rw[show min a 2000000000=a by omega]
  exact op3 hE hS h H (by omega) _ _ _
 | 4,_=>
  have hf:=bY (O.fit 3 rfl (by decide))
  simp[Flow.low,dQ] at hf
  have:=O.l16
  have:=O.locs
  rw[show min a 2000000000=a by omega]
  exact op4 hE hS h H (by omega) (by omega) _ _ _
 | 5,_=>
  have hf:=bY (O.fit 4 rfl (by decide))
  simp[Flow.low,dQ] at hf
  have:=hL.globs
  have:=O.globs
  rw[show min a 2000000000=a by omega]
  exact op5 hE hS h H (by omega) _ _ _
 | 6,_=>
  have hf:=bY (O.fit 4 rfl (by decide))
  simp[Flow.low,dQ] at hf
  have:=hL.globs
  have:=O.globs
  rw[show min a 2000000000=a by omega]
  exact op6 hE hS h H (by omega) _ _ _
 | 7,_=>
  exact op7 hE hS h H _ _ _ _
 | 8,_=>
  exact op8 hE hS h H _ _ _ _
 | 9,_=>
  exact op9 hE hS h H _ _ _ _
 | 10,_=>
  exact bBq hE hS h H _ _ _ _
 | 11,_=>
  have hf:=bY (O.fit 5 rfl (by decide))
  simp[Flow.low,dQ] at hf
  have:=hL.arrs
  have:=O.arrs
  rw[show min a 2000000000=a by omega]
  exact bBp hE hS h H (by omega) _ _ _
 | 12,_=>
  have hf:=bY (O.fit 5 rfl (by decide))
  simp[Flow.low,dQ] at hf
  have:=hL.arrs
  have:=O.arrs
  rw[show min a 2000000000=a by omega]
  exact bBo hE hS h H (by omega) _ _ _
 | 13,_=>
  have hf:=bY (O.fit 5 rfl (by decide))
  simp[Flow.low,dQ] at hf
  have:=hL.arrs
  have:=O.arrs
  rw[show min a 2000000000=a by omega]
  exact bBn hE hS h H (by omega) _ _ _
 | 14,_=>
  have hf:=bY (O.fit 5 rfl (by decide))
  simp[Flow.low,dQ] at hf
  have:=hL.arrs
  have:=O.arrs
  rw[show min a 2000000000=a by omega]
  exact bBm hE hS h H (by omega) _ _ _
 | 15,_=>
  have hf:=bY (O.fit 5 rfl (by decide))
  simp[Flow.low,dQ] at hf
  have:=hL.arrs
  have:=O.arrs
  rw[show min a 2000000000=a by omega]
  exact bBl hE hS h H (by omega) _ _ _
 | 16,_=>
  have hf:=bY (O.fit 5 rfl (by decide))
  simp[Flow.low,dQ] at hf
  have:=hL.arrs
  have:=O.arrs
  rw[show min a 2000000000=a by omega]
  exact bBk hE hS h H (by omega) _ _ _
 | 17,_=>
  exact bBj hE hS h H (O.go rfl) _ _ _
 | 18,_=>
  exact aOc hE hS h (by decide) H _ _ _ _
 | 19,_=>
  exact aOc hE hS h (by decide) H _ _ _ _
 | 20,_=>
  exact aOc hE hS h (by decide) H _ _ _ _
 | 21,_=>
  exact aOc hE hS h (by decide) H _ _ _ _
 | 22,_=>
  exact aOc hE hS h (by decide) H _ _ _ _
 | 23,_=>
  exact bBi hE hS h H _ _ _ _
 | 24,_=>
  exact bBh hE hS h H _ _ _ _
 | 25,_=>
  exact bBg hE hS h H _ _ _ _
 | 26,_=>
  exact bBf hE hS h H _ _ _ _
 | 27,_=>
  exact bBe hE hS h H _ _ _ _
 | 28,_=>
  exact bBd hE hS h H _ _ _ _
 | 29,_=>
  exact aJu hE hS h (by decide) H _ _ _ _
 | 30,_=>
  exact aJu hE hS h (by decide) H _ _ _ _
 | 31,_=>
  exact aJu hE hS h (by decide) H _ _ _ _
 | 32,_=>
  exact aJu hE hS h (by decide) H _ _ _ _
 | 33,_=>
  exact aJu hE hS h (by decide) H _ _ _ _
 | 34,_=>
  exact aJu hE hS h (by decide) H _ _ _ _
 | 35,_=>
  have hf:=bY (O.fit 6 rfl (by decide))
  simp[Flow.low,dQ] at hf
  have:=hL.pats
  rw[show min a 2000000000=a by omega]
  exact bBc hE hS h H (by omega) _ _ _
 | 36,_=>
  have hf:=bY (O.fit 6 rfl (by decide))
  simp[Flow.low,dQ] at hf
  have:=hL.pats
  rw[show min a 2000000000=a by omega]
  exact bBb hE hS h H (by omega) _ _ _
 | 37,_=>
  have hf:=bY (O.fit 6 rfl (by decide))
  simp[Flow.low,dQ] at hf
  have:=hL.pats
  rw[show min a 2000000000=a by omega]
  exact bBa hE hS h H (by omega) _ _ _
 | 38,_=>
  have hf:=bY (O.fit 5 rfl (by decide))
  simp[Flow.low,dQ] at hf
  have hfb:=bY (O.fitb rfl)
  simp[Flow.low,dQ] at hfb
  have:=hL.arrs
  have:=O.arrs
  have:=hL.pats
  rw[show min a 2000000000=a by omega,show min b 2000000000=b by omega]
  exact bAz hE hS h H (by omega) hfb hL.spl _ _
 | 39,_=>
  exact bAy hE hS h H _ _ _ _
 | 40,_=>
  exact bAx hE hS h H _ _ _ _
 | 41,_=>
  exact bAw hE hS h H _ _ _ _
 | 42,_=>
  exact bAv hE hS h H _ _ _ _
 | 43,_=>
  exact bAu hE hS h H _ _ _ _
 | 44,_=>
  have hf:=bY (O.fit 8 rfl (by decide))
  simp[Flow.low,dQ] at hf
  rw[show min a 2000000000=a by omega]
  exact bAt hE hS h H _ _ _
 | 45,_=>
  exact bAs hE hS h H _ _ _ _
 | 46,_=>
  exact bAr hE hS h H _ _ _ _
 | 47,_=>
  exact bAq hE hS h H _ _ _ _
 | 48,_=>
  exact bAp hE hS h H (O.go rfl) _ _ _
 | 49,_=>
  exact bAo hE hS h H (O.go rfl) _ _ _
 | 50,_=>exact absurd rfl h50
 | 51,_=>exact absurd rfl h51
 | 52,_=>exact absurd rfl h52
 | 53,_=>
  exact bAn hE hS h H _ _ _ _
 | n+54,h=>exact absurd h (by omega)
end
def Pr (frs:List Frm):Prop:=∀ g ∈ frs,∀ c ∈ g.stk,c.list=false→c=cv c.v
theorem aMc {top:List aJ}{n:Nat} (h:leS (top.map kd) (List.replicate n 97)) (hp:∀ c ∈ top,c.list=false→c=cv c.v):∃ vs:List Val,top=vs.map cv∧vs.length=n:=by
 induction top generalizing n with
 | nil=>
  cases n with
  | zero=>exact⟨[],rfl,rfl⟩
  | succ n=>exact h.elim
 | cons c top ih=>
  cases n with
  | zero=>exact h.elim
  | succ n=>
   have h':le (kd c) 97∧leS (top.map kd) (List.replicate n 97):=h;obtain⟨v,rfl⟩:=rP (hp c (by simp)) h'.1;obtain⟨vs,rfl,hl⟩:=ih h'.2 fun c hc=>hp c (by simp[hc]);exact⟨v :: vs,rfl,by simp[hl]⟩
def PlP (E:Env) (X:Nat) (g:Pl) (s:Ms) (tag:NN) (W:WL) (D:St) (st:Int) (W':WL):Prop:=
 st=(D.st:Nat)∧∃ g' s' t',MM E X g' s' W' t'∧Kp tag t' W W'∧g'.en=g.en∧s'.st=s.st∧s'.w=D.w∧s'.code=D.code∧s'.used=D.used∧(D.st=0→s'.low++[s'.fr]=D.frs)
def pR (S:St) (low:List Frm) (fr:Frm) (i:Stp):Ms:=⟨S.w,low,⟨fr.f,i.nx,fr.locs,fr.stk⟩,S.st,S.code,S.used+1⟩
section
variable {E:Env}{X:Nat}{g:Pl}{W W':WL}{tag t1:NN}{S:St}{low:List Frm}{fr:Frm}{i:Stp}{rest top:List aJ}{t:Nat}
theorem aZl (hL:Lim E)(hG:Mach.Good E S)(hP:Pr S.frs)(hst:S.st=0)(hcode:S.code=0)(hR:Ready E S low fr i rest top):Fnd E (pR S low fr i) i.op i.a rest top:=by
 obtain⟨hI,hF,-⟩:=hG.inv hst;have hfr:fr ∈ S.frs:=by rw[hR.frs];simp
 have hon:=hI.on fr (by rw[hR.frs];simp);have htop:∀ c ∈ top,c ∈ fr.stk:=fun c hc=>by rw[hR.stk];simp[hc]
 exact⟨hR.stk,hon.2,hR.takes,hR.high,fun c hc=>(hF fr hfr).2 c (htop c hc),fun c hc=>hP fr hfr c (htop c hc),hG.w,hcode,by show S.w.arrs.length≤1000;rw[hG.arrs];exact hL.arrs⟩
theorem aNz (hL:Lim E)(hG:Mach.Good E S)(hst:S.st=0)(hR:Ready E S low fr i rest top)(ht:far i.op=true→∀ L,eO E.mo fr.f (locsOf E.mo fr.f) (codeOf E.mo fr.f) L→fJ E.mo fr.f L t i.a):Opd E (pR S low fr i) i t:=by
 obtain⟨hI,hF,-⟩:=hG.inv hst;have hfr:fr ∈ S.frs:=by rw[hR.frs];simp
 obtain⟨h1,h2⟩:=hI.fns fr hfr;exact⟨nJ hR.dec,aJs hR.dec,ht,h2,hL.locs _ h1,hG.arrs,hG.globs⟩
theorem aJi (hE:aU E)(hS:SmE E)(hL:Lim E)(hM:ModOk E.mo)(hG:Mach.Good E S)(hP:Pr S.frs)(hst:S.st=0)(hcode:S.code=0)(hR:Ready E S low fr i rest top)(h:MM E X g (pR S low fr i) W tag)(ht:far i.op=true→∀ L,eO E.mo fr.f (locsOf E.mo fr.f) (codeOf E.mo fr.f) L→fJ E.mo fr.f L t i.a)(h52:i.op≠52) :
  Calls prog 43 #[ptr X,inV (i.op:Nat) (i.pl:Nat) (min i.a 2000000000:Nat) (min i.b 2000000000:Nat) (t:Nat)] W (fun e W'=>∃ st:Int,e=.returned (stI st)∧PlP E X g (pR S low fr i) tag W (does E S low fr i rest top) st W'):=by
 have H:=aZl hL hG hP hst hcode hR;have O:=aNz (t:=t) hL hG hst hR ht;obtain⟨hI,hF,hlen21⟩:=hG.inv hst;have hop:=(cE hR.at_ hR.dec).2.2.2.2;have hop54:i.op<54:=by
  unfold fT at hop;simp at hop;exact hop.1.1
 by_cases h50:i.op=50
 ·obtain⟨ha3,haf⟩:=hR.call h50;have hD:does E S low fr i rest top=if 20<low.length+1 then { S with st:=9,used:=S.used+1 } else { S with used:=S.used+1,frs:=low++[⟨fr.f,i.nx,fr.locs,rest⟩,enter E.mo i.a (top.map aJ.v)] }:=by
   unfold does;rw[if_pos h50]
  rw[h50];by_cases c:20<low.length+1
  ·rw[if_pos c] at hD;rw[hD];refine MM.play74 h 50 (by omega) _ _ _ _ (fun W1 t1 h1 k1=>?_);refine (MM.fcallDeep h1 (show 20≤low.length by omega) _ _ _ _).mono fun e W' hp=>⟨9,hp.1,?_⟩;obtain⟨-,t',M,K⟩:=hp;exact⟨rfl,g,_,t',M,k1.trans K,rfl,rfl,rfl,rfl,rfl,fun h=>by cases h⟩
  rw[if_neg c] at hD;rw[hD];have htk:=H.takes;rw[h50] at htk;have htk':leS (top.map kd) (List.replicate (parOf E.mo i.a) 97):=htk;obtain⟨vs,rfl,hvl⟩:=aMc htk' H.pr;obtain⟨gf,fc,-,hfn,-⟩:=h.fnAt haf;have hp16:vs.length≤16:=by
   have:=hM.par i.a haf;have:=hL.locs i.a haf;omega
  rw[show min i.a 2000000000=i.a by omega];refine MM.play74 h 50 (by omega) _ _ _ _ (fun W1 t1 h1 k1=>?_);refine (MM.fcall h1 (show low.length<20 by omega) haf H.stk H.hl hvl.symm hp16 _ _ _).mono fun e W' ⟨he,vb,t',M,K⟩=>⟨0,he,by show (0:Int)=(S.st:Nat);rw[hst];rfl,_,_,t',M,k1.trans K,rfl,rfl,rfl,rfl,rfl,fun _=>?_⟩;show (low++[Frm.mk fr.f i.nx fr.locs rest])++[enter E.mo i.a vs]=low++[Frm.mk fr.f i.nx fr.locs rest,enter E.mo i.a ((vs.map cv).map aJ.v)];have:(vs.map cv).map aJ.v=vs:=by
   rw[List.map_map];exact (List.map_congr_left fun v _=>rfl).trans (List.map_id vs)
  rw[this];simp
 by_cases h51:i.op=51
 ·have hlow:low≠[]:=by
   intro e;have h1:=hI.kinds low.length fr (by rw[hR.frs];simp);rw[e] at h1;have h3:fr.f<3:=h1.1 rfl;unfold fT at hop;rw[h51] at hop;simp at hop;omega
  obtain⟨lo,f,hlo⟩:∃ lo f,low=lo++[f]:=by
   rcases List.eq_nil_or_concat low with h0 | ⟨lo,f,h0⟩
   ·exact absurd h0 hlow
   exact⟨lo,f,by simpa using h0⟩
  have htk:=H.takes;rw[h51] at htk;obtain⟨c,rfl,hc⟩:=cC (b:=97) htk;obtain⟨v,rfl⟩:=rP (H.pr c (by simp)) hc;have hD:does E S low fr i rest [cv v] = { S with used:=S.used+1,frs:=lo++[⟨f.f,f.at_,f.locs,f.stk++[cv v]⟩] }:=by
   unfold does;rw[if_neg h50,if_pos h51,hlo];simp;rfl
  rw[hD,h51];have hfl:f.stk.length<1024:=by
   have:=(hI.low f (by rw[hR.frs,hlo];simp)).2;omega
  refine MM.play74 h 51 (by omega) _ _ _ _ (fun W1 t1 h1 k1=>?_);refine (MM.fret h1 H.stk H.hl (lo:=lo) (f:=f) hlo hfl _ _ _ _).mono fun e W' hp=>⟨0,hp.1,?_⟩;obtain⟨-,t',M,K⟩:=hp;exact⟨by show (0:Int)=(S.st:Nat);rw[hst];rfl,g,_,t',M,k1.trans K,rfl,rfl,rfl,rfl,rfl,fun _=>rfl⟩
 refine (aNp hE hS hL h H O hop54 h50 h51 h52).mono ?_;rintro e W' ⟨st,he,hst',s',t',M,K,e1,e2,e3,e4,e5⟩;refine⟨st,he,?_⟩;unfold does;rw[if_neg h50,if_neg h51,if_neg h52];have e3':s'.w=(eff E S.w fr.locs i.op i.a i.b top).w:=e3;have hst2:st=((eff E S.w fr.locs i.op i.a i.b top).st:Nat):=hst';by_cases c:(eff E S.w fr.locs i.op i.a i.b top).st≠0
 ·rw[if_pos c];refine⟨hst2,g,s',t',M,K,rfl,e1,e3',?_,e2,fun h0=>absurd h0 c⟩;rw[e4];exact if_neg c
 rw[if_neg c];have c':(eff E S.w fr.locs i.op i.a i.b top).st=0:=Decidable.not_not.1 c;refine⟨?_,g,s',t',M,K,rfl,e1,e3',?_,e2,fun _=>?_⟩
 ·rw[hst2,c',hst]
 ·rw[e4];exact if_pos c'
 obtain⟨q1,q2⟩:=e5 c';show s'.low++[s'.fr]=low++[_];rw[q1,q2];rfl
end
theorem uK (v:Val):∀ c ∈ [cv v],c.list=false→c=cv c.v:=by
 intro c hc _;simp only[List.mem_singleton] at hc;subst hc;rfl
theorem oS:∀ c ∈ ([]:List aJ),c.list=false→c=cv c.v:=by
 intro c hc;cases hc
theorem M9 {top:List aJ}(h:∀ c ∈ top,c.list=false→c=cv c.v)(i:Nat)(hl:(top.getD i c0).list=false):top.getD i c0=cv (top.getD i c0).v:=by
 rw[List.getD_eq_getElem?_getD] at hl ⊢;cases hq:top[i]? with
 | none=>rfl
 | some c=>
  rw[hq] at hl;exact h c (List.mem_of_getElem? hq) hl
theorem aXw {E:Env}{w:Wd}{locs:List Val}{op a b:Nat}{top:List aJ} (h:∀ c ∈ top,c.list=false→c=cv c.v):∀ c ∈ (eff E w locs op a b top).top,c.list=false→c=cv c.v:=by
 unfold eff;split <;> (try exact uK _) <;> (try exact oS)
 ·split
  ·exact uK _
  split
  ·exact oS
  exact uK _
 ·split <;> exact oS
 ·intro c hc hl;simp only[List.mem_singleton] at hc;subst hc;cases hl
 ·split
  ·exact oS
  intro c hc hl;simp only[List.mem_cons,List.not_mem_nil,or_false] at hc;rcases hc with rfl | rfl
  ·cases hl
  rfl
 ·split
  ·exact oS
  exact uK _
 ·split
  ·exact oS
  exact uK _
 ·split
  ·exact oS
  exact uK _
 ·split <;> exact uK _
 ·intro c hc hl;simp only[List.mem_cons,List.not_mem_nil,or_false] at hc;rcases hc with rfl | rfl <;> exact M9 h 0 hl
 intro c hc hl;simp only[List.mem_cons,List.not_mem_nil,or_false] at hc;rcases hc with rfl | rfl | rfl
 ·exact M9 h 1 hl
 ·exact M9 h 0 hl
 exact M9 h 1 hl
def hd (frs:List Frm):Option Nat:=frs.head?.map Frm.f
theorem Q3 (low:List Frm)(f f':Frm)(l l':List Frm)(h:f.f=f'.f):hd (low++f :: l)=hd (low++f' :: l'):=by
 cases low with
 | nil=>simp[hd,h]
 | cons a low=>simp[hd]
theorem sG (m:Mo)(f:Nat)(args:List Val):∀ c ∈ (enter m f args).stk,c.list=false→c=cv c.v:=oS
theorem Pr.does {E:Env}{S:St}{low:List Frm}{fr:Frm}{i:Stp}{rest top:List aJ} (hP:Pr S.frs) (hR:Ready E S low fr i rest top):Pr (does E S low fr i rest top).frs:=by
 have hlow:∀ g ∈ low,∀ c ∈ g.stk,c.list=false→c=cv c.v:=fun g hg=>hP g (by rw[hR.frs];simp[hg]);have hfr:∀ c ∈ fr.stk,c.list=false→c=cv c.v:=hP fr (by rw[hR.frs];simp);have hrest:∀ c ∈ rest,c.list=false→c=cv c.v:=fun c hc=>hfr c (by rw[hR.stk];simp[hc]);have htop:∀ c ∈ top,c.list=false→c=cv c.v:=fun c hc=>hfr c (by rw[hR.stk];simp[hc]);unfold Mach.does;split
 ·split
  ·exact hP
  intro g hg;rcases List.mem_append.1 hg with hg | hg
  ·exact hlow g hg
  simp only[List.mem_cons,List.not_mem_nil,or_false] at hg;rcases hg with rfl | rfl
  ·exact hrest
  exact sG _ _ _
 split
 ·split
  ·exact hP
  ·rename_i g0 hg0
   intro g hg;rcases List.mem_append.1 hg with hg | hg
   ·exact hlow g (List.dropLast_subset low hg)
   simp only[List.mem_singleton] at hg;subst hg;intro c hc;rcases List.mem_append.1 hc with hc | hc
   ·exact hlow g0 (List.mem_of_getLast? hg0) c hc
   exact uK _ c hc
 split
 ·unfold over;split
  ·exact hP
  split
  ·intro g hg;simp only[List.mem_singleton] at hg;subst hg;exact sG _ _ _
  intro g hg;simp only[List.mem_singleton] at hg;subst hg;exact sG _ _ _
 split
 ·exact hP
 intro g hg;rcases List.mem_append.1 hg with hg | hg
 ·exact hlow g hg
 simp only[List.mem_singleton] at hg;subst hg;intro c hc;rcases List.mem_append.1 hc with hc | hc
 ·exact hrest c hc
 exact aXw htop c hc
theorem aUc {E:Env}{S:St}{low:List Frm}{fr:Frm}{i:Stp}{rest top:List aJ} (hR:Ready E S low fr i rest top) (h52:i.op≠52):hd (Mach.does E S low fr i rest top).frs=hd S.frs:=by
 unfold Mach.does;split
 ·split
  ·rfl
  rw[hR.frs];exact Q3 low _ _ _ _ rfl
 split
 ·split
  ·rfl
  ·rename_i g0 hg0
   rw[hR.frs];obtain⟨lo,e⟩:∃ lo,low=lo++[g0]:=by
    obtain⟨h1,h2⟩:=List.getLast?_eq_some_iff.1 hg0;exact⟨h1,h2⟩
   rw[e,List.dropLast_concat,List.append_assoc];exact Q3 lo _ _ _ _ rfl
 split
 ·rfl
 rw[hR.frs];exact Q3 low _ _ _ _ rfl
theorem D1 {E:Env}{S:St}{low:List Frm}{fr:Frm}{i:Stp}{rest top:List aJ} (hc:S.code=0) (hR:Ready E S low fr i rest top) (h0:(Mach.does E S low fr i rest top).st=0) (hst:S.st=0):(Mach.does E S low fr i rest top).code=0:=by
 revert h0
 unfold Mach.does;split
 ·split
  ·intro h;cases h
  intro _;exact hc
 split
 ·split
  ·intro _;exact hc
  intro _;exact hc
 split
 ·unfold over;split
  ·intro h;cases h
  split
  ·intro _;exact hc
  intro _;exact hc
 split
 ·rename_i hne
  intro h;exact absurd h hne
 intro _;exact hc
open Go Go.RowKit
def J4 (j0 j1 j2 j3:Act→WL→Prop):Nat→Act→WL→Prop
 | 0=>j0
 | 1=>j1
 | 2=>j2
 | 3=>j3
 | _=>fun _ _=>False
def ExJ (J:Nat→Act→WL→Prop) (Q:Exit→Act→WL→Prop):Exit→Act→WL→Prop
 | .goto l,a,w=>J l a w
 | e,a,w=>Q e a w
theorem aIi {P:Program}{a:Act}{w:WL}{Q:Exit→Act→WL→Prop}{c r0 r1 r2 r3:Code} (j0 j1 j2 j3:Act→WL→Prop) (μ:Nat→Act→WL→Nat)
  (h0:findLabel c 0=some r0) (h1:findLabel c 1=some r1) (h2:findLabel c 2=some r2) (h3:findLabel c 3=some r3)
  (first:c.wp P (ExJ (J4 j0 j1 j2 j3) Q) a w)
  (p0:∀ a w,j0 a w→r0.wp P (ExJ (fun l' a' w'=>J4 j0 j1 j2 j3 l' a' w'∧μ l' a' w'<μ 0 a w) Q) a w)
  (p1:∀ a w,j1 a w→r1.wp P (ExJ (fun l' a' w'=>J4 j0 j1 j2 j3 l' a' w'∧μ l' a' w'<μ 1 a w) Q) a w)
  (p2:∀ a w,j2 a w→r2.wp P (ExJ (fun l' a' w'=>J4 j0 j1 j2 j3 l' a' w'∧μ l' a' w'<μ 2 a w) Q) a w)
  (p3:∀ a w,j3 a w→r3.wp P (ExJ (fun l' a' w'=>J4 j0 j1 j2 j3 l' a' w'∧μ l' a' w'<μ 3 a w) Q) a w):(Code.scope c).wp P Q a w:=by
 have hall:∀ l a w,J4 j0 j1 j2 j3 l a w→∃ r,findLabel c l=some r∧r.wp P (ExJ (fun l' a' w'=>J4 j0 j1 j2 j3 l' a' w'∧μ l' a' w'<μ l a w) Q) a w:=by
  intro l a w hJ
  match l,hJ with
  | 0,hJ=>exact⟨r0,h0,p0 a w hJ⟩
  | 1,hJ=>exact⟨r1,h1,p1 a w hJ⟩
  | 2,hJ=>exact⟨r2,h2,p2 a w hJ⟩
  | 3,hJ=>exact⟨r3,h3,p3 a w hJ⟩
  | n+4,hJ=>exact hJ.elim
 intro b k cs
 have key:∀ n l a w r,μ l a w=n→J4 j0 j1 j2 j3 l a w→findLabel c l=some r→∃ e a' w',Q e a' w'∧Arrives P (lone (b.at a (.code r :: .inScope c :: k)) cs w) b k cs e a' w':=by
  intro n
  induction n using Nat.strongRecOn with
  | _ n ih=>
   intro l a w r hn hJ hr
   obtain⟨r',hr',hwp⟩:=hall l a w hJ
   obtain rfl:r=r':=by rw[hr] at hr';simpa using hr'
   obtain⟨e,a₁,w₁,hq,harr⟩:=hwp b (.inScope c :: k) cs
   cases e with
   | normal=>exact⟨.normal,a₁,w₁,hq,Steps.trans harr (.one step_inScope)⟩
   | exit id=>exact⟨.exit id,a₁,w₁,hq,fun k' hk=>harr k' (by simp[exitTo,hk])⟩
   | goto l'=>
    obtain⟨hJ',hlt⟩:=hq
    obtain⟨r2,hr2,-⟩:=hall l' a₁ w₁ hJ'
    have hg:gotoIn l' (.inScope c :: k)=some (.code r2 :: .inScope c :: k):=by simp[gotoIn,hr2]
    obtain⟨e₂,a₂,w₂,hq₂,harr₂⟩:=ih _ (by omega) l' a₁ w₁ r2 rfl hJ' hr2
    exact⟨e₂,a₂,w₂,hq₂,.of_steps (harr _ hg) harr₂⟩
   | ret=>exact⟨_,a₁,w₁,hq,harr⟩
   | panic ch=>exact⟨_,a₁,w₁,hq,harr⟩
   | outgrown=>exact⟨_,a₁,w₁,hq,harr⟩
 obtain⟨e,a₁,w₁,hq,harr⟩:=first b (.inScope c :: k) cs
 cases e with
 | normal=>exact⟨.normal,a₁,w₁,hq,.head step_scope (Steps.trans harr (.one step_inScope))⟩
 | exit id=>exact⟨.exit id,a₁,w₁,hq,fun k' hk=>.head step_scope (harr k' (by simp[exitTo,hk]))⟩
 | goto l'=>
  have hJ':J4 j0 j1 j2 j3 l' a₁ w₁:=hq
  obtain⟨r2,hr2,-⟩:=hall l' a₁ w₁ hJ'
  have hg:gotoIn l' (.inScope c :: k)=some (.code r2 :: .inScope c :: k):=by simp[gotoIn,hr2]
  obtain⟨e₂,a₂,w₂,hq₂,harr₂⟩:=key _ l' a₁ w₁ r2 rfl hJ' hr2
  exact⟨e₂,a₂,w₂,hq₂,.of_steps (.head step_scope (harr _ hg)) harr₂⟩
 | ret=>exact⟨_,a₁,w₁,hq,.of_steps (.one step_scope) harr⟩
 | panic ch=>exact⟨_,a₁,w₁,hq,.of_steps (.one step_scope) harr⟩
 | outgrown=>exact⟨_,a₁,w₁,hq,.of_steps (.one step_scope) harr⟩
def oV (S:St) (low:List Frm) (fr:Frm):Ms:=⟨S.w,low,fr,S.st,S.code,S.used⟩
theorem aIn {E:Env}{S:St}{low:List Frm}{fr:Frm}{i:Stp}{rest top:List aJ}:(Mach.does E S low fr i rest top).used≤S.used+1:=by
 unfold Mach.does;split
 ·split <;> exact Nat.le_refl _
 split
 ·split
  ·exact Nat.le_succ _
  exact Nat.le_refl _
 split
 ·unfold over;split
  ·exact Nat.le_refl _
  split <;> exact Nat.le_refl _
 split <;> exact Nat.le_refl _
structure GoE (E:Env):Prop where
 env:aU E
 sm:SmE E
 lim:Lim E
 mod:ModOk E.mo
def BxI (w:WL) (t:NN) (b:Nat) (v0 v1 v2 v3 v4:Value):Prop:=t b=6∧6≤b∧w.heap[b]?=some (.cells #[v0,v1,v2,v3,v4] 96)
theorem BxI.kp {w w':WL}{t t':NN}{b:Nat}{v0 v1 v2 v3 v4:Value} (h:BxI w t b v0 v1 v2 v3 v4) (k:Kp t t' w w'):BxI w' t' b v0 v1 v2 v3 v4:=
 have hl:=(Age.1 h.2.2).1
 ⟨(k.ret b hl).trans h.1,h.2.1,(k.blk b hl (by rw[h.1];decide)).trans h.2.2⟩
theorem dY {w:WL}{b:Nat}{v0 v1 v2 v3 v4:Value}{t:TypeId} (h:w.heap[b]?=some (.cells #[v0,v1,v2,v3,v4] t)):(w.cell? (Ad b 0)=some v0∧w.cell? (Ad b 1)=some v1∧w.cell? (Ad b 2)=some v2∧w.cell? (Ad b 3)=some v3∧w.cell? (Ad b 4)=some v4)∧∀ j,w.frozen? (Ad b j)=false:=by
 refine⟨⟨?_,?_,?_,?_,?_⟩,fun j=>?_⟩ <;> first | (unfold World.cell?;rw[h];rfl) | (unfold World.frozen?;rw[h];simp)
def oQ (w:WL) (b:Nat) (v0 v1 v2 v3 v4:Value):WL:=((((w.setCell ⟨b,0,none⟩ v0).setCell ⟨b,1,none⟩ v1).setCell ⟨b,2,none⟩ v2).setCell ⟨b,3,none⟩ v3).setCell ⟨b,4,none⟩ v4
theorem kG {w:WL}{b:Nat}{u0 u1 u2 u3 u4:Value}{t:TypeId} (h:w.heap[b]?=some (.cells #[u0,u1,u2,u3,u4] t)) (v0 v1 v2 v3 v4:Value):(oQ w b v0 v1 v2 v3 v4).heap[b]?=some (.cells #[v0,v1,v2,v3,v4] t):=by
 have hl:=(Age.1 h).1;have hg:=(Age.1 h).2;unfold oQ World.setCell;simp[hl,Array.getElem_modify,hg]
theorem xP {w:WL}{b:Nat}{u0 u1 u2 u3 u4:Value}{t:TypeId} (h:w.heap[b]?=some (.cells #[u0,u1,u2,u3,u4] t)) (v0 v1 v2 v3:Value) :
  (w.setCell ⟨b,0,none⟩ v0).cell? (Ad b 1)=some u1∧((w.setCell ⟨b,0,none⟩ v0).setCell ⟨b,1,none⟩ v1).cell? (Ad b 2)=some u2∧(((w.setCell ⟨b,0,none⟩ v0).setCell ⟨b,1,none⟩ v1).setCell ⟨b,2,none⟩ v2).cell? (Ad b 3)=some u3∧((((w.setCell ⟨b,0,none⟩ v0).setCell ⟨b,1,none⟩ v1).setCell ⟨b,2,none⟩ v2).setCell ⟨b,3,none⟩ v3).cell? (Ad b 4)=some u4:=by
 obtain⟨⟨h0,h1,h2,h3,h4⟩,-⟩:=dY h;refine⟨?_,?_,?_,?_⟩
 ·rw[aA (by decide)];exact h1
 ·rw[aA (by decide),aA (by decide)];exact h2
 ·rw[aA (by decide),aA (by decide),aA (by decide)];exact h3
 rw[aA (by decide),aA (by decide),aA (by decide),aA (by decide)];exact h4
section
variable (E:Env)(X b4:Nat)(S0:St)(N:Nat)(tag:NN)(W:WL)
def RF (n:Nat) (w:WL):Prop:=∃ S g low fr t m v0 v1 v2 v3 v4,Plays E m S0 S∧m+n=N∧S.st=0∧S.code=0∧Mach.Good E S∧Pr S.frs∧S.used+n≤4611686018427387904∧S.frs=low++[fr]∧hd S.frs=some g.en∧MM E X g (oV S low fr) w t∧Kp tag t W w∧BxI w t b4 v0 v1 v2 v3 v4
def RP (e:Bool) (n:Nat) (w:WL):Prop:=∃ S g low fr i rest top t m q,Plays E m S0 S∧m+(n+1)=N∧S.st=0∧S.code=0∧Mach.Good E S∧Pr S.frs∧S.used+(n+1)≤4611686018427387904∧Ready E S low fr i rest top∧hd S.frs=some g.en∧MM E X g (pR S low fr i) w t∧Kp tag t W w∧(decide (i.op=52))=e∧(far i.op=true→∀ L,eO E.mo fr.f (locsOf E.mo fr.f) (codeOf E.mo fr.f) L→fJ E.mo fr.f L q i.a) ∧
 BxI w t b4 (.int .u8 (i.op:Nat)) (.int .i64 (i.pl:Nat)) (.int .i64 ((min i.a 2000000000:Nat):Int)) (.int .i64 ((min i.b 2000000000:Nat):Int)) (.int .i64 (q:Nat))
def RE (st:Int) (w:WL):Prop:=∃ D g s t m,Plays E m S0 D∧m≤N∧D.st≠0∧st=(D.st:Nat)∧Mach.Good E D∧MM E X g s w t∧Kp tag t W w∧s.w=D.w∧s.code=D.code∧s.used=D.used
def GoQ (e:Ending) (w:WL):Prop:=e=.returned cR∧∃ D g s t,Plays E N S0 D∧Mach.Good E D∧MM E X g s w t∧Kp tag t W w∧s.w=D.w∧s.st=D.st∧s.code=D.code∧s.used=D.used∧(D.st=0→s.low++[s.fr]=D.frs∧hd D.frs=some g.en∧Pr D.frs∧D.code=0)
end
section
variable {E:Env}{X b4:Nat}{S0:St}{N:Nat}{tag:NN}{W w:WL}
theorem RF.stop (h:RF E X b4 S0 N tag W 0 w):GoQ E X S0 N tag W (.returned cR) w:=by
 obtain⟨S,g,low,fr,t,m,-,-,-,-,-,hp,hn,hst,hc,hG,hP,-,hf,hh,M,K,-⟩:=h;have:m=N:=by omega
 subst this;exact⟨rfl,S,g,oV S low fr,t,hp,hG,M,K,rfl,rfl,rfl,rfl,fun _=>⟨hf.symm,hh,hP,hc⟩⟩
theorem RF.step {n:Nat}(hb4:W.heap.size≤b4)(h:RF E X b4 S0 N tag W (n+1) w):∃ (u:Nat) (g:Pl) (s:Ms),u<4611686018427387904∧w.cell? (Ad X 15)=some (iA (u:Nat))∧w.frozen? (Ad X 15)=false ∧
  Calls prog 41 #[ptr X] (w.setCell ⟨X,15,none⟩ (.int .i64 ((u+1:Nat):Int))) (fun e w2=>e=.returned (fp g s)∧Calls prog 42 #[fp g s] w2 (fun e w3=>∃ (op pl a b q:Int) (u0 u1 u2 u3 u4:Value),e=.returned (inV op pl a b q)∧w3.heap[b4]?=some (.cells #[u0,u1,u2,u3,u4] 96)∧RP E X b4 S0 N tag W (decide (op=52)) n (oQ w3 b4 (.int .u8 op) (iA pl) (iA a) (iA b) (iA q))∧(oQ w3 b4 (.int .u8 op) (iA pl) (iA a) (iA b) (iA q)).cell? (Ad b4 0)=some (.int .u8 op))):=by
 obtain⟨S,g,low,fr,t,m,v0,v1,v2,v3,v4,hp,hn,hst,hc,hG,hP,hu,hf,hh,M,K,B⟩:=h;obtain⟨hI,-,-⟩:=hG.inv hst;obtain⟨low',fr',i,rest,top,hR,-⟩:=hI.ready (E:=E) (s:=S);obtain⟨e1,e2⟩:=List.append_inj' (hf.symm.trans hR.frs) rfl;simp only[List.cons.injEq,and_true] at e2;subst e1 e2;obtain⟨z15,-,M1,K1⟩:=M.setUsed (S.used+1);refine⟨S.used,g,{ oV S low fr with used:=S.used+1 },by omega,M.xused,z15,?_⟩;refine M1.frame.mono ?_;rintro e w2 ⟨he,t2,M2,K2⟩;refine⟨he,?_⟩;refine (M2.next (i:=i) hR.at_ hR.dec).mono ?_;rintro e w3 ⟨q,he3,hfar,t3,M3,K3⟩;have B3:=((B.kp K1).kp K2).kp K3;have hb3:t3 b4=6:=B3.1;refine⟨_,_,_,_,_,_,_,_,_,_,he3,B3.2.2,⟨S,g,low,fr,i,rest,top,t3,m,q,hp,hn,hst,hc,hG,hP,hu,hR,hh,?_,?_,?_,hfar,?_⟩,?_⟩
 ·exact ((((M3.poke hb3 B3.2.1 0 _).poke hb3 B3.2.1 1 _).poke hb3 B3.2.1 2 _).poke hb3 B3.2.1 3 _).poke hb3 B3.2.1 4 _
 ·exact ((((((K.trans K1).trans K2).trans K3).poke hb4 0 _).poke hb4 1 _).poke hb4 2 _).poke hb4 3 _ |>.poke hb4 4 _
 ·apply Bool.eq_iff_iff.2;simp only[decide_eq_true_eq];omega
 ·exact⟨hb3,B3.2.1,kG B3.2.2 _ _ _ _ _⟩
 exact (dY (kG B3.2.2 _ _ _ _ _)).1.1
end
end Go.Proofs.YtlokkgajpjafmaaGreatDoor
