import Derived.Test.YtlokkgajpjafmaaGreatDoorM13
set_option linter.unusedSimpArgs false
set_option linter.unusedVariables false
set_option maxRecDepth 100000
set_option maxHeartbeats 40000000
open _root_.Go.Proofs.Tryz
namespace Go.Proofs.YtlokkgajpjafmaaGreatDoor
open Go.RowKit
open Wire Flow Mach
section
variable {E:Env}{X:Nat}{g:Pl}{s:Ms}{W W':WL}{tag:NN}
theorem MM.noDraw (h:MM E X g s W tag)(hd:s.w.draws[s.w.drawn]?=none):∃ o c,W.cell? (Ad X 4)=some (.slice o 0 c):=by
 obtain⟨h6,lv,R,mp,x,hx,h⟩:=h;obtain⟨o,c,e1,-⟩:=h.drw;have:s.w.draws.drop s.w.drawn=[]:=List.drop_eq_nil_of_le (List.getElem?_eq_none_iff.1 hd);rw[this] at e1;exact⟨o,c,h.xc (by rw[show (Value.slice o 0 c)=x.dv from e1.symm];rfl)⟩
def N8 (s:Ms):Ms:={ s with w:={ s.w with drawn:=s.w.drawn+1 } }
theorem MM.setDraw (h:MM E X g s W tag){n:Int}(hd:s.w.draws[s.w.drawn]?=some n):∃ gt off m c,W.cell? (Ad X 4)=some (.slice (some (Ad gt off)) (m+1) c)∧m+1≤c∧c≤9223372036854775807∧W.cell? (Ad gt off)=some (iA n)∧W.frozen? (Ad X 4)=false ∧
  ∀ o',(c≠1→o'=some (Ad gt (off+1)))→MM E X g (N8 s) (W.setCell ⟨X,4,none⟩ (.slice o' m (c-1))) tag∧Kp tag tag W (W.setCell ⟨X,4,none⟩ (.slice o' m (c-1))):=by
 obtain⟨h6,lv,R,mp,x,hx,h⟩:=h;obtain⟨o,c,e1,e2,e2',e3⟩:=h.drw;have hl:=(Lgs.1 hd).1;have hc:s.w.draws.drop s.w.drawn=n :: s.w.draws.drop (s.w.drawn+1):=by
  rw[List.drop_eq_getElem_cons hl,(Lgs.1 hd).2]
 rw[hc] at e1 e2 e3;simp only[List.map_cons,List.length_cons] at e1 e2 e3;obtain⟨gt,off,e4,e5,e6,e7⟩:=e3 (by omega);have ow:=(h.S.rows 10 h.lX).1;rw[h.rX] at ow;refine⟨gt,off,((s.w.draws.drop (s.w.drawn+1)).map (Value.int .i64)).length,c,h.xc (by rw[← e4,← e1];rfl),e2,e2',by have:=e7 0 _ rfl;exact this,bB ow _,fun o' ho=>?_⟩;obtain⟨S1,k⟩:=h.S.put h.lX h.rX (j:=4) (by omega) (.slice o' ((s.w.draws.drop (s.w.drawn+1)).map (Value.int .i64)).length (c-1));refine⟨⟨Nat.le_trans h6 k.size,lv,_,mp,onL x x.rv (.slice o' ((s.w.draws.drop (s.w.drawn+1)).map (Value.int .i64)).length (c-1)) x.flv,hx,h.rex h6 k S1 rfl rfl rfl rfl ?_ (fun i hi=>aE _ _ hi) (h.rcs.kp k) ?_ (h.fld.kp k)⟩,k⟩
 ·rw[aG];rfl
 refine⟨o',c-1,rfl,?_,by omega,fun h0=>?_⟩
 ·show ((s.w.draws.drop (s.w.drawn+1)).map (Value.int .i64)).length≤_;omega
 have h0':0<((s.w.draws.drop (s.w.drawn+1)).map (Value.int .i64)).length:=h0;refine⟨gt,off+1,ho (by omega),Nll e5 k.size,(k.ret gt e5).trans e6,fun i v hv=>?_⟩;have:=e7 (i+1) v hv;rw[show off+(i+1)=off+1+i by omega] at this;exact (k.cell (p:=Ad gt (off+1+i)) e5 (by show tag gt<10;omega)).trans this
theorem MM.draw0 (h:MM E X g s W tag)(hd:s.w.draws[s.w.drawn]?=none):Calls prog 134 #[ptr X] W (MP E X g s tag W (stI 0)):=by
 obtain⟨o,c,x4⟩:=h.noDraw hd;have HM1:Hid _:=h;clear h;go_enter func134,ntmps134;go_wp2_with fail;go_ret;exact⟨rfl,tag,HM1.out,Kp.refl _ _⟩
theorem MM.draw1 (h:MM E X g s W tag){n:Int}(hd:s.w.draws[s.w.drawn]?=some n):Calls prog 134 #[ptr X] W (MP E X g (N8 s) tag W (stI n)):=by
 obtain⟨gt,off,m,c,x4,hc,hc',y0,z4,HF⟩:=h.setDraw hd;have e0:(((m+1:Nat):Int)==0)=false:=by simp;omega
 have hw64:IntKind.i64.wrap ((m+1:Nat):Int)=((m+1:Nat):Int):=by rw[IntKind.wrap_i64];omega
 have HF':Hid _:=HF;clear HF h;rcases Decidable.em (c=1) with hc1 | hc1
 ·subst hc1;have hm0:m=0:=by omega
  subst hm0;go_enter func134,ntmps134;go_wp2_with fail;go_ret;exact⟨rfl,tag,(HF'.out (some (Ad gt off)) (fun h=>absurd rfl h)).1,(HF'.out (some (Ad gt off)) (fun h=>absurd rfl h)).2⟩
 go_enter func134,ntmps134;go_wp2_with fail;go_ret;exact⟨rfl,tag,(HF'.out _ (fun _=>rfl)).1,(HF'.out _ (fun _=>rfl)).2⟩
theorem MM.idraw0 (h:MM E X g s W tag)(hl:s.fr.stk.length<1024)(hd:s.w.draws[s.w.drawn]?=none)(pl a b q:Int) :
  Calls prog 72 #[ptr X,fp g s,inV 43 pl a b q] W (MP E X g (aC s (s.fr.stk++[cv (whole 0)])) tag W (stI 0)):=by
 obtain⟨W1,hW1,F1,⟨b0,b1,b2,b3,b4⟩,l1⟩:=gG W 43 pl a b q;obtain⟨t1,h1,k1,-⟩:=MM.box h F1;have HM1:Hid _:=AI h1 k1;have HD:Hid _:=fun (_:Unit)=>h1.draw0 hd;have HQ:Hid _:=fun (W1:WL) (t1:NN) (h1:MM E X g s W1 t1)=>MM.pushNumber h1 hl 0;clear h h1 k1 F1 l1;go_enter func72,ntmps72;go_wp2_with fail;refine (HD.out ()).mono ?_;rintro e W2 ⟨rfl,t2,h2,k2⟩;have HM2:Hid _:=AI h2 (HM1.out.2.trans k2);have HK2:Hid _:=k2;clear h2 k2 HD;go_wp2_with fail;refine (HQ.out W2 t2 HM2.out.1).mono ?_;rintro e W3 ⟨rfl,t3,h3,k3⟩;have HM3:Hid _:=AI h3 (HM2.out.2.trans k3);have HK3:Hid _:=k3;clear h3 k3 HQ;go_wp2_with fail;go_ret;exact⟨rfl,t3,HM3.out.1,HM3.out.2⟩
theorem MM.idraw1 (h:MM E X g s W tag)(hl:s.fr.stk.length<1024){n:Int}(hd:s.w.draws[s.w.drawn]?=some n)(pl a b q:Int) :
  Calls prog 72 #[ptr X,fp g s,inV 43 pl a b q] W (MP E X g (aC (N8 s) (s.fr.stk++[cv (whole n)])) tag W (stI 0)):=by
 obtain⟨W1,hW1,F1,⟨b0,b1,b2,b3,b4⟩,l1⟩:=gG W 43 pl a b q;obtain⟨t1,h1,k1,-⟩:=MM.box h F1;have HM1:Hid _:=AI h1 k1;have HD:Hid _:=fun (_:Unit)=>h1.draw1 hd;have HQ:Hid _:=fun (W1:WL) (t1:NN) (h1:MM E X g (N8 s) W1 t1)=>MM.pushNumber h1 hl n;clear h h1 k1 F1 l1;go_enter func72,ntmps72;go_wp2_with fail;refine (HD.out ()).mono ?_;rintro e W2 ⟨rfl,t2,h2,k2⟩;have HM2:Hid _:=AI h2 (HM1.out.2.trans k2);have HK2:Hid _:=k2;clear h2 k2 HD;go_wp2_with fail;refine (HQ.out W2 t2 HM2.out.1).mono ?_;rintro e W3 ⟨rfl,t3,h3,k3⟩;have HM3:Hid _:=AI h3 (HM2.out.2.trans k3);have HK3:Hid _:=k3;clear h3 k3 HQ;go_wp2_with fail;go_ret;exact⟨rfl,t3,HM3.out.1,HM3.out.2⟩
end
abbrev rcV (t:BA) (o:OA) (n c:Nat):Value:=.agg #[.string t,.slice o n c]
theorem aFr (t:BA)(ht:t.size≤1048576)(o:OA)(n c:Nat)(W:WL):Calls prog 110 #[rcV t o n c,iA 0] W fun e W'=>e=.returned (vV (dF t))∧Fr [] W W':=by
 have HR:Hid _:=fun (W:WL)=>aEm t ht W;unfold vV at HR ⊢;generalize ((dF t).kind:Int)=kk at HR;generalize vN (dF t)=mm at HR;generalize vS (dF t)=tt at HR;have hbd:∀ w:WL,(Instr.build 135 #[]).run prog w=.ok (vlV 0 0 ⟨#[]⟩) w:=fun w=>by kernel_rfl
 obtain⟨W0,hW0⟩:=eXi (W.alloc (.cells #[.string t,.slice o n c] 76));have F0:=frA hW0
 have c0:W0.cell? (Ad W.heap.size 0)=some (.string t):=by rw[← hW0];simp[go_sem]
 have c1:W0.cell? (Ad W.heap.size 1)=some (.slice o n c):=by rw[← hW0];simp[go_sem]
 have k0:=kA hW0;have l0:=(Age.1 k0).1;clear k0;obtain⟨W1,hW1⟩:=eXi (W0.alloc (.cells #[.int .u8 0,iA 0,.string ⟨#[]⟩] 135));have F1':Fr [] W0 W1:=by rw[← hW1];exact (Fr.refl [] W0).alloc _
 have k1:=kA hW1;have l1:=(Age.1 k1).1;replace c0:W1.cell? (Ad W.heap.size 0)=some (.string t):=(F1'.cell (p:=Ad W.heap.size 0) l0 (by simp)).trans c0;replace c1:W1.cell? (Ad W.heap.size 1)=some (.slice o n c):=(F1'.cell (p:=Ad W.heap.size 1) l0 (by simp)).trans c1;have F1:Fr [] W W1:=F0.trans F1';have hle:W.heap.size≤W0.heap.size:=F0.size;go_enter func110,ntmps110;go_wp2_with fail;refine (HR.out _).mono ?_;rintro e W2 ⟨rfl,F2⟩;obtain⟨hy,z0,z1,z2⟩:=iJ ((F2.block _ l1 (by simp)).trans k1);obtain⟨W7,hW7,r0,r1,r2,F7⟩:=set3 (x':=.int .u8 kk) (y':=iA mm) (z':=.string tt) hy;obtain⟨y0,y1,y2⟩:=hy;have FF:Hid _:=(F1.trans F2).trans' F7 (by intro b hb;simp at hb;subst hb;exact .inr hle);clear F7 F2 k1 l1 F1 F1' F0 hle l0;go_wp2_with fail;refine bodyPost_ret (v:=vlV kk mm tt) (by simp[results,results110,go_sem,r0,r1,r2]) rfl ?_;exact⟨rfl,FF.out⟩
theorem aQc (t:BA)(gt off n c k:Nat)(u:BA)(hu:u.size≤1048576)(hk:k<n)(hn:n≤1000000)(W:WL)(hg:gt<W.heap.size)(hc:W.cell? (Ad gt (off+k))=some (.string u)):Calls prog 110 #[rcV t (some (Ad gt off)) n c,iA ((k+1:Nat):Int)] W fun e W'=>e=.returned (vV (dF u))∧Fr [] W W':=by
 have HR:Hid _:=fun (W:WL)=>aEm u hu W;obtain⟨o,ho⟩:∃ o:OA,some (Ad gt off)=o:=⟨_,rfl⟩;rw[ho];unfold vV at HR ⊢;generalize ((dF u).kind:Int)=kk at HR;generalize vN (dF u)=mm at HR;generalize vS (dF u)=tt at HR;have hbd:∀ w:WL,(Instr.build 135 #[]).run prog w=.ok (vlV 0 0 ⟨#[]⟩) w:=fun w=>by kernel_rfl
 obtain⟨W0,hW0⟩:=eXi (W.alloc (.cells #[.string t,.slice o n c] 76));have F0:=frA hW0
 have c0:W0.cell? (Ad W.heap.size 0)=some (.string t):=by rw[← hW0];simp[go_sem]
 have c1:W0.cell? (Ad W.heap.size 1)=some (.slice o n c):=by rw[← hW0];simp[go_sem]
 have k0:=kA hW0;have l0:=(Age.1 k0).1;clear k0;obtain⟨W1,hW1⟩:=eXi (W0.alloc (.cells #[.int .u8 0,iA 0,.string ⟨#[]⟩] 135));have F1':Fr [] W0 W1:=by rw[← hW1];exact (Fr.refl [] W0).alloc _
 have k1:=kA hW1;have l1:=(Age.1 k1).1;replace c0:W1.cell? (Ad W.heap.size 0)=some (.string t):=(F1'.cell (p:=Ad W.heap.size 0) l0 (by simp)).trans c0;replace c1:W1.cell? (Ad W.heap.size 1)=some (.slice o n c):=(F1'.cell (p:=Ad W.heap.size 1) l0 (by simp)).trans c1;have F1:Fr [] W W1:=F0.trans F1';have hle:W.heap.size≤W0.heap.size:=F0.size;subst ho;replace hc:W1.cell? (Ad gt (off+k))=some (.string u):=(F1.cell (p:=Ad gt (off+k)) hg (by simp)).trans hc;have e0:(((k+1:Nat):Int)==0)=false:=by simp;omega
 have e1:decide (((k+1:Nat):Int)≤(n:Int))=true:=by simp;omega
 have e2:IntKind.i64.wrap (n:Int)=n:=by rw[IntKind.wrap_i64];omega
 have e3:IntKind.i64.wrap (((k+1:Nat):Int)-1)=(k:Int):=by rw[IntKind.wrap_i64];omega
 have e3':IntKind.i64.wrap ((k:Int)+1-1)=(k:Int):=by rw[IntKind.wrap_i64];omega
 have hk':(k:Int)<(n:Int):=by omega
 have hk2:((k+1:Nat):Int)≤(n:Int):=by omega
 go_enter func110,ntmps110;go_wp2_with fail;refine (HR.out _).mono ?_;rintro e W2 ⟨rfl,F2⟩;obtain⟨hy,z0,z1,z2⟩:=iJ ((F2.block _ l1 (by simp)).trans k1);obtain⟨W7,hW7,r0,r1,r2,F7⟩:=set3 (x':=.int .u8 kk) (y':=iA mm) (z':=.string tt) hy;obtain⟨y0,y1,y2⟩:=hy;have FF:Hid _:=(F1.trans F2).trans' F7 (by intro b hb;simp at hb;subst hb;exact .inr hle);clear F7 F2 k1 l1 F1 F1' F0 hle l0;go_wp2_with fail;refine bodyPost_ret (v:=vlV kk mm tt) (by simp[results,results110,go_sem,r0,r1,r2]) rfl ?_;exact⟨rfl,FF.out⟩
theorem aLd (t:BA)(o:OA)(n c k:Nat)(hk:n<k)(hn:k≤2000000000)(W:WL):Calls prog 110 #[rcV t o n c,iA (k:Nat)] W fun e W'=>e=.returned (vV nothing)∧Fr [] W W':=by
 show Calls prog 110 #[rcV t o n c,iA (k:Nat)] W fun e W'=>e=.returned (vlV 0 0 ⟨#[]⟩)∧Fr [] W W';have hbd:∀ w:WL,(Instr.build 135 #[]).run prog w=.ok (vlV 0 0 ⟨#[]⟩) w:=fun w=>by kernel_rfl
 obtain⟨W0,hW0⟩:=eXi (W.alloc (.cells #[.string t,.slice o n c] 76));have F0:=frA hW0
 have c0:W0.cell? (Ad W.heap.size 0)=some (.string t):=by rw[← hW0];simp[go_sem]
 have c1:W0.cell? (Ad W.heap.size 1)=some (.slice o n c):=by rw[← hW0];simp[go_sem]
 have k0:=kA hW0;have l0:=(Age.1 k0).1;clear k0;obtain⟨W1,hW1⟩:=eXi (W0.alloc (.cells #[.int .u8 0,iA 0,.string ⟨#[]⟩] 135));have F1':Fr [] W0 W1:=by rw[← hW1];exact (Fr.refl [] W0).alloc _
 have k1:=kA hW1;have l1:=(Age.1 k1).1;replace c0:W1.cell? (Ad W.heap.size 0)=some (.string t):=(F1'.cell (p:=Ad W.heap.size 0) l0 (by simp)).trans c0;replace c1:W1.cell? (Ad W.heap.size 1)=some (.slice o n c):=(F1'.cell (p:=Ad W.heap.size 1) l0 (by simp)).trans c1;have F1:Fr [] W W1:=F0.trans F1';have hle:W.heap.size≤W0.heap.size:=F0.size;have e0:((k:Int)==0)=false:=by simp;omega
 have e1:decide ((k:Int)≤(n:Int))=false:=by simp;omega
 have e2:IntKind.i64.wrap (n:Int)=n:=by rw[IntKind.wrap_i64];omega
 obtain⟨hy,z0,z1,z2⟩:=iJ k1;obtain⟨W7,hW7,r0,r1,r2,F7⟩:=set3 (x':=.int .u8 0) (y':=iA 0) (z':=.string ⟨#[]⟩) hy;obtain⟨y0,y1,y2⟩:=hy;have FF:Hid _:=F1.trans' F7 (by intro b hb;simp at hb;subst hb;exact .inr hle);clear F7 k1 l1 F1 F1' F0 hle l0;go_enter func110,ntmps110;go_wp2_with fail;refine bodyPost_ret (v:=vlV 0 0 ⟨#[]⟩) (by simp[results,results110,go_sem,r0,r1,r2]) rfl ?_;exact⟨rfl,FF.out⟩
section
variable {E:Env}{X:Nat}{g:Pl}{s:Ms}{W W':WL}{tag:NN}
theorem MM.fldsG (h:MM E X g s W tag):∃ o c,W.cell? (Ad X 7)=some (.slice o s.w.flds.length c)∧s.w.flds.length≤c∧∀ i t,s.w.flds[i]?=some t→∃ gt off,o=some (Ad gt off)∧gt<W.heap.size∧W.cell? (Ad gt (off+i))=some (.string t):=by
 obtain⟨h6,lv,R,mp,x,hx,h⟩:=h;obtain⟨o,c,e1,e2,e2',e3⟩:=h.fld;rw[List.length_map] at e1;refine⟨o,c,h.xc (by rw[← e1];rfl),by simpa using e2,fun i t hi=>?_⟩;have hl:=(Lgs.1 hi).1;obtain⟨gt,off,e,e',-,e4⟩:=e3 (by simp;omega);exact⟨gt,off,e,e',e4 i _ (by rw[List.getElem?_map,hi];rfl)⟩
theorem MM.rfield0 (h:MM E X g s W tag){l:List aJ}{v:Val} (hs:s.fr.stk=l++[cv v]) (hl:s.fr.stk.length≤1024) (hv:SmV v) (h0:numV v=0) (hr:s.w.rcd.size≤1048576) :
  Calls prog 63 #[ptr X,fp g s,.int .u8 7] W (MP E X g (aC s (l++[cv (dF s.w.rcd)])) tag W (stI 0)):=by
 have hl1:l.length<1024:=by rw[hs] at hl;simp at hl;omega
 have HP:Hid _:=fun (_:Unit)=>h.popNumber hs hl hv;have HX:Hid _:=fun (W1:WL) (t1:NN) (h1:MM E X g (aC s l) W1 t1)=>AI (MM.xrcd h1) (MM.fldsG h1);have HQ:Hid _:=fun (W1:WL) (t1:NN) (h1:MM E X g (aC s l) W1 t1)=>MM.push h1 (show l.length<1024 from hl1) (dF s.w.rcd);clear h;rw[h0] at HP;go_enter func63,ntmps63;go_wp2_with fail;refine (HP.out ()).mono ?_;rintro e W1 ⟨rfl,t1,h1,k1⟩;have HM1:Hid _:=AI h1 (k1);have HK1:Hid _:=k1;clear h1 k1 HP;obtain⟨x6,o,c,x7,hc,HC⟩:=HX.out W1 t1 HM1.out.1;replace x6:W1.cell? (Ad X 6)=some (.string s.w.rcd):=x6;replace x7:W1.cell? (Ad X 7)=some (.slice o s.w.flds.length c):=x7;go_wp2_with fail;refine (aFr s.w.rcd hr o s.w.flds.length c W1).mono ?_;rintro e W2 ⟨rfl,F2⟩;obtain⟨t2,h2,k2⟩:=MM.fr HM1.out.1 F2;have HM2:Hid _:=AI h2 (HM1.out.2.trans k2);have HK2:Hid _:=k2;clear h2 k2 F2;go_wp2_with fail;refine (HQ.out W2 t2 HM2.out.1).mono ?_;rintro e W3 ⟨rfl,t3,h3,k3⟩;have HM3:Hid _:=AI h3 (HM2.out.2.trans k3);have HK3:Hid _:=k3;clear h3 k3 HQ;go_wp2_with fail;go_ret;exact⟨rfl,t3,HM3.out.1,HM3.out.2⟩
theorem MM.rfield1 (h:MM E X g s W tag){l:List aJ}{v:Val} (hs:s.fr.stk=l++[cv v]) (hl:s.fr.stk.length≤1024) (hv:SmV v) {k:Nat}{u:BA} (h0:numV v=((k+1:Nat):Int)) (hk:s.w.flds[k]?=some u) (hu:u.size≤1048576) (hn:s.w.flds.length≤1000000) :
  Calls prog 63 #[ptr X,fp g s,.int .u8 7] W (MP E X g (aC s (l++[cv (dF u)])) tag W (stI 0)):=by
 have hl1:l.length<1024:=by rw[hs] at hl;simp at hl;omega
 have HP:Hid _:=fun (_:Unit)=>h.popNumber hs hl hv;have HX:Hid _:=fun (W1:WL) (t1:NN) (h1:MM E X g (aC s l) W1 t1)=>AI (MM.xrcd h1) (MM.fldsG h1);have HQ:Hid _:=fun (W1:WL) (t1:NN) (h1:MM E X g (aC s l) W1 t1)=>MM.push h1 (show l.length<1024 from hl1) (dF u);clear h;have hkl:=(Lgs.1 hk).1;have hnn:decide (((k+1:Nat):Int)<0)=false:=by simp;omega
 have hnn':¬ (((k+1:Nat):Int)<0):=by omega
 rw[h0] at HP;go_enter func63,ntmps63;go_wp2_with fail;refine (HP.out ()).mono ?_;rintro e W1 ⟨rfl,t1,h1,k1⟩;have HM1:Hid _:=AI h1 (k1);have HK1:Hid _:=k1;clear h1 k1 HP;obtain⟨x6,o,c,x7,hc,HC⟩:=HX.out W1 t1 HM1.out.1;replace x6:W1.cell? (Ad X 6)=some (.string s.w.rcd):=x6;replace x7:W1.cell? (Ad X 7)=some (.slice o s.w.flds.length c):=x7;obtain⟨gt,off,rfl,hg,hcc⟩:=HC k u hk;clear HC;go_wp2_with fail;refine (aQc s.w.rcd gt off s.w.flds.length c k u hu hkl hn W1 hg hcc).mono ?_;rintro e W2 ⟨rfl,F2⟩;obtain⟨t2,h2,k2⟩:=MM.fr HM1.out.1 F2;have HM2:Hid _:=AI h2 (HM1.out.2.trans k2);have HK2:Hid _:=k2;clear h2 k2 F2;go_wp2_with fail;refine (HQ.out W2 t2 HM2.out.1).mono ?_;rintro e W3 ⟨rfl,t3,h3,k3⟩;have HM3:Hid _:=AI h3 (HM2.out.2.trans k3);have HK3:Hid _:=k3;clear h3 k3 HQ;go_wp2_with fail;go_ret;exact⟨rfl,t3,HM3.out.1,HM3.out.2⟩
theorem MM.rfield2 (h:MM E X g s W tag){l:List aJ}{v:Val} (hs:s.fr.stk=l++[cv v]) (hl:s.fr.stk.length≤1024) (hv:SmV v) {k:Nat} (h0:numV v=(k:Nat)) (hk:s.w.flds.length<k) (hn:k≤2000000000) :
  Calls prog 63 #[ptr X,fp g s,.int .u8 7] W (MP E X g (aC s (l++[cv nothing])) tag W (stI 0)):=by
 have hl1:l.length<1024:=by rw[hs] at hl;simp at hl;omega
 have HP:Hid _:=fun (_:Unit)=>h.popNumber hs hl hv;have HX:Hid _:=fun (W1:WL) (t1:NN) (h1:MM E X g (aC s l) W1 t1)=>AI (MM.xrcd h1) (MM.fldsG h1);have HQ:Hid _:=fun (W1:WL) (t1:NN) (h1:MM E X g (aC s l) W1 t1)=>MM.push h1 (show l.length<1024 from hl1) nothing;clear h;have hnn:decide ((k:Int)<0)=false:=by simp
 have hnn':¬ ((k:Int)<0):=by omega
 rw[h0] at HP;go_enter func63,ntmps63;go_wp2_with fail;refine (HP.out ()).mono ?_;rintro e W1 ⟨rfl,t1,h1,k1⟩;have HM1:Hid _:=AI h1 (k1);have HK1:Hid _:=k1;clear h1 k1 HP;obtain⟨x6,o,c,x7,hc,HC⟩:=HX.out W1 t1 HM1.out.1;replace x6:W1.cell? (Ad X 6)=some (.string s.w.rcd):=x6;replace x7:W1.cell? (Ad X 7)=some (.slice o s.w.flds.length c):=x7;go_wp2_with fail;refine (aLd s.w.rcd o s.w.flds.length c k hk hn W1).mono ?_;rintro e W2 ⟨rfl,F2⟩;obtain⟨t2,h2,k2⟩:=MM.fr HM1.out.1 F2;have HM2:Hid _:=AI h2 (HM1.out.2.trans k2);have HK2:Hid _:=k2;clear h2 k2 F2;go_wp2_with fail;refine (HQ.out W2 t2 HM2.out.1).mono ?_;rintro e W3 ⟨rfl,t3,h3,k3⟩;have HM3:Hid _:=AI h3 (HM2.out.2.trans k3);have HK3:Hid _:=k3;clear h3 k3 HQ;go_wp2_with fail;go_ret;exact⟨rfl,t3,HM3.out.1,HM3.out.2⟩
theorem MM.rfieldX (h:MM E X g s W tag){l:List aJ}{v:Val} (hs:s.fr.stk=l++[cv v]) (hl:s.fr.stk.length≤1024) (hv:SmV v) (h0:numV v<0) :
  Calls prog 63 #[ptr X,fp g s,.int .u8 7] W (MP E X g (aC s l) tag W (stI 5)):=by
 have HP:Hid _:=fun (_:Unit)=>h.popNumber hs hl hv;have e0:decide (numV v<0)=true:=by simp[h0]
 clear h;go_enter func63,ntmps63;go_wp2_with fail;refine (HP.out ()).mono ?_;rintro e W1 ⟨rfl,t1,h1,k1⟩;have HM1:Hid _:=AI h1 (k1);have HK1:Hid _:=k1;clear h1 k1 HP;go_wp2_with fail;go_ret;exact⟨rfl,t1,HM1.out.1,HM1.out.2⟩
end
structure K9 (t:NN) (W W':WL):Prop where
 size:W.heap.size≤W'.heap.size
 blk:∀ k,k<W.heap.size→(k<6∨t k=9)→W'.heap[k]?=W.heap[k]?
theorem K9.cell {t:NN}{W W':WL} (h:K9 t W W') {p:Addr} (hp:p.block<W.heap.size) (hn:p.block<6∨t p.block=9):W'.cell? p=W.cell? p:=World.cell?_of_block (w:=W) (h.blk p.block hp hn)
theorem RoL.k9 {W W':WL}{t:NN}{v:Value}{xs:LV} (h:RoL W t v xs) (k:K9 t W W'):RoL W' t v xs:=by
 obtain⟨o,c,h1,h2,h2',h3⟩:=h;refine⟨o,c,h1,h2,h2',fun h0=>?_⟩;obtain⟨g,off,e1,e2,e3,e4⟩:=h3 h0;exact⟨g,off,e1,Nll e2 k.size,e3,fun i x hx=>(k.cell (p:=Ad g (off+i)) e2 (.inr e3)).trans (e4 i x hx)⟩
theorem jI.k9 {m:Mo}{W W':WL}{t:NN}{f:Nat}{cv:Value}{L:List Stp} (h:jI m W t f cv L) (k:K9 t W W'):jI m W' t f cv L:=by
 obtain⟨g,cap,T,h1,h2,h3,h4,h5,h6⟩:=h.at_;exact⟨⟨g,cap,T,h1,h2,Nll h3 k.size,h4,h5.of_block (k.blk g h3 (.inr h4)),h6⟩,h.reads,h.jump,h.len⟩
theorem aGx.k9 {E:Env}{W W':WL}{t:NN}{pv:Value} (h:aGx E W t pv) (k:K9 t W W'):aGx E W' t pv:=by
 obtain⟨o,cap,h1,h2,h3⟩:=h;refine⟨o,cap,h1,h2,fun i t hi=>?_⟩;obtain⟨g,pb,e1,e2,e3,e4,e5,e6,e7⟩:=h3 i t hi;exact⟨g,pb,e1,Nll e2 k.size,e3,(k.cell (p:=Ad g i) e2 (.inr e3)).trans e4,Nll e5 k.size,e6,e7.of_block (k.blk pb e5 (.inr e6))⟩
theorem Sta.k9 {E:Env}{W W':WL}{t:NN}{tv pv fv:Value}{code:Nat→Value × List Stp} (h:Sta E W t tv pv fv code) (k:K9 t W W') (hs:6≤W.heap.size):Sta E W' t tv pv fv code:=by
 obtain⟨g,cap,h1,h2,h3,h4,h5⟩:=h.fns;refine⟨h.pow.of_block (k.blk 2 (by omega) (.inl (by decide))),h.low,?_,h.tab.of_block (k.blk 1 (by omega) (.inl (by decide))),h.txt.k9 k,⟨g,cap,h1,Nll h2 k.size,h3,h4,fun f hf=>?_⟩,fun f hf=>(h.code f hf).k9 k,h.pat.k9 k⟩
 ·obtain⟨m,hm⟩:=h.mxl;exact⟨m,(k.cell (p:=Ad 0 0) (by show 0<_;omega) (.inl (by show 0<6;decide))).trans hm⟩
 obtain⟨a,b⟩:=h5 f hf;exact⟨(k.cell (p:=Ad g (f*2)) h2 (.inr h3)).trans a,(k.cell (p:=Ad g (f*2+1)) h2 (.inr h3)).trans b⟩
section
variable {E:Env}{X:Nat}{g:Pl}{s:Ms}{W W':WL}{tag tag':NN}
theorem MM.poke (h:MM E X g s W tag){b:Nat}(hb:tag b=6)(h6b:6≤b)(j:Nat)(v:Value):MM E X g s (W.setCell ⟨b,j,none⟩ v) tag:=by
 obtain⟨h6,lv,R,mp,x,hx,h⟩:=h
 have k:K9 tag W (W.setCell ⟨b,j,none⟩ v):=⟨by simp[World.setCell],fun k hk ht=>Below.heap_setCell _ _ _ _ (by show k≠b;rintro rfl;rcases ht with c | c <;> omega)⟩
 have hc:Chg tag [6] W (W.setCell ⟨b,j,none⟩ v):=Chg.setCell W (by show tag b ∈ [6];simp[hb]) v
 have hS:=h.S.chg (tag':=tag) hc (fun _ _=>rfl) (fun i hi=>by simp;omega)
 exact⟨Nat.le_trans h6 k.size,lv,R,mp,x,hx,{ h with
  S:=hS
  sta:=h.sta.k9 k h6
  wlk:=fun a b c ha hb hc=>by
   obtain⟨h1,h2,h3,ga,ca,lf,h4,h5,h6⟩:=h.wlk a b c ha hb hc
   exact⟨h1,h2,h3,ga,ca,lf,h4,h5,h6.k9 k⟩
  rcs:=h.rcs.k9 k
  drw:=h.drw.k9 k
  fld:=h.fld.k9 k }⟩
theorem Kp.poke {W2:WL}(h:Kp tag tag' W W2){b:Nat}(hb:W.heap.size≤b)(j:Nat)(v:Value):Kp tag tag' W (W2.setCell ⟨b,j,none⟩ v):=
 ⟨h.os,h.tape,h.output,by simp[World.setCell];exact h.size,h.ret,fun k hk ht=>(Below.heap_setCell _ _ _ _ (by show k≠b;omega)).trans (h.blk k hk ht)⟩
theorem MM.six (h:MM E X g s W tag):6≤W.heap.size:=h.1
end
theorem aXg:(prog.info? 9).map (fun i=>(i.zero,i.size,i.bytes))=some (some (.string ⟨#[]⟩),1,16):=by kernel_rfl
theorem aOn (n:Nat)(hn:n≤100000)(W:WL):(Instr.makeSlice 22 (iA (n:Int)) (iA (n:Int))).run prog W=.ok (.slice (some (Ad W.heap.size 0)) n n) (W.alloc (.cells (madeCells #[.string ⟨#[]⟩] n) 9)):=by
 obtain⟨i0,hi,hz0,hz1,hz2⟩:=info_parts aXg;have:=run_make (P:=prog) W 22 9 i0 (.string ⟨#[]⟩) underlying22 hi hz0 .i64 .i64 n n (by omega) (by omega) (by rw[hz2];omega) (by omega);simp only[Int.toNat_natCast,hz1,Nat.mul_one] at this;exact this
theorem aTc (W:WL)(z:Value)(n:Nat)(t:TypeId)(k:Nat)(hk:k<n):(W.alloc (.cells (madeCells #[z] n) t)).cell? (Ad W.heap.size k)=some z:=by
 unfold World.cell?;rw[wan];show (madeCells #[z] n)[k]?=some z;rw[← Array.getElem?_toList,toList_madeCells_one,List.getElem?_replicate,if_pos hk]
theorem aKf (W:WL)(o:Array Value)(t:TypeId)(k:Nat):(W.alloc (.cells o t)).frozen? (Ad W.heap.size k)=false:=by
 unfold World.frozen?;rw[wan];simp
theorem nY {w w':WL}{b j:Nat} (h:w'.heap[b]?=w.heap[b]?):w'.frozen? (Ad b j)=w.frozen? (Ad b j):=by
 unfold World.frozen?;rw[h]
section
variable {E:Env}{X:Nat}{g:Pl}{s:Ms}{W W':WL}{tag tag':NN}
def PT (E:Env) (X:Nat) (g:Pl) (s:Ms) (l:List aJ) (vs:List Val) (tag:NN) (W:WL) (k:Nat) (wr:WL):Prop:=
 6≤W.heap.size∧∃ t,MM E X g (aC s (l++(vs.take (vs.length-k)).map cv)) wr t∧Kp tag t W wr∧t W.heap.size=6∧W.heap.size<wr.heap.size∧(∀ j,wr.frozen? ⟨W.heap.size,j,none⟩=false)∧∀ j v,vs[j]?=some v→∃ x,wr.cell? ⟨W.heap.size,j,none⟩=some (.string x)∧(vs.length≤j+k→x=aD E v)
theorem PT.start (h:MM E X g s W tag){l:List aJ}{vs:List Val} (hs:s.fr.stk=l++vs.map cv):PT E X g s l vs tag W 0 (W.alloc (.cells (madeCells #[.string ⟨#[]⟩] vs.length) 9)):=by
 obtain⟨t,h1,k1,hb⟩:=MM.box h ((Fr.refl [] W).alloc (.cells (madeCells #[.string ⟨#[]⟩] vs.length) 9));refine⟨h.six,t,?_,k1,hb _ (Nat.le_refl _),(Age.1 (wan W _)).1,aKf W _ _,fun j v hv=>?_⟩
 ·rw[Nat.sub_zero,List.take_length,← hs];exact h1
 have hj:=(Lgs.1 hv).1;exact⟨_,aTc W _ _ _ j hj,fun hc=>by omega⟩
theorem PT.step (hE:aU E){l:List aJ}{vs:List Val}{k:Nat}{wr:WL} (h:PT E X g s l vs tag W k wr) (hl:l.length+vs.length≤1024) (hv:∀ v ∈ vs,SmV v) (hk:k<vs.length) :
  ∃ v,vs[vs.length-1-k]?=some v∧Calls prog 111 #[fp g s] wr fun e W'=>e=.returned (.string (aD E v))∧W'.frozen? (Ad W.heap.size (vs.length-1-k))=false∧(∃ x,W'.cell? (Ad W.heap.size (vs.length-1-k))=some (.string x))∧PT E X g s l vs tag W (k+1) (W'.setCell ⟨W.heap.size,vs.length-1-k,none⟩ (.string (aD E v))):=by
 obtain⟨h6,t,M,K,hb,hlt,hfz,hc⟩:=h;obtain⟨v,hvm⟩:∃ v,vs[vs.length-1-k]?=some v:=⟨_,Lge (by omega)⟩;have e1:(vs.take (vs.length-k)).map cv=(vs.take (vs.length-(k+1))).map cv++[cv v]:=by
  rw[show vs.length-k=(vs.length-1-k)+1 by omega,List.take_add_one,hvm,List.map_append,show vs.length-(k+1)=vs.length-1-k by omega];rfl
 refine⟨v,hvm,?_⟩;have hs1:(aC s (l++(vs.take (vs.length-k)).map cv)).fr.stk=(l++(vs.take (vs.length-(k+1))).map cv)++[cv v]:=by
  show l++(vs.take (vs.length-k)).map cv=_;rw[e1,List.append_assoc]
 have hl1:(aC s (l++(vs.take (vs.length-k)).map cv)).fr.stk.length≤1024:=by
  show (l++(vs.take (vs.length-k)).map cv).length≤1024;simp only[Lla,List.length_map,List.length_take];omega
 refine (MM.popText hE M hs1 hl1 (hv v (List.mem_of_getElem? hvm))).mono fun e W' ⟨he,t',M',K'⟩=>?_;have hblk:W'.heap[W.heap.size]?=wr.heap[W.heap.size]?:=K'.blk _ hlt (by rw[hb];decide);have hcell:∀ j,W'.cell? (Ad W.heap.size j)=wr.cell? (Ad W.heap.size j):=fun j=>World.cell?_of_block (w:=wr) (a:=Ad W.heap.size j) hblk;have hb':t' W.heap.size=6:=(K'.ret _ hlt).trans hb;have hfz':∀ j,W'.frozen? (Ad W.heap.size j)=false:=fun j=>(nY hblk).trans (hfz j);refine⟨he,hfz' _,?_,h6,t',M'.poke hb' h6 _ _,(K.trans K').poke (Nat.le_refl _) _ _,hb',?_,fun j=>?_,fun j u hu=>?_⟩
 ·obtain⟨x,hx,-⟩:=hc _ v hvm;exact⟨x,(hcell _).trans hx⟩
 ·rw[show (W'.setCell ⟨W.heap.size,vs.length-1-k,none⟩ (.string (aD E v))).heap.size=W'.heap.size by simp[World.setCell]];exact Nll hlt K'.size
 ·rw[wfz];exact hfz' j
 obtain⟨x,hx,hx2⟩:=hc j u hu;by_cases e:j=vs.length-1-k
 ·subst e;rw[hvm] at hu;have:v=u:=by simpa using hu
  subst this;exact⟨_,World.cell?_setCell_same (h:=(hcell _).trans hx) ..,fun _=>rfl⟩
 refine⟨x,?_,fun hle=>hx2 (by omega)⟩;refine (World.cell?_setCell_other (h:=?_) ..).trans ((hcell _).trans hx);intro h;injection h with _ h _;exact e h.symm
theorem MM.popTexts (hE:aU E)(h:MM E X g s W tag){l:List aJ}{vs:List Val} (hs:s.fr.stk=l++vs.map cv) (hl:s.fr.stk.length≤1024) (hv:∀ v ∈ vs,SmV v) :
  Calls prog 136 #[fp g s,iA (vs.length:Nat)] W (fun e W'=>e=.returned (.slice (some (Ad W.heap.size 0)) vs.length vs.length)∧PT E X g s l vs tag W vs.length W'):=by
 have hl1:l.length+vs.length≤1024:=by rw[hs] at hl;simpa using hl
 have HS:Hid _:=fun (k:Nat) (wr:WL) (h:PT E X g s l vs tag W k wr) (hk:k<vs.length)=>PT.step hE h hl1 hv hk;have P0:=PT.start h hs;obtain⟨PP,hPP⟩:=eXi (PT E X g s l vs tag W);rw[hPP] at HS P0 ⊢;clear hPP h hs hv;obtain⟨n,hn⟩:=eXi (vs.length);rw[hn] at hl1 P0 HS ⊢;have hmk:=aOn n (by omega) W;obtain⟨W1,hW1⟩:=eXi (W.alloc (.cells (madeCells #[.string ⟨#[]⟩] n) 9));rw[hW1] at hmk P0;obtain⟨b,hb⟩:=eXi (W.heap.size);rw[hb] at hmk HS ⊢;have hw64:IntKind.i64.wrap (n:Int)=n:=by rw[IntKind.wrap_i64];omega
 clear hW1 hn hb hl;go_enter func136,ntmps136;go_wp2
 go_loopw [11] (fun i wr=>∃ k:Nat,k≤n∧i=iA k∧PP k wr) (fun i _=>n-(intOf i).toNat)
 case atStart=>exact⟨0,by omega,rfl,P0⟩
 case round=>
  clear P0;obtain⟨k,hk,rfl,J⟩:=hrel;by_cases hlt:k<n
  ·have g1:(k:Int)<n:=by omega
   obtain⟨v,-,HC⟩:=HS.out k _ J hlt;have e1:IntKind.i64.wrap ((n:Int)-1)=((n-1:Nat):Int):=by rw[IntKind.wrap_i64];omega
   have e2:IntKind.i64.wrap (((n-1:Nat):Int)-(k:Int))=((n-1-k:Nat):Int):=by rw[IntKind.wrap_i64];omega
   have e3:((n-1-k:Nat):Int)<(n:Int):=by omega
   have HC':Hid _:=fun (_:Unit)=>HC;clear HC J HS;generalize aD E v=tx at HC';obtain⟨m,hm⟩:=eXi (n-1-k);rw[hm] at HC' e2 e3;go_wp2_with fail;refine (HC'.out ()).mono ?_;rintro e W2 ⟨rfl,z0,⟨x,x0⟩,P2⟩;obtain⟨W3,hW3⟩:=eXi (W2.setCell ⟨b,m,none⟩ (.string tx));rw[hW3] at P2;have HP2:Hid _:=P2;clear P2 HC';go_wp2_with fail;exact⟨⟨k+1,by omega,by go_num,HP2.out⟩,by simp[intOf];omega⟩
  have g1:¬ ((k:Int)<n):=by omega
  have hkn:k=n:=by omega
  subst hkn;go_wp2_with fail;go_ret;exact⟨rfl,J⟩
end
theorem P7:∀ xs:LY,Lib.join (xs.map (·.data.toList)) [32]=joinF xs
 | []=>rfl
 | [a]=>by simp[Lib.join,List.intercalate,joinF,bl]
 | a :: b :: l=>by
  have:=P7 (b :: l)
  unfold Lib.join at this ⊢
  rw[show joinF (a :: b :: l)=bl a++32 :: joinF (b :: l) from rfl,← this]
  simp[List.intercalate,bl]
theorem C4 (xs:LY)(h:∀ x ∈ xs,x.size≤1048576):(joinF xs).length≤xs.length*1048577:=by
 induction xs with
 | nil=>simp[joinF]
 | cons a l ih=>
  have ha:=h a (by simp);have hl:=ih fun x hx=>h x (by simp[hx]);cases l with
  | nil=>simp[joinF,aO];omega
  | cons b l=>
   rw[show joinF (a :: b :: l)=bl a++32 :: joinF (b :: l) from rfl];simp only[Lla,List.length_cons,aO] at hl ⊢;omega
theorem aPf (b:Nat)(xs:LY)(W:WL)(hb:b<W.heap.size)(hn:xs.length≤1024)(hs:∀ x ∈ xs,x.size≤1048576)(hc:∀ (j:Nat) x,xs[j]?=some x→W.cell? (Ad b (0+j))=some (.string x)) :
  Calls prog 135 #[.slice (some (Ad b 0)) xs.length xs.length,.string ⟨#[32]⟩] W fun e W'=>e=.returned (.string ⟨(joinF xs).toArray⟩)∧Fr [] W W':=by
 have hl:=C4 xs hs;have:=strings_Join b 0 xs.length xs ⟨#[32]⟩ W hc hb (by omega) (Nat.le_refl _) (by show (Lib.join _ [32]).length≤_;rw[P7];omega);refine this.mono fun e W' ⟨he,hB⟩=>⟨?_,Fr.of_below hB⟩;rw[he];show Ending.returned (Value.string ⟨(Lib.join (xs.map (·.data.toList)) [32]).toArray⟩)=_;rw[P7]
section
variable {E:Env}{X:Nat}{g:Pl}{s:Ms}{W W':WL}{tag:NN}
theorem PT.done {l:List aJ}{vs:List Val}{W2:WL} (h:PT E X g s l vs tag W vs.length W2):∃ t,(MM E X g (aC s l) W2 t∧Kp tag t W W2)∧W.heap.size<W2.heap.size∧∀ (j:Nat) x,(vs.map (aD E))[j]?=some x→W2.cell? (Ad W.heap.size (0+j))=some (.string x):=by
 obtain⟨h6,t,M,K,hb,hlt,hfz,hc⟩:=h;refine⟨t,⟨?_,K⟩,hlt,fun j x hx=>?_⟩
 ·simpa using M
 rw[List.getElem?_map] at hx;obtain⟨v,hv,rfl⟩:=Option.map_eq_some_iff.1 hx;obtain⟨x,h1,h2⟩:=hc j v hv;rw[Nat.zero_add,h1,h2 (by omega)]
theorem MM.iprint (hE:aU E)(h:MM E X g s W tag){l:List aJ}{vs:List Val} (hs:s.fr.stk=l++vs.map cv) (hl:s.fr.stk.length≤1024) (hv:∀ v ∈ vs,SmV v) (hx:∀ x ∈ vs.map (aD E),x.size≤1048576) (ho:s.w.out.size≤1000) (pl b q:Int) :
  Calls prog 72 #[ptr X,fp g s,inV 44 pl (vs.length:Nat) b q] W (MP E X g { aC s l with w:=(fN s.w (vs.map (aD E))).1 } tag W (stI (fN s.w (vs.map (aD E))).2)):=by
 obtain⟨W1,hW1,F1,⟨b0,b1,b2,b3,b4⟩,l1⟩:=gG W 44 pl (vs.length:Nat) b q;obtain⟨t1,h1,k1,-⟩:=MM.box h F1;have hln:(vs.map (aD E)).length≤1024:=by rw[hs] at hl;simp at hl ⊢;omega
 have HM1:Hid _:=AI h1 k1;have HP:Hid _:=fun (_:Unit)=>h1.popTexts hE hs hl hv;have HJ:Hid _:=fun (W2:WL) (hb:W1.heap.size<W2.heap.size) hc=>aPf W1.heap.size (vs.map (aD E)) W2 hb hln hx hc;have HO:Hid _:=fun (W2:WL) (t2:NN) (h2:MM E X g (aC s l) W2 t2) (t:BA)=>AI (MM.xout h2) (MM.setOut h2 t);have hjl:=C4 (vs.map (aD E)) hx;rw[List.length_map] at HJ hjl hln;unfold fN;obtain⟨jj,hjj⟩:∃ jj:BA,⟨(joinF (vs.map (aD E))).toArray⟩=jj:=⟨_,rfl⟩;have hjs:(joinF (vs.map (aD E))).length=jj.size:=by rw[← hjj];rfl
 have hja:(joinF (vs.map (aD E))++[10]).toArray=jj.data++#[10]:=by rw[← hjj];simp
 rw[hjs] at hjl;rw[hjs,hja];rw[hjj] at HJ;clear hjs hja hjj hx h h1 k1 F1 l1 hs hv;by_cases hbig:s.w.out.size+jj.size+1>1000
 ·rw[if_pos hbig];go_enter func72,ntmps72;go_wp2_with fail;refine (HP.out ()).mono ?_;rintro e W2 ⟨rfl,P2⟩;obtain⟨t2,M2,hlt,hc⟩:=P2.done;have HJ2:Hid _:=fun (_:Unit)=>HJ.out W2 hlt hc;have HM2:Hid _:=AI M2.1 (HM1.out.2.trans M2.2);clear P2 M2 hlt hc HP HJ;go_wp2_with fail;refine (HJ2.out ()).mono ?_;rintro e W3 ⟨rfl,F3⟩;obtain⟨t3,h3,k3⟩:=MM.fr HM2.out.1 F3;have HM3:Hid _:=AI h3 (HM2.out.2.trans k3);have x14':=MM.xout h3;have x14:W3.cell? (Ad X 14)=some (.string s.w.out):=x14';clear x14';have e1:IntKind.i64.wrap (s.w.out.size:Int)=s.w.out.size:=by rw[IntKind.wrap_i64];omega
  have e2:(jj++(⟨#[10]⟩:BA)).size=jj.size+1:=by rw[ByteArray.size_append];rfl
  clear h3 k3 F3 HJ2 HO;go_wp2_with fail;go_ret;exact⟨rfl,t3,HM3.out.1,HM3.out.2⟩
 rw[if_neg hbig];go_enter func72,ntmps72;go_wp2_with fail;refine (HP.out ()).mono ?_;rintro e W2 ⟨rfl,P2⟩;obtain⟨t2,M2,hlt,hc⟩:=P2.done;have HJ2:Hid _:=fun (_:Unit)=>HJ.out W2 hlt hc;have HM2:Hid _:=AI M2.1 (HM1.out.2.trans M2.2);clear P2 M2 hlt hc HP HJ;go_wp2_with fail;refine (HJ2.out ()).mono ?_;rintro e W3 ⟨rfl,F3⟩;obtain⟨t3,h3,k3⟩:=MM.fr HM2.out.1 F3;have HM3:Hid _:=AI h3 (HM2.out.2.trans k3);have x14':=MM.xout h3;have x14:W3.cell? (Ad X 14)=some (.string s.w.out):=x14';clear x14';have e1:IntKind.i64.wrap (s.w.out.size:Int)=s.w.out.size:=by rw[IntKind.wrap_i64];omega
 have e2:(jj++(⟨#[10]⟩:BA)).size=jj.size+1:=by rw[ByteArray.size_append];rfl
 obtain⟨-,z14,-,M4,K4⟩:=HO.out W3 t3 h3 ⟨s.w.out.data++(jj.data++#[10])⟩;clear h3 k3 F3 HJ2 HO;go_wp2_with fail;go_ret;have e5:s.w.out++(jj++(⟨#[10]⟩:BA))=⟨s.w.out.data++(jj.data++#[10])⟩:=by
  apply ByteArray.ext;simp[ByteArray.data_append]
 rw[e5];exact⟨rfl,t3,M4,HM3.out.2.trans K4⟩
end
theorem aHu {l:List (BA × Val)}(hd:(aM l).Nodup){j:Nat}{k:BA}{v:Val} (h:l[j]?=some (k,v)):iH l k=v∧bI l k=true:=by
 induction l generalizing j with
 | nil=>simp at h
 | cons a l ih=>
  have hd':a.1 ∉ aM l∧(aM l).Nodup:=List.nodup_cons.1 hd;cases j with
  | zero=>
   have e:a=(k,v):=by simpa using h
   subst e;simp[iH,bI]
  | succ j=>
   have h':l[j]?=some (k,v):=by simpa using h
   obtain⟨h1,h2⟩:=ih hd'.2 h';have hne:a.1≠k:=by
    rintro rfl;exact hd'.1 (List.mem_map.2 ⟨_,List.mem_of_getElem? h',rfl⟩)
   refine⟨?_,?_⟩
   ·unfold iH;rw[if_neg hne];exact h1
   unfold bI at h2 ⊢;rw[List.any_cons,h2,Bool.or_true]
theorem aCm {l:List (BA × Val)}{k:BA} (h:∀ e ∈ l,e.1≠k):iH l k=nothing∧bI l k=false:=by
 induction l with
 | nil=>exact⟨rfl,rfl⟩
 | cons a l ih=>
  obtain⟨h1,h2⟩:=ih fun e he=>h e (by simp[he]);have hne:=h a (by simp);refine⟨?_,?_⟩
  ·unfold iH;rw[if_neg hne];exact h1
  unfold bI at h2 ⊢;rw[List.any_cons,h2];simpa using hne
theorem aEy {W:WL}{b:Nat}{l:List (BA × Val)} (hm:dV W b (cY l)) (hd:(aM l).Nodup) (hs:∀ e ∈ l,e.1.size≤1048576) {key:BA} (hk:key.size≤1048576) :
  (Instr.lookup 88 (.map (some b)) (.string key) true).run prog W=.ok (.tuple #[vV (iH l key),.bool (bI l key)]) W:=by
 obtain⟨es,clock,hb,he⟩:=hm;have K:=WideMaps.string_law (P:=prog) (k:=9) underlying9;have hkey:=WideMaps.keyOf_string_mk (P:=prog) (k:=9) underlying9 (s:=key) (Nat.le_trans hk (by decide));have hmem:∀ e ∈ es.toList,∃ x ∈ l,e.key=.string x.1∧e.val=vV x.2:=fun e hx=>by
  have:(e.key,e.val) ∈ cY l:=by rw[← he];exact List.mem_map.2 ⟨e,hx,rfl⟩
  obtain⟨x,hx,h⟩:=List.mem_map.1 this;injection h with h1 h2;exact⟨x,hx,h1.symm,h2.symm⟩
 rcases K.find W hkey es.toList (fun e hx=>by
  obtain⟨x,hx,h1,-⟩:=hmem e hx;rw[h1];exact⟨_,WideMaps.keyOf_string_mk (P:=prog) (k:=9) underlying9 (Nat.le_trans (hs x hx) (by decide))⟩) with ⟨h1,h2⟩ | ⟨j,e0,h1,h2,h3⟩
 ·obtain⟨g1,g2⟩:=aCm (l:=l) (k:=key) fun x hx hxk=>by
   have:((.string x.1:Value),vV x.2) ∈ cY l:=List.mem_map.2 ⟨x,hx,rfl⟩;rw[← he] at this;obtain⟨e,hx',h⟩:=List.mem_map.1 this;injection h with q1 q2;exact h2 e hx' (by rw[q1,hxk])
  rw[g1,g2];have hz:(zeroValue 135).run prog W=.ok (vV nothing) W:=by kernel_rfl
  simp[Instr.lookup,run_underlying underlying88,MapKept.run_getObj_map hb,K.check W _ hkey,h1,hz,Result.andThen]
 have:(cY l)[j]?=some (e0.key,e0.val):=by rw[← he,List.getElem?_map,h2];rfl
 rw[cY,List.getElem?_map] at this;obtain⟨x,hx,h⟩:=Option.map_eq_some_iff.1 this;obtain⟨q1,q2⟩:=Prod.mk.inj h;have hxk:x.1=key:=Value.string.inj (q1.trans h3);obtain⟨g1,g2⟩:=aHu hd (j:=j) (k:=key) (v:=x.2) (by rw[hx,← hxk]);have q2':vV x.2=e0.val:=q2;rw[g1,g2,q2'];simp[Instr.lookup,run_underlying underlying88,MapKept.run_getObj_map hb,K.check W _ hkey,h1,Result.andThen]
theorem gV (A o b:Nat){l:List (BA × Val)}(key:BA)(W:WL)(h0:W.cell? (Ad A o)=some (.map (some b)))(hm:dV W b (cY l))(hd:(aM l).Nodup)(hs:∀ e ∈ l,e.1.size≤1048576)(hk:key.size≤1048576) :
  Calls prog 119 #[.pointer (some (Ad A o)),.string key] W fun e W'=>e=.returned (.bool (bI l key))∧Fr [] W W':=by
 have hlk:=aEy hm hd hs hk;unfold vV at hlk;generalize ((iH l key).kind:Int)=kk at hlk;generalize vN (iH l key)=mm at hlk;generalize vS (iH l key)=tt at hlk;generalize bI l key=bb at hlk ⊢;obtain⟨W1,hW1⟩:=eXi (W.alloc (.cells #[.int .u8 0,iA 0,.string ⟨#[]⟩] 135));have F1:=frA hW1
 have k1:=kA hW1;obtain⟨hy,z0,z1,z2⟩:=iJ k1;obtain⟨W7,hW7,r0,r1,r2,F7⟩:=set3 (x':=.int .u8 kk) (y':=iA mm) (z':=.string tt) hy;obtain⟨y0,y1,y2⟩:=hy;have FF:Hid _:=F1.trans' F7 (by simp);clear hm hd hs hk F1 F7 k1;go_enter func119,ntmps119;go_wp2_with fail;go_ret;exact⟨rfl,FF.out⟩
section
variable {E:Env}{X:Nat}{g:Pl}{s:Ms}{W W':WL}{tag:NN}
theorem MM.avS (h:MM E X g s W tag){i:Nat}(hi:i<s.w.arrs.length):∃ ga c,g.av=.slice (some (Ad ga 0)) s.w.arrs.length c:=by
 obtain⟨h6,lv,R,mp,x,hx,h⟩:=h;have o:=(h.S.rows 13 h.lA).1;rw[h.rA] at o;obtain⟨ga,c,hv,-,-⟩:=fR o (by show 0<s.w.arrs.length;omega);exact⟨ga,c,hx.2.symm.trans hv⟩
theorem MM.arrAt (h:MM E X g s W tag){ga c:Nat}(hg:g.av=.slice (some (Ad ga 0)) s.w.arrs.length c){i:Nat}(hi:i<s.w.arrs.length):∃ b ov,W.cell? (Ad ga (i*2))=some (.map (some b))∧W.cell? (Ad ga (i*2+1))=some ov∧dV W b (cY (s.w.arrs.getD i []))∧W.ownsRow 0 9 1 ov (s.w.arrs.getD i []).length ((aM (s.w.arrs.getD i [])).map .string):=by
 obtain⟨h6,lv,R,mp,x,hx,h⟩:=h;have o:=(h.S.rows 13 h.lA).1;rw[h.rA] at o;simp only at o;rw[hx.2,hg] at o;have e:=fun t (ht:t<2)=>dC (n:=s.w.arrs.length) (z:=2) (f:=fun i=>[Value.map (some (x.A i).1),(x.A i).2]) (fun _ _=>rfl) hi ht;obtain⟨a1,a2,a3⟩:=h.arr i hi;have o2:=(h.S.rows _ a2).1;rw[a3] at o2;exact⟨(x.A i).1,(x.A i).2,aF o ((e 0 (by decide)).trans rfl),aF o ((e 1 (by decide)).trans rfl),(h.S.maps _ _ _ a1).1,o2⟩
def dO (l:List (BA × Val)):Prop:=(aM l).Nodup∧∀ e ∈ l,e.1.size≤1048576
theorem MM.ain (hE:aU E)(h:MM E X g s W tag){l:List aJ}{v:Val} (hs:s.fr.stk=l++[cv v]) (hl:s.fr.stk.length≤1024) (hv:SmV v) (hx:(aD E v).size≤1048576) {a:Nat} (ha:a<s.w.arrs.length) (hk:dO (s.w.arrs.getD a [])) (hn:s.w.arrs.length≤1000) (pl b q:Int) :
  Calls prog 65 #[ptr X,fp g s,inV 13 pl (a:Nat) b q] W (MP E X g (aC s (l++[cv (whole (eZ (bI (s.w.arrs.getD a []) (aD E v))))])) tag W (stI 0)):=by
 have hm:=hmX
 have hl1:l.length<1024:=by rw[hs] at hl;simp at hl;omega
 obtain⟨W1,hW1,F1,⟨b0,b1,b2,b3,b4⟩,l1⟩:=gG W 13 pl (a:Nat) b q;obtain⟨t1,h1,k1,hb1⟩:=MM.box h F1;obtain⟨ga,c,hg⟩:=h.avS ha;have HM1:Hid _:=AI h1 k1;have HB:Hid _:=fun (W2:WL) (t2:NN) (k:Kp t1 t2 W1 W2)=>AI ((k.cell (p:=Ad W.heap.size 0) l1 (by show t1 W.heap.size<10;rw[hb1 _ (Nat.le_refl _)];decide)).trans b0) ((k.cell (p:=Ad W.heap.size 2) l1 (by show t1 W.heap.size<10;rw[hb1 _ (Nat.le_refl _)];decide)).trans b2);have x9:=h1.avc;rw[hg] at x9;have HP:Hid _:=fun (W1:WL) (t1:NN) (h1:MM E X g s W1 t1)=>MM.popText hE h1 hs hl hv;have HA:Hid _:=fun (W1:WL) (t1:NN) (h1:MM E X g (aC s l) W1 t1)=>MM.arrAt h1 hg (i:=a) ha;have HH:Hid _:=fun (W1:WL) (bm:Nat) (c0:W1.cell? (Ad ga (a*2))=some (.map (some bm))) (hm:dV W1 bm (cY (s.w.arrs.getD a [])))=>gV ga (a*2) bm (aD E v) W1 c0 hm hk.1 hk.2 hx;have HT:Hid _:=fun (W1:WL) (t1:NN) (h1:MM E X g (aC s l) W1 t1)=>MM.pushTruth h1 (show l.length<1024 from hl1) (bI (s.w.arrs.getD a []) (aD E v));generalize bI (s.w.arrs.getD a []) (aD E v)=bb at HH HT ⊢;generalize aD E v=tx at HP HH;have hi':(a:Int)<s.w.arrs.length:=by omega
 clear h h1 k1 F1 l1 hb1 hx hk;go_enter func65,ntmps65;go_wp2_with fail;refine aY hm (by kernel_rfl) ?_
 repeat still_step
 refine wpStill_nil ?_;have F2:Fr [] W1 W1.drew:=(Fr.refl [] W1).drew;obtain⟨t2,h2,k2⟩:=MM.fr HM1.out.1 F2;have HM2:Hid _:=AI h2 (HM1.out.2.trans k2);have HK2:Hid _:=k2;clear h2 k2 F2;go_wp2_with fail;refine (HP.out W1.drew t2 HM2.out.1).mono ?_;rintro e W3 ⟨rfl,t3,h3,k3⟩;have HM3:Hid _:=AI h3 (HM2.out.2.trans k3);have HK3:Hid _:=k3;clear h3 k3 HP;obtain⟨bm,ov,c0,-,hmm,-⟩:=HA.out W3 t3 HM3.out.1;have HH3:Hid _:=fun (_:Unit)=>HH.out W3 bm c0 hmm;clear c0 hmm HA HH;go_wp2_with fail;refine (HH3.out ()).mono ?_;rintro e W4 ⟨rfl,F4⟩;obtain⟨t4,h4,k4⟩:=MM.fr HM3.out.1 F4;have HM4:Hid _:=AI h4 (HM3.out.2.trans k4);have HK4:Hid _:=k4;clear h4 k4 F4;go_wp2_with fail;refine (HT.out W4 t4 HM4.out.1).mono ?_;rintro e W5 ⟨rfl,t5,h5,k5⟩;have HM5:Hid _:=AI h5 (HM4.out.2.trans k5);have HK5:Hid _:=k5;clear h5 k5 HT;go_wp2_with fail;go_ret;exact⟨rfl,t5,HM5.out.1,HM5.out.2⟩
end
theorem aIr (A o b n c:Nat)(ad:OA){l:List (BA × Val)}(key:BA)(W:WL)(hA:A<W.heap.size)(h0:W.cell? (Ad A o)=some (.map (some b)))(h1:W.cell? (Ad A (o+1))=some (.slice ad n c))(hm:dV W b (cY l))(hd:dO l)(hk:key.size≤1048576)(hn:n≤100000) :
  Calls prog 115 #[.pointer (some (Ad A o)),.string key] W fun e W'=>e=.returned (.bool (bI l key || decide (n<30)))∧Fr [] W W':=by
 have HH:Hid _:=fun (_:Unit)=>gV A o b key W h0 hm hd.1 hd.2 hk;have h1':Hid _:=fun (W':WL) (F:Fr [] W W')=>(F.cell (p:=Ad A (o+1)) hA (by simp)).trans h1;have hw64:IntKind.i64.wrap (n:Int)=n:=by rw[IntKind.wrap_i64];omega
 generalize bI l key=bb at HH ⊢;clear hm hd h0 h1;cases bb
 ·by_cases hlt:n<30
  ·have g1:(n:Int)<30:=by omega
   rw[decide_eq_true hlt];go_enter func115,ntmps115;go_wp2_with fail;refine (HH.out ()).mono ?_;rintro e W1 ⟨rfl,F1⟩;have x1:=h1'.out W1 F1;have HF:Hid _:=F1;clear F1 h1' HH;go_wp2_with fail;go_ret;exact⟨rfl,HF.out⟩
  have g1:¬ ((n:Int)<30):=by omega
  rw[decide_eq_false hlt];go_enter func115,ntmps115;go_wp2_with fail;refine (HH.out ()).mono ?_;rintro e W1 ⟨rfl,F1⟩;have x1:=h1'.out W1 F1;have HF:Hid _:=F1;clear F1 h1' HH;go_wp2_with fail;go_ret;refine⟨?_,HF.out⟩;show Ending.returned (Value.bool (decide ((n:Int)<30)))=_;rw[decide_eq_false (show ¬ ((n:Int)<30) by omega)];rfl
 generalize decide (n<30)=dd;rw[Bool.true_or];go_enter func115,ntmps115;go_wp2_with fail;refine (HH.out ()).mono ?_;rintro e W1 ⟨rfl,F1⟩;have HF:Hid _:=F1;clear F1 h1' HH;go_wp2_with fail;go_ret;exact⟨rfl,HF.out⟩
section
variable {E:Env}{X:Nat}{g:Pl}{s:Ms}{W W':WL}{tag tag':NN}{lv:Nat→Bool}{R:Nat→Rw}{mp:Nat→Option (Nat × List (Value × Value))}{x:Mx}
def bG (s:Ms) (i:Nat) (l:List (BA × Val)):Ms:={ s with w:={ s.w with arrs:=s.w.arrs.set i l } }
def onA (x:Mx) (i:Nat) (y:Nat × Value):Mx:={ x with A:=up x.A i y }
theorem zA (s:Ms){i:Nat}(hi:i<s.w.arrs.length)(l:List (BA × Val)):(bG s i l).w.arrs.getD i []=l:=by
 show (s.w.arrs.set i l).getD i []=l;rw[List.getD_eq_getElem?_getD,List.getElem?_set_self hi];rfl
theorem aVg (s:Ms){i j:Nat}(hj:j≠i)(l:List (BA × Val)):(bG s i l).w.arrs.getD j []=s.w.arrs.getD j []:=by
 show (s.w.arrs.set i l).getD j []=_;rw[List.getD_eq_getElem?_getD,List.getElem?_set_ne (fun e=>hj e.symm),List.getD_eq_getElem?_getD]
theorem nT (s:Ms)(i:Nat)(l:List (BA × Val)):(bG s i l).w.arrs.length=s.w.arrs.length:=List.length_set
theorem MR.rearr (h:MR E X g.g s W tag lv R mp x)(h6:6≤W.heap.size){i:Nat}(hi:i<s.w.arrs.length){l:List (BA × Val)}{ov:Value}{R':Nat→Rw}{mp':Nat→Option (Nat × List (Value × Value))} (k:Kp tag tag' W W') (hS:Sto W' tag' lv R' mp')
  (h13:R' 13=⟨x.av,90,2,s.w.arrs.length,(rng s.w.arrs.length fun j=>[Value.map (some (x.A j).1),(x.A j).2]).set (i*2+1) ov⟩) (ho:R' (21+2*i)=⟨ov,9,1,l.length,(aM l).map .string⟩)
  (hR:∀ q,q≠13→q≠21+2*i→R' q=R q) (hm:mp' (20+2*i)=some ((x.A i).1,cY l)) (hM:∀ q,q≠20+2*i→mp' q=mp q):MR E X g.g (bG s i l) W' tag' lv R' mp' (onA x i ((x.A i).1,ov)):=by
 have hn:=h.nA;refine⟨hS,h.sta.kp k h6,h.lX,?_,h.lF,?_,h.vF,h.nF,h.lG,?_,h.lA,?_,?_,fun j hj=>?_,fun j hj=>?_,fun a j c ha hj hc=>?_,h.fn,h.rcs.kp k,h.drw.kp k,h.fld.kp k⟩
 ·rw[hR 10 (by decide) (by omega)];exact h.rX
 ·rw[hR 11 (by decide) (by omega)];exact h.rF
 ·rw[hR 12 (by decide) (by omega)];exact h.rG
 ·rw[h13,nT];show _=Rw.mk x.av 90 2 s.w.arrs.length _;congr 1;rw[jM (n:=s.w.arrs.length) (z:=2) (f:=fun j=>[Value.map (some (x.A j).1),(x.A j).2]) (fun _ _=>rfl) hi (by omega)];refine bK fun j hj=>?_;by_cases e:j=i
  ·subst e;show _=[Value.map (some (up x.A j _ j).1),(up x.A j _ j).2];rw[aG,aG];rfl
  show _=[Value.map (some (up x.A i _ j).1),(up x.A i _ j).2];rw[aE _ _ e,aE _ _ e]
 ·rw[nT];exact hn
 ·rw[nT] at hj;obtain⟨a1,a2,a3⟩:=h.arr j hj;by_cases e:j=i
  ·subst e;rw[zA s hi];show mp' _=some ((up x.A j _ j).1,_)∧_∧R' _=Rw.mk (up x.A j _ j).2 9 1 _ _;rw[aG];exact⟨hm,a2,ho⟩
  rw[aVg s e];show mp' _=some ((up x.A i _ j).1,_)∧_∧R' _=Rw.mk (up x.A i _ j).2 9 1 _ _;rw[aE _ _ e,hM _ (by omega),hR _ (by omega) (by omega)];exact⟨a1,a2,a3⟩
 ·have hj':j≤s.low.length:=hj;have:=h.nF;rw[hR _ (by omega) (by omega)];exact h.stk j hj
 obtain⟨q1,q2,q3,ga,ca,lf,q4,q5,q6⟩:=h.wlk a j c ha hj hc;refine⟨q1,by rw[nT];exact q2,q3,ga,ca,lf,by rw[nT];exact q4,?_,q6.kp k⟩;rw[hR _ (by omega) (by omega)];exact q5
end
def eQ (W:WL) (b:Nat) (o:Obj):WL:={ W with heap:=W.heap.setIfInBounds b o }
theorem aIx (W:WL)(b:Nat)(o:Obj):(eQ W b o).heap.size=W.heap.size:=by simp[eQ]
theorem kF (W:WL){b k:Nat}(o:Obj)(h:k≠b):(eQ W b o).heap[k]?=W.heap[k]?:=by
 simp[eQ,Array.getElem?_setIfInBounds];intro e;exact absurd e.symm h
theorem pK (W:WL){b:Nat}(o:Obj)(h:b<W.heap.size):(eQ W b o).heap[b]?=some o:=by simp[eQ,Array.getElem?_setIfInBounds,h]
theorem sC {tag:NN}(W:WL)(b:Nat)(o:Obj):Chg tag [tag b] W (eQ W b o):=
 ⟨rfl,rfl,rfl,by rw[aIx];exact Nat.le_refl _,fun k hk hn=>kF W o (by rintro rfl;exact hn (by simp))⟩
theorem aLh (A o b:Nat)(v:Value)(W:WL)(hne:A≠b)(hz:W.frozen? (Ad A (o+1))=false)(h0:W.cell? (Ad A o)=some (.map (some b)))(h1:W.cell? (Ad A (o+1))=some v){es:Array MapEntry}{clock:Nat} (hb:W.heap[b]?=some (.map es clock)) :
  Calls prog 121 #[.pointer (some (Ad A o))] W fun e W'=>e=.returned cR∧W'=(eQ W b (.map #[] clock)).setCell ⟨A,o+1,none⟩ (.slice none 0 0):=by
 have hcl:(Builtin.clear_ #[88] 0 #[.map (some b)]).run prog W=.ok (.tuple #[]) (eQ W b (.map #[] clock)):=by
  simp[Builtin.clear_,run_underlying underlying88,MapKept.run_getObj_map hb,MapKept.run_setObj_map _ hb,Result.andThen,eQ]
 have y1:(eQ W b (.map #[] clock)).cell? (Ad A (o+1))=some v:=(World.cell?_of_block (w:=W) (a:=Ad A (o+1)) (kF W _ hne)).trans h1;have z1:(eQ W b (.map #[] clock)).frozen? (Ad A (o+1))=false:=(nY (kF W _ hne)).trans hz;generalize eQ W b (.map #[] clock)=W1 at hcl y1 z1 ⊢;clear hb hne;go_enter func121,ntmps121;go_wp2_with fail;refine bodyPost_end (results_none rfl _ _ _) rfl ?_;exact⟨rfl,rfl⟩
section
variable {E:Env}{X:Nat}{g:Pl}{s:Ms}{W W':WL}{tag tag':NN}
theorem MM.empty (h:MM E X g s W tag){ga c:Nat}(hg:g.av=.slice (some (Ad ga 0)) s.w.arrs.length c){i:Nat}(hi:i<s.w.arrs.length) :
  Calls prog 121 #[.pointer (some (Ad ga (i*2)))] W (MP E X g (bG s i []) tag W cR):=by
 obtain⟨h6,lv,R,mp,x,hx,h⟩:=h;have r13:=h.rA;rw[hx.2,hg] at r13;have o:=(h.S.rows 13 h.lA).1;have tg:=(h.S.rows 13 h.lA).2;rw[r13] at o tg;simp only at o tg;have e:=fun t (ht:t<2)=>dC (n:=s.w.arrs.length) (z:=2) (f:=fun i=>[Value.map (some (x.A i).1),(x.A i).2]) (fun _ _=>rfl) hi ht;obtain⟨a1,a2,a3⟩:=h.arr i hi;obtain⟨⟨es,clock,hb,he⟩,tb⟩:=h.S.maps _ _ _ a1;have tga:tag ga=13:=tg ga rfl;have hne:ga≠(x.A i).1:=by
  intro e;rw[e,tb] at tga;omega
 have hlf:lv (20+2*i)=false:=by
  rcases hq:lv (20+2*i) with _ | _
  ·rfl
  have:=h.S.far _ hq;rw[a1] at this;cases this
 refine (aLh ga (i*2) (x.A i).1 _ W hne (bB o _) (aF o ((e 0 (by decide)).trans rfl)) (aF o ((e 1 (by decide)).trans rfl)) hb).mono fun ee W' ⟨he,hw⟩=>⟨he,tag,?_⟩;have c1:Chg tag [20+2*i] W (eQ W (x.A i).1 (.map #[] clock)):=by rw[← tb];exact sC W _ _
 have hbl:=(Age.1 hb).1;have S1:=h.S.map (b:=(x.A i).1) (l:=cY []) hlf (by omega) c1 (fun _ _=>rfl) ⟨#[],clock,pK W _ hbl,rfl⟩ tb;obtain⟨S2,K2⟩:=S1.put h.lA r13 (j:=i*2+1) (by omega) (.slice none 0 0);have K1:Kp tag tag W (eQ W (x.A i).1 (.map #[] clock)):=Kp.chg c1 (fun _ _=>rfl) (by simp;omega);have hmn:up mp (20+2*i) (some ((x.A i).1,cY [])) (21+2*i)=none:=by rw[aE _ _ (by omega)];exact h.S.far _ a2
 have S3:=S2.turn (i:=21+2*i) (tag':=tag) hmn (by omega) (Chg.refl tag [21+2*i] _) (fun _ _=>rfl) (r:=⟨.slice none 0 0,9,1,0,[]⟩) ⟨rfl,.inl ⟨rfl,rfl⟩⟩ (Tg.nil _ _);rw[lJ a2] at S3;have K:=K1.trans K2;rw[← hw] at S3 K;have e13:x.av=.slice (some (Ad ga 0)) s.w.arrs.length c:=hx.2.trans hg;refine⟨⟨Nat.le_trans h6 K.size,lv,_,_,onA x i ((x.A i).1,.slice none 0 0),hx,h.rearr h6 hi K S3 ?_ ?_ ?_ ?_ ?_⟩,K⟩
 ·rw[aE _ _ (by omega),aG,e13]
 ·rw[aG];rfl
 ·intro q h1 h2;rw[aE _ _ h2,aE _ _ h1]
 ·exact aG _ _ _
 intro q h1;exact aE _ _ h1
end
section
variable {E:Env}{X:Nat}{g:Pl}{s:Ms}{W W':WL}{tag:NN}
theorem MM.aclear (h:MM E X g s W tag){a:Nat}(ha:a<s.w.arrs.length)(hn:s.w.arrs.length≤1000)(pl b q:Int) :
  Calls prog 65 #[ptr X,fp g s,inV 15 pl (a:Nat) b q] W (MP E X g (bG s a []) tag W (stI 0)):=by
 have hm:=hmX
 obtain⟨W1,hW1,F1,⟨b0,b1,b2,b3,b4⟩,l1⟩:=gG W 15 pl (a:Nat) b q;obtain⟨t1,h1,k1,hb1⟩:=MM.box h F1;obtain⟨ga,c,hg⟩:=h.avS ha;have HM1:Hid _:=AI h1 k1;have x9:=h1.avc;rw[hg] at x9;have HP:Hid _:=fun (W1:WL) (t1:NN) (h1:MM E X g s W1 t1)=>MM.empty h1 hg ha;have hi':(a:Int)<s.w.arrs.length:=by omega
 clear h h1 k1 F1 l1 hb1;go_enter func65,ntmps65;go_wp2_with fail;refine aY hm (by kernel_rfl) ?_
 repeat still_step
 refine wpStill_nil ?_;have F2:Fr [] W1 W1.drew:=(Fr.refl [] W1).drew;obtain⟨t2,h2,k2⟩:=MM.fr HM1.out.1 F2;have HM2:Hid _:=AI h2 (HM1.out.2.trans k2);have HK2:Hid _:=k2;clear h2 k2 F2;go_wp2_with fail;refine (HP.out W1.drew t2 HM2.out.1).mono ?_;rintro e W3 ⟨rfl,t3,h3,k3⟩;have HM3:Hid _:=AI h3 (HM2.out.2.trans k3);have HK3:Hid _:=k3;clear h3 k3 HP;go_wp2_with fail;go_ret;exact⟨rfl,t3,HM3.out.1,HM3.out.2⟩
end
theorem aMv {l:List (BA × Val)}{k:BA} (v:Val) (h:∀ e ∈ l,e.1≠k):cT l k v=l++[(k,v)]:=by
 induction l with
 | nil=>rfl
 | cons a l ih=>
  unfold cT;rw[if_neg (h a (by simp)),ih fun e he=>h e (by simp[he])];rfl
theorem aSd {l:List (BA × Val)}(hd:(aM l).Nodup){j:Nat}{k:BA}{u:Val} (v:Val) (h:l[j]?=some (k,u)):cT l k v=l.set j (k,v):=by
 induction l generalizing j with
 | nil=>simp at h
 | cons a l ih=>
  have hd':a.1 ∉ aM l∧(aM l).Nodup:=List.nodup_cons.1 hd;cases j with
  | zero=>
   have e:a=(k,u):=by simpa using h
   subst e;simp[cT]
  | succ j=>
   have h':l[j]?=some (k,u):=by simpa using h
   have hne:a.1≠k:=by
    rintro rfl;exact hd'.1 (List.mem_map.2 ⟨_,List.mem_of_getElem? h',rfl⟩)
   unfold cT;rw[if_neg hne,ih hd'.2 h'];rfl
theorem xE {W:WL}{b:Nat}{l:List (BA × Val)} (hm:dV W b (cY l)) (hd:(aM l).Nodup) (hs:∀ e ∈ l,e.1.size≤1048576) {key:BA} (hk:key.size≤1048576) (v:Val) :
  ∃ es' clock',(Instr.mapUpdate 88 (.map (some b)) (.string key) (vV v)).run prog W=.ok () (eQ W b (.map es' clock'))∧es'.toList.map (fun e=>(e.key,e.val))=cY (cT l key v):=by
 obtain⟨es,clock,hb,he⟩:=hm;have K:=WideMaps.string_law (P:=prog) (k:=9) underlying9;have hkey:=WideMaps.keyOf_string_mk (P:=prog) (k:=9) underlying9 (s:=key) (Nat.le_trans hk (by decide));have hmem:∀ e ∈ es.toList,∃ x ∈ l,e.key=.string x.1∧e.val=vV x.2:=fun e hx=>by
  have:(e.key,e.val) ∈ cY l:=by rw[← he];exact List.mem_map.2 ⟨e,hx,rfl⟩
  obtain⟨x,hx,h⟩:=List.mem_map.1 this;injection h with h1 h2;exact⟨x,hx,h1.symm,h2.symm⟩
 rcases K.find W hkey es.toList (fun e hx=>by
  obtain⟨x,hx,h1,-⟩:=hmem e hx;rw[h1];exact⟨_,WideMaps.keyOf_string_mk (P:=prog) (k:=9) underlying9 (Nat.le_trans (hs x hx) (by decide))⟩) with ⟨h1,h2⟩ | ⟨j,e0,h1,h2,h3⟩
 ·refine⟨es.push ⟨.string key,vV v,clock⟩,clock+1,?_,?_⟩
  ·simp[Instr.mapUpdate,run_underlying underlying88,MapKept.run_getObj_map hb,K.check W _ hkey,h1,MapKept.run_setObj_map _ hb,Result.andThen,eQ]
  rw[aMv v (fun x hx hxk=>by
   have:((.string x.1:Value),vV x.2) ∈ cY l:=List.mem_map.2 ⟨x,hx,rfl⟩;rw[← he] at this;obtain⟨e,hx',h⟩:=List.mem_map.1 this;injection h with q1 q2;exact h2 e hx' (by rw[q1,hxk])),Array.toList_push,List.map_append,he]
  unfold cY;rw[List.map_append];rfl
 have:(cY l)[j]?=some (e0.key,e0.val):=by rw[← he,List.getElem?_map,h2];rfl
 rw[cY,List.getElem?_map] at this;obtain⟨x,hx,h⟩:=Option.map_eq_some_iff.1 this;obtain⟨q1,q2⟩:=Prod.mk.inj h;have hxk:x.1=key:=Value.string.inj (q1.trans h3);have h2':es[j]?=some e0:=by rw[← Array.getElem?_toList];exact h2
 refine⟨es.modify j fun e=>{ e with key:=.string key,val:=vV v },clock,?_,?_⟩
 ·simp[Instr.mapUpdate,run_underlying underlying88,MapKept.run_getObj_map hb,K.check W _ hkey,h1,h2',h3,K.stays W hkey,MapKept.run_setObj_map _ hb,Result.andThen,eQ]
 rw[aSd hd (j:=j) (u:=x.2) v (by rw[hx,← hxk])];unfold cY;rw[List.map_set];show _=(cY l).set j _;rw[← he];apply List.ext_getElem?;intro q;rw[List.getElem?_map,Array.getElem?_toList,Array.getElem?_modify,List.getElem?_set];have hjl:=(Lgs.1 h2).1;by_cases e:j=q
 ·subst e;rw[if_pos rfl,if_pos rfl,if_pos (by rw[List.length_map];exact hjl),h2'];rfl
 rw[if_neg e,if_neg e,List.getElem?_map,Array.getElem?_toList]
theorem aWl (A o b:Nat){l:List (BA × Val)}(key:BA)(v:Val)(W:WL)(hA:A<W.heap.size)(hne:A≠b)(h0:W.cell? (Ad A o)=some (.map (some b)))(hm:dV W b (cY l))(hd:dO l)(hk:key.size≤1048576)(hh:bI l key=true) :
  Calls prog 117 #[.pointer (some (Ad A o)),.string key,vV v] W fun e W'=>e=.returned cR∧∃ V es' clock',Fr [] W V∧es'.toList.map (fun e=>(e.key,e.val))=cY (cT l key v)∧W'=eQ V b (.map es' clock'):=by
 have hmx:=hmX
 have HU:Hid _:=fun (W1:WL) (F:Fr [] W W1)=>xE (hm.of_block (F.block b hm.lt (by simp))) hd.1 hd.2 hk v;have HH:Hid _:=fun (W1:WL) (F:Fr [] W W1)=>gV A o b key W1 ((F.cell (p:=Ad A o) hA (by simp)).trans h0) (hm.of_block (F.block b hm.lt (by simp))) hd.1 hd.2 hk;have HC:Hid _:=fun (W1:WL) (F:Fr [] W W1)=>(F.cell (p:=Ad A o) hA (by simp)).trans h0;unfold vV at HU ⊢;rw[hh] at HH;generalize cY (cT l key v)=le at HU ⊢;generalize (v.kind:Int)=kk at HU ⊢;generalize vN v=mm at HU ⊢;generalize vS v=tt at HU ⊢;obtain⟨W1,hW1,F1,c0,c1,c2,l1⟩:=bD W kk mm tt;have HF1:Hid _:=F1;have HX:Hid _:=fun (W2:WL) (F:Fr [] W1 W2)=>AI ((F.cell (p:=Ad W.heap.size 0) l1 (by simp)).trans c0) (AI ((F.cell (p:=Ad W.heap.size 1) l1 (by simp)).trans c1) ((F.cell (p:=Ad W.heap.size 2) l1 (by simp)).trans c2));have hbn:W.heap.size≠b:=by have:=hm.lt;omega
 clear hm hd hh F1 c0 c1 c2 l1 h0;go_enter func117,ntmps117;go_wp2_with fail;refine (HH.out W1 HF1.out).mono ?_;rintro e W2 ⟨rfl,F2⟩;have HF2:Hid _:=F2;clear F2 HH;go_wp2_with fail;refine aI (fun V=>V.cell? (Ad A o)=some (.map (some b))∧V.cell? (Ad W.heap.size 0)=some (.int .u8 kk)∧V.cell? (Ad W.heap.size 1)=some (iA mm)∧V.cell? (Ad W.heap.size 2)=some (.string tt)) hmx ?_;obtain⟨WD,hWD⟩:=eXi (W2.drew);rw[hWD];have F3:Fr [] W1 WD:=by rw[← hWD];exact HF2.out.drew
 have hS:WD.cell? (Ad A o)=some (.map (some b))∧WD.cell? (Ad W.heap.size 0)=some (.int .u8 kk)∧WD.cell? (Ad W.heap.size 1)=some (iA mm)∧WD.cell? (Ad W.heap.size 2)=some (.string tt):=⟨HC.out WD (HF1.out.trans F3),HX.out WD F3⟩;obtain⟨es',clock',hup,hel⟩:=HU.out WD (HF1.out.trans F3);have HE:Hid _:=AI (HF1.out.trans F3) hel;clear F3 hel HU HC HX HF2 HF1 hWD;refine aK (fun _ _ _ _ _ h=>h) hS [0,1,2,3,4,5] (by kernel_rfl) ?_
 iterate 6
  refine Yls.cons (v:=?_) rfl (.inl ⟨rfl,fun w1 hS1=>?_⟩) ?_;rotate_left
  ·obtain⟨p0,p1,p2,p3⟩:=hS1;go_simp
   first | rfl | (refine (if_neg (by omega)).trans ?_;rfl)
  simp only[Act.put,Zp,Zq]
 refine Yls.nil ?_;refine rd1 (r:=6) (by kernel_rfl) rfl fun K hK=>?_;have hS2:(eQ WD b (.map es' clock')).cell? (Ad A o)=some (.map (some b))∧(eQ WD b (.map es' clock')).cell? (Ad W.heap.size 0)=some (.int .u8 kk)∧(eQ WD b (.map es' clock')).cell? (Ad W.heap.size 1)=some (iA mm)∧(eQ WD b (.map es' clock')).cell? (Ad W.heap.size 2)=some (.string tt):=
  have e1:=fun j=>World.cell?_of_block (w:=WD) (a:=Ad A j) (kF WD (.map es' clock') hne);have e2:=fun j=>World.cell?_of_block (w:=WD) (a:=Ad W.heap.size j) (kF WD (.map es' clock') hbn)
  ⟨(e1 _).trans hS.1,(e2 _).trans hS.2.1,(e2 _).trans hS.2.2.1,(e2 _).trans hS.2.2.2⟩
 have HS2:Hid _:=hS2;clear hS2 hS;obtain⟨W4,hW4⟩:=eXi (eQ WD b (.map es' clock'));rw[hW4] at hup HS2;go_simp;refine hK _ _ HS2.out ?_;clear hK K;intro _
 try simp only[Act.put,Zp,Zq]
 refine wpAnyH_done (by kernel_rfl) ?_ _;go_wp2_with fail;refine bodyPost_end (results_none rfl _ _ _) rfl ?_;exact⟨rfl,WD,es',clock',HE.out.1,HE.out.2,hW4.symm⟩
theorem tS {l:List (BA × Val)}{k:BA} (v:Val) (h:bI l k=true):aM (cT l k v)=aM l:=by
 induction l with
 | nil=>cases h
 | cons a l ih=>
  unfold cT;by_cases e:a.1=k
  ·rw[if_pos e];show k :: aM l=a.1 :: aM l;rw[e]
  rw[if_neg e];show a.1 :: aM (cT l k v)=a.1 :: aM l;rw[ih (by
   unfold bI at h ⊢;rw[List.any_cons] at h;simpa [e] using h)]
section
variable {E:Env}{X:Nat}{g:Pl}{s:Ms}{W W':WL}{tag tag':NN}
theorem MM.setIn (h:MM E X g s W tag){ga c:Nat}(hg:g.av=.slice (some (Ad ga 0)) s.w.arrs.length c){i:Nat}(hi:i<s.w.arrs.length){key:BA}(hk:key.size≤1048576)(ho:dO (s.w.arrs.getD i []))(hh:bI (s.w.arrs.getD i []) key=true)(v:Val) :
  Calls prog 117 #[.pointer (some (Ad ga (i*2))),.string key,vV v] W (MP E X g (bG s i (cT (s.w.arrs.getD i []) key v)) tag W cR):=by
 obtain⟨h6,lv,R,mp,x,hx,h⟩:=h;have r13:=h.rA;rw[hx.2,hg] at r13;have o:=(h.S.rows 13 h.lA).1;have tg:=(h.S.rows 13 h.lA).2;rw[r13] at o tg;simp only at o tg;have e:=fun t (ht:t<2)=>dC (n:=s.w.arrs.length) (z:=2) (f:=fun i=>[Value.map (some (x.A i).1),(x.A i).2]) (fun _ _=>rfl) hi ht;obtain⟨a1,a2,a3⟩:=h.arr i hi;obtain⟨hmap,tb⟩:=h.S.maps _ _ _ a1;have tga:tag ga=13:=tg ga rfl;have hne:ga≠(x.A i).1:=by
  intro e;rw[e,tb] at tga;omega
 have hlf:lv (20+2*i)=false:=by
  rcases hq:lv (20+2*i) with _ | _
  ·rfl
  have:=h.S.far _ hq;rw[a1] at this;cases this
 refine (aWl ga (i*2) (x.A i).1 key v W (o.lt ga rfl).2 hne (aF o ((e 0 (by decide)).trans rfl)) hmap ho hk hh).mono fun ee W' ⟨he,V,es',clock',F,hel,hw⟩=>⟨he,aR tag W.heap.size 6,?_⟩;obtain⟨hV,kV⟩:=h.fr h6 F;obtain⟨mV,tV⟩:=hV.S.maps _ _ _ a1;have c1:Chg (aR tag W.heap.size 6) [20+2*i] V (eQ V (x.A i).1 (.map es' clock')):=by rw[← tV];exact sC V _ _
 have S1:=hV.S.map (b:=(x.A i).1) (l:=cY (cT (s.w.arrs.getD i []) key v)) hlf (by omega) c1 (fun _ _=>rfl) ⟨es',clock',pK V _ mV.lt,hel⟩ tV;have K1:Kp (aR tag W.heap.size 6) (aR tag W.heap.size 6) V (eQ V (x.A i).1 (.map es' clock')):=Kp.chg c1 (fun _ _=>rfl) (by simp;omega);rw[← hw] at S1 K1;refine⟨⟨Nat.le_trans h6 (kV.trans K1).size,lv,_,_,onA x i ((x.A i).1,(x.A i).2),hx,hV.rearr (Nat.le_trans h6 kV.size) hi K1 S1 ?_ ?_ (fun _ _ _=>rfl) (aG _ _ _) (fun q hq=>aE _ _ hq)⟩,kV.trans K1⟩
 ·rw[h.rA,jM (n:=s.w.arrs.length) (z:=2) (f:=fun j=>[Value.map (some (x.A j).1),(x.A j).2]) (fun _ _=>rfl) hi (by omega)];congr 1;refine bK fun j hj=>?_;by_cases e:j=i
  ·subst e;rw[aG];rfl
  rw[aE _ _ e]
 rw[a3,tS v hh];congr 1;have:=congrArg List.length (tS v hh);simpa [aM] using this.symm
end
end Go.Proofs.YtlokkgajpjafmaaGreatDoor
