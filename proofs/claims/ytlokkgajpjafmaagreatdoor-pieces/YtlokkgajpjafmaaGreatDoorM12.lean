import Derived.Test.YtlokkgajpjafmaaGreatDoorM11
set_option linter.unusedSimpArgs false
set_option linter.unusedVariables false
set_option maxRecDepth 100000
set_option maxHeartbeats 40000000
open _root_.Go.Proofs.Tryz
namespace Go.Proofs.YtlokkgajpjafmaaGreatDoor
open Go.RowKit
open Wire Flow Mach
theorem D0 (X g n cap:Nat)(W:WL)(hs:W.cell? (Ad X 11)=some (.slice (some (Ad g 0)) (n+1) cap))(hn:n<4000) :
  Calls prog 41 #[ptr X] W fun e W'=>e=.returned (.pointer (some (Ad g (n*51))))∧Fr [] W W':=by
 have hm:=hmX
 have hw64:IntKind.i64.wrap (n:Int)=n:=by rw[IntKind.wrap_i64];omega
 have hlt:(n:Int)<(n:Int)+1:=by omega
 go_enter func41,ntmps41;go_wp2_with fail;refine aY hm (by kernel_rfl) ?_
 repeat still_step
 refine wpStill_nil ?_;go_wp2_with fail;go_ret;exact⟨rfl,(Fr.refl [] W).drew⟩
theorem aGi {w:WL}{b:Nat}{x y z u v:Value}{t:TypeId} (h:w.heap[b]?=some (.cells #[x,y,z,u,v] t)):(w.cell? (Ad b 0)=some x∧w.cell? (Ad b 1)=some y∧w.cell? (Ad b 2)=some z∧w.cell? (Ad b 3)=some u∧w.cell? (Ad b 4)=some v)∧w.frozen? (Ad b 0)=false∧w.frozen? (Ad b 1)=false∧w.frozen? (Ad b 2)=false∧w.frozen? (Ad b 3)=false∧w.frozen? (Ad b 4)=false:=by
 refine⟨⟨?_,?_,?_,?_,?_⟩,?_,?_,?_,?_,?_⟩ <;> first | (unfold World.cell?;rw[h];rfl) | (unfold World.frozen?;rw[h];simp)
theorem aYt {w:WL}{b:Nat}{x y z u v x' y' z' u' v':Value} (h:w.cell? (Ad b 0)=some x∧w.cell? (Ad b 1)=some y∧w.cell? (Ad b 2)=some z∧w.cell? (Ad b 3)=some u∧w.cell? (Ad b 4)=some v):∃ w',((((w.setCell ⟨b,0,none⟩ x').setCell ⟨b,1,none⟩ y').setCell ⟨b,2,none⟩ z').setCell ⟨b,3,none⟩ u').setCell ⟨b,4,none⟩ v'=w'∧w'.cell? (Ad b 0)=some x'∧w'.cell? (Ad b 1)=some y'∧w'.cell? (Ad b 2)=some z'∧w'.cell? (Ad b 3)=some u'∧w'.cell? (Ad b 4)=some v'∧Fr [b] w w':=by
 obtain⟨h0,h1,h2,h3,h4⟩:=h;refine⟨_,rfl,?_,?_,?_,?_,?_,(((((Fr.refl [b] w).setCell (.inl (by simp)) _).setCell (.inl (by simp)) _).setCell (.inl (by simp)) _).setCell (.inl (by simp)) _).setCell (.inl (by simp)) _⟩
 ·rw[aA (by decide),aA (by decide),aA (by decide),aA (by decide)];exact cW h0
 ·rw[aA (by decide),aA (by decide),aA (by decide)];exact cW (by rw[aA (by decide)];exact h1)
 ·rw[aA (by decide),aA (by decide)];exact cW (by rw[aA (by decide),aA (by decide)];exact h2)
 ·rw[aA (by decide)];exact cW (by rw[aA (by decide),aA (by decide),aA (by decide)];exact h3)
 exact cW (by rw[aA (by decide),aA (by decide),aA (by decide),aA (by decide)];exact h4)
abbrev inV (op pl a b to_:Int):Value:=.agg #[.int .u8 op,.int .i64 pl,.int .i64 a,.int .i64 b,.int .i64 to_]
theorem aOk (g o gc ix n cc:Nat)(op pl a b to_:Int)(W:WL)(h0:W.cell? (Ad g o)=some (.slice (some (Ad gc 0)) n cc))(h1:W.cell? (Ad g (o+1))=some (iA ix))(hz:W.frozen? (Ad g (o+1))=false)(hi:ix<n)(hn:n≤100000)
  (c0:W.cell? (Ad gc (ix*5))=some (.int .u8 op)) (c1:W.cell? (Ad gc (ix*5+1))=some (iA pl)) (c2:W.cell? (Ad gc (ix*5+2))=some (iA a)) (c3:W.cell? (Ad gc (ix*5+3))=some (iA b)) (c4:W.cell? (Ad gc (ix*5+4))=some (iA to_)) :
  Calls prog 42 #[.pointer (some (Ad g o))] W fun e W'=>e=.returned (inV op pl a b to_)∧aDz W g (o+1) (iA ((ix+1:Nat):Int)) W':=by
 have hm:=hmX
 obtain⟨W1,hW1⟩:=eXi (W.alloc (.cells #[.int .u8 0,iA 0,iA 0,iA 0,iA 0] 96));have F1:=frA hW1
 have k1:=kA hW1;have l1:=(Age.1 k1).1;have hg:=aB h1;simp only at hg;obtain⟨WD,hWD⟩:=eXi (W1.drew);have FD:Fr [] W1 WD:=by rw[← hWD];exact (Fr.refl [] W1).drew
 have F0D:=F1.trans FD;have hsz:WD.heap.size=W1.heap.size:=by rw[← hWD];rfl
 have HQ:Hid _:=fun (w:WL) (hw:Fr [] WD w)=>AI (((F0D.trans hw).cell (p:=Ad g o) hg (by simp)).trans h0) (AI (((F0D.trans hw).cell (p:=Ad g (o+1)) hg (by simp)).trans h1) (AI (((F0D.trans hw).cell (p:=Ad gc (ix*5)) (aB c0) (by simp)).trans c0) (AI (((F0D.trans hw).cell (p:=Ad gc (ix*5+1)) (aB c1) (by simp)).trans c1) (AI (((F0D.trans hw).cell (p:=Ad gc (ix*5+2)) (aB c2) (by simp)).trans c2) (AI (((F0D.trans hw).cell (p:=Ad gc (ix*5+3)) (aB c3) (by simp)).trans c3) (((F0D.trans hw).cell (p:=Ad gc (ix*5+4)) (aB c4) (by simp)).trans c4))))));obtain⟨W2,hW2⟩:=eXi (WD.alloc (.cells #[.int .u8 0,iA 0,iA 0,iA 0,iA 0] 96));have F2:=frA hW2
 have k2:=kA hW2;have l2:=(Age.1 k2).1;obtain⟨hy,z0,z1,z2,z3,z4⟩:=aGi k2;obtain⟨W3,hW3,u0,u1,u2,u3,u4,F3⟩:=aYt (x':=.int .u8 op) (y':=iA pl) (z':=iA a) (u':=iA b) (v':=iA to_) hy;obtain⟨y0,y1,y2,y3,y4⟩:=hy;have FD3:Fr [] WD W3:=F2.trans' F3 (by simp);have F03:Fr [] W W3:=F0D.trans FD3;have q1:W3.cell? (Ad g (o+1))=some (iA ix):=(F03.cell (p:=Ad g (o+1)) hg (by simp)).trans h1;have qz:W3.frozen? (Ad g (o+1))=false:=(F03.frozen (p:=Ad g (o+1)) hg (by simp)).trans hz;obtain⟨W4,hW4⟩:=eXi (W3.setCell ⟨g,o+1,none⟩ (.int .i64 ((ix:Int)+1)));have F4:Fr [g] W3 W4:=by rw[← hW4];exact (Fr.refl [g] W3).setCell (.inl (by simp)) _
 have hs1:=F1.size;have hs3:=FD3.size;have hne:WD.heap.size≠g:=by omega
 have hl3:WD.heap.size<W3.heap.size:=aB u0;have e0:=(F4.cell (p:=Ad WD.heap.size 0) hl3 (by simpa using hne)).trans u0;have e1:=(F4.cell (p:=Ad WD.heap.size 1) hl3 (by simpa using hne)).trans u1;have e2:=(F4.cell (p:=Ad WD.heap.size 2) hl3 (by simpa using hne)).trans u2;have e3:=(F4.cell (p:=Ad WD.heap.size 3) hl3 (by simpa using hne)).trans u3;have e4:=(F4.cell (p:=Ad WD.heap.size 4) hl3 (by simpa using hne)).trans u4;have k4:=(F4.block W.heap.size (by omega) (by simp;omega)).trans (((FD.trans FD3).block W.heap.size l1 (by simp)).trans k1);obtain⟨hx,w0,w1,w2,w3,w4⟩:=aGi k4;obtain⟨W5,hW5,r0,r1,r2,r3,r4,F5⟩:=aYt (x':=.int .u8 op) (y':=iA pl) (z':=iA a) (u':=iA b) (v':=iA to_) hx;obtain⟨x0,x1,x2,x3,x4⟩:=hx;have HR:Hid (aDz W g (o+1) (iA ((ix:Int)+1)) W5):=by
  refine aDz.of F03 (S:=[W.heap.size]) ?_ hg (by simp);rw[hW4];exact F5
 have H2:Hid _:=AI F2 FD3;have hi':(ix:Int)<n:=by omega
 have hw64:IntKind.i64.wrap ((ix:Int)+1)=(ix:Int)+1:=by rw[IntKind.wrap_i64];omega
 clear F1 FD F0D F2 F3 F4 F5 FD3 F03 h0 h1 hz c0 c1 c2 c3 c4 k1 k2 k4 l1 l2 hs1 hs3 hl3 hsz;go_enter func42,ntmps42;go_wp2_with fail;refine aI (fun w=>Fr [] WD w) hm ?_;rw[hWD];have hS:Fr [] WD WD:=Fr.refl _ _;refine aK (fun _ _ _ _ _ h=>h) hS [0,1,2,3,4,5,6,7,8,9] (by kernel_rfl) ?_
 iterate 10
  refine Yls.cons (v:=?_) rfl (.inl ⟨rfl,fun w1 hS1=>?_⟩) ?_;rotate_left
  ·obtain⟨s0,s1,s2,s3,s4,s5,s6⟩:=HQ.out _ hS1;go_simp
   first | rfl | (refine (if_neg (by omega)).trans ?_;rfl)
  simp only[Act.put,Zp,Zq]
 refine Yls.nil ?_;refine rd1 (r:=10) (by kernel_rfl) rfl fun K hK=>?_;go_simp;refine hK _ _ H2.out.1 ?_;clear hK K;intro _
 try simp only[Act.put,Zp,Zq]
 refine rd1 (r:=11) (by kernel_rfl) rfl fun K hK=>?_;go_simp;refine hK _ _ H2.out.2 ?_;clear hK K;intro _
 try simp only[Act.put,Zp,Zq]
 refine wpAnyH_done (by kernel_rfl) ?_ _;go_wp2_with fail;refine bodyPost_ret (v:=inV op pl a b to_) (by simp[results,results42,go_sem,r0,r1,r2,r3,r4]) rfl ?_;exact⟨rfl,HR.out⟩
theorem aDf (p:Nat)(w:WL):(Instr.build 191 #[(1,ptr p)]).run prog w=.ok (.agg #[.int .u8 0,iA 0,.string ⟨#[]⟩,ptr p]) w:=by
 kernel_rfl
section
variable {W:WL}{tag:NN}{lv:Nat→Bool}{R:Nat→Rw}{mp:Nat→Option (Nat × List (Value × Value))}
theorem L9 (hS:Sto W tag lv R mp){m k g n cap h:Nat}{xs ys:LV}{sv:Value} (l11:lv 11=true) (r11:R 11=⟨.slice (some (Ad g 0)) n cap,139,51,n,xs⟩) (hk:k<n) (hm11:m≠11) (lm:lv m=true) (rm:R m=⟨sv,191,4,h,ys⟩) (hx:xs[k*51+50]?=some sv) (hh:h<2000) (p:Nat) :
  Calls prog 122 #[.pointer (some (Ad g (k*51))),ptr p] W (aZy W tag lv R mp m g n cap (k*51+50) h xs ys [.int .u8 0,iA 0,.string ⟨#[]⟩,ptr p]):=by
 have hm:=hmX
 obtain⟨i0,hi,hz0,hz1,hz2⟩:=info_parts aVt;have o11:W.ownsRow 0 139 51 (.slice (some (Ad g 0)) n cap) n xs:=by have:=(hS.rows 11 l11).1;rw[r11] at this;exact this
 have om:W.ownsRow 0 191 4 sv h ys:=by have:=(hS.rows m lm).1;rw[rm] at this;exact this
 obtain⟨so,sc,rfl⟩:=bF om;have hgl:g<W.heap.size:=(o11.lt g rfl).2;have q0:W.cell? (Ad g (k*51+50))=some (.slice so h sc):=aF o11 hx;obtain⟨W3,hW3⟩:=eXi (W.alloc (.cells #[.int .u8 0,iA 0,.string ⟨#[]⟩,ptr p] 191));have F3:=frA hW3
 have F03:Fr [] W W3:=F3;have hnews:=mR W #[.int .u8 0,iA 0,.string ⟨#[]⟩,ptr p] 191;rw[hW3] at hnews;have S3:=hS.frm F03 6;have om3:W3.ownsRow 0 191 4 (.slice so h sc) h ys:=by have:=(S3.rows m lm).1;rw[rm] at this;exact this
 obtain⟨v',W4,hr4,hown',hgrow,-,hwh⟩:=run_append_own_at (P:=prog) (w:=W3) 0 137 137 191 i0 _ 4 40 underlying137 hi hz0 hz1 hz2 rfl (by decide) _ _ _ om3 (Ad W.heap.size 0) 1 1 [.int .u8 0,iA 0,.string ⟨#[]⟩,ptr p] rfl hnews (by intro u hu;simp at hu;rcases hu with rfl | rfl | rfl | rfl <;> rfl) (by unfold maxLen;omega) (by omega) (Nat.zero_le _)
 obtain⟨vo,vc,rfl⟩:=bF hown';obtain⟨S4,K4⟩:=S3.grow (i:=m) lm hown' (by rw[rm];exact hgrow) (by rw[rm];exact hwh);have r11':up R m ⟨.slice vo (h+1) vc,191,4,h+1,ys++[.int .u8 0,iA 0,.string ⟨#[]⟩,ptr p]⟩ 11=⟨.slice (some (Ad g 0)) n cap,139,51,n,xs⟩:=by rw[aE _ _ (by omega)];exact r11
 have hj:k*51+50<n*51:=by omega
 obtain⟨S5,K5⟩:=S4.put l11 r11' hj (.slice vo (h+1) vc);have o4:W4.ownsRow 0 139 51 (.slice (some (Ad g 0)) n cap) n xs:=by have:=(S4.rows 11 l11).1;rw[r11'] at this;exact this
 have c4:=aF o4 hx;have z4:=bB o4 (k*51+50);have K:Kp tag _ W _:=((Kp.of_fr F03 (fun k hk=>cD hk)).trans K4).trans K5;have HZ:Hid _:=AI S5 K;have Hr4:Hid _:=hr4;clear S5 K K5 K4 S4 S3 hown' hgrow hwh hr4 hnews om3 om o4 o11 hS r11 r11' rm lm l11 F3 F03 hi hz0 hz1 hz2;have hbd:=aDf p;have hbs:=uY 0 0 ⟨#[]⟩ (some (Ad p 0));go_enter func122,ntmps122;go_wp2_with (at_builtin;refine kC rfl (.tmp 8) (.tmp 11) 137 rfl _ _ _ rfl rfl Hr4.out ?_);refine bodyPost_ret (results_none rfl _ _ _) rfl ?_;exact⟨rfl,_,_,HZ.out.1,HZ.out.2⟩
end
structure aVm (W:WL) (g:Nat) (L:List Stp) (T:LN):Prop where
 len:T.length=L.length
 cell:∀ i s t,L[i]?=some s→T[i]?=some t→W.cell? ⟨g,i*5,none⟩=some (.int .u8 (s.op:Nat))∧W.cell? ⟨g,i*5+1,none⟩=some (.int .i64 (s.pl:Nat))∧W.cell? ⟨g,i*5+2,none⟩=some (.int .i64 (min s.a 2000000000:Nat))∧W.cell? ⟨g,i*5+3,none⟩=some (.int .i64 (min s.b 2000000000:Nat))∧W.cell? ⟨g,i*5+4,none⟩=some (.int .i64 (t:Nat))
theorem aVm.of_block {W W':WL}{g:Nat}{L:List Stp}{T:LN} (h:aVm W g L T) (hb:W'.heap[g]?=W.heap[g]?):aVm W' g L T:=
 ⟨h.len,fun i s t hs ht=>by
  have e:=fun o=>World.cell?_of_block (w:=W) (a:=Ad g o) hb
  obtain⟨h0,h1,h2,h3,h4⟩:=h.cell i s t hs ht
  exact⟨(e _).trans h0,(e _).trans h1,(e _).trans h2,(e _).trans h3,(e _).trans h4⟩⟩
def aVl (L:List Stp) (T:LN) (k:Nat):Prop:=∀ i s,i<k→L[i]?=some s→far s.op=true→∃ t,T[i]?=some t∧eW L s.a=some t
structure jI (m:Mo) (W:WL) (tag:NN) (f:Nat) (cv:Value) (L:List Stp):Prop where
 at_:∃ g cap T,cv=.slice (some ⟨g,0,none⟩) L.length cap∧L.length≤cap∧g<W.heap.size∧tag g=9∧aVm W g L T∧aVl L T L.length
 reads:eO m f (locsOf m f) (codeOf m f) L
 jump:eU L L=none
 len:L.length≤20000
def aRn (B:Nat) (W:WL) (v:Value) (L:LY):Prop:=∃ o c,v=.slice o L.length c∧∀ (i:Nat) (t:BA),L[i]?=some t→∃ g off,o=some ⟨g,off,none⟩∧B≤g∧W.cell? ⟨g,off+i,none⟩=some (.string t)
def oK (E:Env) (W:WL) (pb:Nat) (t:BA):Prop:=∀ W',W'.heap[pb]?=W.heap[pb]?→Tab W' →
 (∀ x:BA,x.size≤100→Calls prog 128 #[.pointer (some ⟨pb,0,none⟩),.string x,.int .i64 0] W' fun e V=>e=.returned (.tuple #[.int .i64 (E.fnd t x).1,.int .i64 (E.fnd t x).2])∧Fr [] W' V) ∧
 (∀ y x:BA,y.size≤100→x.size≤100→Calls prog 129 #[.pointer (some ⟨pb,0,none⟩),.string y,.string x] W' fun e V=>e=.returned (.string (E.swp t y x))∧Fr [] W' V) ∧
 (∀ x:BA,x.size≤100→Calls prog 130 #[.pointer (some ⟨pb,0,none⟩),.string x] W' fun e V=>∃ v,e=.returned v∧aRn W'.heap.size V v (E.spl t x)∧Fr [] W' V)
theorem oK.of_block {E:Env}{W W':WL}{pb:Nat}{t:BA} (h:oK E W pb t) (hb:W'.heap[pb]?=W.heap[pb]?):oK E W' pb t:=fun V hV hT=>h V (hV.trans hb) hT
def aGx (E:Env) (W:WL) (tag:NN) (pv:Value):Prop:=∃ o cap,pv=.slice o E.mo.pats.length cap∧E.mo.pats.length≤1000 ∧
 ∀ (i:Nat) (t:BA),E.mo.pats[i]?=some t→∃ g pb,o=some ⟨g,0,none⟩∧g<W.heap.size∧tag g=9∧W.cell? ⟨g,i,none⟩=some (.pointer (some ⟨pb,0,none⟩))∧pb<W.heap.size∧tag pb=9∧oK E W pb t
structure Sta (E:Env) (W:WL) (tag:NN) (tv pv fv:Value) (code:Nat→Value × List Stp):Prop where
 pow:eL W
 low:∀ k,k<6→tag k<10
 mxl:∃ m:Int,W.cell? ⟨0,0,none⟩=some (.int .i64 m)
 tab:Tab W
 txt:RoL W tag tv (E.mo.texts.map .string)
 fns:∃ g cap,fv=.slice (some ⟨g,0,none⟩) E.mo.fns.length cap∧g<W.heap.size∧tag g=9∧E.mo.fns.length≤1000∧∀ f,f<E.mo.fns.length→W.cell? ⟨g,f*2,none⟩=some (.int .i64 (parOf E.mo f:Nat))∧W.cell? ⟨g,f*2+1,none⟩=some (code f).1
 code:∀ f,f<E.mo.fns.length→jI E.mo W tag f (code f).1 (code f).2
 pat:aGx E W tag pv
theorem jI.kp {m:Mo}{W W':WL}{tag tag':NN}{f:Nat}{cv:Value}{L:List Stp} (h:jI m W tag f cv L) (k:Kp tag tag' W W'):jI m W' tag' f cv L:=by
 obtain⟨g,cap,T,h1,h2,h3,h4,h5,h6⟩:=h.at_;exact⟨⟨g,cap,T,h1,h2,Nll h3 k.size,(k.ret g h3).trans h4,h5.of_block (k.blk g h3 (by omega)),h6⟩,h.reads,h.jump,h.len⟩
structure Ms where
 w:Wd
 low:List Frm
 fr:Frm
 st:Nat
 code:Int
 used:Nat
def fAt (s:Ms) (k:Nat):Frm:=if k<s.low.length then s.low.getD k fr0 else s.fr
theorem cQ (s:Ms):fAt s s.low.length=s.fr:=by simp[fAt]
structure Mx where
 tv:Value
 pv:Value
 fv:Value
 rv:Value
 dv:Value
 flv:Value
 gv:Value
 av:Value
 frv:Value
 entry:Nat
 F:Nat→FrX
 A:Nat→Nat × Value
 code:Nat→Value × List Stp
def xC (x:Mx) (s:Ms):LV:=[x.tv,x.pv,x.fv,x.rv,x.dv,.int .i64 (s.w.nr:Nat),.string s.w.rcd,x.flv,x.gv,x.av,.int .i64 (x.entry:Nat),x.frv,.int .i64 (s.st:Nat),.int .i64 s.code,.string s.w.out,.int .i64 (s.used:Nat)]
def cY (a:List (BA × Val)):List (Value × Value):=a.map fun e=>(.string e.1,vV e.2)
def fJ (m:Mo) (f:Nat) (L:List Stp) (ix a:Nat):Prop:=(∃ i,L[ix]?=some i∧i.pl=a)∨(ix=L.length∧a=(codeOf m f).length)
structure MR (E:Env) (X g:Nat) (s:Ms) (W:WL) (tag:NN) (lv:Nat→Bool) (R:Nat→Rw) (mp:Nat→Option (Nat × List (Value × Value))) (x:Mx):Prop where
 S:Sto W tag lv R mp
 sta:Sta E W tag x.tv x.pv x.fv x.code
 lX:lv 10=true
 rX:R 10=⟨.slice (some ⟨X,0,none⟩) 1 1,79,16,1,xC x s⟩
 lF:lv 11=true
 rF:R 11=⟨x.frv,139,51,s.low.length+1,rng (s.low.length+1) fun k=>frC (x.F k) (fAt s k)⟩
 vF:∃ cap,x.frv=.slice (some ⟨g,0,none⟩) (s.low.length+1) cap
 nF:s.low.length≤20
 lG:lv 12=true
 rG:R 12=⟨x.gv,135,3,s.w.globs.length,rng s.w.globs.length fun i=>vC (s.w.globs.getD i nothing)⟩
 lA:lv 13=true
 rA:R 13=⟨x.av,90,2,s.w.arrs.length,rng s.w.arrs.length fun i=>[.map (some (x.A i).1),(x.A i).2]⟩
 nA:s.w.arrs.length≤1000
 arr:∀ i,i<s.w.arrs.length→mp (20+2*i)=some ((x.A i).1,cY (s.w.arrs.getD i []))∧lv (21+2*i)=true∧R (21+2*i)=⟨(x.A i).2,9,1,(s.w.arrs.getD i []).length,(aM (s.w.arrs.getD i [])).map .string⟩
 stk:∀ k,k≤s.low.length→lv (5000+k)=true∧R (5000+k)=⟨(x.F k).sv,191,4,(fAt s k).stk.length,mZ (x.F k).pw (fAt s k).stk⟩
 wlk:∀ k j c,k≤s.low.length→(fAt s k).stk[j]?=some c→c.list=true→j<1024∧c.arr<s.w.arrs.length∧lv (10000+1024*k+j)=true ∧
  ∃ ga ca lf,x.av=.slice (some ⟨ga,0,none⟩) s.w.arrs.length ca∧R (10000+1024*k+j)=⟨.slice (some ⟨(x.F k).pw j,0,none⟩) 1 1,199,2,1,[.pointer (some ⟨ga,c.arr*2,none⟩),lf]⟩∧RoL W tag lf (c.keys.map .string)
 fn:∀ k,k≤s.low.length→(fAt s k).f<E.mo.fns.length∧(x.F k).cv=(x.code (fAt s k).f).1∧fJ E.mo (fAt s k).f (x.code (fAt s k).f).2 (x.F k).ix (fAt s k).at_
 rcs:RoL W tag x.rv ((s.w.recs.drop s.w.nr).map .string)
 drw:RoL W tag x.dv ((s.w.draws.drop s.w.drawn).map (.int .i64))
 fld:RoL W tag x.flv (s.w.flds.map .string)
theorem aEo:prog.globalNamed r6=some 2:=by kernel_rfl
theorem eL.of_block {W W':WL}(h:eL W)(hb:W'.heap[2]?=W.heap[2]?):eL W':=by
 unfold eL Lib.TabIs World.var? at *;rw[aEo] at h ⊢;simp only[Option.bind_some] at h ⊢;rw[hb];exact h
theorem aGx.kp {E:Env}{W W':WL}{tag tag':NN}{pv:Value} (h:aGx E W tag pv) (k:Kp tag tag' W W'):aGx E W' tag' pv:=by
 obtain⟨o,cap,h1,h2,h3⟩:=h;refine⟨o,cap,h1,h2,fun i t hi=>?_⟩;obtain⟨g,pb,e1,e2,e3,e4,e5,e6,e7⟩:=h3 i t hi;exact⟨g,pb,e1,Nll e2 k.size,(k.ret g e2).trans e3,(k.cell (p:=Ad g i) e2 (by show tag g<10;omega)).trans e4,Nll e5 k.size,(k.ret pb e5).trans e6,e7.of_block (k.blk pb e5 (by omega))⟩
theorem Sta.kp {E:Env}{W W':WL}{tag tag':NN}{tv pv fv:Value}{code:Nat→Value × List Stp} (h:Sta E W tag tv pv fv code) (k:Kp tag tag' W W') (hs:6≤W.heap.size):Sta E W' tag' tv pv fv code:=by
 obtain⟨g,cap,h1,h2,h3,h4,h5⟩:=h.fns;refine⟨h.pow.of_block (k.blk 2 (by omega) (h.low 2 (by omega))),fun i hi=>by rw[k.ret i (by omega)];exact h.low i hi,?_,h.tab.of_block (k.blk 1 (by omega) (h.low 1 (by omega))),h.txt.kp k,⟨g,cap,h1,Nll h2 k.size,(k.ret g h2).trans h3,h4,fun f hf=>?_⟩,fun f hf=>(h.code f hf).kp k,h.pat.kp k⟩
 ·obtain⟨m,hm⟩:=h.mxl;exact⟨m,(k.cell (p:=Ad 0 0) (by show 0<_;omega) (h.low 0 (by omega))).trans hm⟩
 obtain⟨a,b⟩:=h5 f hf;exact⟨(k.cell (p:=Ad g (f*2)) h2 (by show tag g<10;omega)).trans a,(k.cell (p:=Ad g (f*2+1)) h2 (by show tag g<10;omega)).trans b⟩
section
variable {E:Env}{X g:Nat}{s:Ms}{W W':WL}{tag tag':NN}{lv:Nat→Bool}{R:Nat→Rw}{mp:Nat→Option (Nat × List (Value × Value))}{x:Mx}
theorem MR.stay (h:MR E X g s W tag lv R mp x)(hs:6≤W.heap.size)(hS:Sto W' tag' lv R mp)(k:Kp tag tag' W W'):MR E X g s W' tag' lv R mp x:=
 { h with
  S:=hS
  sta:=h.sta.kp k hs
  wlk:=fun a b c ha hb hc=>by
   obtain⟨h1,h2,h3,ga,ca,lf,h4,h5,h6⟩:=h.wlk a b c ha hb hc
   exact⟨h1,h2,h3,ga,ca,lf,h4,h5,h6.kp k⟩
  rcs:=h.rcs.kp k
  drw:=h.drw.kp k
  fld:=h.fld.kp k }
theorem MR.fr (h:MR E X g s W tag lv R mp x)(hs:6≤W.heap.size)(hf:Fr [] W W'):MR E X g s W' (aR tag W.heap.size 6) lv R mp x∧Kp tag (aR tag W.heap.size 6) W W':=
 have k:Kp tag (aR tag W.heap.size 6) W W':=Kp.of_fr hf fun _ hk=>cD hk
 ⟨h.stay hs (h.S.frm hf 6) k,k⟩
def aC (s:Ms) (l:List aJ):Ms:={ s with fr:={ s.fr with stk:=l } }
theorem R8 (s:Ms)(l:List aJ){k:Nat}(hk:k<s.low.length):fAt (aC s l) k=fAt s k:=by simp[fAt,aC,hk]
def onF (x:Mx) (k:Nat) (y:FrX):Mx:={ x with F:=up x.F k y }
theorem MR.restack (h:MR E X g s W tag lv R mp x)(hs:6≤W.heap.size){l:List aJ}{sv:Value}{R':Nat→Rw}{lv':Nat→Bool} (k:Kp tag tag' W W') (hS:Sto W' tag' lv' R' mp) (hl:∀ i,lv i=true→lv' i=true)
  (h11:R' 11=⟨x.frv,139,51,s.low.length+1,(rng (s.low.length+1) fun k=>frC (x.F k) (fAt s k)).set (s.low.length*51+50) sv⟩)
  {pw:NN} (hm:R' (5000+s.low.length)=⟨sv,191,4,l.length,mZ pw l⟩)
  (hR:∀ i,i≠11→i≠5000+s.low.length→(i<10000+1024*s.low.length∨10000+1024*s.low.length+1024≤i)→R' i=R i)
  (hw:∀ j c,l[j]?=some c→c.list=true→j<1024∧c.arr<s.w.arrs.length∧lv' (10000+1024*s.low.length+j)=true∧∃ ga ca lf,x.av=.slice (some (Ad ga 0)) s.w.arrs.length ca∧R' (10000+1024*s.low.length+j)=⟨.slice (some (Ad (pw j) 0)) 1 1,199,2,1,[.pointer (some (Ad ga (c.arr*2))),lf]⟩∧RoL W' tag' lf (c.keys.map .string)) :
  MR E X g (aC s l) W' tag' lv' R' mp (onF x s.low.length ⟨(x.F s.low.length).cv,(x.F s.low.length).ix,sv,pw⟩):=by
 have hn:=h.nF;refine⟨hS,h.sta.kp k hs,hl _ h.lX,?_,hl _ h.lF,?_,h.vF,h.nF,hl _ h.lG,?_,hl _ h.lA,?_,h.nA,fun i hi=>?_,fun i hi=>?_,fun i j c hi hj hc=>?_,fun i hi=>?_,h.rcs.kp k,h.drw.kp k,h.fld.kp k⟩
 ·rw[hR 10 (by omega) (by omega) (.inl (by omega))];exact h.rX
 ·rw[h11];congr 1;rw[jM (fun _ _=>fZ _ _) (by omega) (by omega)];refine bK fun j hj=>?_;by_cases e:j=s.low.length
  ·subst e;rw[aG];show _=frC (up x.F s.low.length _ s.low.length) (fAt (aC s l) s.low.length);rw[aG];unfold frC;rw[List.set_append_right _ _ (by simp[iX])];simp only[Lla,List.length_cons,List.length_nil,iX];show _++[sv]=_;congr 2;rw[cQ,show fAt (aC s l) s.low.length=(aC s l).fr from cQ (aC s l)];rfl
  rw[aE _ _ e];show _=frC (up x.F s.low.length _ j) (fAt (aC s l) j);rw[aE _ _ e,R8 s l (by omega)]
 ·rw[hR 12 (by omega) (by omega) (.inl (by omega))];exact h.rG
 ·rw[hR 13 (by omega) (by omega) (.inl (by omega))];exact h.rA
 ·obtain⟨a,b,c⟩:=h.arr i hi;have:=h.nA;have hi':i<s.w.arrs.length:=hi;exact⟨a,hl _ b,by rw[hR _ (by omega) (by omega) (.inl (by omega))];exact c⟩
 ·have hi':i≤s.low.length:=hi;by_cases e:i=s.low.length
  ·subst e;refine⟨hl _ (h.stk _ (Nat.le_refl _)).1,?_⟩;rw[hm];show _=Rw.mk (up x.F s.low.length _ s.low.length).sv 191 4 (fAt (aC s l) s.low.length).stk.length (mZ (up x.F s.low.length _ s.low.length).pw (fAt (aC s l) s.low.length).stk);rw[aG,show fAt (aC s l) s.low.length=(aC s l).fr from cQ (aC s l)];rfl
  obtain⟨a,b⟩:=h.stk i hi;refine⟨hl _ a,?_⟩;rw[hR _ (by omega) (by omega) (.inl (by omega)),b];show _=Rw.mk (up x.F s.low.length _ i).sv 191 4 (fAt (aC s l) i).stk.length (mZ (up x.F s.low.length _ i).pw (fAt (aC s l) i).stk);rw[aE _ _ e,R8 s l (by omega)]
 ·have hi':i≤s.low.length:=hi;by_cases e:i=s.low.length
  ·subst e;rw[show fAt (aC s l) s.low.length=(aC s l).fr from cQ (aC s l)] at hj;obtain⟨h1,h2,h3,ga,ca,lf,h4,h5,h6⟩:=hw j c hj hc;refine⟨h1,h2,h3,ga,ca,lf,h4,?_,h6⟩;rw[h5];show _=Rw.mk (.slice (some (Ad ((up x.F s.low.length _ s.low.length).pw j) 0)) 1 1) 199 2 1 _;rw[aG]
  rw[R8 s l (by omega)] at hj;obtain⟨h1,h2,h3,ga,ca,lf,h4,h5,h6⟩:=h.wlk i j c hi hj hc;refine⟨h1,h2,hl _ h3,ga,ca,lf,h4,?_,h6.kp k⟩;rw[hR _ (by omega) (by omega) (.inl (by omega)),h5];show _=Rw.mk (.slice (some (Ad ((up x.F s.low.length _ i).pw j) 0)) 1 1) 199 2 1 _;rw[aE _ _ e]
 have hi':i≤s.low.length:=hi;obtain⟨a,b,c⟩:=h.fn i hi;by_cases e:i=s.low.length
 ·subst e;rw[show fAt (aC s l) s.low.length=(aC s l).fr from cQ (aC s l)];rw[cQ] at a b c;show s.fr.f<_∧(up x.F s.low.length _ s.low.length).cv=_∧fJ E.mo s.fr.f (x.code s.fr.f).2 (up x.F s.low.length _ s.low.length).ix s.fr.at_;rw[aG];exact⟨a,b,c⟩
 rw[R8 s l (by omega)];show _∧(up x.F s.low.length _ i).cv=_∧fJ E.mo (fAt s i).f (x.code (fAt s i).f).2 (up x.F s.low.length _ i).ix (fAt s i).at_;rw[aE _ _ e];exact⟨a,b,c⟩
end
theorem Kp.new {tag:NN}{a b:WL} (h:Fr [] a b) (t:Nat):Kp tag (aR tag a.heap.size t) a b:=Kp.of_fr h fun _ hk=>cD hk
structure Pl where
 g:Nat
 gv:Value
 av:Value
 en:Nat
 pv:Value
 code:Nat→Value × List Stp
def MM (E:Env) (X:Nat) (g:Pl) (s:Ms) (W:WL) (tag:NN):Prop:=6≤W.heap.size∧∃ lv R mp x,((x.gv=g.gv∧x.entry=g.en∧x.pv=g.pv∧x.code=g.code)∧x.av=g.av)∧MR E X g.g s W tag lv R mp x
def MP (E:Env) (X:Nat) (g:Pl) (s:Ms) (tag:NN) (W:WL) (v:Value) (e:Ending) (W':WL):Prop:=e=.returned v∧∃ tag',MM E X g s W' tag'∧Kp tag tag' W W'
abbrev cR:Value:=.tuple #[]
abbrev fp (g:Pl) (s:Ms):Value:=.pointer (some ⟨g.g,s.low.length*51,none⟩)
section
variable {E:Env}{X:Nat}{g:Pl}{s:Ms}{W W':WL}{tag:NN}
theorem MM.fr (h:MM E X g s W tag)(hf:Fr [] W W'):∃ tag',MM E X g s W' tag'∧Kp tag tag' W W':=by
 obtain⟨h6,lv,R,mp,x,hx,h⟩:=h;obtain⟨h',k⟩:=h.fr h6 hf;exact⟨_,⟨Nat.le_trans h6 hf.size,lv,R,mp,x,hx,h'⟩,k⟩
theorem MM.pow (h:MM E X g s W tag):eL W:=by
 obtain⟨h6,lv,R,mp,x,hx,h⟩:=h;exact h.sta.pow
theorem MM.mxl (h:MM E X g s W tag):∃ m:Int,W.cell? (Ad 0 0)=some (iA m):=by
 obtain⟨h6,lv,R,mp,x,hx,h⟩:=h;exact h.sta.mxl
theorem MM.tab (h:MM E X g s W tag):Tab W:=by
 obtain⟨h6,lv,R,mp,x,hx,h⟩:=h;exact h.sta.tab
theorem MR.top {lv:Nat→Bool}{R:Nat→Rw}{mp:Nat→Option (Nat × List (Value × Value))}{x:Mx} (h:MR E X g.g s W tag lv R mp x) :
  (∃ cap,R 11=⟨.slice (some (Ad g.g 0)) (s.low.length+1) cap,139,51,s.low.length+1,rng (s.low.length+1) fun k=>frC (x.F k) (fAt s k)⟩∧x.frv=.slice (some (Ad g.g 0)) (s.low.length+1) cap) ∧
  lv (5000+s.low.length)=true∧R (5000+s.low.length)=⟨(x.F s.low.length).sv,191,4,s.fr.stk.length,mZ (x.F s.low.length).pw s.fr.stk⟩ ∧
  (rng (s.low.length+1) fun k=>frC (x.F k) (fAt s k))[s.low.length*51+50]?=some (x.F s.low.length).sv:=by
 obtain⟨cap,hc⟩:=h.vF;obtain⟨a,b⟩:=h.stk _ (Nat.le_refl _);rw[cQ] at b;refine⟨⟨cap,by rw[h.rF,hc],hc⟩,a,b,?_⟩;rw[dC (fun _ _=>fZ _ _) (by omega) (by omega),aUl]
theorem MM.push (h:MM E X g s W tag)(hl:s.fr.stk.length<1024)(v:Val):Calls prog 107 #[fp g s,vV v] W (MP E X g (aC s (s.fr.stk++[cv v])) tag W cR):=by
 obtain⟨h6,lv,R,mp,x,hx,h⟩:=h;obtain⟨⟨cap,r11,hv⟩,lm,rm,hxx⟩:=h.top;have hn:=h.nF;refine (aJg h.S h.lF r11 (Nat.lt_succ_self _) (by omega) lm rm hxx (by omega) _ _ _).mono fun e W' ⟨he,tag',sv',hS,k⟩=>⟨he,tag',⟨Nat.le_trans h6 k.size,lv,_,mp,onF x s.low.length _,hx,h.restack h6 (l:=s.fr.stk++[cv v]) (pw:=(x.F s.low.length).pw) (sv:=sv') k hS (fun _ h=>h) ?_ ?_ ?_ ?_⟩,k⟩
 ·rw[aG,hv]
 ·rw[aE _ _ (by omega),aG,jW,Lla];rfl
 ·intro i h1 h2 h3;rw[aE _ _ h1,aE _ _ h2]
 intro j c hj hc;rcases Nat.lt_or_ge j s.fr.stk.length with c1 | c1
 ·rw[List.getElem?_append_left c1] at hj;obtain⟨w1,w2,w3,ga,ca,lf,w4,w5,w6⟩:=h.wlk s.low.length j c (Nat.le_refl _) (by rw[cQ];exact hj) hc;exact⟨w1,w2,w3,ga,ca,lf,w4,by rw[aE _ _ (by omega),aE _ _ (by omega)];exact w5,w6.kp k⟩
 rw[List.getElem?_append_right c1] at hj;have:c=cv v:=by
  rcases e:j-s.fr.stk.length with _ | q
  ·rw[e] at hj;simpa using hj.symm
  rw[e] at hj;simp at hj
 subst this;simp[cv] at hc
def aGj (c:aJ):Value:=if c.list=true then vlV 0 0 ⟨#[]⟩ else vV c.v
theorem MM.pop (h:MM E X g s W tag){l:List aJ}{c:aJ} (hs:s.fr.stk=l++[c]) (hl:s.fr.stk.length≤1024):Calls prog 108 #[fp g s] W (MP E X g (aC s l) tag W (aGj c)):=by
 obtain⟨h6,lv,R,mp,x,hx,h⟩:=h;obtain⟨⟨cap,r11,hv⟩,lm,rm,hxx⟩:=h.top;have hn:=h.nF;have hlen:s.fr.stk.length=l.length+1:=by rw[hs];simp
 have o11:W.ownsRow 0 139 51 (.slice (some (Ad g.g 0)) (s.low.length+1) cap) (s.low.length+1) (rng (s.low.length+1) fun k=>frC (x.F k) (fAt s k)):=by have:=(h.S.rows 11 h.lF).1;rw[r11] at this;exact this
 have om:W.ownsRow 0 191 4 (x.F s.low.length).sv (l.length+1) (mZ (x.F s.low.length).pw (l++[c])):=by have:=(h.S.rows _ lm).1;rw[rm,hlen,hs] at this;exact this
 obtain⟨gs,cs,hsv,hcs,hgs⟩:=fR om (by omega);rw[hsv] at om hxx;obtain⟨a,b,t,p,h0,h1,h2,h3,hV⟩:∃ (a b:Int) (t:BA) (p:OA),W.cell? (Ad gs (l.length*4))=some (.int .u8 a)∧W.cell? (Ad gs (l.length*4+1))=some (iA b)∧W.cell? (Ad gs (l.length*4+2))=some (.string t)∧W.cell? (Ad gs (l.length*4+3))=some (.pointer p)∧aGj c=vlV a b t:=by
  have e:=fun t (ht:t<4)=>n9 (x.F s.low.length).pw l c t ht;by_cases hc:c.list=true
  ·refine⟨0,0,⟨#[]⟩,some (Ad ((x.F s.low.length).pw l.length) 0),aF om ((e 0 (by decide)).trans ?_),aF om ((e 1 (by decide)).trans ?_),aF om ((e 2 (by decide)).trans ?_),aF om ((e 3 (by decide)).trans ?_),by simp[aGj,hc]⟩ <;> simp[aGk,hc]
  refine⟨c.v.kind,vN c.v,vS c.v,none,aF om ((e 0 (by decide)).trans ?_),aF om ((e 1 (by decide)).trans ?_),aF om ((e 2 (by decide)).trans ?_),aF om ((e 3 (by decide)).trans ?_),by simp[aGj,hc,vV]⟩ <;> simp[aGk,hc]
 rw[hV];refine (aNn g.g (s.low.length*51) gs l.length cs a b t p W (aF o11 hxx) (bB o11 _) (by omega) hcs h0 h1 h2 h3).mono fun e W' ⟨he,hset⟩=>⟨he,?_⟩;obtain⟨S1,K1⟩:=h.S.put h.lF r11 (j:=s.low.length*51+50) (by omega) (.slice (some (Ad gs 0)) l.length cs);have rm':up R 11 ⟨.slice (some (Ad g.g 0)) (s.low.length+1) cap,139,51,s.low.length+1,(rng (s.low.length+1) fun k=>frC (x.F k) (fAt s k)).set (s.low.length*51+50) (.slice (some (Ad gs 0)) l.length cs)⟩ (5000+s.low.length)=⟨.slice (some (Ad gs 0)) (l.length+1) cs,191,4,l.length+1,mZ (x.F s.low.length).pw (l++[c])⟩:=by
  rw[aE _ _ (by omega),rm,hsv,hlen,hs]
 have S2:=S1.cut lm rm' (n':=l.length) (by omega);have S3:=S2.frm hset 6;have K:=K1.trans (Kp.new hset 6);refine⟨_,⟨Nat.le_trans h6 K.size,lv,_,mp,onF x s.low.length _,hx,h.restack h6 (l:=l) (pw:=(x.F s.low.length).pw) (sv:=.slice (some (Ad gs 0)) l.length cs) K S3 (fun _ h=>h) ?_ ?_ ?_ ?_⟩,K⟩
 ·rw[aE _ _ (by omega),aG,hv]
 ·rw[aG,aMn]
 ·intro i h1 h2 h3;rw[aE _ _ h2,aE _ _ h1]
 intro j q hj hc;have c1:=(Lgs.1 hj).1;obtain⟨w1,w2,w3,ga,ca,lf,w4,w5,w6⟩:=h.wlk s.low.length j q (Nat.le_refl _) (by rw[cQ,hs,List.getElem?_append_left c1];exact hj) hc;exact⟨w1,w2,w3,ga,ca,lf,w4,by rw[aE _ _ (by omega),aE _ _ (by omega)];exact w5,w6.kp K⟩
end
structure aU (E:Env):Prop where
 itoa:E.itoa=pA
 wr:∀ n:Int,-9223372036854775808≤n→n≤9223372036854775807→E.wr n=n
section
variable {E:Env}{X:Nat}{g:Pl}{s:Ms}{W W':WL}{tag:NN}
theorem MM.pushNumber (h:MM E X g s W tag)(hl:s.fr.stk.length<1024)(n:Int):Calls prog 104 #[fp g s,iA n] W (MP E X g (aC s (s.fr.stk++[cv (whole n)])) tag W cR):=by
 have HN:Hid _:=fun (_:Unit)=>uL n W;have HP:Hid _:=fun (W1:WL) (t1:NN) (h1:MM E X g s W1 t1)=>h1.push hl (whole n);have HM:Hid (MM E X g s W tag):=h;clear h;go_enter func104,ntmps104;go_wp2_with fail;refine (HN.out ()).mono ?_;rintro e W1 ⟨rfl,F1⟩;obtain⟨t1,h1,k1⟩:=MM.fr (HM.out:MM E X g s W tag) F1;have HK:Hid _:=k1;clear k1 F1 HM HN;go_wp2_with fail;refine (HP.out W1 t1 h1).mono ?_;rintro e W2 hp;obtain⟨rfl,t2,h2,k2⟩:=hp;go_wp2_with fail;refine bodyPost_ret (results_none rfl _ _ _) rfl ?_;exact⟨rfl,t2,h2,HK.out.trans k2⟩
theorem MM.pushText (h:MM E X g s W tag)(hl:s.fr.stk.length<1024)(t:BA):Calls prog 106 #[fp g s,.string t] W (MP E X g (aC s (s.fr.stk++[cv (dZ t)])) tag W cR):=by
 have HN:Hid _:=fun (_:Unit)=>m8 t W;have HP:Hid _:=fun (W1:WL) (t1:NN) (h1:MM E X g s W1 t1)=>h1.push hl (dZ t);have HM:Hid (MM E X g s W tag):=h;clear h;go_enter func106,ntmps106;go_wp2_with fail;refine (HN.out ()).mono ?_;rintro e W1 ⟨rfl,F1⟩;obtain⟨t1,h1,k1⟩:=MM.fr (HM.out:MM E X g s W tag) F1;have HK:Hid _:=k1;clear k1 F1 HM HN;go_wp2_with fail;refine (HP.out W1 t1 h1).mono ?_;rintro e W2 hp;obtain⟨rfl,t2,h2,k2⟩:=hp;go_wp2_with fail;refine bodyPost_ret (results_none rfl _ _ _) rfl ?_;exact⟨rfl,t2,h2,HK.out.trans k2⟩
theorem MM.pushTruth (h:MM E X g s W tag)(hl:s.fr.stk.length<1024)(b:Bool):Calls prog 118 #[fp g s,.bool b] W (MP E X g (aC s (s.fr.stk++[cv (whole (eZ b))])) tag W cR):=by
 have HN:Hid _:=fun (_:Unit)=>aIo b W;have HP:Hid _:=fun (W1:WL) (t1:NN) (h1:MM E X g s W1 t1)=>h1.push hl (whole (eZ b));have HM:Hid (MM E X g s W tag):=h;clear h;go_enter func118,ntmps118;go_wp2_with fail;refine (HN.out ()).mono ?_;rintro e W1 ⟨rfl,F1⟩;obtain⟨t1,h1,k1⟩:=MM.fr (HM.out:MM E X g s W tag) F1;have HK:Hid _:=k1;clear k1 F1 HM HN;go_wp2_with fail;refine (HP.out W1 t1 h1).mono ?_;rintro e W2 hp;obtain⟨rfl,t2,h2,k2⟩:=hp;go_wp2_with fail;refine bodyPost_ret (results_none rfl _ _ _) rfl ?_;exact⟨rfl,t2,h2,HK.out.trans k2⟩
theorem MM.popNumber (h:MM E X g s W tag){l:List aJ}{v:Val} (hs:s.fr.stk=l++[cv v]) (hl:s.fr.stk.length≤1024) (hv:SmV v):Calls prog 109 #[fp g s] W (MP E X g (aC s l) tag W (iA (numV v))):=by
 have HP:Hid _:=fun (_:Unit)=>h.pop hs hl;have HN:Hid _:=fun (W1:WL)=>aVr hv W1;clear h;go_enter func109,ntmps109;go_wp2_with fail;refine (HP.out ()).mono ?_;rintro e W1 hp;obtain⟨rfl,t1,h1,k1⟩:=hp;have HM:Hid _:=AI h1 k1;clear h1 k1 HP;go_wp2_with fail;refine (HN.out W1).mono ?_;rintro e W2 ⟨rfl,F2⟩;obtain⟨t2,h2,k2⟩:=MM.fr HM.out.1 F2;have HK:Hid _:=AI h2 (HM.out.2.trans k2);clear h2 k2 F2 HN;go_wp2_with fail;go_ret;exact⟨rfl,t2,HK.out.1,HK.out.2⟩
theorem MM.popText (hE:aU E)(h:MM E X g s W tag){l:List aJ}{v:Val} (hs:s.fr.stk=l++[cv v]) (hl:s.fr.stk.length≤1024) (hv:SmV v):Calls prog 111 #[fp g s] W (MP E X g (aC s l) tag W (.string (aD E v))):=by
 have HP:Hid _:=fun (_:Unit)=>h.pop hs hl;have HN:Hid _:=fun (W1:WL) (hp:eL W1)=>I4 hE.itoa hv W1 hp;clear h;go_enter func111,ntmps111;go_wp2_with fail;refine (HP.out ()).mono ?_;rintro e W1 hp;obtain⟨rfl,t1,h1,k1⟩:=hp;have HM:Hid _:=AI h1 k1;clear h1 k1 HP;go_wp2_with fail;refine (HN.out W1 HM.out.1.pow).mono ?_;rintro e W2 ⟨rfl,F2⟩;obtain⟨t2,h2,k2⟩:=MM.fr HM.out.1 F2;have HK:Hid _:=AI h2 (HM.out.2.trans k2);clear h2 k2 F2 HN;go_wp2_with fail;go_ret;exact⟨rfl,t2,HK.out.1,HK.out.2⟩
end
def uC (n:Int):Bool:=decide (n < -1000000000) || decide (n>1000000000)
theorem aGq (n:Int)(W:WL):Calls prog 123 #[iA n] W fun e W'=>e=.returned (.bool (uC n))∧W'=W:=by
 by_cases h:n < -1000000000
 ·have:uC n=true:=by simp[uC,h]
  rw[this];go_enter func123,ntmps123;go_wp2_with fail;go_ret;exact⟨rfl,rfl⟩
 by_cases h2:n>1000000000
 ·have:uC n=true:=by simp[uC,h2]
  rw[this];go_enter func123,ntmps123;go_wp2_with fail;go_ret;exact⟨rfl,rfl⟩
 have:uC n=false:=by simp[uC];omega
 rw[this];go_enter func123,ntmps123;go_wp2_with fail;go_ret;exact⟨rfl,rfl⟩
def xU (op:Nat) (a b:Int):Int:=if op=18 then a+b else if op=19 then a-b else if op=20 then a*b else if op=21 then a.tdiv b else a.tmod b
theorem A6 {a b:Int}(h1:-1000000000≤a)(h2:a≤1000000000)(h3:-1000000000≤b)(h4:b≤1000000000):-1000000000000000000≤a*b∧a*b≤1000000000000000000:=by
 constructor
 ·rcases Int.le_total 0 a with ha | ha <;> rcases Int.le_total 0 b with hb | hb
  ·have:=Int.mul_nonneg ha hb;omega
  ·have h5:a*(-b)≤1000000000*1000000000:=Int.mul_le_mul h2 (by omega) (by omega) (by decide);have e:a*(-b) = -(a*b):=by rw[Int.mul_neg]
   omega
  ·have h5:(-a)*b≤1000000000*1000000000:=Int.mul_le_mul (by omega) h4 hb (by decide);have e:(-a)*b = -(a*b):=by rw[Int.neg_mul]
   omega
  have h5:0≤(-a)*(-b):=Int.mul_nonneg (by omega) (by omega);rw[Int.neg_mul_neg] at h5;omega
 rcases Int.le_total 0 a with ha | ha <;> rcases Int.le_total 0 b with hb | hb
 ·exact Int.le_trans (Int.mul_le_mul h2 h4 hb (by decide)) (by decide)
 ·have h5:0≤a*(-b):=Int.mul_nonneg ha (by omega);have e:a*(-b) = -(a*b):=by rw[Int.mul_neg]
  omega
 ·have h5:0≤(-a)*b:=Int.mul_nonneg (by omega) hb;have e:(-a)*b = -(a*b):=by rw[Int.neg_mul]
  omega
 have h5:(-a)*(-b)≤1000000000*1000000000:=Int.mul_le_mul (by omega) (by omega) (by omega) (by decide);rw[Int.neg_mul_neg] at h5;omega
theorem aSm {E:Env}(hE:aU E){op:Nat}(hop:op=18∨op=19∨op=20∨op=21∨op=22){a b:Int}(h1:-1000000000≤a)(h2:a≤1000000000)(h3:-1000000000≤b)(h4:b≤1000000000) :
  (-1000000000000000000≤xU op a b∧xU op a b≤1000000000000000000)∧(¬ ((op=21∨op=22)∧b=0)→iR E op a b=if uC (xU op a b)=true then (0,4) else (xU op a b,0)):=by
 have hm:=A6 h1 h2 h3 h4;have hq:-1000000000≤a.tdiv b∧a.tdiv b≤1000000000:=by
  by_cases hb:b=0
  ·subst hb;simp
  exact aRz h1 h2 hb
 have hr:a.tmod b=a-b*a.tdiv b:=by have:=Int.tmod_add_mul_tdiv a b;omega
 have hmr:-1000000000000000000≤b*a.tdiv b∧b*a.tdiv b≤1000000000000000000:=A6 h3 h4 hq.1 hq.2;have hr2:-1000000000≤a.tmod b∧a.tmod b≤1000000000:=by
  by_cases hb:b=0
  ·subst hb;simp;omega
  have h5:(a.tmod b).natAbs<b.natAbs:=by rw[Int.natAbs_tmod];exact Nat.mod_lt _ (by omega)
  omega
 refine⟨by unfold xU;split <;> (try split) <;> (try split) <;> (try split) <;> omega,fun hn=>?_⟩
 have hb:(op=21∧b=0∨op=22∧b=0)↔False:=⟨fun h=>hn (by omega),False.elim⟩;have key:∀ r:Int,(if r>1000000000∨r < -1000000000 then ((0:Int),4) else (r,0))=if uC r=true then ((0:Int),4) else (r,0):=fun r=>by
  by_cases h:r>1000000000∨r < -1000000000
  ·rw[if_pos h,if_pos (by simp[uC];omega)]
  rw[if_neg h,if_neg (by simp[uC];omega)]
 unfold iR;rw[if_neg (by rw[hb];exact id)];dsimp only;rw[← key];have e:(if op=18 then E.wr (a+b) else if op=19 then E.wr (a-b) else if op=20 then E.wr (a*b) else if op=21 then E.wr (a.tdiv b) else E.wr (a-E.wr (E.wr (a.tdiv b)*b)))=xU op a b:=by
  unfold xU;rcases hop with rfl | rfl | rfl | rfl | rfl
  ·simp only[if_true];exact hE.wr _ (by omega) (by omega)
  ·simp;exact hE.wr _ (by omega) (by omega)
  ·simp;exact hE.wr _ (by omega) (by omega)
  ·simp;exact hE.wr _ (by omega) (by omega)
  simp only[show ¬ (22=18) by decide,show ¬ (22=19) by decide,show ¬ (22=20) by decide,show ¬ (22=21) by decide,if_false];have ec:a.tdiv b*b=b*a.tdiv b:=Int.mul_comm _ _;rw[hE.wr (a.tdiv b) (by omega) (by omega),hE.wr (a.tdiv b*b) (by omega) (by omega),hE.wr _ (by omega) (by omega)];omega
 rw[e]
section
variable {E:Env}{X:Nat}{g:Pl}{s:Ms}{W W':WL}{tag:NN}
theorem MM.pop2 (h:MM E X g s W tag){l:List aJ}{u v:Val} (hs:s.fr.stk=l++[cv u,cv v]) (hl:s.fr.stk.length≤1024):s.fr.stk=(l++[cv u])++[cv v]∧(aC s (l++[cv u])).fr.stk=l++[cv u]∧(aC s (l++[cv u])).fr.stk.length≤1024∧l.length<1024:=by
 have e:s.fr.stk=(l++[cv u])++[cv v]:=by rw[hs];simp
 refine⟨e,rfl,?_,?_⟩
 ·show (l++[cv u]).length≤1024;rw[e] at hl;simp at hl ⊢;omega
 rw[e] at hl;simp at hl;omega
theorem MM.numbers (hE:aU E)(h:MM E X g s W tag){op:Nat}(hop:op=18∨op=19∨op=20∨op=21∨op=22){l:List aJ}{u v:Val} (hs:s.fr.stk=l++[cv u,cv v]) (hl:s.fr.stk.length≤1024) (hu:SmV u) (hv:SmV v) :
  Calls prog 66 #[fp g s,.int .u8 (op:Nat)] W (MP E X g (aC s (l++if (iR E op (numV u) (numV v)).2=0 then [cv (whole (iR E op (numV u) (numV v)).1)] else [])) tag W (iA ((iR E op (numV u) (numV v)).2:Nat))):=by
 obtain⟨e1,e2,hl2,hl3⟩:=h.pop2 hs hl;have HP1:Hid _:=fun (_:Unit)=>h.popNumber e1 hl hv;have HP2:Hid _:=fun (W1:WL) (t1:NN) (h1:MM E X g (aC s (l++[cv u])) W1 t1)=>MM.popNumber h1 e2 hl2 hu;have HN:Hid _:=fun (W1:WL) (t1:NN) (h1:MM E X g (aC s l) W1 t1) (n:Int)=>MM.pushNumber h1 (show l.length<1024 from hl3) n;have HB:Hid _:=fun (n:Int) (W:WL)=>aGq n W;have bu:=nL hu;have bv:=nL hv;obtain⟨hraw,hsum⟩:=aSm hE hop bu.1 bu.2 bv.1 bv.2;obtain⟨a,ha⟩:=eXi (numV u);obtain⟨b,hb⟩:=eXi (numV v);rw[ha,hb] at hsum hraw ⊢;rw[ha] at HP2 bu;rw[hb] at HP1 bv;have hw:IntKind.i64.wrap (xU op a b)=xU op a b:=by rw[IntKind.wrap_i64];omega
 by_cases h0:(op=21∨op=22)∧b=0
 ·obtain⟨h21,rfl⟩:=h0;have hst:iR E op a 0=(0,3):=by unfold iR;rw[if_pos (by omega)]
  rw[hst];simp only[if_neg (show ¬ (3=0) by decide),List.append_nil];clear hraw hsum hst h hop bu bv ha hb hw HN HB;rcases h21 with rfl | rfl
  all_goals
   go_enter func66,ntmps66;go_wp2_with fail;refine (HP1.out ()).mono ?_;rintro e W1 ⟨rfl,t1,h1,k1⟩;have HM:Hid _:=AI h1 k1;clear h1 k1;go_wp2_with fail;refine (HP2.out W1 t1 HM.out.1).mono ?_;rintro e W2 ⟨rfl,t2,h2,k2⟩;have HM2:Hid _:=AI h2 (HM.out.2.trans k2);clear h2 k2 HP1 HP2;go_wp2_with fail;go_ret;exact⟨rfl,t2,HM2.out.1,HM2.out.2⟩
 have hsum:=hsum h0;obtain⟨r,hr⟩:=eXi (xU op a b);rw[hr] at hsum hw;replace HB:Hid _:=fun (W:WL)=>HB.out r W;replace HN:Hid _:=fun (W1:WL) (t1:NN) (h1:MM E X g (aC s l) W1 t1)=>HN.out W1 t1 h1 r;have hb0:op=21∨op=22→(b==0)=false:=fun h=>by simpa using fun e=>h0 ⟨h,e⟩
 have hr':(op=18→a+b=r)∧(op=19→a-b=r)∧(op=20→a*b=r)∧(op=21→a.tdiv b=r)∧(op=22→a.tmod b=r):=by
  rw[← hr];unfold xU;refine⟨?_,?_,?_,?_,?_⟩ <;> rintro rfl <;> rfl
 rw[hsum];clear hsum h ha hb hraw hr h0 bu bv hu hv;by_cases hby:uC r=true
 ·rw[if_pos hby];simp only[if_neg (show ¬ (4=0) by decide),List.append_nil];rw[hby] at HB;clear HN;rcases hop with rfl | rfl | rfl | rfl | rfl
  all_goals
   obtain⟨q1,q2,q3,q4,q5⟩:=hr'
   first | have hq:=q1 rfl | have hq:=q2 rfl | have hq:=q3 rfl | have hq:=q4 rfl | have hq:=q5 rfl
   clear q1 q2 q3 q4 q5 hsum
   try have hb1:=hb0 (by decide)
   try have hb2:¬ b=0:=by simpa using hb1
   clear hb0;go_enter func66,ntmps66;go_wp2_with fail;refine (HP1.out ()).mono ?_;rintro e W1 ⟨rfl,t1,h1,k1⟩;have HM:Hid _:=AI h1 k1;clear h1 k1;go_wp2_with fail;refine (HP2.out W1 t1 HM.out.1).mono ?_;rintro e W2 ⟨rfl,t2,h2,k2⟩;have HM2:Hid _:=AI h2 (HM.out.2.trans k2);clear h2 k2 HP1 HP2;go_wp2_with fail;refine (HB.out W2).mono ?_;rintro e W3 ⟨rfl,hw3⟩;replace hw3:=hw3.symm;subst hw3;go_wp2_with fail;go_ret;exact⟨rfl,t2,HM2.out.1,HM2.out.2⟩
 rw[if_neg hby];have hby':uC r=false:=by simpa using hby
 simp only[if_true];rw[hby'] at HB;rcases hop with rfl | rfl | rfl | rfl | rfl
 all_goals
  obtain⟨q1,q2,q3,q4,q5⟩:=hr'
  first | have hq:=q1 rfl | have hq:=q2 rfl | have hq:=q3 rfl | have hq:=q4 rfl | have hq:=q5 rfl
  clear q1 q2 q3 q4 q5 hsum
  try have hb1:=hb0 (by decide)
  try have hb2:¬ b=0:=by simpa using hb1
  clear hb0;go_enter func66,ntmps66;go_wp2_with fail;refine (HP1.out ()).mono ?_;rintro e W1 ⟨rfl,t1,h1,k1⟩;have HM:Hid _:=AI h1 k1;clear h1 k1;go_wp2_with fail;refine (HP2.out W1 t1 HM.out.1).mono ?_;rintro e W2 ⟨rfl,t2,h2,k2⟩;have HM2:Hid _:=AI h2 (HM.out.2.trans k2);clear h2 k2 HP1 HP2;go_wp2_with fail;refine (HB.out W2).mono ?_;rintro e W3 ⟨rfl,hw3⟩;replace hw3:=hw3.symm;subst hw3;go_wp2_with fail;refine (HN.out W2 t2 HM2.out.1).mono ?_;rintro e W4 ⟨rfl,t4,h4,k4⟩;have HM4:Hid _:=AI h4 (HM2.out.2.trans k4);clear h4 k4 HN HB;go_wp2_with fail;go_ret;exact⟨rfl,t4,HM4.out.1,HM4.out.2⟩
end
theorem qY (t:BA)(W:WL):Calls prog 31 #[.string t] W fun e W'=>e=.returned (.bool (decide ((t.size:Int)>100)))∧W'=W:=by
 go_enter func31,ntmps31;go_wp2_with fail;go_ret;exact⟨rfl,rfl⟩
section
variable {E:Env}{X:Nat}{g:Pl}{s:Ms}{W W':WL}{tag:NN}
theorem MM.popV (h:MM E X g s W tag){l:List aJ}{v:Val} (hs:s.fr.stk=l++[cv v]) (hl:s.fr.stk.length≤1024):Calls prog 108 #[fp g s] W (MP E X g (aC s l) tag W (vlV v.kind (vN v) (vS v))):=h.pop hs hl
theorem MM.box (h:MM E X g s W tag)(hf:Fr [] W W'):∃ tag',MM E X g s W' tag'∧Kp tag tag' W W'∧∀ b,W.heap.size≤b→tag' b=6:=by
 obtain⟨h6,lv,R,mp,x,hx,h⟩:=h;obtain⟨h',k⟩:=h.fr h6 hf;exact⟨_,⟨Nat.le_trans h6 hf.size,lv,R,mp,x,hx,h'⟩,k,fun b hb=>dK hb⟩
theorem MM.cat (hE:aU E)(h:MM E X g s W tag){l:List aJ}{u v:Val} (hs:s.fr.stk=l++[cv u,cv v]) (hl:s.fr.stk.length≤1024) (hu:SmV u) (hv:SmV v) (su:(aD E u).size≤100) (sv:(aD E v).size≤100) :
  Calls prog 67 #[fp g s] W (MP E X g (aC s (l++if (aD E u).size+(aD E v).size>100 then [] else [cv (dZ (aD E u++aD E v))])) tag W (iA (if (aD E u).size+(aD E v).size>100 then 6 else 0))):=by
 obtain⟨e1,e2,hl2,hl3⟩:=h.pop2 hs hl;have HP1:Hid _:=fun (_:Unit)=>h.popText hE e1 hl hv;have HP2:Hid _:=fun (W1:WL) (t1:NN) (h1:MM E X g (aC s (l++[cv u])) W1 t1)=>MM.popText hE h1 e2 hl2 hu;have HN:Hid _:=fun (W1:WL) (t1:NN) (h1:MM E X g (aC s l) W1 t1) (n:BA)=>MM.pushText h1 (show l.length<1024 from hl3) n;have HB:Hid _:=fun (t:BA) (W:WL)=>qY t W;obtain⟨a,ha⟩:=eXi (aD E u);obtain⟨b,hb⟩:=eXi (aD E v);rw[ha] at HP2 su;rw[hb] at HP1 sv;rw[ha,hb];have hsz:(a++b).size=a.size+b.size:=ByteArray.size_append;obtain⟨c,hc⟩:=eXi (a++b);rw[hc] at hsz;rw[hc];clear h ha hb hu hv;by_cases hlong:a.size+b.size>100
 ·rw[if_pos hlong,if_pos hlong,List.append_nil];have hB2:decide ((c.size:Int)>100)=true:=by simp;omega
  replace HB:Hid _:=fun (W:WL)=>HB.out c W;rw[hB2] at HB;clear hlong hsz hB2 HN;go_enter func67,ntmps67;go_wp2_with fail;refine (HP1.out ()).mono ?_;rintro e W1 ⟨rfl,t1,h1,k1⟩;have HM1:Hid _:=AI h1 (k1);clear h1 k1;go_wp2_with fail;refine (HP2.out W1 t1 HM1.out.1).mono ?_;rintro e W2 ⟨rfl,t2,h2,k2⟩;have HM2:Hid _:=AI h2 (HM1.out.2.trans k2);clear h2 k2 HP1 HP2;go_wp2_with fail;refine (HB.out W2).mono ?_;rintro e W3 ⟨rfl,hw3⟩;replace hw3:=hw3.symm;subst hw3;go_wp2_with fail;go_ret;exact⟨rfl,t2,HM2.out.1,HM2.out.2⟩
 rw[if_neg hlong,if_neg hlong];have hB2:decide ((c.size:Int)>100)=false:=by simp;omega
 replace HB:Hid _:=fun (W:WL)=>HB.out c W;rw[hB2] at HB;clear hlong hsz hB2;go_enter func67,ntmps67;go_wp2_with fail;refine (HP1.out ()).mono ?_;rintro e W1 ⟨rfl,t1,h1,k1⟩;have HM1:Hid _:=AI h1 (k1);clear h1 k1;go_wp2_with fail;refine (HP2.out W1 t1 HM1.out.1).mono ?_;rintro e W2 ⟨rfl,t2,h2,k2⟩;have HM2:Hid _:=AI h2 (HM1.out.2.trans k2);clear h2 k2 HP1 HP2;go_wp2_with fail;refine (HB.out W2).mono ?_;rintro e W3 ⟨rfl,hw3⟩;replace hw3:=hw3.symm;subst hw3;go_wp2_with fail;refine (HN.out W2 t2 HM2.out.1 c).mono ?_;rintro e W4 ⟨rfl,t4,h4,k4⟩;have HM4:Hid _:=AI h4 (HM2.out.2.trans k4);clear h4 k4 HN HB;go_wp2_with fail;go_ret;exact⟨rfl,t4,HM4.out.1,HM4.out.2⟩
def tP (E:Env) (op:Nat) (v:Val):Val:=if op=23 then whole (-numV v) else if op=24 then whole (eZ (numV v==0)) else if op=26 then whole (numV v) else if op=27 then dZ (aD E v) else whole (eZ (pB v))
theorem MM.one (hE:aU E)(h:MM E X g s W tag){op:Nat}(hop:op=23∨op=24∨op=26∨op=27∨op=28){l:List aJ}{v:Val} (hs:s.fr.stk=l++[cv v]) (hl:s.fr.stk.length≤1024) (hv:SmV v) :
  Calls prog 68 #[fp g s,.int .u8 (op:Nat)] W (MP E X g (aC s (l++[cv (tP E op v)])) tag W cR):=by
 have hl3:l.length<1024:=by rw[hs] at hl;simp at hl;omega
 have HP1:Hid _:=fun (_:Unit)=>h.popV hs hl;have HV:Hid _:=fun (W1:WL)=>aVr hv W1;have HT:Hid _:=fun (W1:WL) (hp:eL W1)=>I4 hE.itoa hv W1 hp;have HH:Hid _:=fun (W1:WL)=>aUa v W1;have HN:Hid _:=fun (W1:WL) (t1:NN) (h1:MM E X g (aC s l) W1 t1) (n:Int)=>MM.pushNumber h1 (show l.length<1024 from hl3) n;have HS:Hid _:=fun (W1:WL) (t1:NN) (h1:MM E X g (aC s l) W1 t1) (n:BA)=>MM.pushText h1 (show l.length<1024 from hl3) n;have HB:Hid _:=fun (W1:WL) (t1:NN) (h1:MM E X g (aC s l) W1 t1) (n:Bool)=>MM.pushTruth h1 (show l.length<1024 from hl3) n;have bv:=nL hv;have hneg:IntKind.i64.wrap (-numV v) = -numV v:=by rw[IntKind.wrap_i64];omega
 have hV:Hid (vV v=vlV v.kind (vN v) (vS v)):=rfl;unfold vV at HV HT HH;clear h;obtain⟨k,hk⟩:∃ k:Int,(v.kind:Int)=k:=⟨_,rfl⟩;obtain⟨m,hm⟩:=eXi (vN v);obtain⟨t,ht⟩:=eXi (vS v);rw[hk,hm,ht] at HV HT HH HP1;clear hk hm ht hV;rcases hop with rfl | rfl | rfl | rfl | rfl
 ·have ho:Hid (tP E 23 v=whole (-numV v)):=rfl;rw[ho.out];clear ho;go_enter func68,ntmps68;go_wp2_with fail;refine (HP1.out ()).mono ?_;rintro e W1 ⟨rfl,t1,h1,k1⟩;have HM1:Hid _:=AI h1 (k1);clear h1 k1 HP1;obtain⟨W2,hW2,F2,c0,c1,c2,l2⟩:=bD W1 k m t;obtain⟨t2,h2,k2,-⟩:=MM.box HM1.out.1 F2;have HM2:Hid _:=AI h2 (HM1.out.2.trans k2);clear h2 k2 F2 l2;go_wp2_with fail;refine (HV.out W2).mono ?_;rintro e W3 ⟨rfl,F3⟩;obtain⟨t3,h3,k3⟩:=MM.fr HM2.out.1 F3;have HM3:Hid _:=AI h3 (HM2.out.2.trans k3);clear h3 k3 F3 c0 c1 c2;go_wp2_with fail;refine (HN.out W3 t3 HM3.out.1 (-numV v)).mono ?_;rintro e W4 ⟨rfl,t4,h4,k4⟩;have HM4:Hid _:=AI h4 (HM3.out.2.trans k4);clear h4 k4;go_wp2_with fail;refine bodyPost_ret (results_none rfl _ _ _) rfl ?_;exact⟨rfl,t4,HM4.out.1,HM4.out.2⟩
 ·have ho:Hid (tP E 24 v=whole (eZ (numV v==0))):=rfl;rw[ho.out];clear ho;go_enter func68,ntmps68;go_wp2_with fail;refine (HP1.out ()).mono ?_;rintro e W1 ⟨rfl,t1,h1,k1⟩;have HM1:Hid _:=AI h1 (k1);clear h1 k1 HP1;obtain⟨W2,hW2,F2,c0,c1,c2,l2⟩:=bD W1 k m t;obtain⟨t2,h2,k2,-⟩:=MM.box HM1.out.1 F2;have HM2:Hid _:=AI h2 (HM1.out.2.trans k2);clear h2 k2 F2 l2;go_wp2_with fail;refine (HV.out W2).mono ?_;rintro e W3 ⟨rfl,F3⟩;obtain⟨t3,h3,k3⟩:=MM.fr HM2.out.1 F3;have HM3:Hid _:=AI h3 (HM2.out.2.trans k3);clear h3 k3 F3 c0 c1 c2;go_wp2_with fail;refine (HB.out W3 t3 HM3.out.1 (numV v==0)).mono ?_;rintro e W4 ⟨rfl,t4,h4,k4⟩;have HM4:Hid _:=AI h4 (HM3.out.2.trans k4);clear h4 k4;go_wp2_with fail;refine bodyPost_ret (results_none rfl _ _ _) rfl ?_;exact⟨rfl,t4,HM4.out.1,HM4.out.2⟩
 ·have ho:Hid (tP E 26 v=whole (numV v)):=rfl;rw[ho.out];clear ho;go_enter func68,ntmps68;go_wp2_with fail;refine (HP1.out ()).mono ?_;rintro e W1 ⟨rfl,t1,h1,k1⟩;have HM1:Hid _:=AI h1 (k1);clear h1 k1 HP1;obtain⟨W2,hW2,F2,c0,c1,c2,l2⟩:=bD W1 k m t;obtain⟨t2,h2,k2,-⟩:=MM.box HM1.out.1 F2;have HM2:Hid _:=AI h2 (HM1.out.2.trans k2);clear h2 k2 F2 l2;go_wp2_with fail;refine (HV.out W2).mono ?_;rintro e W3 ⟨rfl,F3⟩;obtain⟨t3,h3,k3⟩:=MM.fr HM2.out.1 F3;have HM3:Hid _:=AI h3 (HM2.out.2.trans k3);clear h3 k3 F3 c0 c1 c2;go_wp2_with fail;refine (HN.out W3 t3 HM3.out.1 (numV v)).mono ?_;rintro e W4 ⟨rfl,t4,h4,k4⟩;have HM4:Hid _:=AI h4 (HM3.out.2.trans k4);clear h4 k4;go_wp2_with fail;refine bodyPost_ret (results_none rfl _ _ _) rfl ?_;exact⟨rfl,t4,HM4.out.1,HM4.out.2⟩
 ·have ho:Hid (tP E 27 v=dZ (aD E v)):=rfl;rw[ho.out];clear ho;go_enter func68,ntmps68;go_wp2_with fail;refine (HP1.out ()).mono ?_;rintro e W1 ⟨rfl,t1,h1,k1⟩;have HM1:Hid _:=AI h1 (k1);clear h1 k1 HP1;obtain⟨W2,hW2,F2,c0,c1,c2,l2⟩:=bD W1 k m t;obtain⟨t2,h2,k2,-⟩:=MM.box HM1.out.1 F2;have HM2:Hid _:=AI h2 (HM1.out.2.trans k2);clear h2 k2 F2 l2;go_wp2_with fail;refine (HT.out W2 (MM.pow HM2.out.1)).mono ?_;rintro e W3 ⟨rfl,F3⟩;obtain⟨t3,h3,k3⟩:=MM.fr HM2.out.1 F3;have HM3:Hid _:=AI h3 (HM2.out.2.trans k3);clear h3 k3 F3 c0 c1 c2;go_wp2_with fail;refine (HS.out W3 t3 HM3.out.1 (aD E v)).mono ?_;rintro e W4 ⟨rfl,t4,h4,k4⟩;have HM4:Hid _:=AI h4 (HM3.out.2.trans k4);clear h4 k4;go_wp2_with fail;refine bodyPost_ret (results_none rfl _ _ _) rfl ?_;exact⟨rfl,t4,HM4.out.1,HM4.out.2⟩
 have ho:Hid (tP E 28 v=whole (eZ (pB v))):=rfl;rw[ho.out];clear ho;go_enter func68,ntmps68;go_wp2_with fail;refine (HP1.out ()).mono ?_;rintro e W1 ⟨rfl,t1,h1,k1⟩;have HM1:Hid _:=AI h1 (k1);clear h1 k1 HP1;obtain⟨W2,hW2,F2,c0,c1,c2,l2⟩:=bD W1 k m t;obtain⟨t2,h2,k2,-⟩:=MM.box HM1.out.1 F2;have HM2:Hid _:=AI h2 (HM1.out.2.trans k2);clear h2 k2 F2 l2;go_wp2_with fail;refine (HH.out W2).mono ?_;rintro e W3 ⟨rfl,F3⟩;obtain⟨t3,h3,k3⟩:=MM.fr HM2.out.1 F3;have HM3:Hid _:=AI h3 (HM2.out.2.trans k3);clear h3 k3 F3 c0 c1 c2;go_wp2_with fail;refine (HB.out W3 t3 HM3.out.1 (pB v)).mono ?_;rintro e W4 ⟨rfl,t4,h4,k4⟩;have HM4:Hid _:=AI h4 (HM3.out.2.trans k4);clear h4 k4;go_wp2_with fail;refine bodyPost_ret (results_none rfl _ _ _) rfl ?_;exact⟨rfl,t4,HM4.out.1,HM4.out.2⟩
end
structure lY (W:WL) (tag:NN) (b:Nat) (k m:Int) (t:BA):Prop where
 lt:b<W.heap.size
 tg:tag b=6
 c0:W.cell? ⟨b,0,none⟩=some (.int .u8 k)
 c1:W.cell? ⟨b,1,none⟩=some (.int .i64 m)
 c2:W.cell? ⟨b,2,none⟩=some (.string t)
theorem lY.kp {W W':WL}{tag tag':NN}{b:Nat}{k m:Int}{t:BA} (h:lY W tag b k m t) (q:Kp tag tag' W W'):lY W' tag' b k m t:=
 have e:=fun o=>q.cell (p:=Ad b o) h.lt (by show tag b<10;rw[h.tg];decide)
 ⟨Nll h.lt q.size,(q.ret b h.lt).trans h.tg,(e 0).trans h.c0,(e 1).trans h.c1,(e 2).trans h.c2⟩
section
variable {E:Env}{X:Nat}{g:Pl}{s:Ms}{W W':WL}{tag:NN}
theorem MM.drop (h:MM E X g s W tag){l:List aJ}{c:aJ} (hs:s.fr.stk=l++[c]) (hl:s.fr.stk.length≤1024) :
  Calls prog 73 #[fp g s,.int .u8 47] W (MP E X g (aC s l) tag W cR):=by
 obtain⟨k,m,t,he⟩:∃ (k m:Int) (t:BA),aGj c=vlV k m t:=by
  unfold aGj;split
  ·exact⟨_,_,_,rfl⟩
  exact⟨_,_,_,rfl⟩
 have HP1:Hid _:=fun (_:Unit)=>h.pop hs hl;rw[he] at HP1;clear h he;go_enter func73,ntmps73;go_wp2_with fail;refine (HP1.out ()).mono ?_;rintro e W1 ⟨rfl,t1,h1,k1⟩;have HM1:Hid _:=AI h1 (k1);have HK1:Hid _:=k1;clear h1 k1 HP1;obtain⟨W2,hW2,F2,c0,c1,c2,l2⟩:=bD W1 k m t;obtain⟨t2,h2,k2,hb2⟩:=MM.box HM1.out.1 F2;have HX2:Hid _:=lY.mk l2 (hb2 _ (Nat.le_refl _)) c0 c1 c2;have HM2:Hid _:=AI h2 (HM1.out.2.trans k2);have HK2:Hid _:=k2;clear h2 k2 F2 hb2 l2;go_wp2_with fail;refine bodyPost_ret (results_none rfl _ _ _) rfl ?_;exact⟨rfl,t2,HM2.out.1,HM2.out.2⟩
theorem MM.dup (h:MM E X g s W tag){l:List aJ}{v:Val} (hs:s.fr.stk=l++[cv v]) (hl:s.fr.stk.length<1024) :
  Calls prog 73 #[fp g s,.int .u8 45] W (MP E X g (aC s (l++[cv v,cv v])) tag W cR):=by
 have hl3:l.length+1<1024:=by rw[hs] at hl;simp at hl;omega
 have HP1:Hid _:=fun (_:Unit)=>h.popV hs (Nat.le_of_lt hl);have HQ1:Hid _:=fun (W1:WL) (t1:NN) (h1:MM E X g (aC s l) W1 t1)=>MM.push h1 (show l.length<1024 by omega) v;have HQ2:Hid _:=fun (W1:WL) (t1:NN) (h1:MM E X g (aC s (l++[cv v])) W1 t1)=>MM.push h1 (show (l++[cv v]).length<1024 by simp;omega) v;have hfin:Hid ((l++[cv v])++[cv v]=l++[cv v,cv v]):=by show _=_;simp
 clear h;unfold vV at HQ1 HQ2;generalize ek:(v.kind:Int)=k at HP1 HQ1 HQ2;generalize em:vN v=m at HP1 HQ1 HQ2;generalize et:vS v=t at HP1 HQ1 HQ2;clear ek em et;go_enter func73,ntmps73;go_wp2_with fail;refine (HP1.out ()).mono ?_;rintro e W1 ⟨rfl,t1,h1,k1⟩;have HM1:Hid _:=AI h1 (k1);have HK1:Hid _:=k1;clear h1 k1 HP1;obtain⟨W2,hW2,F2,c0,c1,c2,l2⟩:=bD W1 k m t;obtain⟨t2,h2,k2,hb2⟩:=MM.box HM1.out.1 F2;have HX2:Hid _:=lY.mk l2 (hb2 _ (Nat.le_refl _)) c0 c1 c2;have HM2:Hid _:=AI h2 (HM1.out.2.trans k2);have HK2:Hid _:=k2;clear h2 k2 F2 hb2 l2;go_wp2_with fail;refine (HQ1.out W2 t2 HM2.out.1).mono ?_;rintro e W3 ⟨rfl,t3,h3,k3⟩;have HM3:Hid _:=AI h3 (HM2.out.2.trans k3);have HK3:Hid _:=k3;clear h3 k3 HQ1 c0 c1 c2;obtain⟨-,-,c0,c1,c2⟩:=HX2.out.kp HK3.out;go_wp2_with fail;refine (HQ2.out W3 t3 HM3.out.1).mono ?_;rintro e W4 ⟨rfl,t4,h4,k4⟩;have HM4:Hid _:=AI h4 (HM3.out.2.trans k4);have HK4:Hid _:=k4;clear h4 k4 HQ2 c0 c1 c2;go_wp2_with fail;refine bodyPost_ret (results_none rfl _ _ _) rfl ?_;refine⟨rfl,t4,?_,HM4.out.2⟩;rw[← hfin.out];exact HM4.out.1
theorem MM.under (h:MM E X g s W tag){l:List aJ}{u v:Val} (hs:s.fr.stk=l++[cv u,cv v]) (hl:s.fr.stk.length<1024) :
  Calls prog 73 #[fp g s,.int .u8 46] W (MP E X g (aC s (l++[cv v,cv u,cv v])) tag W cR):=by
 obtain⟨e1,e2,hl2,-⟩:=h.pop2 hs (Nat.le_of_lt hl);have hl3:l.length+2<1024:=by rw[hs] at hl;simp at hl;omega
 have HP1:Hid _:=fun (_:Unit)=>h.popV e1 (Nat.le_of_lt hl);have HP2:Hid _:=fun (W1:WL) (t1:NN) (h1:MM E X g (aC s (l++[cv u])) W1 t1)=>MM.popV h1 e2 hl2;have HQ1:Hid _:=fun (W1:WL) (t1:NN) (h1:MM E X g (aC s l) W1 t1)=>MM.push h1 (show l.length<1024 by omega) v;have HQ2:Hid _:=fun (W1:WL) (t1:NN) (h1:MM E X g (aC s (l++[cv v])) W1 t1)=>MM.push h1 (show (l++[cv v]).length<1024 by simp;omega) u;have HQ3:Hid _:=fun (W1:WL) (t1:NN) (h1:MM E X g (aC s (l++[cv v]++[cv u])) W1 t1)=>MM.push h1 (show (l++[cv v]++[cv u]).length<1024 by simp;omega) v;have hfin:Hid ((l++[cv v]++[cv u])++[cv v]=l++[cv v,cv u,cv v]):=by show _=_;simp
 clear h;unfold vV at HQ1 HQ2 HQ3;generalize ek:(v.kind:Int)=k at HP1 HQ1 HQ3;generalize em:vN v=m at HP1 HQ1 HQ3;generalize et:vS v=t at HP1 HQ1 HQ3;generalize ek':(u.kind:Int)=k' at HP2 HQ2;generalize em':vN u=m' at HP2 HQ2;generalize et':vS u=t' at HP2 HQ2;clear ek em et ek' em' et';go_enter func73,ntmps73;go_wp2_with fail;refine (HP1.out ()).mono ?_;rintro e W1 ⟨rfl,t1,h1,k1⟩;have HM1:Hid _:=AI h1 (k1);have HK1:Hid _:=k1;clear h1 k1 HP1;obtain⟨W2,hW2,F2,c0,c1,c2,l2⟩:=bD W1 k m t;obtain⟨t2,h2,k2,hb2⟩:=MM.box HM1.out.1 F2;have HX2:Hid _:=lY.mk l2 (hb2 _ (Nat.le_refl _)) c0 c1 c2;have HM2:Hid _:=AI h2 (HM1.out.2.trans k2);have HK2:Hid _:=k2;clear h2 k2 F2 hb2 l2;go_wp2_with fail;refine (HP2.out W2 t2 HM2.out.1).mono ?_;rintro e W3 ⟨rfl,t3,h3,k3⟩;have HM3:Hid _:=AI h3 (HM2.out.2.trans k3);have HK3:Hid _:=k3;clear h3 k3 HP2 c0 c1 c2;obtain⟨W4,hW4,F4,c0,c1,c2,l4⟩:=bD W3 k' m' t';obtain⟨t4,h4,k4,hb4⟩:=MM.box HM3.out.1 F4;have HX4:Hid _:=lY.mk l4 (hb4 _ (Nat.le_refl _)) c0 c1 c2;have HM4:Hid _:=AI h4 (HM3.out.2.trans k4);have HK4:Hid _:=k4;clear h4 k4 F4 hb4 l4;obtain⟨-,-,d0,d1,d2⟩:=(HX2.out.kp HK3.out).kp HK4.out;go_wp2_with fail;refine (HQ1.out W4 t4 HM4.out.1).mono ?_;rintro e W5 ⟨rfl,t5,h5,k5⟩;have HM5:Hid _:=AI h5 (HM4.out.2.trans k5);have HK5:Hid _:=k5;clear h5 k5 HQ1 c0 c1 c2 d0 d1 d2;obtain⟨-,-,c0,c1,c2⟩:=HX4.out.kp HK5.out;go_wp2_with fail;refine (HQ2.out W5 t5 HM5.out.1).mono ?_;rintro e W6 ⟨rfl,t6,h6,k6⟩;have HM6:Hid _:=AI h6 (HM5.out.2.trans k6);have HK6:Hid _:=k6;clear h6 k6 HQ2 c0 c1 c2;obtain⟨-,-,c0,c1,c2⟩:=(((HX2.out.kp HK3.out).kp HK4.out).kp HK5.out).kp HK6.out;go_wp2_with fail;refine (HQ3.out W6 t6 HM6.out.1).mono ?_;rintro e W7 ⟨rfl,t7,h7,k7⟩;have HM7:Hid _:=AI h7 (HM6.out.2.trans k7);have HK7:Hid _:=k7;clear h7 k7 HQ3 c0 c1 c2;go_wp2_with fail;refine bodyPost_ret (results_none rfl _ _ _) rfl ?_;refine⟨rfl,t7,?_,HM7.out.2⟩;rw[← hfin.out];exact HM7.out.1
end
end Go.Proofs.YtlokkgajpjafmaaGreatDoor
