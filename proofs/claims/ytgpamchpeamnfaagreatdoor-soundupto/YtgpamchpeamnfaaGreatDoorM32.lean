/-
  Texts Ef Eg Ei Vo.
-/
import Derived.Laws.CopyOwn
import Derived.Test.YtgpamchpeamnfaaGreatDoorMA
import Derived.Test.YtgpamchpeamnfaaGreatDoorM30
import Derived.Test.YtgpamchpeamnfaaGreatDoorM31
import Derived.Test.YtgpamchpeamnfaaGreatDoorM05
set_option linter.unusedSimpArgs false
set_option linter.unusedVariables false
set_option maxRecDepth 100000
set_option maxHeartbeats 40000000
open _root_.Go.Proofs.Tryz
namespace Go.Proofs.YtgpamchpeamnfaaGreatDoor
open Go.RowKit
open Wire Flow Mach
def MLK (E:Ev) (ks:List UInt8) (T0:Nat→Nat) (W0:World) (bs:List (Nat × Obj)) (v:Value) (W:World):Prop:=
 ∃ C s K tag,((0≤s∧s≤9)∧∀ j,j<9→C 0 j=E.C 0 j)∧MT { E with C:=C,st:=s,K:=K } ks tag W∧Kp T0 tag W0 W∧(∀ x ∈ bs,x.1<W.heap.size∧tag x.1=6∧W.heap[x.1]?=some x.2)∧K v
theorem MS.addK {w0 W:World}{X:Nat}{m:Mo}{tag:Nat→Nat}{lv:Nat→Bool}{R:Nat→Rw}{sz O:Nat→Nat}{C:Nat→Nat→Value}{K:Value→Prop}{st:Int}{us:Nat}{fs:List FrV}{kk:List (List UInt8)} (h:MS w0 W X m tag lv R sz O C K st us fs kk) {v:Value} (hv:r7 W tag v):MS w0 W X m tag lv R sz O C (fun u=>K u∨u=v) st us fs kk:=by
 have S:=h.S
 refine⟨⟨S.fr,S.low,S.rows,S.objs,S.far,S.num,fun u hu=>?_⟩,h.B,h.fr,h.ln,fun i x ks hi hk=>?_⟩
 ·rcases hu with hu | rfl
  ·exact S.keys u hu
  ·exact hv
 ·obtain⟨f,s1,s2,xs,s3,s4⟩:=h.each i x ks hi hk
  exact⟨f,s1,s2,xs,s3,s4.mono fun u hu=>.inl hu⟩
section
variable {E : Ev} {ks : List UInt8} {T0 : Nat → Nat} {W0 W W' : World} {bs : List (Nat × Obj)}
theorem MLK.ml {v:Value}(h:MLK E ks T0 W0 bs v W):ML E ks T0 W0 bs W:=by
 obtain⟨C,s,K,tag,hs,hM,kp,hb,-⟩:=h
 exact⟨C,s,K,tag,hs,hM,kp,hb⟩
theorem ML.keys {a:Nat}(h:ML E ks T0 W0 bs W)(ha:(a:Int)<E.m.arrs):Calls prog 70 #[ptr (E.O (200+2*a))] W fun e W'=>∃ (o:Option Addr) (n c:Nat),e=.returned (.slice o n c)∧MLK E ks T0 W0 bs (.slice o n c) W':=by
 obtain⟨C,s,K,tag,hs,hM,kp,hb⟩:=h
 obtain⟨o,n,c,-,A⟩:=hM.ar ha
 refine (bFe _ o n c W A.c A.le A.k).mono fun e W' ⟨v,L,he,hL,hn,hx⟩=>?_
 obtain⟨o',c',e'⟩:=cN hL.own
 have hr:∀ k,k<W.heap.size→aM tag W.heap.size 8 k=tag k:=fun k hk=>aI hk
 obtain⟨R,sv,h⟩:=hM
 have h2:MT { E with C:=C,st:=s,K:=K } ks (aM tag W.heap.size 8) W':=⟨R,sv,(h.S.re hr).frm hL.fr,h.B,h.fr,h.ln,h.each⟩
 have hK:r7 W' (aM tag W.heap.size 8) v:=by
  have own:=hL.own
  rw[e'] at own
  refine⟨o',L.length,c',e',?_,hn,fun h0=>?_⟩
  ·rcases own.2 with ⟨h1,h2⟩ | ⟨g,cap,cur,h1,h2,h3,h4,-⟩
   ·simp only[Value.slice.injEq] at h1;omega
   ·simp only[Value.slice.injEq] at h1;omega
  ·obtain⟨g,cap,eg,hc,hg⟩:=fG own h0
   simp only[Value.slice.injEq,true_and] at eg
   obtain⟨rfl,rfl⟩:=eg
   exact⟨g,0,rfl,hg,cX (own.lt g rfl).1,fun i hi=>⟨L[i],hx _ (List.getElem_mem hi),by rw[Nat.zero_add];exact bV own (by rw[List.getElem?_map,Lge hi];rfl)⟩⟩
 obtain⟨R2,sv2,h3⟩:=h2
 subst e'
 exact⟨o',L.length,c',he,C,s,fun u=>K u∨u=_,_,hs,⟨R2,sv2,h3.addK hK⟩,kp.trans (Kp.of_fr hL.fr hr),fun x hx=>⟨Nll (hb x hx).1 hL.fr.size,by rw[hr _ (hb x hx).1];exact (hb x hx).2.1,(hL.fr.block _ (hb x hx).1 (by simp)).trans (hb x hx).2.2⟩,.inr rfl⟩
theorem MLK.push {o:Option Addr}{p q:Nat}{a:Nat}{d n:Int}{t:ByteArray} (h:MLK E ks T0 W0 bs (.slice o p q) W) (ha:(a:Int)<E.m.arrs) (hn:SzN n t) (hk:ks.length<1024):Calls prog 71 #[ptr E.X,clV true d n t a (.slice o p q)] W fun e W'=>e=.returned (.tuple #[])∧ML E (ks++[107]) T0 W0 bs W':=by
 obtain⟨C,s,K,tag,hs,hM,kp,hb,hK⟩:=h
 exact (bAd _ ks 107 tag W true d n t a o p q hM ⟨.inr (.inr (.inr rfl)),true,d,n,t,a,o,p,q,rfl,hn,fun _=>⟨rfl,⟨a,rfl,by show a<E.m.arrs.toNat;omega⟩,hK⟩,fun e=>absurd rfl e,fun e=>absurd e (by decide),fun e=>absurd e (by decide)⟩ hk).mono fun e W' ⟨he,hm⟩=>⟨he,ML.of hs kp hb hm⟩
theorem ML.popK (h:ML E (ks++[107]) T0 W0 bs W):Calls prog 58 #[ptr E.X] W fun e W'=>∃ (d n:Int) (t:ByteArray) (a:Nat) (o:Option Addr) (p q:Nat),e=.returned (clV true d n t a (.slice o p q))∧SzN n t∧(a:Int)<E.m.arrs∧MLK E ks T0 W0 bs (.slice o p q) W':=by
 obtain⟨C,s,K,tag,hs,hM,kp,hb⟩:=h
 refine (bBk _ ks 107 tag W hM).mono fun e W' ⟨l,d,n,t,a,o,p,q,he,hv,tag',hM',k2⟩=>?_
 obtain⟨-,l',d',n',s',a',o',p',q',hh,hsz,hk1,-⟩:=hv
 simp only[List.cons.injEq,Value.bool.injEq,Value.int.injEq,Value.string.injEq,Value.slice.injEq,true_and,and_true] at hh
 obtain⟨rfl,rfl,rfl,rfl,rfl,rfl,rfl,rfl⟩:=hh
 obtain⟨rfl,⟨j,rfl,hj⟩,hK⟩:=hk1 rfl
 exact⟨d,n,t,j,o,p,q,he,hsz,by change j<E.m.arrs.toNat at hj;omega,C,s,K,tag',hs,hM',kp.trans k2,fun x hx=>⟨Nll (hb x hx).1 k2.size,by rw[k2.ret _ (hb x hx).1];exact (hb x hx).2.1,(k2.blk _ (hb x hx).1 (hb x hx).2.1).trans (hb x hx).2.2⟩,hK⟩
theorem MLK.frm {v:Value}(h:MLK E ks T0 W0 bs v W)(hf:Fr [] W W'):MLK E ks T0 W0 bs v W':=by
 obtain⟨C,s,K,tag,hs,hM,kp,hb,hK⟩:=h
 exact⟨C,s,K,_,hs,hM.frm hf,kp.frm hf,fun x hx=>⟨Nll (hb x hx).1 hf.size,by rw[aI (hb x hx).1];exact (hb x hx).2.1,(hf.block _ (hb x hx).1 (by simp)).trans (hb x hx).2.2⟩,hK⟩
theorem MLK.new {v:Value}(h:MLK E ks T0 W0 bs v W)(ob:Obj):MLK E ks T0 W0 ((W.heap.size,ob) :: bs) v (W.alloc ob):=by
 obtain⟨C,s,K,tag,hs,hM,kp,hb,hK⟩:=h
 have hf:Fr [] W (W.alloc ob):=(Fr.refl [] W).alloc ob
 refine⟨C,s,K,_,hs,hM.frm hf,kp.frm hf,fun x hx=>?_,hK⟩
 rcases List.mem_cons.1 hx with rfl | hx
 ·exact⟨by simp,cX (Nat.le_refl _),wan W ob⟩
 ·exact⟨Nll (hb x hx).1 hf.size,by rw[aI (hb x hx).1];exact (hb x hx).2.1,(hf.block _ (hb x hx).1 (by simp)).trans (hb x hx).2.2⟩
theorem MLK.tail {o:Option Addr}{p q:Nat}{B:Nat}{cs:Array Value}{t:TypeId} (h:MLK E ks T0 W0 ((B,.cells cs t) :: bs) (.slice o (p+1) q) W) (hB:W0.heap.size≤B) (hne:∀ x ∈ bs,x.1≠B):∃ (g off:Nat) (k:ByteArray),o=some ⟨g,off,none⟩∧k.size≤1048576∧W.cell? ⟨g,off,none⟩=some (.string k)∧p+1≤q∧∀ (o':Option Addr) (q':Nat),p≤q'→(p=0∨o'=some ⟨g,off+1,none⟩)→MLK E ks T0 W0 ((B,.cells (cs.setIfInBounds 5 (.slice o' p q')) t) :: bs) (.slice o' p q') (W.setCell ⟨B,5,none⟩ (.slice o' p q')):=by
 obtain⟨C,s,K,tag,hs,hM,kp,hb,hK⟩:=h
 have hk:r7 W tag (.slice o (p+1) q):=by
  obtain⟨R,sv,h⟩:=hM
  exact h.S.keys _ hK
 obtain⟨o',n',c',e,h1,h2,h3⟩:=hk
 simp only[Value.slice.injEq] at e
 obtain⟨rfl,rfl,rfl⟩:=e
 obtain⟨g,off,rfl,hg,htg,hx⟩:=h3 (by omega)
 obtain⟨k,hks,hc⟩:=hx 0 (by omega)
 refine⟨g,off,k,rfl,hks,by simpa using hc,by omega,fun o' q' hq' ho=>?_⟩
 have hkt:r7 W tag (.slice o' p q'):=⟨_,_,_,rfl,hq',by omega,fun h0=>by
  rcases ho with ho | ho
  ·omega
  ·exact⟨g,off+1,ho,hg,htg,fun i hi=>by have:=hx (i+1) (by omega);rwa [show off+(i+1)=off+1+i by omega] at this⟩⟩
 have ff:Fr [B] W (W.setCell ⟨B,5,none⟩ (.slice o' p q')):=(Fr.refl _ _).setCell (p:=⟨B,5,none⟩) (.inl (by simp)) _
 obtain⟨b1,b2,b3⟩:=hb (B,.cells cs t) (by simp)
 have h2:MT { E with C:=C,st:=s,K:=fun u=>K u∨u=.slice o' p q' } ks tag W:=by
  obtain⟨R,sv,h⟩:=hM
  exact⟨R,sv,h.addK hkt⟩
 refine⟨C,s,_,tag,hs,h2.w6 b2 ff,kp.w6 ff hB,fun x hx=>?_,.inr rfl⟩
 rcases List.mem_cons.1 hx with rfl | hx
 ·refine⟨Nll b1 ff.size,b2,?_⟩
  have hgg:W.heap[B]=.cells cs t:=(Age.1 b3).2
  unfold World.setCell
  simp[b1,Array.getElem_modify,hgg]
 ·obtain⟨d1,d2,d3⟩:=hb x (by simp[hx])
  exact⟨Nll d1 ff.size,d2,(ff.block _ d1 (by simpa using hne x hx)).trans d3⟩
theorem ML.clear {a:Nat}(h:ML E ks T0 W0 bs W)(ha:(a:Int)<E.m.arrs):(W.frozen? ⟨E.O (200+2*a),0,none⟩=false∧∃ v,W.cell? ⟨E.O (200+2*a),0,none⟩=some v)∧ML E ks T0 W0 bs (W.setCell ⟨E.O (200+2*a),0,none⟩ (.slice none 0 0)):=by
 obtain⟨C,s,K,tag,hs,hM,kp,hb⟩:=h
 obtain⟨⟨h1,h2⟩,h3⟩:=hM.rearr ha (OwE.start W)
 exact⟨⟨h1,_,h2⟩,ML.mw hs kp hb h3⟩
end
theorem bDh (E:Ev)(ks o r:List UInt8)(par:Nat→Nat)(op a:Nat)(pl nx b:Int)(tag:Nat→Nat)(W:World)(h:MT E ks tag W)(hst:0≤E.st∧E.st≤9)(haa:(a:Int)<E.m.arrs)(hop:op=11∨op=12∨op=13∨op=14∨op=15∨op=16)(ha:after par op a ks=some (o,r)) :
  Calls prog 40 #[ptr E.X,spV pl nx op a b] W (OpP E o tag W):=by
 obtain⟨top,rfl,hw,rfl,hl⟩:=gU ha
 clear ha
 have hm:prog.follows Departure.mixedOrders=true:=by kernel_rfl
 rcases hop with rfl | rfl | rfl | rfl | rfl | rfl
 ·obtain⟨x,rfl,hx⟩:=dU (show leS top [116] from hw)
  obtain rfl:=jU hx
  have hl:r.length<1024:=by have:(r++[97]).length≤1024:=hl;simp at this;omega
  have M:=(ML.start h hst).new (spO pl nx 11 a b)
  obtain⟨ag,ac,an,a1,a2,a3,a4⟩:=M.ar haa
  clear h hw a1
  show Calls prog 40 #[ptr E.X,spV pl nx 11 a b] W _
  go_enter func40,ntmps40
  go_wp2
  go_region
  replace M:=M.frm ((Fr.refl [] _).drew)
  generalize World.drew _=W1 at *
  clear a3 a4
  have q2:=M.cell (List.mem_cons_self ..) 2
  simp at q2
  go_wp2_with fail
  refine (M.text).mono ?_
  rintro e W2 ⟨k,rfl,hk,M2⟩
  clear M
  clear q2
  have xk:=M2.mc.2.1
  have q2:=M2.cell (List.mem_cons_self ..) 2
  simp at q2
  go_wp2_with fail
  refine (M2.alook haa hk).mono ?_
  rintro e W3 ⟨⟨d,n,s,st,rfl,hv,hs0,hs1⟩,M3⟩
  clear M2
  clear q2 xk
  replace M3:=M3.new (.cells #[.int .i64 d,.int .i64 n,.string s] 118)
  go_wp2_with fail
  refine (M3.ends (by omega)).mono ?_
  rintro e W4 ⟨rfl,M4⟩
  clear M3
  have p0:=M4.cell (List.mem_cons_self ..) 0
  have p1:=M4.cell (List.mem_cons_self ..) 1
  have p2:=M4.cell (List.mem_cons_self ..) 2
  simp at p0 p1 p2
  go_wp2_with fail
  refine (M4.put 97 aBo (yQ hv) hl).mono ?_
  rintro e W5 ⟨rfl,M5⟩
  clear M4
  go_wp2
  go_end0
  exact⟨rfl,M5.drop⟩
 ·obtain⟨x,y,rfl,hx,hy⟩:=oC (show leS top [116,97] from hw)
  obtain rfl:=jU hx
  replace hy:=lP hy
  rw[show r++[116,y]=(r++[116])++[y] by simp] at h
  have M:=(ML.start h hst).new (spO pl nx 12 a b)
  obtain⟨ag,ac,an,a1,a2,a3,a4⟩:=M.ar haa
  clear h hw a1
  show Calls prog 40 #[ptr E.X,spV pl nx 12 a b] W _
  go_enter func40,ntmps40
  go_wp2
  go_region
  replace M:=M.frm ((Fr.refl [] _).drew)
  generalize World.drew _=W1 at *
  clear a3 a4
  have q2:=M.cell (List.mem_cons_self ..) 2
  simp at q2
  go_wp2_with fail
  refine (M.value hy).mono ?_
  rintro e W2 ⟨d,n,s,rfl,hv,M2⟩
  clear M
  clear q2
  replace M2:=M2.new (.cells #[.int .i64 d,.int .i64 n,.string s] 118)
  go_wp2_with fail
  refine (M2.text).mono ?_
  rintro e W3 ⟨k,rfl,hk,M3⟩
  clear M2
  have xk:=M3.mc.2.1
  have p0:=M3.cell (List.mem_cons_self ..) 0
  have p1:=M3.cell (List.mem_cons_self ..) 1
  have p2:=M3.cell (List.mem_cons_self ..) 2
  simp at p0 p1 p2
  go_wp2_with fail
  refine (M3.aset haa hk hv.1).mono ?_
  rintro e W4 ⟨⟨st,rfl,hs0,hs1⟩,M4⟩
  clear M3
  clear p0 p1 p2 xk
  go_wp2_with fail
  refine (M4.ends (by omega)).mono ?_
  rintro e W5 ⟨rfl,M5⟩
  clear M4
  go_wp2
  go_end0
  exact⟨rfl,show ML E (r++[]) tag W [] _ by have:=M5.drop;simpa using this⟩
 ·obtain⟨x,rfl,hx⟩:=dU (show leS top [116] from hw)
  obtain rfl:=jU hx
  have hl:r.length<1024:=by have:(r++[110]).length≤1024:=hl;simp at this;omega
  have M:=(ML.start h hst).new (spO pl nx 13 a b)
  obtain⟨ag,ac,an,a1,a2,a3,a4⟩:=M.ar haa
  clear h hw a1
  show Calls prog 40 #[ptr E.X,spV pl nx 13 a b] W _
  go_enter func40,ntmps40
  go_wp2
  go_region
  replace M:=M.frm ((Fr.refl [] _).drew)
  generalize World.drew _=W1 at *
  clear a3 a4
  have q2:=M.cell (List.mem_cons_self ..) 2
  simp at q2
  go_wp2_with fail
  refine (M.text).mono ?_
  rintro e W2 ⟨k,rfl,hk,M2⟩
  clear M
  clear q2
  have xk:=M2.mc.2.1
  have q2:=M2.cell (List.mem_cons_self ..) 2
  simp at q2
  go_wp2_with fail
  refine (M2.where_ haa _).mono ?_
  rintro e W3 ⟨⟨n,rfl,hn0,hn1⟩,M3⟩
  clear M2
  clear q2 xk
  go_wp2_with fail
  refine (M3.truth _).mono ?_
  rintro e W4 ⟨⟨tv,rfl,ht0,ht1⟩,M4⟩
  clear M3
  go_wp2_with fail
  refine (M4.whole _).mono ?_
  rintro e W5 ⟨rfl,M5⟩
  clear M4
  go_wp2_with fail
  refine (M5.put 110 nE (iT (by omega)) hl).mono ?_
  rintro e W6 ⟨rfl,M6⟩
  clear M5
  go_wp2
  go_end0
  exact⟨rfl,M6.drop⟩
 ·obtain⟨x,rfl,hx⟩:=dU (show leS top [116] from hw)
  obtain rfl:=jU hx
  have M:=(ML.start h hst).new (spO pl nx 14 a b)
  obtain⟨ag,ac,an,a1,a2,a3,a4⟩:=M.ar haa
  clear h hw a1
  show Calls prog 40 #[ptr E.X,spV pl nx 14 a b] W _
  go_enter func40,ntmps40
  go_wp2
  go_region
  replace M:=M.frm ((Fr.refl [] _).drew)
  generalize World.drew _=W1 at *
  clear a3 a4
  have q2:=M.cell (List.mem_cons_self ..) 2
  simp at q2
  go_wp2_with fail
  refine (M.text).mono ?_
  rintro e W2 ⟨k,rfl,hk,M2⟩
  clear M
  clear q2
  have xk:=M2.mc.2.1
  have q2:=M2.cell (List.mem_cons_self ..) 2
  simp at q2
  go_wp2_with fail
  refine (M2.adrop haa _).mono ?_
  rintro e W3 ⟨rfl,M3⟩
  clear M2
  go_wp2
  go_end0
  exact⟨rfl,show ML E (r++[]) tag W [] _ by have:=M3.drop;simpa using this⟩
 ·obtain rfl:=jL (show leS top [] from hw)
  rw[List.append_nil] at h
  have M:=(ML.start h hst).new (spO pl nx 15 a b)
  obtain⟨ag,ac,an,a1,a2,a3,a4⟩:=M.ar haa
  clear h hw a1
  show Calls prog 40 #[ptr E.X,spV pl nx 15 a b] W _
  go_enter func40,ntmps40
  go_wp2
  go_region
  replace M:=M.frm ((Fr.refl [] _).drew)
  generalize World.drew _=W1 at *
  clear a3 a4
  have q2:=M.cell (List.mem_cons_self ..) 2
  simp at q2
  obtain⟨⟨z0,v0,c0⟩,M2⟩:=M.clear haa
  clear M
  go_wp2
  go_end0
  exact⟨rfl,show ML E (r++[]) tag W [] _ by have:=M2.drop;simpa using this⟩
 ·obtain rfl:=jL (show leS top [] from hw)
  rw[List.append_nil] at h
  have hl:r.length<1024:=by have:(r++[107]).length≤1024:=hl;simp at this;omega
  have M:=(ML.start h hst).new (spO pl nx 16 a b)
  obtain⟨ag,ac,an,a1,a2,a3,a4⟩:=M.ar haa
  clear h hw a1
  show Calls prog 40 #[ptr E.X,spV pl nx 16 a b] W _
  go_enter func40,ntmps40
  go_wp2
  go_region
  replace M:=M.frm ((Fr.refl [] _).drew)
  generalize World.drew _=W1 at *
  clear a3 a4
  have q2:=M.cell (List.mem_cons_self ..) 2
  simp at q2
  go_wp2_with fail
  refine (M.keys haa).mono ?_
  rintro e W2 ⟨ko,kn,kc,rfl,M2⟩
  clear M
  clear q2
  have q3:=M2.ml.cell (List.mem_cons_self ..) 3
  simp at q3
  go_wp2_with fail
  refine (M2.push (d:=0) (n:=0) (t:=⟨#[]⟩) haa ⟨by decide,by decide,by decide⟩ hl).mono ?_
  rintro e W3 ⟨rfl,M3⟩
  clear M2
  go_wp2
  go_end0
  exact⟨rfl,M3.drop⟩
theorem MB.rows {w0:World}{X:Nat}{m:Mo}{lv lv':Nat→Bool}{R R':Nat→Rw}{sz O:Nat→Nat}{C:Nat→Nat→Value}{st:Int}{us:Nat} (B:MB w0 X m lv R sz O C st us) (hR:∀ i,i=2∨i=3∨i=5∨201≤i→R' i=R i∧lv' i=lv i):MB w0 X m lv' R' sz O C st us:=by
 refine⟨B.x,B.md,B.w,?_,?_,fun j hj=>?_,B.rd,B.rc,?_,B.st,B.cd,B.us,B.sk,B.ah⟩
 ·rw[(hR 2 (by omega)).1,(hR 2 (by omega)).2];exact B.gl
 ·rw[(hR 3 (by omega)).1,(hR 3 (by omega)).2];exact B.ar
 ·rw[(hR _ (by omega)).1,(hR (201+2*j) (by omega)).2];exact B.ae j hj
 ·rw[(hR 5 (by omega)).1,(hR 5 (by omega)).2];exact B.fd
theorem MS.setPl {w0 W:World}{X:Nat}{m:Mo}{tag:Nat→Nat}{lv:Nat→Bool}{R:Nat→Rw}{sz O:Nat→Nat}{C:Nat→Nat→Value}{K:Value→Prop}{st:Int}{us:Nat}{fs:List FrV}{x:FrV}{kk:List (List UInt8)}{ks:List UInt8} (h:MS w0 W X m tag lv R sz O C K st us (fs++[x]) (kk++[ks])) {g c:Nat} (h8:C 0 8=.slice (some ⟨g,0,none⟩) (fs.length+1) c) (p:Nat) :
  ∃ R',MS w0 (W.setCell ⟨g,fs.length*4+1,none⟩ (.int .i64 p)) X m tag lv R' sz O C K st us (fs++[{ x with pl:=p }]) (kk++[ks])∧tag g=4:=by
 obtain⟨l4,r4⟩:=h.fr
 have r4':=r4
 rw[h8] at r4'
 simp only[Lla,List.length_cons,List.length_nil,Nat.zero_add] at r4'
 have S1:=h.S.put l4 r4' (j:=fs.length*4+1) (by omega) (.int .i64 p)
 have hln:=h.ln
 rw[aEd _ fs.length 1 x { x with pl:=p } (by simp) (by decide) _ rfl,List.set_append_right _ _ (Nat.le_refl _),Nat.sub_self,List.set_cons_zero] at S1
 refine⟨_,⟨S1,h.B.rows fun i hi=>⟨aJ _ _ (by omega),rfl⟩,⟨l4,by rw[bG,h8];simp⟩,by simpa using hln,fun i y zs hi hz=>?_⟩,(h.S.row l4 r4').tg _ rfl⟩
 have key:∀ y',aZt m lv R K i y' zs→y'.f=y.f→y'.lv=y.lv→y'.sv=y.sv→aZt m lv (up R 4 ⟨.slice (some ⟨g,0,none⟩) (fs.length+1) c,89,4,fs.length+1,(fs++[{ x with pl:=p }]).flatMap frC⟩) K i y zs:=fun y' o e1 e2 e3=>by
  obtain⟨fn,f1,nl,g,c,xs,f2,f3,f4,f5,f6⟩:=o.f
  obtain⟨s1,s2,xs2,s3,s4⟩:=o.s
  exact⟨⟨fn,by rw[← e1];exact f1,nl,g,c,xs,f2,by rw[← e2];exact f3,f4,by rw[aJ _ _ (by omega),← e2];exact f5,f6⟩,⟨s1,s2,xs2,by rw[aJ _ _ (by omega),← e3];exact s3,s4⟩⟩
 by_cases hlt:i<fs.length
 ·rw[List.getElem?_append_left hlt] at hi
  exact key y (h.each i y zs (by rw[List.getElem?_append_left hlt];exact hi) hz) rfl rfl rfl
 ·have hi':=(Lgs.1 hi).1
  simp at hi'
  obtain rfl:i=fs.length:=by omega
  simp at hi
  subst hi
  exact key x (h.each fs.length x zs (by simp) hz) rfl rfl rfl
section
variable {E : Ev} {ks : List UInt8} {T0 : Nat → Nat} {W0 W W' : World} {bs : List (Nat × Obj)}
def Ev.at_ (E:Ev) (p:Nat):Ev:={ E with x:={ E.x with pl:=p } }
theorem ML.setPl {g c g' c' nl:Nat}(h:ML E ks T0 W0 bs W)(F:FmI E g c g' c' nl)(p:Nat):ML (E.at_ p) ks T0 W0 bs (W.setCell ⟨g,E.fs.length*4+1,none⟩ (.int .i64 p)):=by
 obtain⟨C,s',K,tag,hs',⟨R,sv,h⟩,kp,hb⟩:=h
 obtain⟨R',h',ht⟩:=MS.setPl h ((hs'.2 8 (by decide)).trans F.f8) p
 have ht':tag g≠6:=by rw[ht];decide
 exact ML.of (E:=E.at_ p) (C:=C) (s:=s') (K:=K) hs' kp hb ⟨tag,⟨R',sv,h'⟩,Kp.set ht'⟩
theorem ML.whereW {a:Nat}(h:ML E ks T0 W0 bs W)(ha:(a:Int)<E.m.arrs)(k:ByteArray):Calls prog 73 #[ptr (E.O (200+2*a)),.string k] W fun e W'=>(∃ n:Int,e=.returned (.int .i64 n)∧-1≤n∧n≤30)∧W'=W:=by
 obtain⟨C,s,K,tag,hs,hM,kp,hb⟩:=id h
 obtain⟨o,n,c,-,A⟩:=hM.ar ha
 refine (aCo _ k o n c W A.c A.le A.k).mono fun e W' ⟨h1,hw⟩=>⟨?_,hw⟩
 have:=A.le
 rcases h1 with h1 | ⟨i,hi,h1⟩
 ·exact⟨-1,h1,by omega,by omega⟩
 ·exact⟨i,h1,by omega,by omega⟩
end
def bBs (W:World) (B:Nat):Nat:=match W.cell? ⟨B,5,none⟩ with
 | some (.slice _ n _)=>n
 | _=>0
def bIp (E:Ev) (r:List UInt8) (a:Nat) (tag:Nat→Nat) (W:World) (e:Ending) (W':World):Prop:=e=.returned (.tuple #[])∧(ML E (r++[107,116]) tag W [] W'∨ML (E.at_ a) r tag W [] W')
abbrev clO (d n:Int) (t:ByteArray) (a:Int) (v:Value):Obj:=.cells #[.bool true,.int .i64 d,.int .i64 n,.string t,.int .i64 a,v] 123
theorem bFr (E:Ev)(r:List UInt8)(a:Nat)(pl nx b:Int)(tag:Nat→Nat)(W:World)(h:MT E (r++[107]) tag W)(hst:0≤E.st∧E.st≤9)(hl:r.length+2≤1024):Calls prog 68 #[ptr E.X,spV pl nx 17 a b] W (bIp E r a tag W):=by
 have hm:prog.follows Departure.mixedOrders=true:=by kernel_rfl
 obtain⟨g,c,g',c',nl,F⟩:=h.fm
 obtain⟨jf,hj⟩:∃ j,E.fs.length=j:=⟨_,rfl⟩
 have hj20:jf≤20:=by have:=F.n21;omega
 have hcj:jf+1≤c:=by have:=F.le;omega
 have M:=(ML.start h hst).new (spO pl nx 17 a b)
 clear h
 go_enter func68,ntmps68
 go_wp2_with fail
 refine M.popK.mono ?_
 rintro e W2 ⟨d,n,t,j,o,p,q,rfl,hn,hja,M2⟩
 have z2:W.heap.size<W2.heap.size:=by
  obtain⟨C,s,K,tg,hs,hM,kp,hb⟩:=M2.ml
  exact (hb (W.heap.size,spO pl nx 17 a b) (by simp)).1
 have M3:=M2.new (clO d n t j (.slice o p q))
 obtain⟨ag,ac,an,-,a2,a3,a4⟩:=M3.ml.ar hja
 have b0:=M3.ml.cell (List.mem_cons_self ..) 0
 have b4:=M3.ml.cell (List.mem_cons_self ..) 4
 simp at b0 b4
 clear M M2
 go_wp2
 go_region
 replace M3:=M3.frm ((Fr.refl [] _).drew)
 generalize World.drew _=W3 at *
 generalize W2.heap.size=B at *
 clear a3 a4 b0 b4
 go_wp2
 go_loopw [6] (fun _ wr=>∃ (o:Option Addr) (p q:Nat),MLK E r tag W [(B,clO d n t j (.slice o p q)),(W.heap.size,spO pl nx 17 a b)] (.slice o p q) wr) (fun _ wr=>bBs wr B)
 case atStart=>exact⟨o,p,q,M3⟩
 case round=>
  clear M3
  obtain⟨o,p,q,M⟩:=hrel
  have b5:=M.ml.cell (List.mem_cons_self ..) 5
  simp at b5
  cases p with
  | zero=>
   have q3:=M.ml.cell (List.mem_cons_of_mem _ (List.mem_cons_self ..)) 3
   simp at q3
   obtain⟨fw,f8⟩:=M.ml.fm F
   obtain⟨pc,pz⟩:=fw.pl
   have M4:=(M.ml.setPl F a).drop
   rw[hj] at f8 pc pz M4
   have HM:Hid _:=M4.frm ((Fr.refl [] _).drew)
   clear M M4 fw
   go_wp2
   go_region
   go_wp2
   go_end0
   exact⟨rfl,.inr HM.out⟩
  | succ p=>
   obtain⟨kg,ko,k,rfl,hks,hkc,hpq,M5⟩:=M.tail (by omega) (by simp;omega)
   have b5z:wr.frozen? ⟨B,5,none⟩=false:=by
    obtain⟨C,s,K,tg,hs,hM,kp,hb⟩:=M.ml
    have:=(hb (B,clO d n t j (.slice (some ⟨kg,ko,none⟩) (p+1) q)) (by simp)).2.2
    unfold World.frozen?;rw[this];simp
   clear M
   by_cases hq:q=1
   ·subst hq
    obtain rfl:p=0:=by omega
    have M6:=M5 (some ⟨kg,ko,none⟩) 0 (Nat.le_refl _) (.inl rfl)
    clear M5
    simp only[Z1,List.set_cons_zero,List.set_cons_succ] at M6
    have hw:=M6.ml.whereW hja k
    go_wp2_with fail
    refine hw.mono ?_
    rintro e W6 ⟨⟨v,rfl,hv0,hv1⟩,hw6⟩
    have b6:=M6.ml.cell (List.mem_cons_self ..) 5
    simp at b6
    rw[← hw6] at M6 b6
    clear hw hw6 hkc b5z
    by_cases hv:0≤v
    ·have c0:=M6.ml.cell (List.mem_cons_self ..) 0
     have c1:=M6.ml.cell (List.mem_cons_self ..) 1
     have c2:=M6.ml.cell (List.mem_cons_self ..) 2
     have c3:=M6.ml.cell (List.mem_cons_self ..) 3
     have c4:=M6.ml.cell (List.mem_cons_self ..) 4
     simp at c0 c1 c2 c3 c4
     go_wp2_with fail
     refine (M6.push hja hn (by omega)).mono ?_
     rintro e W7 ⟨rfl,M7⟩
     clear M6 c0 c1 c2 c3 c4 b6 b5
     go_wp2_with fail
     refine (M7.words _).mono ?_
     rintro e W8 ⟨rfl,M8⟩
     clear M7
     go_wp2_with fail
     refine (M8.put 116 O3 (vB hks) (by simp;omega)).mono ?_
     rintro e W9 ⟨rfl,M9⟩
     clear M8
     go_wp2
     go_end0
     exact⟨rfl,.inl (by have:=M9.drop;simpa using this)⟩
    ·go_wp2
     go_roundw
     case rel=>exact⟨_,_,_,M6⟩
     case measure=>unfold bBs;rw[b5,b6];simp
   ·have M6:=M5 (some ⟨kg,ko+1,none⟩) (q-1) (by omega) (.inr rfl)
    clear M5
    simp only[Z1,List.set_cons_zero,List.set_cons_succ] at M6
    have hw:=M6.ml.whereW hja k
    go_wp2_with fail
    refine hw.mono ?_
    rintro e W6 ⟨⟨v,rfl,hv0,hv1⟩,hw6⟩
    have b6:=M6.ml.cell (List.mem_cons_self ..) 5
    simp at b6
    rw[← hw6] at M6 b6
    clear hw hw6 hkc b5z
    by_cases hv:0≤v
    ·have c0:=M6.ml.cell (List.mem_cons_self ..) 0
     have c1:=M6.ml.cell (List.mem_cons_self ..) 1
     have c2:=M6.ml.cell (List.mem_cons_self ..) 2
     have c3:=M6.ml.cell (List.mem_cons_self ..) 3
     have c4:=M6.ml.cell (List.mem_cons_self ..) 4
     simp at c0 c1 c2 c3 c4
     go_wp2_with fail
     refine (M6.push hja hn (by omega)).mono ?_
     rintro e W7 ⟨rfl,M7⟩
     clear M6 c0 c1 c2 c3 c4 b6 b5
     go_wp2_with fail
     refine (M7.words _).mono ?_
     rintro e W8 ⟨rfl,M8⟩
     clear M7
     go_wp2_with fail
     refine (M8.put 116 O3 (vB hks) (by simp;omega)).mono ?_
     rintro e W9 ⟨rfl,M9⟩
     clear M8
     go_wp2
     go_end0
     exact⟨rfl,.inl (by have:=M9.drop;simpa using this)⟩
    ·go_wp2
     go_roundw
     case rel=>exact⟨_,_,_,M6⟩
     case measure=>unfold bBs;rw[b5,b6];simp
theorem aRt {st e:TypeId}{i0:TypeInfo}{zv:Value}{z bytes:Nat} (ti:TyI st e i0 zv z bytes) (w:World) (ty:TypeId) (g n m sCap:Nat) (sp:Option Addr) (hnm:n≤m)
  (B:Nat) (cs ys:List Value) (hcs:cs.length=n*z) (h1:∀ v ∈ cs,v.oneCell'=true) (hsrc:0<n→∃ ad,sp=some ad∧∀ j v,cs[j]?=some v→w.cell? (ad.add j)=some v) (own:w.ownsRow B e z (.slice (some ⟨g,0,none⟩) m m) m ys) :
  ∃ w',(Builtin.copy_ #[st,st] ty #[.slice (some ⟨g,0,none⟩) m m,.slice sp n sCap]).run prog w=.ok (goInt n) w'∧w'.ownsRow B e z (.slice (some ⟨g,0,none⟩) m m) m (cs++ys.drop (n*z))∧Fr [g] w w':=by
 have hmin:Nat.min n m=n:=Nat.min_eq_left hnm
 by_cases h0:n=0
 ·subst h0
  obtain rfl:cs=[]:=List.eq_nil_of_length_eq_zero (by simpa using hcs)
  refine⟨w,?_,by simpa using own,Fr.refl _ _⟩
  cases sp <;> simp[Builtin.copy_,run_underlying ti.ht,Builtin.lenOf,Builtin.firstCells,sizeOf,typeInfo,ti.hi,loadCells,loadCellsFrom,storeCells]
 ·obtain⟨ad,rfl,hsr⟩:=hsrc (by omega)
  rcases own.2 with ⟨hv,_⟩ | ⟨g',cap,cur,hv,hB,hg,hnc,hcm,hcsz,htake⟩
  ·cases hv
  simp only[Value.slice.injEq,Option.some.injEq,Addr.mk.injEq,and_true,true_and] at hv
  obtain⟨rfl,rfl⟩:=hv
  have hcur:cur.toList=ys:=by rw[← htake,List.take_of_length_le (by simp[hcsz])]
  have hle:n*z≤m*z:=Nat.mul_le_mul_right z hnm
  have hl:=run_loadCells_list (P:=prog) w ad cs hsr
  have hst:=run_storeCells_at prog g 0 e cs 0 cur w hg (by simp;omega) h1
  refine⟨w.setRow g (cs++ys.drop (n*z)).toArray,?_,⟨?_,.inr ⟨g,m,(cs++ys.drop (n*z)).toArray,rfl,hB,setRow_heap w g cur _ e _ hg,Nat.le_refl _,hcm,?_,?_⟩⟩,⟨rfl,rfl,rfl,by simp[World.setRow],fun k hk hn=>setRow_other w g k _ (by simpa using hn)⟩⟩
  ·simp only[Nat.zero_add,List.take_zero,List.nil_append] at hst
   rw[hcur,hcs] at hst
   rw[hcs] at hl
   simp[Builtin.copy_,run_underlying ti.ht,Builtin.lenOf,Builtin.firstCells,sizeOf,typeInfo,ti.hi,ti.hz1,hmin,hl,hst]
  ·have:=own.1
   simp;omega
  ·have:=own.1
   simp;omega
  ·have:=own.1
   simp
   rw[List.take_of_length_le (by simp;omega)]
theorem bAh:(prog.info? 118).map (fun i=>(i.zero,i.size,i.bytes))=some (some (.agg #[.int .i64 0,.int .i64 0,.string ⟨#[]⟩]),3,32):=by kernel_rfl
theorem bCc:(prog.info? 89).map (fun i=>(i.zero,i.size,i.bytes))=some (some (.agg #[.int .i64 0,.int .i64 0,.slice none 0 0,.slice none 0 0]),4,64):=by kernel_rfl
abbrev zV (n:Nat):Array Value:=madeCells #[.int .i64 0,.int .i64 0,.string ⟨#[]⟩] (n*3)
theorem aLe (n:Nat)(hn:n≤100000)(W:World):(Instr.makeSlice 40 (.int .i64 (n:Int)) (.int .i64 (n:Int))).run prog W=.ok (.slice (some ⟨W.heap.size,0,none⟩) n n) (W.alloc (.cells (zV n) 118)):=by
 obtain⟨i0,hi,hz0,hz1,hz2⟩:=info_parts bAh
 have:=run_make (P:=prog) W 40 118 i0 _ underlying40 hi hz0 .i64 .i64 n n (by omega) (by omega) (by rw[hz2];omega) (by omega)
 simp only[Int.toNat_natCast,hz1] at this
 exact this
theorem aZx {n i t:Nat}(hi:i<n)(ht:t<3):(zV n).toList[i*3+t]?=[Value.int .i64 0,.int .i64 0,.string ⟨#[]⟩][t]?:=by
 have hlt:i*3+t<n*3:=by omega
 rw[Array.getElem?_toList]
 unfold zV madeCells
 rw[Array.getElem?_map,Array.getElem?_range,if_pos hlt]
 have hm:(i*3+t) % 3=t:=by omega
 rcases (show t=0∨t=1∨t=2 by omega) with rfl | rfl | rfl <;> simp[hm]
theorem aSr (W:World)(B n:Nat)(hB:B≤W.heap.size)(hn:n≤100000):(W.alloc (.cells (zV n) 118)).ownsRow B 118 3 (.slice (some ⟨W.heap.size,0,none⟩) n n) n (zV n).toList:=
 ⟨by simp[zV,size_madeCells],.inr ⟨W.heap.size,n,zV n,rfl,hB,wan W _,Nat.le_refl _,by unfold maxLen;omega,by simp[zV,size_madeCells],by rw[List.take_of_length_le (by simp[zV,size_madeCells])]⟩⟩
theorem zR {na nl:Nat}{cs:List Value} (h:iC na cs) (hn:na≤nl):iC nl (cs++(zV nl).toList.drop (na*3)):=by
 obtain⟨hl,h2⟩:=h
 refine⟨by simp[hl,zV,size_madeCells];omega,fun i hi=>?_⟩
 by_cases e:i<na
 ·obtain⟨d,m,s,hs,c0,c1,c2⟩:=h2 i e
  exact⟨d,m,s,hs,by rw[List.getElem?_append_left (by omega)];exact c0,by rw[List.getElem?_append_left (by omega)];exact c1,by rw[List.getElem?_append_left (by omega)];exact c2⟩
 ·have k:∀ t,t<3→(cs++(zV nl).toList.drop (na*3))[i*3+t]?=[Value.int .i64 0,.int .i64 0,.string ⟨#[]⟩][t]?:=fun t ht=>by
   rw[List.getElem?_append_right (by omega),List.getElem?_drop,hl,show na*3+(i*3+t-na*3)=i*3+t by omega]
   exact aZx hi ht
  exact⟨0,0,⟨#[]⟩,⟨by decide,by decide,by decide⟩,k 0 (by decide),k 1 (by decide),k 2 (by decide)⟩
theorem iC.one {n:Nat}{xs:List Value} (h:iC n xs):∀ v ∈ xs,v.oneCell'=true:=fun v hv=>by
 obtain⟨k,hk,rfl⟩:=List.getElem_of_mem hv
 have hk3:k<n*3:=by rw[← h.1];exact hk
 obtain⟨d,m,s,-,c0,c1,c2⟩:=h.2 (k / 3) (by omega)
 have:=Lge hk
 rcases (show k=k / 3*3∨k=k / 3*3+1∨k=k / 3*3+2 by omega) with e | e | e
 ·rw[← e,this] at c0;rw[Option.some.inj c0];rfl
 ·rw[← e,this] at c1;rw[Option.some.inj c1];rfl
 ·rw[← e,this] at c2;rw[Option.some.inj c2];rfl
theorem MB.c8 {w0:World}{X:Nat}{m:Mo}{lv:Nat→Bool}{R:Nat→Rw}{sz O:Nat→Nat}{C:Nat→Nat→Value}{st:Int}{us:Nat} (B:MB w0 X m lv R sz O C st us) (v:Value):MB w0 X m lv R sz O (upC C 0 8 v) st us:=by
 have e:∀ i j,¬ (i=0∧j=8)→upC C 0 8 v i j=C i j:=fun i j h=>bJ C _ h
 have e0:∀ j,j≠8→upC C 0 8 v 0 j=C 0 j:=fun j h=>e 0 j (by omega)
 have e1:∀ j,upC C 0 8 v 1 j=C 1 j:=fun j=>e 1 j (by omega)
 refine⟨B.x,?_,?_,?_,?_,fun j hj=>?_,?_,?_,?_,?_,?_,?_,?_,B.ah⟩
 ·rw[e0 0 (by decide),e0 1 (by decide),e0 2 (by decide),e0 3 (by decide),e0 4 (by decide)];exact B.md
 ·rw[e0 5 (by decide)];exact B.w
 ·rw[e0 6 (by decide)];exact B.gl
 ·rw[e0 7 (by decide)];exact B.ar
 ·rw[e _ 0 (by omega)];exact B.ae j hj
 ·rw[e1,e1,e1,e1];exact B.rd
 ·rw[e1,e1];exact B.rc
 ·rw[e1];exact B.fd
 ·rw[e0 9 (by decide)];exact B.st
 ·rw[e0 10 (by decide)];exact B.cd
 ·rw[e0 11 (by decide)];exact B.us
 ·rw[e0 12 (by decide)];exact B.sk
theorem MS.frame {w0 W W2 W4:World}{X:Nat}{m:Mo}{tag:Nat→Nat}{lv:Nat→Bool}{R:Nat→Rw}{sz O:Nat→Nat}{C:Nat→Nat→Value}{K:Value→Prop}{st:Int}{us:Nat}{L:List FrV}{kk:List (List UInt8)} (h:MS w0 W X m tag lv R sz O C K st us L kk) (hz:∀ i,10≤i→i<200→sz i=0) (hL:L.length≤20) {f nl:Nat}{fn:Wire.Fn} (hf:m.fns[f]?=some fn) (hnl:fn.locs=nl) {xs:List Value} (hxs:iC nl xs)
  (F2:Fr [] W W2) (own2:W2.ownsRow w0.heap.size 118 3 (.slice (some ⟨W.heap.size,0,none⟩) nl nl) nl xs) {ob:Obj}{v:Value}
  (own4:W4.ownsRow w0.heap.size 89 4 v (L.length+1) (L.flatMap frC++[.int .i64 f,.int .i64 0,.slice (some ⟨W.heap.size,0,none⟩) nl nl,.slice none 0 0])) (hg:(W2.alloc ob).grownBy W4 (C 0 8).ownBlock) (hwh:v.ownBlock=(C 0 8).ownBlock∨v.ownBlock=some (W2.alloc ob).heap.size) :
  W4.frozen? ⟨X,8,none⟩=false∧W4.cell? ⟨X,8,none⟩=some (C 0 8)∧∃ tag' lv' R',MS w0 (W4.setCell ⟨X,8,none⟩ v) X m tag' lv' R' sz O (upC C 0 8 v) K st us (L++[⟨f,0,.slice (some ⟨W.heap.size,0,none⟩) nl nl,.slice none 0 0⟩]) (kk++[[]])∧Kp tag tag' W (W4.setCell ⟨X,8,none⟩ v):=by
 have hX:=h.B.x
 obtain⟨l4,r4⟩:=h.fr
 have S1:=h.S.new (i:=11+2*L.length) (hz _ (by omega) (by omega)) (by omega) F2 own2 (fun g hg=>by simp only[Value.ownBlock,Option.some.injEq] at hg;omega)
 have S2:=S1.new (i:=10+2*L.length) (hz _ (by omega) (by omega)) (by omega) (Fr.refl [] W2) (World.ownsRow_nil W2 w0.heap.size 123 6) (fun g hg=>by simp[Value.ownBlock] at hg)
 have F3:Fr [] W2 (W2.alloc ob):=(Fr.refl [] W2).alloc _
 have S3:=S2.frm F3
 have n4:(4:Nat)≠10+2*L.length∧(4:Nat)≠11+2*L.length:=by omega
 have l4':up (up lv (11+2*L.length) true) (10+2*L.length) true 4=true:=by rw[aJ _ _ n4.1,aJ _ _ n4.2];exact l4
 have r4':up (up R (11+2*L.length) ⟨.slice (some ⟨W.heap.size,0,none⟩) nl nl,118,3,nl,xs⟩) (10+2*L.length) ⟨.slice none 0 0,123,6,0,[]⟩ 4=⟨C 0 8,89,4,L.length,L.flatMap frC⟩:=by rw[aJ _ _ n4.1,aJ _ _ n4.2];exact r4
 have row4:=h.S.row l4 r4
 have S4:=S3.grow (i:=4) l4' own4 (by rw[r4'];exact hg) (by rw[r4'];exact hwh)
 have S5:=S4.set (i:=0) (j:=8) (by rw[hX.2.1];decide) v
 have z8:=S4.oz (i:=0) (j:=8) (by rw[hX.2.1];decide)
 have c8:=S4.oc (i:=0) (j:=8) (by rw[hX.2.1];decide)
 have t0:=(S4.objs 0 (by rw[hX.2.1];decide)).2.2.1
 rw[hX.1] at S5 z8 c8 t0
 have sW:W.heap.size≤W2.heap.size:=F2.size
 have s3:W2.heap.size≤(W2.alloc ob).heap.size:=F3.size
 refine⟨z8,c8,_,_,_,⟨S5,((h.B.rows fun i hi=>?_).c8 v),⟨l4',?_⟩,⟨by simp[h.ln.1],by simp;omega⟩,fun i y zs hi hk=>?_⟩,?_⟩
 ·have:i≠4∧i≠10+2*L.length∧i≠11+2*L.length:=by omega
  exact⟨by rw[aJ _ _ this.1,aJ _ _ this.2.1,aJ _ _ this.2.2],by rw[aJ _ _ this.2.1,aJ _ _ this.2.2]⟩
 ·rw[bG,fS];simp[frC]
 ·have hln:=h.ln.1
  by_cases hlt:i<L.length
  ·rw[List.getElem?_append_left hlt] at hi
   rw[List.getElem?_append_left (by omega)] at hk
   have ok:=h.each i y zs hi hk
   obtain⟨fn,f1,nl,g,c,xs,f2,f3,f4,f5,f6⟩:=ok.f
   obtain⟨s1,s2,xs2,s3,s4⟩:=ok.s
   exact⟨⟨fn,f1,nl,g,c,xs,f2,f3,by rw[aJ _ _ (by omega),aJ _ _ (by omega)];exact f4,by rw[aJ _ _ (by omega),aJ _ _ (by omega),aJ _ _ (by omega)];exact f5,f6⟩,⟨by rw[aJ _ _ (by omega),aJ _ _ (by omega)];exact s1,s2,xs2,by rw[aJ _ _ (by omega),aJ _ _ (by omega),aJ _ _ (by omega)];exact s3,s4⟩⟩
  ·have hi':=(Lgs.1 hi).1
   simp at hi'
   obtain rfl:i=L.length:=by omega
   have hk2:(kk++[[]])[kk.length]?=some zs:=by rw[hln];exact hk
   simp at hi hk2
   subst hi hk2
   exact⟨⟨fn,hf,nl,W.heap.size,nl,xs,hnl,rfl,by rw[aJ _ _ (by omega),bG],by rw[aJ _ _ (by omega),aJ _ _ (by omega),bG],hxs⟩,⟨by rw[bG],by simp,[],by rw[aJ _ _ (by omega),bG];rfl,rfl⟩⟩
 ·refine Kp.trans (b:=W4) ⟨Nat.le_trans sW (Nat.le_trans s3 hg.size),fun k hk=>by rw[aI (by omega),aI (by omega),aI hk],fun k hk ht=>?_⟩ (Kp.set (by rw[t0];decide))
  refine (hg.block k (by omega) (fun e=>?_)).trans ((F3.block k (by omega) (by simp)).trans (F2.block k hk (by simp)))
  have:=row4.tg k e.symm
  omega
theorem sZ {ops:Array Oper}{rest:List Oper}{o:Oper}{a:Act}{w w':World}{Q:Exit→Act→World→Prop} (hgd:o.guard=none) (s x:Operand) (t:TypeId) (ho:o.op=.call { callee:=.builtin .append,args:=#[s,x],argTypes:=#[t,t] }) (v u r:Value) (hs:a.eval s=v) (hx:a.eval x=u)
  (hr:(Builtin.append_ #[t,t] o.type #[v,u]).run prog w=.ok r w') (h:wpList prog ops Q rest (a.put o.dst r) w'):wpList prog ops Q (o :: rest) a w:=by
 refine wpList_plain hgd fun K hK=>?_
 exact cF s x t ho v u r hs hx hr (hK _ _ h)
def bIn (w0:World) (X:Nat) (m:Mo) (sz O:Nat→Nat) (C:Nat→Nat→Value) (K:Value→Prop) (st:Int) (us:Nat) (L:List FrV) (kk:List (List UInt8)) (f:Nat) (tag:Nat→Nat) (W:World) (e:Ending) (W':World):Prop:=
 e=.returned (.tuple #[])∧∃ (tag':Nat→Nat) (lv':Nat→Bool) (R':Nat→Rw) (lvv v:Value),MS w0 W' X m tag' lv' R' sz O (upC C 0 8 v) K st us (L++[⟨f,0,lvv,.slice none 0 0⟩]) (kk++[[]])∧Kp tag tag' W W'
theorem aLy {w0 W:World}{X:Nat}{m:Mo}{tag:Nat→Nat}{lv:Nat→Bool}{R:Nat→Rw}{sz O:Nat→Nat}{C:Nat→Nat→Value}{K:Value→Prop}{st:Int}{us:Nat}{L:List FrV}{kk:List (List UInt8)} (h:MS w0 W X m tag lv R sz O C K st us L kk) (hz:∀ i,10≤i→i<200→sz i=0) (hL:L.length≤20) {f nl:Nat}{fn:Wire.Fn} (hf:m.fns[f]?=some fn) (hnl:fn.locs=nl) (hn:nl≤1000) (sp:Option Addr) (na sc:Nat) (cs:List Value) (hcs:iC na cs) (hna:na≤nl) (hsrc:0<na→∃ g,sp=some ⟨g,0,none⟩∧g<W.heap.size∧∀ j v,cs[j]?=some v→W.cell? ⟨g,j,none⟩=some v) :
  Calls prog 16 #[ptr X,.int .i64 f,.slice sp na sc] W (bIn w0 X m sz O C K st us L kk f tag W):=by
 obtain⟨iv,ivi,iv0,iv1,iv2⟩:=info_parts bAh
 obtain⟨i0,hi,hz0,hz1,hz2⟩:=info_parts bCc
 have ti:TyI 40 118 iv (.agg #[.int .i64 0,.int .i64 0,.string ⟨#[]⟩]) 3 32:=⟨underlying40,ivi,iv0,iv1,iv2,rfl,by decide,by decide⟩
 have hmk:=aLe nl (by omega)
 have hX:=h.B.x
 have c4:=h.S.oc (i:=0) (j:=4) (by rw[hX.2.1];decide)
 obtain⟨tv,pv,fv,e,-,-,h3⟩:=h.B.md.1.is
 simp only[Value.agg.injEq,Array.mk.injEq,List.cons.injEq,and_true] at e
 obtain⟨a0,cap,gf,off,hv,hc,hx0,hxx⟩:=h3
 have hfl:=(Lgs.1 hf).1
 obtain⟨rfl,hgl⟩:=hx0 (by omega)
 obtain⟨-,c1,-⟩:=hxx f fn hf
 rw[hX.1,e.2.2.2.2,hv] at c4
 have d1:=(h.S.fr.cell (p:=⟨gf,off+f*3+1,none⟩) hgl (by simp)).trans c1
 rw[hnl] at d1
 have F1:Fr [] W (W.alloc (.cells (zV nl) 118)):=(Fr.refl [] W).alloc _
 obtain⟨W2,hcp,own2,F2'⟩:=aRt ti (W.alloc (.cells (zV nl) 118)) 3 W.heap.size na nl sc sp hna w0.heap.size cs (zV nl).toList hcs.1 hcs.one (fun h0=>by
  obtain⟨g,h1,h2,h3⟩:=hsrc h0
  refine⟨_,h1,fun j v hv=>?_⟩
  rw[show (⟨g,0,none⟩:Addr).add j=⟨g,j,none⟩ by simp[Addr.add];omega]
  exact (F1.cell (p:=⟨g,j,none⟩) h2 (by simp)).trans (h3 j v hv)) (aSr W w0.heap.size nl h.S.fr.size (by omega))
 have F2:Fr [] W W2:=F1.trans' F2' (by simp)
 have own4:=vK (h.S.row h.fr.1 h.fr.2).own F2 (by simp)
 have c8:=h.S.oc (i:=0) (j:=8) (by rw[hX.2.1];decide)
 have ex:=(h.S.objs 0 (by rw[hX.2.1];decide)).2.1
 rw[hX.1] at c8 ex
 have d8:=(F2.cell (p:=⟨X,8,none⟩) ex (by simp)).trans c8
 have Fin:Hid _:=fun (W4:World) (ob:Obj) (v:Value) own hg hwh=>h.frame hz hL hf hnl (zR hcs hna) F2 own2 (W4:=W4) (ob:=ob) (v:=v) own hg hwh
 obtain⟨o8,k8,e8⟩:=cN own4
 rw[e8] at own4 d8 Fin
 have sz4:=(Nat.le_trans h.S.fr.size F2.size)
 have hL20:=hL
 generalize hll:L.length=ll at *
 have hnews:=oQ W2 #[.int .i64 f,.int .i64 0,.slice (some ⟨W.heap.size,0,none⟩) nl nl,.slice none 0 0] 89
 obtain⟨v',w3,hr4,hown',hgrow,-,hwh⟩:=run_append_own_at (P:=prog) _ w0.heap.size 42 42 89 i0 _ 4 64 underlying42 hi hz0 hz1 hz2 rfl (by decide) _ _ _ (own4.alloc _) ⟨W2.heap.size,0,none⟩ 1 1 [.int .i64 f,.int .i64 0,.slice (some ⟨W.heap.size,0,none⟩) nl nl,.slice none 0 0] rfl hnews (by intro u hu;simp at hu;rcases hu with rfl | rfl | rfl | rfl <;> rfl) (by unfold maxLen;omega) (by omega) (by simp;omega)
 obtain⟨vo,vc,rfl⟩:=iF hown'
 obtain⟨z8,p8,tag',lv',R',hM,hK⟩:=Fin.out w3 _ _ hown' hgrow hwh
 have HZ:Hid _:=AI hM hK
 have Hr:Hid _:=hr4
 have g1:(f:Int)<m.fns.length:=by omega
 clear h c1 hxx own2 F2' hsrc hcs c8 e hv hx0 hfl hf Fin hM hK hown' hgrow hwh own4 hnews hr4
 generalize m.fns.length=mn at *
 go_enter func16,ntmps16
 go_wp2_with (at_builtin;refine sZ rfl (.tmp 24) (.tmp 28) 42 rfl _ _ _ rfl rfl Hr.out ?_)
 clear Hr d8 hcp hmk
 go_wp2
 go_end0
 exact⟨rfl,tag',lv',R',_,_,HZ.out.1,HZ.out.2⟩
namespace Mach
open Wire Flow
structure SmV (v:Val):Prop where
 lo:-1000000000≤v.n
 hi:v.n≤1000000000
 sz:v.s.size≤100
def SmC (c:jY):Prop:=SmV c.v∧∀ k ∈ c.keys,k.size≤100
structure SmA (a:List (ByteArray × Val)):Prop where
 len:a.length≤30
 once:(gJ a).Nodup
 each:∀ e ∈ a,e.1.size≤100∧SmV e.2
structure SmW (w:Wd):Prop where
 recs:∀ s ∈ w.recs,s.size≤100
 nr:w.nr≤w.recs.length
 nrec:w.recs.length≤50
 draws:∀ n ∈ w.draws,-1000000000≤n∧n≤1000000000
 ndr:w.draws.length≤50
 drawn:w.drawn≤w.draws.length
 rcd:w.rcd.size≤100
 flds:∀ s ∈ w.flds,s.size≤100
 nf:w.flds.length≤100
 out:w.out.size≤1000
 globs:∀ v ∈ w.globs,SmV v
 arrs:∀ a ∈ w.arrs,SmA a
structure SmE (E:Env):Prop where
 texts:∀ s ∈ E.mo.texts,s.size≤100
 fnd:∀ p s,s.size≤100→-1≤(E.fnd p s).1∧(E.fnd p s).1≤100∧0≤(E.fnd p s).2∧(E.fnd p s).2≤100
 spl:∀ p s,s.size≤100→∀ t ∈ E.spl p s,t.size≤100
 itoa:∀ n,-1000000000≤n→n≤1000000000→(E.itoa n).size≤100
 inj:∀ i j:Nat,i≤30→j≤30→E.itoa (i:Int)=E.itoa (j:Int)→i=j
 wr:∀ n:Int,-2000000000000000000≤n→n≤2000000000000000000→E.wr n=n
end Mach
end Go.Proofs.YtgpamchpeamnfaaGreatDoor
