/-
  Texts Vp Ej Ek El Em.
-/
import Derived.Test.YtgpamchpeamnfaaGreatDoorMA
import Derived.Test.YtgpamchpeamnfaaGreatDoorM32
set_option linter.unusedSimpArgs false
set_option linter.unusedVariables false
set_option maxRecDepth 100000
set_option maxHeartbeats 40000000
open _root_.Go.Proofs.Tryz
namespace Go.Proofs.YtgpamchpeamnfaaGreatDoor
namespace Mach
open Wire Flow
def jR (E:Env):Nat→St→St→Prop
 | 0,s,s'=>s=s'
 | n+1,s,s'=>(s.st≠0∧s=s')∨(s.st=0∧∃ low fr i rest top,sT E s low fr i rest top∧jR E n (does E s low fr i rest top) s')
theorem jR.ended {E:Env}{n:Nat}{s s':St} (h:jR E n s s') (hs:s.st≠0):s'=s:=by
 cases n with
 | zero=>exact h.symm
 | succ n=>
  rcases h with ⟨-,h⟩ | ⟨h,-⟩
  ·exact h.symm
  ·exact absurd h hs
theorem tK (E:Env)(n:Nat){s:St}(hs:s.st≠0):jR E n s s:=by
 cases n with
 | zero=>rfl
 | succ n=>exact Or.inl ⟨hs,rfl⟩
theorem jR.append {E:Env}{m n:Nat}{s a b:St} (h:jR E m s a) (g:jR E n a b):jR E (m+n) s b:=by
 induction m generalizing s with
 | zero=>
  have e:s=a:=h
  subst e
  rw[Nat.zero_add]
  exact g
 | succ m ih=>
  rcases h with ⟨h1,h2⟩ | ⟨h1,low,fr,i,rest,top,h2,h3⟩
  ·subst h2
   rw[jR.ended g h1]
   exact tK E _ h1
  ·rw[show m+1+n=(m+n)+1 by omega]
   exact Or.inr ⟨h1,low,fr,i,rest,top,h2,ih h3⟩
structure aOq (m:Mo):Prop where
 three:3≤m.fns.length
 fns:∀ f,f<m.fns.length→aMx m f
 par:∀ f,f<m.fns.length→bD m f≤lO m f
theorem sD {m:Mo}{f locs:Nat}{c:List UInt8}{i:Nat}{s:Flow.Stp} (h:bH m f locs c i=.inr s):∀ sort,dH.getD s.op 0=sort→sort≠0→nF m locs sort s.a=true:=by
 unfold bH at h
 split at h
 ·split at h
  ·rename_i h0
   simp only[Sum.inr.injEq] at h
   subst h
   intro sort hs hne
   simp only at hs
   exact absurd (hs.symm.trans h0) hne
  ·split at h
   ·cases h
   ·rename_i n j hop
    obtain⟨-,-,hf⟩:=kC hop
    split at h
    ·split at h
     ·cases h
     ·simp only[Sum.inr.injEq] at h
      subst h
      intro sort hs hne
      simp only at hs ⊢
      rw[← hs];exact hf
    ·simp only[Sum.inr.injEq] at h
     subst h
     intro sort hs hne
     simp only at hs ⊢
     rw[← hs];exact hf
 ·cases h
theorem yC {m:Mo}{locs sort n:Nat} (h:nF m locs sort n=true):low sort≤n∧n<eZ m locs sort:=by
 unfold nF at h
 simpa using h
def SmF (frs:List Frm):Prop:=∀ g ∈ frs,(∀ v ∈ g.locs,SmV v)∧∀ c ∈ g.stk,SmC c
structure aMw (E:Env) (s:St):Prop where
 w:SmW s.w
 arrs:s.w.arrs.length=E.mo.arrs.toNat
 globs:s.w.globs.length=E.mo.globs.toNat
 inv:s.st=0→Inv E.mo s.frs∧SmF s.frs∧s.frs.length≤21
end Mach
open Go.RowKit
open Wire Flow Mach
structure FI (m:Mo) (fl:List (Nat × Nat)) (kk:List (List UInt8)):Prop where
 len:kk.length=fl.length∧0<fl.length
 fns:∀ i f p,fl[i]?=some (f,p)→(i=0↔f<3)∧f<m.fns.length
 on:∀ f p ks,fl[fl.length-1]?=some (f,p)→kk[fl.length-1]?=some ks→kM m f p ks
 low:∀ i f p ks,i+1<fl.length→fl[i]?=some (f,p)→kk[i]?=some ks→kM m f p (ks++[97])∧ks.length<1024
def fp (x:FrV):Nat × Nat:=(x.f,x.pl)
def GSt (w0:World) (X:Nat) (m:Mo) (sz O:Nat→Nat) (us:Nat) (W:World):Prop:=
 ∃ tag lv R C K st L kk,MS w0 W X m tag lv R sz O C K st us L kk∧(0≤st∧st≤9)∧(st=0→FI m (L.map fp) kk)
theorem ML.gst {E:Ev}{ks:List UInt8}{T0:Nat→Nat}{W0 W:World}{bs:List (Nat × Obj)} (h:ML E ks T0 W0 bs W) (hF:FI E.m ((E.fs++[E.x]).map fp) (E.kk++[ks])):GSt E.w0 E.X E.m E.sz E.O E.us W:=by
 obtain⟨C,s,K,tag,hs,⟨R,sv,h⟩,kp,hb⟩:=h
 exact⟨tag,E.lv,R,C,K,s,_,_,h,hs.1,fun _=>by simpa [fp] using hF⟩
def MV (E:Ev) (ks:List UInt8) (T0:Nat→Nat) (W0:World) (B n:Nat) (W:World):Prop:=∃ o,ML E ks T0 W0 [(B,o)] W∧A8 W B n∧W0.heap.size≤B
theorem A8.keep {W W':World}{B n:Nat} (h:A8 W B n) (e:W'.heap[B]?=W.heap[B]?):A8 W' B n:=fun i hi=>by
 have c:∀ j,W'.cell? ⟨B,j,none⟩=W.cell? ⟨B,j,none⟩:=fun j=>by unfold World.cell?;rw[e]
 have z:∀ j,W'.frozen? ⟨B,j,none⟩=W.frozen? ⟨B,j,none⟩:=fun j=>by unfold World.frozen?;rw[e]
 obtain⟨⟨d,m,s,hs,h0,h1,h2⟩,hz⟩:=h i hi
 exact⟨⟨d,m,s,hs,(c _).trans h0,(c _).trans h1,(c _).trans h2⟩,fun t=>(z _).trans (hz t)⟩
theorem MV.value {E:Ev}{ks:List UInt8}{k:UInt8}{T0:Nat→Nat}{W0 W:World}{B n:Nat} (h:MV E (ks++[k]) T0 W0 B n W) (hk:k≠107):Calls prog 57 #[ptr E.X] W fun e W'=>∃ (d m:Int) (s:ByteArray),e=.returned (vlV d m s)∧aAp k d m s∧MV E ks T0 W0 B n W':=by
 obtain⟨o,M,tx,hB⟩:=h
 have e1:W.heap[B]?=some o:=by
  obtain⟨C,s,K,tag,hs,hM,kp,hb⟩:=M
  exact (hb (B,o) (by simp)).2.2
 refine (M.value hk).mono fun e W' ⟨d,m,s,he,hs,M'⟩=>⟨d,m,s,he,hs,o,M',tx.keep ?_,hB⟩
 obtain⟨C,s,K,tag,hs,hM,kp,hb⟩:=M'
 rw[e1]
 exact (hb (B,o) (by simp)).2.2
theorem MV.set {E:Ev}{ks:List UInt8}{T0:Nat→Nat}{W0 W:World}{B n:Nat} (h:MV E ks T0 W0 B n W) {i:Nat} (hi:i<n) {d m:Int}{s:ByteArray} (hs:SzN m s):MV E ks T0 W0 B n (((W.setCell ⟨B,i*3,none⟩ (.int .i64 d)).setCell ⟨B,i*3+1,none⟩ (.int .i64 m)).setCell ⟨B,i*3+2,none⟩ (.string s)):=by
 obtain⟨o,⟨C,st,K,tag,hs',hM,kp,hb⟩,tx,hB⟩:=h
 have ff:Fr [B] W (((W.setCell ⟨B,i*3,none⟩ (.int .i64 d)).setCell ⟨B,i*3+1,none⟩ (.int .i64 m)).setCell ⟨B,i*3+2,none⟩ (.string s)):=(((Fr.refl _ _).setCell (p:=⟨B,i*3,none⟩) (.inl (by simp)) _).setCell (p:=⟨B,i*3+1,none⟩) (.inl (by simp)) _).setCell (p:=⟨B,i*3+2,none⟩) (.inl (by simp)) _
 obtain⟨b1,b2,b3⟩:=hb (B,o) (by simp)
 have hl:=Nll b1 ff.size
 obtain⟨ob,hob⟩:∃ ob,(((W.setCell ⟨B,i*3,none⟩ (.int .i64 d)).setCell ⟨B,i*3+1,none⟩ (.int .i64 m)).setCell ⟨B,i*3+2,none⟩ (.string s)).heap[B]?=some ob:=⟨_,Array.getElem?_eq_getElem hl⟩
 refine⟨ob,⟨C,st,K,tag,hs',hM.w6 b2 ff,kp.w6 ff hB,fun x hx=>?_⟩,fun k hk=>?_,hB⟩
 ·simp at hx
  subst hx
  exact⟨hl,b2,hob⟩
 ·obtain⟨⟨d',m',s',hs2,h0,h1,h2⟩,hz⟩:=tx k hk
  refine⟨?_,fun t=>by rw[wfz,wfz,wfz];exact hz t⟩
  by_cases e:k=i
  ·subst e
   have a1:(W.setCell ⟨B,k*3,none⟩ (.int .i64 d)).cell? ⟨B,k*3+1,none⟩=some (.int .i64 m'):=(aA (by omega)).trans h1
   have a2:((W.setCell ⟨B,k*3,none⟩ (.int .i64 d)).setCell ⟨B,k*3+1,none⟩ (.int .i64 m)).cell? ⟨B,k*3+2,none⟩=some (.string s'):=(aA (by omega)).trans ((aA (by omega)).trans h2)
   exact⟨d,m,s,hs,by rw[aA (by omega),aA (by omega)];exact aP h0,by rw[aA (by omega)];exact aP a1,aP a2⟩
  ·exact⟨d',m',s',hs2,by rw[aA (by omega),aA (by omega),aA (by omega)];exact h0,by rw[aA (by omega),aA (by omega),aA (by omega)];exact h1,by rw[aA (by omega),aA (by omega),aA (by omega)];exact h2⟩
theorem A8.list {W:World}{B n:Nat} (h:A8 W B n):∃ cs,iC n cs∧∀ j v,cs[j]?=some v→W.cell? ⟨B,j,none⟩=some v:=by
 have key:∀ j,j<n*3→∃ v,W.cell? ⟨B,j,none⟩=some v:=fun j hj=>by
  obtain⟨⟨d,m,s,-,h0,h1,h2⟩,-⟩:=h (j / 3) (by omega)
  rcases (show j=j / 3*3∨j=j / 3*3+1∨j=j / 3*3+2 by omega) with e | e | e
  ·rw[e];exact⟨_,h0⟩
  ·rw[e];exact⟨_,h1⟩
  ·rw[e];exact⟨_,h2⟩
 have g:∀ j,j<n*3→((List.range (n*3)).map fun j=>(W.cell? ⟨B,j,none⟩).getD undef)[j]?=W.cell? ⟨B,j,none⟩:=fun j hj=>by
  rw[List.getElem?_map,List.getElem?_range hj]
  obtain⟨v,hv⟩:=key j hj
  simp[hv]
 refine⟨(List.range (n*3)).map fun j=>(W.cell? ⟨B,j,none⟩).getD undef,⟨by simp,fun i hi=>?_⟩,fun j v hv=>?_⟩
 ·obtain⟨⟨d,m,s,hs,h0,h1,h2⟩,-⟩:=h i hi
  exact⟨d,m,s,hs,by rw[g _ (by omega)];exact h0,by rw[g _ (by omega)];exact h1,by rw[g _ (by omega)];exact h2⟩
 ·have hj:=(Lgs.1 hv).1
  simp at hj
  rw[← g j hj];exact hv
theorem aXe (W:World)(n:Nat):A8 (W.alloc (.cells (zV n) 118)) W.heap.size n:=fun i hi=>by
 have hm:=wan W (.cells (zV n) 118)
 have c:∀ t,t<3→(W.alloc (.cells (zV n) 118)).cell? ⟨W.heap.size,i*3+t,none⟩=[Value.int .i64 0,.int .i64 0,.string ⟨#[]⟩][t]?:=fun t ht=>by
  unfold World.cell?;rw[hm]
  show (zV n)[i*3+t]?=_
  rw[← Array.getElem?_toList]
  exact aZx hi ht
 exact⟨⟨0,0,⟨#[]⟩,⟨by decide,by decide,by decide⟩,c 0 (by decide),c 1 (by decide),c 2 (by decide)⟩,fun t=>by unfold World.frozen?;rw[hm];simp⟩
theorem bCz (E:Ev)(r top:List UInt8)(a:Nat)(fn:Wire.Fn)(tag:Nat→Nat)(W:World)(h:MT E (r++top) tag W)(hst:0≤E.st∧E.st≤9)(hz:∀ i,10≤i→i<200→E.sz i=0)(hf:E.m.fns[a]?=some fn){np nl:Nat}(hnp:fn.params=np)(hnl:fn.locs=nl)(hn:nl≤1000)(hpl:np≤nl)(htl:top.length=np)(htk:∀ k ∈ top,k≠107)(hF:FI E.m ((E.fs++[E.x]).map fp++[(a,0)]) (E.kk++[r]++[[]])) :
  Calls prog 87 #[ptr E.X,.int .i64 a] W fun e W'=>e=.returned (.tuple #[])∧GSt E.w0 E.X E.m E.sz E.O E.us W':=by
 have hmk:=aLe np (by omega)
 have M0:=ML.start h hst
 obtain⟨tv,pv,fv,e,-,-,h3⟩:=h.md.is
 simp only[Value.agg.injEq,Array.mk.injEq,List.cons.injEq,and_true] at e
 obtain⟨a0,cap,gf,off,hv,hc,hx0,hxx⟩:=h3
 have hfl:=(Lgs.1 hf).1
 obtain⟨rfl,hgl⟩:=hx0 (by omega)
 obtain⟨c0,-,-⟩:=hxx a fn hf
 have c4:=M0.low (i:=4) (by decide)
 rw[e.2.2.2.2,hv] at c4
 have d1:=(M0.fr.cell (p:=⟨gf,off+a*3,none⟩) hgl (by simp)).trans c0
 rw[hnp] at d1
 have V0:MV E (r++top) tag W W.heap.size np (W.alloc (.cells (zV np) 118)):=⟨_,M0.new _,aXe W np,Nat.le_refl _⟩
 have g1:(a:Int)<E.m.fns.length:=by omega
 obtain⟨g,c,g',c',nl2,F⟩:=h.fm
 obtain⟨jf,hj⟩:∃ j,E.fs.length=j:=⟨_,rfl⟩
 have hj20:jf≤20:=by have:=F.n21;omega
 have HF:Hid _:=AI hF (AI hf hz)
 have HG:Hid _:=htk
 clear h M0 hxx c0 e hv hx0 hfl hf hF hz htk
 generalize hmn:E.m.fns.length=mn at *
 go_enter func87,ntmps87
 go_wp2
 generalize W.alloc _=W1 at *
 clear c4 d1 hmk
 go_loopw [6] (fun iv wr=>∃ k:Nat,k≤np∧iv=.int .i64 ((k:Int)-1)∧MV E (r++top.take k) tag W W.heap.size np wr) (fun iv _=>(intOf iv+1).toNat)
 case atStart=>exact⟨np,by omega,rfl,by rw[List.take_of_length_le (by omega)];exact V0⟩
 case round=>
  clear V0
  obtain⟨k,hk,rfl,V1⟩:=hrel
  by_cases h0:k=0
  ·subst h0
   rw[List.take_zero,List.append_nil] at V1
   have g2:¬ ((0:Int)≤((0:Nat):Int)-1):=by omega
   obtain⟨ob,M,va,-⟩:=V1
   have xk:=M.mc.2.1
   have f8:=(M.fm F).2
   rw[hj] at f8
   by_cases hd:jf=20
   ·have g3:(20:Int)<(jf:Int)+1:=by omega
    clear hd
    obtain⟨C,s,K,tg,hs,hM,kp,hb⟩:=M
    have he:=bAk _ r tg wr 9 hM (by decide)
    clear HF HG va
    go_wp2_with fail
    refine he.mono ?_
    rintro e W2 ⟨rfl,tg2,⟨R2,sv2,h2⟩,-⟩
    clear he hM kp hb xk f8
    go_wp2
    refine bodyPost_ret (v:=.tuple #[]) (by simp[results,results87,go_sem]) rfl ?_
    exact⟨rfl,tg2,_,R2,_,_,9,_,_,h2,by decide,fun q=>absurd q (by decide)⟩
   ·obtain⟨cs,hcs,hcc⟩:=va.list
    obtain⟨hF,hf,hz⟩:=HF.out
    obtain⟨C,s,K,tg,hs,⟨R,sv,h2⟩,kp,hb⟩:=M
    have g3:¬ ((20:Int)<(jf:Int)+1):=by omega
    have hen:=aLy h2 hz (by simp;omega) hf hnl hn (some ⟨W.heap.size,0,none⟩) np np cs hcs hpl (fun _=>⟨W.heap.size,rfl,(hb (W.heap.size,ob) (by simp)).1,hcc⟩)
    have HH:Hid _:=AI hs.1 hF
    clear HF HG va h2 hb kp hcc hF hs hf hz
    go_wp2_with fail
    refine hen.mono ?_
    rintro e W2 ⟨rfl,tag',lv',R',lvv,v,h3,-⟩
    clear hen xk f8
    go_wp2
    go_end0
    refine⟨rfl,tag',lv',R',_,_,_,_,_,h3,HH.out.1,fun _=>?_⟩
    have:=HH.out.2
    simpa [fp] using this
  ·obtain⟨q,rfl⟩:∃ q,k=q+1:=⟨k-1,by omega⟩
   have g2:(0:Int)≤(q:Int):=by omega
   have hq:q<top.length:=by omega
   rw[← List.take_append_getElem hq,← List.append_assoc] at V1
   have hk2:=HG.out top[q] (List.getElem_mem hq)
   rw[show ((q+1:Nat):Int)-1=q by omega]
   go_wp2_with fail
   refine (V1.value hk2).mono ?_
   rintro e W2 ⟨d,m,s,rfl,hv,V2⟩
   have V3:=V2.set (i:=q) (d:=d) (by omega) hv.1
   obtain⟨-,-,va,-⟩:=V2
   obtain⟨⟨d2,m2,s2,-,x0,x1,x2⟩,vz⟩:=va q (by omega)
   have z0:=vz 0
   have z1:=vz 1
   have z2:=vz 2
   simp only[Nat.add_zero] at z0
   have g3:(q:Int)<np:=by omega
   clear V1 va vz hk2
   go_wp2
   go_roundw
   case rel=>exact⟨q,by omega,rfl,V3⟩
   case measure=>simp[intOf] <;> omega
def MQ (E:Ev) (L:List FrV) (kk:List (List UInt8)) (tag:Nat→Nat) (W:World):Prop:=∃ R,MS E.w0 W E.X E.m tag E.lv R E.sz E.O E.C E.K E.st E.us L kk
def MKQ (E:Ev) (L:List FrV) (kk:List (List UInt8)) (tag:Nat→Nat) (W W':World):Prop:=∃ tag',MQ E L kk tag' W'∧Kp tag tag' W W'
def MWQ (E:Ev) (L:List FrV) (kk:List (List UInt8)) (tag:Nat→Nat) (W W':World):Prop:=∃ C',(∀ j,C' 0 j=E.C 0 j)∧MKQ { E with C:=C' } L kk tag W W'
section
variable {E : Ev} {L : List FrV} {kk : List (List UInt8)} {tag : Nat → Nat} {W W' : World}
theorem MWQ.of (h:MKQ E L kk tag W W'):MWQ E L kk tag W W':=⟨E.C,fun _=>rfl,h⟩
theorem MQ.frm (h:MQ E L kk tag W)(hf:Fr [] W W'):MQ E L kk (aM tag W.heap.size 6) W':=by
 obtain⟨R,h⟩:=h
 exact⟨R,(h.S.re (fun k hk=>aI hk)).frm hf,h.B,h.fr,h.ln,h.each⟩
theorem MQ.mk (h:MQ E L kk tag W)(hf:Fr [] W W'):MKQ E L kk tag W W':=⟨_,h.frm hf,(Kp.refl tag W).frm hf⟩
theorem MQ.fr (h:MQ E L kk tag W):Fr [] E.w0 W:=by
 obtain⟨R,h⟩:=h
 exact h.S.fr
theorem MQ.wc (h:MQ E L kk tag W){j:Nat}(hj:j<7):W.cell? ⟨E.O 1,j,none⟩=some (E.C 1 j)∧W.frozen? ⟨E.O 1,j,none⟩=false:=by
 obtain⟨R,h⟩:=h
 have hX:=h.B.x.2.2
 exact⟨h.S.oc (by omega),h.S.oz (by omega)⟩
theorem MQ.wt (h:MQ E L kk tag W):tag (E.O 1)=1∧E.O 1<W.heap.size:=by
 obtain⟨R,h⟩:=h
 have hX:=h.B.x.2.2
 have:=h.S.objs 1 (by omega)
 exact⟨this.2.2.1,this.2.1⟩
end
def bIf (E:Ev) (Lf:List FrV) (kk:List (List UInt8)) (tag:Nat→Nat) (W:World) (e:Ending) (W':World):Prop:=(∃ b:Bool,e=.returned (.bool b))∧MWQ E Lf kk tag W W'
theorem bFd (E:Ev)(Lf:List FrV)(kk:List (List UInt8))(tag:Nat→Nat)(W:World)(h:MQ E Lf kk tag W):Calls prog 63 #[ptr (E.O 1)] W (bIf E Lf kk tag W):=by
 have c4:=(h.wc (j:=4) (by decide)).1
 have c0:=(h.wc (j:=0) (by decide)).1
 have ht:=h.wt
 have fr:=h.fr
 obtain⟨R,h2⟩:=id h
 obtain⟨nr,nd,k,q,sc,e4,hk,e5,hq⟩:=h2.B.rd
 obtain⟨o,c,ed,hc,hn,hcell⟩:=sc.r
 have hX:=h2.B.x.2.2
 rw[e4] at c4
 rw[ed] at c0
 have HZ:Hid _:=fun (_:Unit)=>h.mk ((Fr.refl [] W).drew)
 by_cases hd:nr≤k
 ·have g1:(nr:Int)≤k:=by omega
  clear h h2 hcell sc ed fr e4
  go_enter func63,ntmps63
  go_wp2
  go_region
  go_wp2
  go_ret
  exact⟨⟨false,rfl⟩,MWQ.of (HZ.out ())⟩
 ·have g1:¬ ((nr:Int)≤k):=by omega
  obtain⟨g,off,rfl,hg,hx⟩:=hcell (by omega)
  obtain⟨s,hs,hx⟩:=hx k (by omega)
  obtain⟨WD,hWD⟩:=eX (W.drew)
  obtain⟨W2,hW2⟩:=eX (WD.drew)
  have FD:Fr [] W WD:=by rw[← hWD];exact (Fr.refl [] W).drew
  have F2:Fr [] W W2:=by rw[← hW2];exact FD.drew
  have T2:=h.frm F2
  obtain⟨R2,h3⟩:=id T2
  have tO:aM tag W.heap.size 6 (E.O 1)=1:=by rw[aI ht.2,ht.1]
  obtain⟨W3,hW3⟩:=eX (W2.setCell ⟨E.O 1,2,none⟩ (.string s))
  have S3:=h3.S.set (i:=1) (j:=2) (by omega) (.string s)
  rw[hW3] at S3
  have K3:Kp tag (aM tag W.heap.size 6) W W3:=((Kp.refl tag W).frm F2).trans (by rw[← hW3];exact Kp.set (by rw[tO];decide))
  have Fin:Hid _:=fun (L:List ByteArray) (v:Value) (W4:World) (hL:OwS W3 L v W4) (hl:L.length≤s.size+1) (hb:∀ x ∈ L,x.size≤s.size)=>(show
    (W4.cell? ⟨E.O 1,3,none⟩=some (E.C 1 3)∧W4.frozen? ⟨E.O 1,3,none⟩=false)∧((W4.setCell ⟨E.O 1,3,none⟩ v).cell? ⟨E.O 1,4,none⟩=some (.int .i64 k)∧(W4.setCell ⟨E.O 1,3,none⟩ v).frozen? ⟨E.O 1,4,none⟩=false)∧MWQ E Lf kk tag W ((W4.setCell ⟨E.O 1,3,none⟩ v).setCell ⟨E.O 1,4,none⟩ (.int .i64 ((k:Int)+1))) from by
   have S4:=S3.refield hL h3.B.fd.1
   have S5:=(S4.set (i:=1) (j:=3) (by omega) v).set (i:=1) (j:=4) (by omega) (.int .i64 ((k:Int)+1))
   have y4:=(S4.set (i:=1) (j:=3) (by omega) v).oc (i:=1) (j:=4) (by omega)
   have y3:=S4.oc (i:=1) (j:=3) (by omega)
   refine⟨⟨y3,S4.oz (i:=1) (j:=3) (by omega)⟩,⟨y4.trans (by rw[← e4];rfl),(S4.set (i:=1) (j:=3) (by omega) v).oz (i:=1) (j:=4) (by omega)⟩,?_⟩
   have MM:=h3.world S5 (fun i j hi=>by rw[bJ _ _ (by omega),bJ _ _ (by omega),bJ _ _ (by omega)]) (fun i hi=>aJ _ _ hi) ⟨nr,nd,k+1,q,sc,rfl,by omega,e5,hq⟩ ⟨⟨s,rfl,hs⟩,h3.B.rc.2⟩ ⟨L,by omega,fun x hx=>Nat.le_trans (hb x hx) hs,rfl⟩
   refine⟨upC (upC (upC E.C 1 2 (.string s)) 1 3 v) 1 4 (.int .i64 ((k:Int)+1)),fun j=>rfl,aM (aM tag W.heap.size 6) W3.heap.size 5,⟨_,MM⟩,?_⟩
   have t5:aM (aM tag W.heap.size 6) W3.heap.size 5 (E.O 1)≠6:=by rw[aI (Nll ht.2 K3.size),tO];decide
   exact ((K3.trans (Kp.of_fr hL.fr (fun k hk=>aI hk))).trans (Kp.set t5)).trans (Kp.set t5))
  have HC:Hid _:=fun (_:Unit)=>qX s hs W3
  have w2:=T2.wc (j:=2) (by decide)
  have w0:=(T2.wc (j:=0) (by decide)).1
  have w4:=(T2.wc (j:=4) (by decide)).1
  rw[ed] at w0
  rw[e4] at w4
  obtain⟨⟨s2,e2,-⟩,-⟩:=h2.B.rc
  rw[e2] at w2
  have x2:W2.cell? ⟨g,off+k,none⟩=some (.string s):=(F2.cell (p:=⟨g,off+k,none⟩) (Nll hg fr.size) (by simp)).trans ((fr.cell (p:=⟨g,off+k,none⟩) hg (by simp)).trans hx)
  obtain⟨w2,z2⟩:=w2
  have y2:W3.cell? ⟨E.O 1,2,none⟩=some (.string s):=by rw[← hW3];exact aP w2
  have g2:(k:Int)<nr:=by omega
  have g4:(k:Int)+1≤1048576:=by omega
  obtain⟨-,L0,-,-,r5⟩:=h2.B.fd
  have own5:=(h2.S.row h2.B.fd.1 r5).own
  obtain⟨o3,c3,e3⟩:=cN own5
  rw[e3] at Fin
  clear h h2 h3 sc ed fr e4 S3 K3 tO ht FD F2 T2 HZ hX hc hx own5 e3 r5 e2 e5 hs
  have dcell:∀ a,WD.cell? a=W2.cell? a:=fun a=>by rw[← hW2];rfl
  have dfro:∀ a,WD.frozen? a=W2.frozen? a:=fun a=>by rw[← hW2];rfl
  have d2:=(dcell _).trans w2
  have dz2:=(dfro _).trans z2
  have d0:=(dcell _).trans w0
  have d4:=(dcell _).trans w4
  have dx:=(dcell _).trans x2
  clear dcell dfro
  go_enter func63,ntmps63
  go_wp2
  go_region
  go_wp2
  go_region
  go_wp2_with fail
  refine (HC.out ()).mono ?_
  rintro e W4 ⟨v,L,rfl,hL,hl,hb⟩
  obtain⟨o6,c6,e6⟩:=cN hL.own
  generalize hln:L.length=ln at e6
  subst e6
  obtain⟨⟨p3,pz3⟩,⟨p4,pz4⟩,Z⟩:=Fin.out L _ W4 hL hl hb
  have HZ:Hid _:=Z
  clear Fin HC hL hl hb Z hln
  obtain⟨W5,hW5⟩:=eX (W4.setCell ⟨E.O 1,3,none⟩ (.slice o6 ln c6))
  rw[hW5] at p4 pz4 HZ
  clear d2 dz2 d0 d4 dx x2 w0 w4 w2 z2 y2 hWD hW2 hW3
  go_wp2
  go_ret
  exact⟨⟨true,rfl⟩,HZ.out⟩
theorem MS.bare {w0 W:World}{X:Nat}{m:Mo}{tag:Nat→Nat}{lv:Nat→Bool}{R:Nat→Rw}{sz O:Nat→Nat}{C:Nat→Nat→Value}{K:Value→Prop}{st:Int}{us:Nat}{L:List FrV}{kk:List (List UInt8)} (h:MS w0 W X m tag lv R sz O C K st us L kk) :
  ∃ tag' R',MS w0 (W.setCell ⟨X,8,none⟩ (.slice none 0 0)) X m tag' lv R' sz O (upC C 0 8 (.slice none 0 0)) K st us [] []∧Kp tag tag' W (W.setCell ⟨X,8,none⟩ (.slice none 0 0)):=by
 have hX:=h.B.x
 obtain⟨l4,-⟩:=h.fr
 have z4:sz 4=0:=by
  rcases Nat.eq_zero_or_pos (sz 4) with h0 | h0
  ·exact h0
  ·exact (h.S.far 4 l4 h0).elim
 have S1:=h.S.new (i:=4) z4 (by decide) (Fr.refl [] W) (World.ownsRow_nil W w0.heap.size 89 4) (fun g hg=>by simp[Value.ownBlock] at hg)
 rw[show up lv 4 true=lv from funext fun i=>by
  by_cases e:i=4
  ·subst e;rw[bG,l4]
  ·rw[aJ _ _ e]] at S1
 have S2:=S1.set (i:=0) (j:=8) (by rw[hX.2.1];decide) (.slice none 0 0)
 have t0:=S1.objs 0 (by rw[hX.2.1];decide)
 rw[hX.1] at S2 t0
 refine⟨_,_,⟨S2,(h.B.rows fun i hi=>⟨aJ _ _ (by omega),rfl⟩).c8 _,⟨l4,by rw[bG,fS];rfl⟩,by simp,fun i x ks hi=>by simp at hi⟩,?_⟩
 exact (Kp.of_fr (Fr.refl [] W) (fun k hk=>aI hk)).trans (Kp.set (by rw[t0.2.2.1];decide))
theorem MS.setSt {w0 W:World}{X:Nat}{m:Mo}{tag:Nat→Nat}{lv:Nat→Bool}{R:Nat→Rw}{sz O:Nat→Nat}{C:Nat→Nat→Value}{K:Value→Prop}{st:Int}{us:Nat}{L:List FrV}{kk:List (List UInt8)} (h:MS w0 W X m tag lv R sz O C K st us L kk) (s:Int):MS w0 (W.setCell ⟨X,9,none⟩ (.int .i64 s)) X m tag lv R sz O (upC C 0 9 (.int .i64 s)) K s us L kk:=by
 have hX:=h.B.x
 have S:=h.S.set (i:=0) (j:=9) (by rw[hX.2.1];decide) (.int .i64 s)
 rw[hX.1] at S
 exact⟨S,h.B.sts s,by rw[bJ _ _ (by decide)];exact h.fr,h.ln,h.each⟩
theorem bEw (E:Ev)(ks:List UInt8)(tag:Nat→Nat)(W:World)(h:MT E ks tag W)(hst:0≤E.st∧E.st≤9)(hz:∀ i,10≤i→i<200→E.sz i=0)(h3:3≤E.m.fns.length)(hl:∀ fn ∈ E.m.fns,0≤fn.locs∧fn.locs≤1000)(hf:((E.fs++[E.x]).map fp)[0]?.any (fun x=>decide (x.1<3))=true)(hF:∀ f,f<3→FI E.m [(f,0)] [[]]) :
  Calls prog 88 #[ptr E.X] W fun e W'=>e=.returned (.tuple #[])∧GSt E.w0 E.X E.m E.sz E.O E.us W':=by
 have hm:prog.follows Departure.mixedOrders=true:=by kernel_rfl
 obtain⟨g,c,g',c',nl,F⟩:=h.fm
 have M:=ML.start h hst
 have x8:=(M.fm F).2
 have x5:=M.mc.1
 obtain⟨R,sv,h⟩:=h
 obtain⟨l4,r4⟩:=h.fr
 have r4':=r4
 rw[F.f8] at r4'
 have own:=(h.S.row l4 r4').own
 simp only[Lla,List.length_cons,List.length_nil,Nat.zero_add] at own
 obtain⟨y,ys,hy⟩:∃ y ys,E.fs++[{ E.x with sv:=sv }]=y :: ys:=by
  cases E.fs with
  | nil=>exact⟨_,_,rfl⟩
  | cons a b=>exact⟨a,_,rfl⟩
 have f0:W.cell? ⟨g,0,none⟩=some (.int .i64 y.f):=bV own (show ((E.fs++[{ E.x with sv:=sv }]).flatMap frC)[0]?=some (.int .i64 y.f) by rw[hy];rfl)
 have hyf:y.f<3:=by
  have e:((E.fs++[E.x]).map fp)[0]?=some (fp y):=by
   have:(E.fs++[E.x]).map fp=(E.fs++[{ E.x with sv:=sv }]).map fp:=by simp[fp]
   rw[this,hy];rfl
  rw[e] at hf
  simpa [fp] using hf
 have hX:=h.B.x
 have z8:=h.S.oz (i:=0) (j:=8) (by rw[hX.2.1];decide)
 rw[hX.1] at z8
 obtain⟨tag',R',hN,kN⟩:=h.bare
 have hxx:E.X≠g:=by
  intro e
  have a:=(h.S.row l4 r4').tg g rfl
  have b:=(h.S.objs 0 (by rw[hX.2.1];decide)).2.2.1
  rw[hX.1,e] at b
  omega
 obtain⟨W1,hW1⟩:=eX (W.setCell ⟨E.X,8,none⟩ (.slice none 0 0))
 rw[hW1] at hN
 have w5:W1.cell? ⟨E.X,5,none⟩=some (ptr (E.O 1)):=by rw[← hW1,aA (by decide)];exact x5
 have c9:=hN.S.oc (i:=0) (j:=9) (by rw[hX.2.1];decide)
 have z9:=hN.S.oz (i:=0) (j:=9) (by rw[hX.2.1];decide)
 rw[hX.1,hN.B.st] at c9
 rw[hX.1] at z9
 have HE:Hid _:=AI (hN.setSt 1) (AI hN (AI hz (AI hF hl)))
 have HN:Hid _:=fun (_:Unit)=>bFd { E with C:=upC E.C 0 8 (.slice none 0 0) } [] [] tag' W1 ⟨R',hN⟩
 clear h hN kN F own r4 r4' hf M hy hX
 generalize E.fs.length=jf at *
 go_enter func88,ntmps88
 by_cases e2:y.f=2
 ·have g2:((y.f:Int)==2)=true:=by simp;omega
  clear HN w5
  go_wp2
  refine bodyPost_ret (v:=.tuple #[]) (by simp[results,results88,go_sem]) rfl ?_
  exact⟨rfl,_,_,_,_,_,1,_,_,HE.out.1,by decide,fun q=>absurd q (by decide)⟩
 ·have g2:((y.f:Int)==2)=false:=by simp;omega
  go_wp2_with fail
  refine (HN.out ()).mono ?_
  rintro e W2 ⟨⟨bv,rfl⟩,C',hC,tag2,⟨R2,h2⟩,-⟩
  obtain⟨-,-,hz,hF,hl⟩:=HE.out
  have ent:∀ f,f<3→Calls prog 16 #[ptr E.X,.int .i64 (f:Nat),.slice none 0 0] W2 fun e W'=>e=.returned (.tuple #[])∧GSt E.w0 E.X E.m E.sz E.O E.us W':=fun f hf=>by
   have hfl:f<E.m.fns.length:=by omega
   have hb:=hl E.m.fns[f] (List.getElem_mem hfl)
   refine (aLy h2 hz (by simp) (Lge hfl) (nl:=E.m.fns[f].locs.toNat) (by omega) (by omega) none 0 0 [] ⟨rfl,fun i hi=>by omega⟩ (Nat.zero_le _) (fun q=>by omega)).mono ?_
   rintro e W3 ⟨rfl,tag3,lv3,R3,lvv,v,h3,-⟩
   exact⟨rfl,tag3,lv3,R3,_,_,_,_,_,h3,hst,fun _=>by simpa [fp] using hF f hf⟩
  have e1:=ent 1 (by decide)
  have e2':=ent 2 (by decide)
  clear ent h2 HE HN hF hl hz w5 c9 z9 x8 x5 z8 f0
  cases bv
  ·go_wp2_with fail
   refine e2'.mono ?_
   rintro e W3 ⟨rfl,Z⟩
   have HZ:Hid _:=Z
   clear Z e1 e2'
   go_wp2
   go_end0
   exact⟨rfl,HZ.out⟩
  ·go_wp2_with fail
   refine e1.mono ?_
   rintro e W3 ⟨rfl,Z⟩
   have HZ:Hid _:=Z
   clear Z e1 e2'
   go_wp2
   refine bodyPost_ret (v:=.tuple #[]) (by simp[results,results88,go_sem]) rfl ?_
   exact⟨rfl,HZ.out⟩
theorem MS.cutF {w0 W:World}{X:Nat}{m:Mo}{tag:Nat→Nat}{lv:Nat→Bool}{R:Nat→Rw}{sz O:Nat→Nat}{C:Nat→Nat→Value}{K:Value→Prop}{st:Int}{us:Nat}{fs:List FrV}{x:FrV}{kk:List (List UInt8)}{ks:List UInt8} (h:MS w0 W X m tag lv R sz O C K st us (fs++[x]) (kk++[ks])) {g c:Nat} (h8:C 0 8=.slice (some ⟨g,0,none⟩) (fs.length+1) c) :
  W.frozen? ⟨X,8,none⟩=false∧∃ R',MS w0 (W.setCell ⟨X,8,none⟩ (.slice (some ⟨g,0,none⟩) fs.length c)) X m tag lv R' sz O (upC C 0 8 (.slice (some ⟨g,0,none⟩) fs.length c)) K st us fs kk∧tag X=0:=by
 have hX:=h.B.x
 obtain⟨l4,r4⟩:=h.fr
 have r4':=r4
 rw[h8] at r4'
 simp only[Lla,List.length_cons,List.length_nil,Nat.zero_add] at r4'
 have S1:=h.S.cut l4 r4' (n':=fs.length) (by omega)
 have S2:=S1.set (i:=0) (j:=8) (by rw[hX.2.1];decide) (.slice (some ⟨g,0,none⟩) fs.length c)
 have t0:=(h.S.objs 0 (by rw[hX.2.1];decide)).2.2.1
 have z8:=h.S.oz (i:=0) (j:=8) (by rw[hX.2.1];decide)
 rw[hX.1] at S2 t0 z8
 have hln:=h.ln
 simp at hln
 have et:((fs++[x]).flatMap frC).take (fs.length*4)=fs.flatMap frC:=by
  rw[List.flatMap_append,List.take_left' (by rw[aYy])]
 rw[et] at S2
 refine⟨z8,_,⟨S2,(h.B.rows fun i hi=>⟨aJ _ _ (by omega),rfl⟩).c8 _,⟨l4,by rw[bG,fS]⟩,by omega,fun i y zs hi hz=>?_⟩,t0⟩
 have hi':=(Lgs.1 hi).1
 have o:=h.each i y zs (by rw[List.getElem?_append_left hi'];exact hi) (by rw[List.getElem?_append_left (by omega)];exact hz)
 exact⟨by rw[aJ _ _ (by omega)];exact o.f,by rw[aJ _ _ (by omega)];exact o.s⟩
theorem MS.setCd {w0 W:World}{X:Nat}{m:Mo}{tag:Nat→Nat}{lv:Nat→Bool}{R:Nat→Rw}{sz O:Nat→Nat}{C:Nat→Nat→Value}{K:Value→Prop}{st:Int}{us:Nat}{L:List FrV}{kk:List (List UInt8)} (h:MS w0 W X m tag lv R sz O C K st us L kk) (s:Int):MS w0 (W.setCell ⟨X,10,none⟩ (.int .i64 s)) X m tag lv R sz O (upC C 0 10 (.int .i64 s)) K st us L kk:=by
 have hX:=h.B.x
 have S:=h.S.set (i:=0) (j:=10) (by rw[hX.2.1];decide) (.int .i64 s)
 rw[hX.1] at S
 have B:=h.B
 have e:∀ i j,¬ (i=0∧j=10)→upC C 0 10 (.int .i64 s) i j=C i j:=fun i j h=>bJ C _ h
 have e0:∀ j,j≠10→upC C 0 10 (.int .i64 s) 0 j=C 0 j:=fun j h=>e 0 j (by omega)
 have e1:∀ j,upC C 0 10 (.int .i64 s) 1 j=C 1 j:=fun j=>e 1 j (by omega)
 refine⟨S,⟨B.x,?_,?_,?_,?_,fun j hj=>?_,?_,?_,?_,?_,⟨s,fS _ _ _ _⟩,?_,?_,B.ah⟩,by rw[e0 8 (by decide)];exact h.fr,h.ln,h.each⟩
 ·rw[e0 0 (by decide),e0 1 (by decide),e0 2 (by decide),e0 3 (by decide),e0 4 (by decide)];exact B.md
 ·rw[e0 5 (by decide)];exact B.w
 ·rw[e0 6 (by decide)];exact B.gl
 ·rw[e0 7 (by decide)];exact B.ar
 ·rw[e _ 0 (by omega)];exact B.ae j hj
 ·rw[e1,e1,e1,e1];exact B.rd
 ·rw[e1,e1];exact B.rc
 ·rw[e1];exact B.fd
 ·rw[e0 9 (by decide)];exact B.st
 ·rw[e0 11 (by decide)];exact B.us
 ·rw[e0 12 (by decide)];exact B.sk
def aZs (E:Ev) (e:Ending) (W':World):Prop:=e=.returned (.tuple #[])∧GSt E.w0 E.X E.m E.sz E.O E.us W'
theorem bBw (E:Ev)(ks r top:List UInt8)(op a:Nat)(pl nx b:Int)(tag:Nat→Nat)(W:World)(h:MT E (r++top) tag W)(hst:0≤E.st∧E.st≤9)(hz:∀ i,10≤i→i<200→E.sz i=0)(h3:3≤E.m.fns.length)(hl:∀ fn ∈ E.m.fns,0≤fn.locs∧fn.locs≤1000∧0≤fn.params∧fn.params≤fn.locs)
  (hop:op=48∨op=49∨op=50∨op=51∨op=52∨op=53)
  (k48:op=48→top=[]∧FI E.m (((E.at_ a).fs++[(E.at_ a).x]).map fp) (E.kk++[r]))
  (k49:op=49→top=[110]∧FI E.m (((E.at_ a).fs++[(E.at_ a).x]).map fp) (E.kk++[r])∧FI E.m ((E.fs++[E.x]).map fp) (E.kk++[r]))
  (k50:op=50→∃ fn,E.m.fns[a]?=some fn∧(top.length:Int)=fn.params∧(∀ k ∈ top,k≠107)∧FI E.m ((E.fs++[E.x]).map fp++[(a,0)]) (E.kk++[r]++[[]]))
  (k51:op=51→∃ k,top=[k]∧k≠107∧∃ fs' y kk' ks',E.fs=fs'++[y]∧E.kk=kk'++[ks']∧ks'.length<1024∧FI E.m ((fs'++[y]).map fp) (kk'++[ks'++[97]]))
  (k52:op=52→((E.fs++[E.x]).map fp)[0]?.any (fun x=>decide (x.1<3))=true∧∀ f,f<3→FI E.m [(f,0)] [[]])
  (k53:op=53→top=[110]) :
  Calls prog 43 #[ptr E.X,spV pl nx op a b] W (aZs E):=by
 have hm:prog.follows Departure.mixedOrders=true:=by kernel_rfl
 obtain⟨g,c,g',c',nl,F⟩:=h.fm
 obtain⟨j,hj⟩:=eX (E.fs.length)
 have hj20:j≤20:=by have:=F.n21;omega
 have hcj:j+1≤c:=by have:=F.le;omega
 rcases hop with rfl | rfl | rfl | rfl | rfl | rfl
 ·obtain⟨rfl,hF⟩:=k48 rfl
  rw[List.append_nil] at h
  have M:=(ML.start h hst).new (spO pl nx 48 a b)
  obtain⟨fw,f8⟩:=M.fm F
  obtain⟨pc,pz⟩:=fw.pl
  have M4:=M.setPl F a
  rw[hj] at f8 pc pz M4
  have HM:Hid _:=(M4.frm ((Fr.refl [] _).drew)).gst hF
  clear M M4 fw h k48 k49 k50 k51 k52 k53 hF
  show Calls prog 43 #[ptr E.X,spV pl nx 48 a b] W _
  go_enter func43,ntmps43
  go_wp2
  go_region
  go_wp2
  go_end0
  exact⟨rfl,HM.out⟩
 ·obtain⟨rfl,hF,hF2⟩:=k49 rfl
  have M:=(ML.start h hst).new (spO pl nx 49 a b)
  clear h k48 k49 k50 k51 k52 k53
  show Calls prog 43 #[ptr E.X,spV pl nx 49 a b] W _
  go_enter func43,ntmps43
  go_wp2_with fail
  refine M.number.mono ?_
  rintro e W2 ⟨n,rfl,hn,M2⟩
  clear M
  by_cases h0:n=0
  ·subst h0
   have q3:=M2.cell (List.mem_cons_self ..) 3
   simp at q3
   obtain⟨fw,f8⟩:=M2.fm F
   obtain⟨pc,pz⟩:=fw.pl
   have M4:=M2.setPl F a
   rw[hj] at f8 pc pz M4
   have HM:Hid _:=(M4.frm ((Fr.refl [] _).drew)).gst hF
   clear M2 M4 fw hF hF2
   go_wp2
   go_region
   go_wp2
   go_end0
   exact⟨rfl,HM.out⟩
  ·have g0:(n==0)=false:=by simpa using h0
   have HM:Hid _:=M2.gst hF2
   clear M2 hF hF2 h0
   go_wp2
   go_end0
   exact⟨rfl,HM.out⟩
 ·obtain⟨fn,hf,htl,htk,hF⟩:=k50 rfl
  have hb:=hl fn (List.mem_of_getElem? hf)
  have M:=(ML.start h hst).new (spO pl nx 50 a b)
  obtain⟨C,s,K,tg,hs,hM,kp,hbb⟩:=M
  have hcall:=bCz _ r top a fn tg _ hM hs.1 hz hf (np:=fn.params.toNat) (nl:=fn.locs.toNat) (by omega) (by omega) (by omega) (by omega) (by omega) htk hF
  clear h k48 k49 k50 k51 k52 k53 hM kp hbb hF
  show Calls prog 43 #[ptr E.X,spV pl nx 50 a b] W _
  go_enter func43,ntmps43
  go_wp2_with fail
  refine hcall.mono ?_
  rintro e W2 ⟨rfl,Z⟩
  have HZ:Hid _:=Z
  clear Z hcall
  go_wp2
  go_end0
  exact⟨rfl,HZ.out⟩
 ·obtain⟨k,rfl,hk,fs',y,kk',ks',efs,ekk,hks,hF⟩:=k51 rfl
  have M:=(ML.start h hst).new (spO pl nx 51 a b)
  clear h k48 k49 k50 k51 k52 k53
  show Calls prog 43 #[ptr E.X,spV pl nx 51 a b] W _
  go_enter func43,ntmps43
  go_wp2_with fail
  refine (M.value hk).mono ?_
  rintro e W2 ⟨d,n,s,rfl,hv,M2⟩
  clear M
  replace M2:=M2.new (.cells #[.int .i64 d,.int .i64 n,.string s] 118)
  have xk:=M2.mc.2.1
  have f8:=(M2.fm F).2
  rw[hj] at f8
  have D:=M2.frm ((Fr.refl [] _).drew)
  obtain⟨WD,hWD⟩:=eX ((W2.alloc (.cells #[.int .i64 d,.int .i64 n,.string s] 118)).drew)
  rw[hWD] at D
  have e8:WD.cell? ⟨E.X,8,none⟩=some (.slice (some ⟨g,0,none⟩) (j+1) c):=by rw[← hWD];exact f8
  obtain⟨C,st,K,tg,hs,⟨R,sv,h2⟩,kp,hbb⟩:=D
  obtain⟨z8,R',h3',t0⟩:=MS.cutF h2 ((hs.2 8 (by decide)).trans F.f8)
  have T1:ML { E with fs:=fs',x:=y,kk:=kk',C:=upC E.C 0 8 (.slice (some ⟨g,0,none⟩) j c) } ks' tg WD [(W2.heap.size,.cells #[.int .i64 d,.int .i64 n,.string s] 118)] (WD.setCell ⟨E.X,8,none⟩ (.slice (some ⟨g,0,none⟩) j c)):=by
   refine⟨upC C 0 8 (.slice (some ⟨g,0,none⟩) j c),st,K,tg,⟨hs.1,fun i hi=>?_⟩,⟨R',y.sv,?_⟩,Kp.set (by rw[t0];decide),fun x hx=>?_⟩
   ·by_cases e:i=8
    ·subst e
     exact (fS C 0 8 (.slice (some ⟨g,0,none⟩) j c)).trans (fS E.C 0 8 (.slice (some ⟨g,0,none⟩) j c)).symm
    ·rw[bJ _ _ (by omega)]
     exact (hs.2 i hi).trans (bJ _ _ (by omega)).symm
   ·have:=h3'
    rw[hj] at this
    simp only[efs,ekk] at this
    exact this
   ·obtain⟨b1,b2,b3⟩:=hbb x (by simp at hx ⊢;exact .inl hx)
    have ff:Fr [E.X] WD (WD.setCell ⟨E.X,8,none⟩ (.slice (some ⟨g,0,none⟩) j c)):=(Fr.refl _ _).setCell (p:=⟨E.X,8,none⟩) (.inl (by simp)) _
    refine⟨Nll b1 ff.size,b2,(ff.block _ b1 ?_).trans b3⟩
    simp
    rintro e
    rw[e,t0] at b2
    omega
  have p0:=T1.cell (List.mem_cons_self ..) 0
  have p1:=T1.cell (List.mem_cons_self ..) 1
  have p2:=T1.cell (List.mem_cons_self ..) 2
  simp at p0 p1 p2
  have hput:=T1.put (d:=d) 97 aBo (yQ hv.1) hks
  have HF:Hid _:=hF
  clear T1 h2 h3' hbb kp M2 hF
  obtain⟨WE,hWE⟩:=eX (WD.setCell ⟨E.X,8,none⟩ (.slice (some ⟨g,0,none⟩) j c))
  rw[hWE] at p0 p1 p2 hput
  go_wp2
  go_region
  go_wp2_with fail
  refine hput.mono ?_
  rintro e W7 ⟨rfl,M7⟩
  have HZ:Hid _:=M7.gst HF.out
  clear M7 hput p0 p1 p2
  go_wp2
  go_end0
  exact⟨rfl,HZ.out⟩
 ·obtain⟨hf,hF⟩:=k52 rfl
  have M:=(ML.start h hst).new (spO pl nx 52 a b)
  obtain⟨C,s,K,tg,hs,hM,kp,hbb⟩:=M
  have hcall:=bEw _ (r++top) tg _ hM hs.1 hz h3 (fun fn hfn=>⟨(hl fn hfn).1,(hl fn hfn).2.1⟩) hf hF
  clear h k48 k49 k50 k51 k52 k53 hM kp hbb hF
  show Calls prog 43 #[ptr E.X,spV pl nx 52 a b] W _
  go_enter func43,ntmps43
  go_wp2_with fail
  refine hcall.mono ?_
  rintro e W2 ⟨rfl,Z⟩
  have HZ:Hid _:=Z
  clear Z hcall
  go_wp2
  go_end0
  exact⟨rfl,HZ.out⟩
 ·obtain rfl:=k53 rfl
  have M:=(ML.start h hst).new (spO pl nx 53 a b)
  clear h k48 k49 k50 k51 k52 k53
  show Calls prog 43 #[ptr E.X,spV pl nx 53 a b] W _
  go_enter func43,ntmps43
  go_wp2_with fail
  refine M.number.mono ?_
  rintro e W2 ⟨n,rfl,hn,M2⟩
  clear M
  have xk:=M2.mc.2.1
  obtain⟨C,s,K,tg,hs,⟨R,sv,h2⟩,kp,hbb⟩:=M2
  have hX:=h2.B.x
  have c9:=h2.S.oc (i:=0) (j:=9) (by rw[hX.2.1];decide)
  have z9:=h2.S.oz (i:=0) (j:=9) (by rw[hX.2.1];decide)
  have h4:=MS.setSt h2 2
  have c10:=h4.S.oc (i:=0) (j:=10) (by rw[hX.2.1];decide)
  have z10:=h4.S.oz (i:=0) (j:=10) (by rw[hX.2.1];decide)
  have h5:=MS.setCd h4 n
  have h0:E.O 0=E.X:=hX.1
  simp only[h0] at c9 z9 c10 z10
  have HZ:Hid (GSt E.w0 E.X E.m E.sz E.O E.us ((W2.setCell ⟨E.X,9,none⟩ (.int .i64 2)).setCell ⟨E.X,10,none⟩ (.int .i64 n))):=⟨tg,_,R,_,_,2,_,_,h5,by decide,fun q=>absurd q (by decide)⟩
  obtain⟨cd,ecd⟩:=h2.B.cd
  have ecd2:upC C 0 9 (.int .i64 2) 0 10=.int .i64 cd:=(bJ _ _ (by decide)).trans ecd
  have est:C 0 9=.int .i64 s:=h2.B.st
  rw[est] at c9
  rw[ecd2] at c10
  clear h2 h4 h5 kp hbb
  go_wp2
  go_end0
  exact⟨rfl,HZ.out⟩
theorem FI.last {m:Mo}{fl:List (Nat × Nat)}{kk:List (List UInt8)}{f p p':Nat}{ks ks':List UInt8} (h:FI m (fl++[(f,p)]) (kk++[ks])) (hf:kM m f p' ks'):FI m (fl++[(f,p')]) (kk++[ks']):=by
 have hl:=h.len.1
 simp at hl
 refine⟨by simp[hl],fun i g q hi=>?_,fun g q zs hi hk=>?_,fun i g q zs hi h1 h2=>?_⟩
 ·by_cases e:i<fl.length
  ·exact h.fns i g q (by rw[List.getElem?_append_left e] at hi ⊢;exact hi)
  ·have:=(Lgs.1 hi).1
   simp at this
   obtain rfl:i=fl.length:=by omega
   simp at hi
   have:=h.fns fl.length f p (by simp)
   rw[hi.1] at this
   exact this
 ·simp at hi
  have hk2:(kk++[ks'])[kk.length]?=some zs:=by rw[hl];simpa using hk
  simp at hk2
  rw[← hi.1,← hi.2,← hk2]
  exact hf
 ·simp at hi
  rw[List.getElem?_append_left (by omega)] at h1 h2
  exact h.low i g q zs (by simp;omega) (by rw[List.getElem?_append_left (by omega)];exact h1) (by rw[List.getElem?_append_left (by omega)];exact h2)
theorem FI.call {m:Mo}{fl:List (Nat × Nat)}{kk:List (List UInt8)}{f p p' a:Nat}{ks r:List UInt8} (h:FI m (fl++[(f,p)]) (kk++[ks])) (hf:kM m f p' (r++[97])) (hr:r.length<1024) (h3:3≤a∧a<m.fns.length) (ha:kM m a 0 []):FI m (fl++[(f,p')]++[(a,0)]) (kk++[r]++[[]]):=by
 have hl:=h.len.1
 simp at hl
 refine⟨by simp[hl],fun i g q hi=>?_,fun g q zs hi hk=>?_,fun i g q zs hi h1 h2=>?_⟩
 ·by_cases e:i<fl.length
  ·rw[List.getElem?_append_left (by simp;omega),List.getElem?_append_left e] at hi
   exact h.fns i g q (by rw[List.getElem?_append_left e];exact hi)
  ·by_cases e2:i=fl.length
   ·subst e2
    simp at hi
    have:=h.fns fl.length f p (by simp)
    rw[hi.1] at this
    exact this
   ·have:=(Lgs.1 hi).1
    simp at this
    obtain rfl:i=fl.length+1:=by omega
    rw[List.getElem?_append_right (by simp)] at hi
    simp at hi
    rw[← hi.1]
    exact⟨by omega,h3.2⟩
 ·simp at hi
  have hk2:(kk++[r]++[[]])[kk.length+1]?=some zs:=by rw[hl];simpa using hk
  rw[List.getElem?_append_right (by simp)] at hk2
  simp at hk2
  rw[← hi.1,← hi.2,hk2]
  exact ha
 ·simp at hi
  by_cases e:i<fl.length
  ·rw[List.getElem?_append_left (by simp;omega),List.getElem?_append_left e] at h1
   rw[List.getElem?_append_left (by simp;omega),List.getElem?_append_left (by omega)] at h2
   exact h.low i g q zs (by simp;omega) (by rw[List.getElem?_append_left (by omega)];exact h1) (by rw[List.getElem?_append_left (by omega)];exact h2)
  ·obtain rfl:i=fl.length:=by omega
   have hk2:(kk++[r]++[[]])[kk.length]?=some zs:=by rw[hl];exact h2
   simp at h1 hk2
   rw[← h1.1,← h1.2,← hk2]
   exact⟨hf,hr⟩
theorem FI.ret {m:Mo}{fl:List (Nat × Nat)}{kk:List (List UInt8)}{x y:Nat × Nat}{ks ks':List UInt8} (h:FI m (fl++[y]++[x]) (kk++[ks']++[ks])):ks'.length<1024∧FI m (fl++[y]) (kk++[ks'++[97]]):=by
 have hl:=h.len.1
 simp at hl
 have lo:=h.low fl.length y.1 y.2 ks' (by simp) (by simp) (by rw[← hl];simp)
 refine⟨lo.2,by simp[hl],fun i g q hi=>?_,fun g q zs hi hk=>?_,fun i g q zs hi h1 h2=>?_⟩
 ·have:=(Lgs.1 hi).1
  exact h.fns i g q (by rw[List.getElem?_append_left this];exact hi)
 ·simp at hi
  have hk2:(kk++[ks'++[97]])[kk.length]?=some zs:=by rw[hl];simpa using hk
  simp at hk2
  rw[← hk2]
  rw[hi] at lo
  exact lo.1
 ·simp at hi
  rw[List.getElem?_append_left (by omega)] at h1 h2
  exact h.low i g q zs (by simp;omega) (by rw[List.getElem?_append_left (by simp;omega),List.getElem?_append_left (by omega)];exact h1) (by rw[List.getElem?_append_left (by simp;omega),List.getElem?_append_left (by omega)];exact h2)
theorem FI.one {m:Mo}{f:Nat} (h3:f<3) (hf:f<m.fns.length) (h:kM m f 0 []):FI m [(f,0)] [[]]:=by
 refine⟨by simp,fun i g q hi=>?_,fun g q zs hi hk=>?_,fun i g q zs hi=>by simp at hi⟩
 ·have:=(Lgs.1 hi).1
  simp at this
  subst this
  simp at hi
  obtain⟨rfl,rfl⟩:=hi
  exact⟨by omega,hf⟩
 ·simp at hi hk
  obtain⟨rfl,rfl⟩:=hi
  subst hk
  exact h
theorem MS.setUs {w0 W:World}{X:Nat}{m:Mo}{tag:Nat→Nat}{lv:Nat→Bool}{R:Nat→Rw}{sz O:Nat→Nat}{C:Nat→Nat→Value}{K:Value→Prop}{st:Int}{us:Nat}{L:List FrV}{kk:List (List UInt8)} (h:MS w0 W X m tag lv R sz O C K st us L kk) (s:Nat):MS w0 (W.setCell ⟨X,11,none⟩ (.int .i64 s)) X m tag lv R sz O (upC C 0 11 (.int .i64 s)) K st s L kk:=by
 have hX:=h.B.x
 have S:=h.S.set (i:=0) (j:=11) (by rw[hX.2.1];decide) (.int .i64 s)
 rw[hX.1] at S
 have B:=h.B
 have e:∀ i j,¬ (i=0∧j=11)→upC C 0 11 (.int .i64 s) i j=C i j:=fun i j h=>bJ C _ h
 have e0:∀ j,j≠11→upC C 0 11 (.int .i64 s) 0 j=C 0 j:=fun j h=>e 0 j (by omega)
 have e1:∀ j,upC C 0 11 (.int .i64 s) 1 j=C 1 j:=fun j=>e 1 j (by omega)
 refine⟨S,⟨B.x,?_,?_,?_,?_,fun j hj=>?_,?_,?_,?_,?_,?_,fS _ _ _ _,?_,B.ah⟩,by rw[e0 8 (by decide)];exact h.fr,h.ln,h.each⟩
 ·rw[e0 0 (by decide),e0 1 (by decide),e0 2 (by decide),e0 3 (by decide),e0 4 (by decide)];exact B.md
 ·rw[e0 5 (by decide)];exact B.w
 ·rw[e0 6 (by decide)];exact B.gl
 ·rw[e0 7 (by decide)];exact B.ar
 ·rw[e _ 0 (by omega)];exact B.ae j hj
 ·rw[e1,e1,e1,e1];exact B.rd
 ·rw[e1,e1];exact B.rc
 ·rw[e1];exact B.fd
 ·rw[e0 9 (by decide)];exact B.st
 ·rw[e0 10 (by decide)];exact B.cd
 ·rw[e0 12 (by decide)];exact B.sk
theorem bDi (E:Ev)(r:List UInt8)(a:Nat)(pl nx b:Int)(tag:Nat→Nat)(W:World)(h:MT E (r++[107]) tag W)(hst:0≤E.st∧E.st≤9)(hl:r.length+2≤1024)(hF1:FI E.m ((E.fs++[E.x]).map fp) (E.kk++[r++[107,116]]))(hF2:FI E.m (((E.at_ a).fs++[(E.at_ a).x]).map fp) (E.kk++[r])):Calls prog 40 #[ptr E.X,spV pl nx 17 a b] W (aZs E):=by
 have M:=(ML.start h hst).new (spO pl nx 17 a b)
 have q0:=M.cell (List.mem_cons_self ..) 0
 have q1:=M.cell (List.mem_cons_self ..) 1
 have q2:=M.cell (List.mem_cons_self ..) 2
 have q3:=M.cell (List.mem_cons_self ..) 3
 have q4:=M.cell (List.mem_cons_self ..) 4
 simp at q0 q1 q2 q3 q4
 obtain⟨C,s,K,tg,hs,hM,kp,hbb⟩:=M
 have hcall:=bFr _ r a pl nx b tg _ hM hs.1 hl
 clear h hM kp hbb
 go_enter func40,ntmps40
 go_wp2_with fail
 refine hcall.mono ?_
 rintro e W2 ⟨rfl,Z⟩
 have HZ:Hid (GSt E.w0 E.X E.m E.sz E.O E.us W2):=by
  rcases Z with Z | Z
  ·exact Z.gst hF1
  ·exact Z.gst hF2
 clear Z hcall
 go_wp2
 refine bodyPost_ret (v:=.tuple #[]) (by simp[results,results40,go_sem]) rfl ?_
 exact⟨rfl,HZ.out⟩
end Go.Proofs.YtgpamchpeamnfaaGreatDoor
