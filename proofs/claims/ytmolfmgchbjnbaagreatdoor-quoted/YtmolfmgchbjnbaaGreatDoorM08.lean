import Derived.Test.YtmolfmgchbjnbaaGreatDoorM07
set_option linter.unusedSimpArgs false
set_option linter.unusedVariables false
set_option linter.unusedSectionVars false
set_option maxRecDepth 100000
set_option maxHeartbeats 40000000
open _root_.Go.Proofs.Tryz
namespace Go.Proofs.YtmolfmgchbjnbaaGreatDoor
open Go.RowKit
open Wire Flow Mach
section
variable {E:Env}{X:Nat}{g:Pl}{s s':Ms}{W W':WL}{tag tag':NN}{lv:Nat→Bool}{R:Nat→Rw}{mp:Nat→Option (Nat × List (Value × Value))}{x:Mx}
def onL (x:Mx) (rv dv flv:Value):Mx:={ x with rv:=rv,dv:=dv,flv:=flv }
theorem fAt_same (h1:s'.low=s.low)(h2:s'.fr=s.fr)(k:Nat):fAt s' k=fAt s k:=by
 unfold fAt;rw[h1,h2]
theorem MR.rex (h:MR E X g.g s W tag lv R mp x)(h6:6≤W.heap.size){R':Nat→Rw}(k:Kp tag tag' W W')(hS:Sto W' tag' lv R' mp){rv dv flv:Value}(h1:s'.low=s.low)(h2:s'.fr=s.fr)(h3:s'.w.globs=s.w.globs)(h4:s'.w.arrs=s.w.arrs)
  (h10:R' 10=⟨.slice (some (Ad X 0)) 1 1,135,16,1,xC (onL x rv dv flv) s'⟩) (hR:∀ i,i≠10→R' i=R i)
  (r1:RoL W' tag' rv ((s'.w.recs.drop s'.w.nr).map .string)) (r2:RoL W' tag' dv ((s'.w.draws.drop s'.w.drawn).map (.int .i64))) (r3:RoL W' tag' flv (s'.w.flds.map .string)):MR E X g.g s' W' tag' lv R' mp (onL x rv dv flv):=by
 refine⟨hS,h.sta.kp k h6,h.lX,h10,h.lF,?_,?_,?_,h.lG,?_,h.lA,?_,?_,fun i hi=>?_,fun i hi=>?_,fun i j c hi hj hc=>?_,fun i hi=>?_,r1,r2,r3⟩
 ·rw[hR 11 (by decide),h.rF,h1];congr 1;refine rng_congr fun j hj=>?_;rw[fAt_same h1 h2];rfl
 ·rw[h1];exact h.vF
 ·rw[h1];exact h.nF
 ·rw[hR 12 (by decide),h.rG,h3];rfl
 ·rw[hR 13 (by decide),h.rA,h4];rfl
 ·rw[h4];exact h.nA
 ·rw[h4] at hi ⊢;obtain⟨a,b,c⟩:=h.arr i hi;exact⟨a,b,by rw[hR _ (by omega)];exact c⟩
 ·rw[h1] at hi;obtain⟨a,b⟩:=h.stk i hi;rw[fAt_same h1 h2,hR _ (by omega)];exact⟨a,b⟩
 ·rw[h1] at hi;rw[fAt_same h1 h2] at hj;obtain⟨q1,q2,q3,ga,ca,lf,q4,q5,q6⟩:=h.wlk i j c hi hj hc;rw[h4,hR _ (by omega)];exact⟨q1,q2,q3,ga,ca,lf,q4,q5,q6.kp k⟩
 rw[h1] at hi;rw[fAt_same h1 h2];exact h.fn i hi
theorem MM.putX (h:MM E X g s W tag){j:Nat}(hj:j<16){v:Value}(h1:s'.low=s.low)(h2:s'.fr=s.fr)(h3:s'.w.globs=s.w.globs)(h4:s'.w.arrs=s.w.arrs)(h5:s'.w.recs=s.w.recs)(h7:s'.w.nr=s.w.nr)(h8:s'.w.draws=s.w.draws)(h9:s'.w.drawn=s.w.drawn)(h11:s'.w.flds=s.w.flds)
  (hx:∀ x,xC x s'=(xC x s).set j v):W.frozen? (Ad X j)=false∧(∃ u,W.cell? (Ad X j)=some u)∧MM E X g s' (W.setCell ⟨X,j,none⟩ v) tag∧Kp tag tag W (W.setCell ⟨X,j,none⟩ v):=by
 obtain⟨h6,lv,R,mp,x,hxx,h⟩:=h;have o:=(h.S.rows 10 h.lX).1;rw[h.rX] at o;obtain⟨S1,k⟩:=h.S.put h.lX h.rX (j:=j) (by omega) v;obtain⟨u,hu⟩:∃ u,(xC x s)[j]?=some u:=⟨_,Lge (show j<(xC x s).length from hj)⟩;refine⟨own_thaw o _,⟨u,own_cell o hu⟩,⟨Nat.le_trans h6 k.size,lv,_,mp,onL x x.rv x.dv x.flv,hxx,h.rex h6 k S1 h1 h2 h3 h4 ?_ (fun i hi=>up_off _ _ hi) ?_ ?_ ?_⟩,k⟩
 ·rw[up_same];show _=Rw.mk _ 135 16 1 (xC x s');rw[hx]
 ·rw[h5,h7];exact h.rcs.kp k
 ·rw[h8,h9];exact h.drw.kp k
 rw[h11];exact h.fld.kp k
theorem MM.setSt (h:MM E X g s W tag)(n:Nat):W.frozen? (Ad X 12)=false∧(∃ u,W.cell? (Ad X 12)=some u)∧MM E X g { s with st:=n } (W.setCell ⟨X,12,none⟩ (.int .i64 (n:Nat))) tag∧Kp tag tag W (W.setCell ⟨X,12,none⟩ (.int .i64 (n:Nat))):=
 h.putX (by decide) rfl rfl rfl rfl rfl rfl rfl rfl rfl fun x=>rfl
theorem MM.setUsed (h:MM E X g s W tag)(n:Nat):W.frozen? (Ad X 15)=false∧(∃ u,W.cell? (Ad X 15)=some u)∧MM E X g { s with used:=n } (W.setCell ⟨X,15,none⟩ (.int .i64 (n:Nat))) tag∧Kp tag tag W (W.setCell ⟨X,15,none⟩ (.int .i64 (n:Nat))):=
 h.putX (by decide) rfl rfl rfl rfl rfl rfl rfl rfl rfl fun x=>rfl
theorem MM.setOut (h:MM E X g s W tag)(t:BA):W.frozen? (Ad X 14)=false∧(∃ u,W.cell? (Ad X 14)=some u)∧MM E X g { s with w:={ s.w with out:=t } } (W.setCell ⟨X,14,none⟩ (.string t)) tag∧Kp tag tag W (W.setCell ⟨X,14,none⟩ (.string t)):=
 h.putX (by decide) rfl rfl rfl rfl rfl rfl rfl rfl rfl fun x=>rfl
theorem MM.xst (h:MM E X g s W tag):W.cell? (Ad X 12)=some (iA (s.st:Nat)):=by
 obtain⟨h6,lv,R,mp,x,hx,h⟩:=h;exact h.xc rfl
theorem MM.xcode (h:MM E X g s W tag):W.cell? (Ad X 13)=some (iA s.code):=by
 obtain⟨h6,lv,R,mp,x,hx,h⟩:=h;exact h.xc rfl
theorem MM.xout (h:MM E X g s W tag):W.cell? (Ad X 14)=some (.string s.w.out):=by
 obtain⟨h6,lv,R,mp,x,hx,h⟩:=h;exact h.xc rfl
theorem MM.xused (h:MM E X g s W tag):W.cell? (Ad X 15)=some (iA (s.used:Nat)):=by
 obtain⟨h6,lv,R,mp,x,hx,h⟩:=h;exact h.xc rfl
end
section
variable {E:Env}{X:Nat}{g:Pl}{s:Ms}{W W':WL}{tag:NN}
abbrev stI (n:Int):Value:=.int .i64 n
end
section
variable {E:Env}{X:Nat}{g:Pl}{s:Ms}{W W':WL}{tag:NN}
end
section
variable {E:Env}{X:Nat}{g:Pl}{s:Ms}{W W':WL}{tag:NN}
end
structure K9 (t:NN) (W W':WL):Prop where
 size:W.heap.size≤W'.heap.size
 blk:∀ k,k<W.heap.size→(k<6∨t k=9)→W'.heap[k]?=W.heap[k]?
theorem K9.cell {t:NN}{W W':WL} (h:K9 t W W') {p:Addr} (hp:p.block<W.heap.size) (hn:p.block<6∨t p.block=9):W'.cell? p=W.cell? p:=World.cell?_of_block (w:=W) (h.blk p.block hp hn)
theorem RoL.k9 {W W':WL}{t:NN}{v:Value}{xs:LV} (h:RoL W t v xs) (k:K9 t W W'):RoL W' t v xs:=by
 obtain⟨o,c,h1,h2,h2',h3⟩:=h;refine⟨o,c,h1,h2,h2',fun h0=>?_⟩;obtain⟨g,off,e1,e2,e3,e4⟩:=h3 h0;exact⟨g,off,e1,Nll e2 k.size,e3,fun i x hx=>(k.cell (p:=Ad g (off+i)) e2 (.inr e3)).trans (e4 i x hx)⟩
theorem CodeM.k9 {m:Mo}{W W':WL}{t:NN}{f:Nat}{cv:Value}{L:List Stp} (h:CodeM m W t f cv L) (k:K9 t W W'):CodeM m W' t f cv L:=by
 obtain⟨g,cap,T,h1,h2,h3,h4,h5,h6⟩:=h.at_;exact⟨⟨g,cap,T,h1,h2,Nll h3 k.size,h4,h5.of_block (k.blk g h3 (.inr h4)),h6⟩,h.reads,h.jump,h.len⟩
theorem PatL.k9 {E:Env}{W W':WL}{t:NN}{pv:Value} (h:PatL E W t pv) (k:K9 t W W'):PatL E W' t pv:=by
 obtain⟨o,cap,h1,h2,h3⟩:=h;refine⟨o,cap,h1,h2,fun i t hi=>?_⟩;obtain⟨g,pb,e1,e2,e3,e4,e5,e6,e7⟩:=h3 i t hi;exact⟨g,pb,e1,Nll e2 k.size,e3,(k.cell (p:=Ad g i) e2 (.inr e3)).trans e4,Nll e5 k.size,e6,e7.of_block (k.blk pb e5 (.inr e6))⟩
theorem Sta.k9 {E:Env}{W W':WL}{t:NN}{tv pv fv:Value}{code:Nat→Value × List Stp} (h:Sta E W t tv pv fv code) (k:K9 t W W') (hs:6≤W.heap.size):Sta E W' t tv pv fv code:=by
 obtain⟨g,cap,h1,h2,h3,h4,h5⟩:=h.fns;refine⟨h.pow.of_block (k.blk 0 (by omega) (.inl (by decide))),h.low,?_,h.tab.of_block (k.blk 1 (by omega) (.inl (by decide))),h.txt.k9 k,⟨g,cap,h1,Nll h2 k.size,h3,h4,fun f hf=>?_⟩,fun f hf=>(h.code f hf).k9 k,h.pat.k9 k⟩
 ·obtain⟨m,hm⟩:=h.mxl;exact⟨m,(k.cell (p:=Ad 4 0) (by show 4<_;omega) (.inl (by show 4<6;decide))).trans hm⟩
 obtain⟨a,b⟩:=h5 f hf;exact⟨(k.cell (p:=Ad g (f*2)) h2 (.inr h3)).trans a,(k.cell (p:=Ad g (f*2+1)) h2 (.inr h3)).trans b⟩
section
variable {E:Env}{X:Nat}{g:Pl}{s:Ms}{W W':WL}{tag tag':NN}
theorem MM.poke (h:MM E X g s W tag){b:Nat}(hb:tag b=6)(h6b:6≤b)(j:Nat)(v:Value):MM E X g s (W.setCell ⟨b,j,none⟩ v) tag:=by
 obtain⟨h6,lv,R,mp,x,hx,h⟩:=h
 have k:K9 tag W (W.setCell ⟨b,j,none⟩ v):=⟨by simp[World.setCell],fun k hk ht=>Below.heap_setCell _ _ _ _ (by show k≠b;rintro rfl;rcases ht with c | c <;> omega)⟩
 have hc:Chg tag [6] W (W.setCell ⟨b,j,none⟩ v):=Chg.setCell W (by show tag b ∈ [6];simp[hb]) v
 have hS:=h.S.chg (tag':=tag) hc (fun _ _=>rfl) (fun i hi=>by simp;omega)
 exact⟨Nat.le_trans h6 k.size,lv,R,mp,x,hx,{ h with
  S:=hS
  sta:=h.sta.k9 k h6
  wlk:=fun a b c ha hb hc=>by
   obtain⟨h1,h2,h3,ga,ca,lf,h4,h5,h6⟩:=h.wlk a b c ha hb hc
   exact⟨h1,h2,h3,ga,ca,lf,h4,h5,h6.k9 k⟩
  rcs:=h.rcs.k9 k
  drw:=h.drw.k9 k
  fld:=h.fld.k9 k }⟩
theorem Kp.poke {W2:WL}(h:Kp tag tag' W W2){b:Nat}(hb:W.heap.size≤b)(j:Nat)(v:Value):Kp tag tag' W (W2.setCell ⟨b,j,none⟩ v):=
 ⟨h.os,h.tape,h.output,by simp[World.setCell];exact h.size,h.ret,fun k hk ht=>(Below.heap_setCell _ _ _ _ (by show k≠b;omega)).trans (h.blk k hk ht)⟩
theorem MM.six (h:MM E X g s W tag):6≤W.heap.size:=h.1
end
theorem infoS9:(prog.info? 9).map (fun i=>(i.zero,i.size,i.bytes))=some (some (.string ⟨#[]⟩),1,16):=by kernel_rfl
theorem mkStrs (n:Nat)(hn:n≤100000)(W:WL):(Instr.makeSlice 22 (iA (n:Int)) (iA (n:Int))).run prog W=.ok (.slice (some (Ad W.heap.size 0)) n n) (W.alloc (.cells (madeCells #[.string ⟨#[]⟩] n) 9)):=by
 obtain⟨i0,hi,hz0,hz1,hz2⟩:=info_parts infoS9;have:=run_make (P:=prog) W 22 9 i0 (.string ⟨#[]⟩) underlying22 hi hz0 .i64 .i64 n n (by omega) (by omega) (by rw[hz2];omega) (by omega);simp only[Int.toNat_natCast,hz1,Nat.mul_one] at this;exact this
theorem made_at (W:WL)(z:Value)(n:Nat)(t:TypeId)(k:Nat)(hk:k<n):(W.alloc (.cells (madeCells #[z] n) t)).cell? (Ad W.heap.size k)=some z:=by
 unfold World.cell?;rw[wan];show (madeCells #[z] n)[k]?=some z;rw[← Array.getElem?_toList,toList_madeCells_one,List.getElem?_replicate,if_pos hk]
theorem made_free (W:WL)(o:Array Value)(t:TypeId)(k:Nat):(W.alloc (.cells o t)).frozen? (Ad W.heap.size k)=false:=by
 unfold World.frozen?;rw[wan];simp
theorem frozen_of_block {w w':WL}{b j:Nat} (h:w'.heap[b]?=w.heap[b]?):w'.frozen? (Ad b j)=w.frozen? (Ad b j):=by
 unfold World.frozen?;rw[h]
section
variable {E:Env}{X:Nat}{g:Pl}{s:Ms}{W W':WL}{tag tag':NN}
def PT (E:Env) (X:Nat) (g:Pl) (s:Ms) (l:List Cell) (vs:List Val) (tag:NN) (W:WL) (k:Nat) (wr:WL):Prop:=
 6≤W.heap.size∧∃ t,MM E X g (onStk s (l++(vs.take (vs.length-k)).map cv)) wr t∧Kp tag t W wr∧t W.heap.size=6∧W.heap.size<wr.heap.size∧(∀ j,wr.frozen? ⟨W.heap.size,j,none⟩=false)∧∀ j v,vs[j]?=some v→∃ x,wr.cell? ⟨W.heap.size,j,none⟩=some (.string x)∧(vs.length≤j+k→x=textV E v)
theorem PT.start (h:MM E X g s W tag){l:List Cell}{vs:List Val} (hs:s.fr.stk=l++vs.map cv):PT E X g s l vs tag W 0 (W.alloc (.cells (madeCells #[.string ⟨#[]⟩] vs.length) 9)):=by
 obtain⟨t,h1,k1,hb⟩:=MM.box h ((Fr.refl [] W).alloc (.cells (madeCells #[.string ⟨#[]⟩] vs.length) 9));refine⟨h.six,t,?_,k1,hb _ (Nat.le_refl _),(Age.1 (wan W _)).1,made_free W _ _,fun j v hv=>?_⟩
 ·rw[Nat.sub_zero,List.take_length,← hs];exact h1
 have hj:=(Lgs.1 hv).1;exact⟨_,made_at W _ _ _ j hj,fun hc=>by omega⟩
theorem PT.step (hE:EnvOk E){l:List Cell}{vs:List Val}{k:Nat}{wr:WL} (h:PT E X g s l vs tag W k wr) (hl:l.length+vs.length≤1024) (hv:∀ v ∈ vs,SmV v) (hk:k<vs.length) :
  ∃ v,vs[vs.length-1-k]?=some v∧Calls prog 199 #[fp g s] wr fun e W'=>e=.returned (.string (textV E v))∧W'.frozen? (Ad W.heap.size (vs.length-1-k))=false∧(∃ x,W'.cell? (Ad W.heap.size (vs.length-1-k))=some (.string x))∧PT E X g s l vs tag W (k+1) (W'.setCell ⟨W.heap.size,vs.length-1-k,none⟩ (.string (textV E v))):=by
 obtain⟨h6,t,M,K,hb,hlt,hfz,hc⟩:=h;obtain⟨v,hvm⟩:∃ v,vs[vs.length-1-k]?=some v:=⟨_,Lge (by omega)⟩;have e1:(vs.take (vs.length-k)).map cv=(vs.take (vs.length-(k+1))).map cv++[cv v]:=by
  rw[show vs.length-k=(vs.length-1-k)+1 by omega,List.take_add_one,hvm,List.map_append,show vs.length-(k+1)=vs.length-1-k by omega];rfl
 refine⟨v,hvm,?_⟩;have hs1:(onStk s (l++(vs.take (vs.length-k)).map cv)).fr.stk=(l++(vs.take (vs.length-(k+1))).map cv)++[cv v]:=by
  show l++(vs.take (vs.length-k)).map cv=_;rw[e1,List.append_assoc]
 have hl1:(onStk s (l++(vs.take (vs.length-k)).map cv)).fr.stk.length≤1024:=by
  show (l++(vs.take (vs.length-k)).map cv).length≤1024;simp only[Lla,List.length_map,List.length_take];omega
 refine (MM.popText hE M hs1 hl1 (hv v (List.mem_of_getElem? hvm))).mono fun e W' ⟨he,t',M',K'⟩=>?_;have hblk:W'.heap[W.heap.size]?=wr.heap[W.heap.size]?:=K'.blk _ hlt (by rw[hb];decide);have hcell:∀ j,W'.cell? (Ad W.heap.size j)=wr.cell? (Ad W.heap.size j):=fun j=>World.cell?_of_block (w:=wr) (a:=Ad W.heap.size j) hblk;have hb':t' W.heap.size=6:=(K'.ret _ hlt).trans hb;have hfz':∀ j,W'.frozen? (Ad W.heap.size j)=false:=fun j=>(frozen_of_block hblk).trans (hfz j);refine⟨he,hfz' _,?_,h6,t',M'.poke hb' h6 _ _,(K.trans K').poke (Nat.le_refl _) _ _,hb',?_,fun j=>?_,fun j u hu=>?_⟩
 ·obtain⟨x,hx,-⟩:=hc _ v hvm;exact⟨x,(hcell _).trans hx⟩
 ·rw[show (W'.setCell ⟨W.heap.size,vs.length-1-k,none⟩ (.string (textV E v))).heap.size=W'.heap.size by simp[World.setCell]];exact Nll hlt K'.size
 ·rw[wfz];exact hfz' j
 obtain⟨x,hx,hx2⟩:=hc j u hu;by_cases e:j=vs.length-1-k
 ·subst e;rw[hvm] at hu;have:v=u:=by simpa using hu
  subst this;exact⟨_,World.cell?_setCell_same (h:=(hcell _).trans hx) ..,fun _=>rfl⟩
 refine⟨x,?_,fun hle=>hx2 (by omega)⟩;refine (World.cell?_setCell_other (h:=?_) ..).trans ((hcell _).trans hx);intro h;injection h with _ h _;exact e h.symm
theorem MM.popTexts (hE:EnvOk E)(h:MM E X g s W tag){l:List Cell}{vs:List Val} (hs:s.fr.stk=l++vs.map cv) (hl:s.fr.stk.length≤1024) (hv:∀ v ∈ vs,SmV v) :
  Calls prog 225 #[fp g s,iA (vs.length:Nat)] W (fun e W'=>e=.returned (.slice (some (Ad W.heap.size 0)) vs.length vs.length)∧PT E X g s l vs tag W vs.length W'):=by
 have hl1:l.length+vs.length≤1024:=by rw[hs] at hl;simpa using hl
 have HS:Hid _:=fun (k:Nat) (wr:WL) (h:PT E X g s l vs tag W k wr) (hk:k<vs.length)=>PT.step hE h hl1 hv hk;have P0:=PT.start h hs;obtain⟨PP,hPP⟩:=eXi (PT E X g s l vs tag W);rw[hPP] at HS P0 ⊢;clear hPP h hs hv;obtain⟨n,hn⟩:=eXi (vs.length);rw[hn] at hl1 P0 HS ⊢;have hmk:=mkStrs n (by omega) W;obtain⟨W1,hW1⟩:=eXi (W.alloc (.cells (madeCells #[.string ⟨#[]⟩] n) 9));rw[hW1] at hmk P0;obtain⟨b,hb⟩:=eXi (W.heap.size);rw[hb] at hmk HS ⊢;have hw64:IntKind.i64.wrap (n:Int)=n:=by rw[IntKind.wrap_i64];omega
 clear hW1 hn hb hl;go_enter func225,ntmps225;go_wp2
 go_loopw [11] (fun i wr=>∃ k:Nat,k≤n∧i=iA k∧PP k wr) (fun i _=>n-(intOf i).toNat)
 case atStart=>exact⟨0,by omega,rfl,P0⟩
 case round=>
  clear P0;obtain⟨k,hk,rfl,J⟩:=hrel;by_cases hlt:k<n
  ·have g1:(k:Int)<n:=by omega
   obtain⟨v,-,HC⟩:=HS.out k _ J hlt;have e1:IntKind.i64.wrap ((n:Int)-1)=((n-1:Nat):Int):=by rw[IntKind.wrap_i64];omega
   have e2:IntKind.i64.wrap (((n-1:Nat):Int)-(k:Int))=((n-1-k:Nat):Int):=by rw[IntKind.wrap_i64];omega
   have e3:((n-1-k:Nat):Int)<(n:Int):=by omega
   have HC':Hid _:=fun (_:Unit)=>HC;clear HC J HS;generalize textV E v=tx at HC';obtain⟨m,hm⟩:=eXi (n-1-k);rw[hm] at HC' e2 e3;go_wp2_with fail;refine (HC'.out ()).mono ?_;rintro e W2 ⟨rfl,z0,⟨x,x0⟩,P2⟩;obtain⟨W3,hW3⟩:=eXi (W2.setCell ⟨b,m,none⟩ (.string tx));rw[hW3] at P2;have HP2:Hid _:=P2;clear P2 HC';go_wp2_with fail;exact⟨⟨k+1,by omega,by go_num,HP2.out⟩,by simp[intOf];omega⟩
  have g1:¬ ((k:Int)<n):=by omega
  have hkn:k=n:=by omega
  subst hkn;go_wp2_with fail;go_ret;exact⟨rfl,J⟩
end
theorem join_eq:∀ xs:LY,Lib.join (xs.map (·.data.toList)) [32]=joinF xs
 | []=>rfl
 | [a]=>by simp[Lib.join,List.intercalate,joinF,bl]
 | a :: b :: l=>by
  have:=join_eq (b :: l)
  unfold Lib.join at this ⊢
  rw[show joinF (a :: b :: l)=bl a++32 :: joinF (b :: l) from rfl,← this]
  simp[List.intercalate,bl]
theorem joinF_len (xs:LY)(h:∀ x ∈ xs,x.size≤1048576):(joinF xs).length≤xs.length*1048577:=by
 induction xs with
 | nil=>simp[joinF]
 | cons a l ih=>
  have ha:=h a (by simp);have hl:=ih fun x hx=>h x (by simp[hx]);cases l with
  | nil=>simp[joinF,bl_length];omega
  | cons b l=>
   rw[show joinF (a :: b :: l)=bl a++32 :: joinF (b :: l) from rfl];simp only[Lla,List.length_cons,bl_length] at hl ⊢;omega
theorem join_v (b:Nat)(xs:LY)(W:WL)(hb:b<W.heap.size)(hn:xs.length≤1024)(hs:∀ x ∈ xs,x.size≤1048576)(hc:∀ (j:Nat) x,xs[j]?=some x→W.cell? (Ad b (0+j))=some (.string x)) :
  Calls prog 224 #[.slice (some (Ad b 0)) xs.length xs.length,.string ⟨#[32]⟩] W fun e W'=>e=.returned (.string ⟨(joinF xs).toArray⟩)∧Fr [] W W':=by
 have hl:=joinF_len xs hs;have:=strings_Join b 0 xs.length xs ⟨#[32]⟩ W hc hb (by omega) (Nat.le_refl _) (by show (Lib.join _ [32]).length≤_;rw[join_eq];omega);refine this.mono fun e W' ⟨he,hB⟩=>⟨?_,Fr.of_below hB⟩;rw[he];show Ending.returned (Value.string ⟨(Lib.join (xs.map (·.data.toList)) [32]).toArray⟩)=_;rw[join_eq]
section
variable {E:Env}{X:Nat}{g:Pl}{s:Ms}{W W':WL}{tag:NN}
theorem PT.done {l:List Cell}{vs:List Val}{W2:WL} (h:PT E X g s l vs tag W vs.length W2):∃ t,(MM E X g (onStk s l) W2 t∧Kp tag t W W2)∧W.heap.size<W2.heap.size∧∀ (j:Nat) x,(vs.map (textV E))[j]?=some x→W2.cell? (Ad W.heap.size (0+j))=some (.string x):=by
 obtain⟨h6,t,M,K,hb,hlt,hfz,hc⟩:=h;refine⟨t,⟨?_,K⟩,hlt,fun j x hx=>?_⟩
 ·simpa using M
 rw[List.getElem?_map] at hx;obtain⟨v,hv,rfl⟩:=Option.map_eq_some_iff.1 hx;obtain⟨x,h1,h2⟩:=hc j v hv;rw[Nat.zero_add,h1,h2 (by omega)]
theorem MM.iprint (hE:EnvOk E)(h:MM E X g s W tag){l:List Cell}{vs:List Val} (hs:s.fr.stk=l++vs.map cv) (hl:s.fr.stk.length≤1024) (hv:∀ v ∈ vs,SmV v) (hx:∀ x ∈ vs.map (textV E),x.size≤1048576) (ho:s.w.out.size≤1000) (pl b q:Int) :
  Calls prog 126 #[ptr X,fp g s,inV 44 pl (vs.length:Nat) b q] W (MP E X g { onStk s l with w:=(printW s.w (vs.map (textV E))).1 } tag W (stI (printW s.w (vs.map (textV E))).2)):=by
 obtain⟨W1,hW1,F1,⟨b0,b1,b2,b3,b4⟩,l1⟩:=box5 W 44 pl (vs.length:Nat) b q;obtain⟨t1,h1,k1,-⟩:=MM.box h F1;have hln:(vs.map (textV E)).length≤1024:=by rw[hs] at hl;simp at hl ⊢;omega
 have HM1:Hid _:=AI h1 k1;have HP:Hid _:=fun (_:Unit)=>h1.popTexts hE hs hl hv;have HJ:Hid _:=fun (W2:WL) (hb:W1.heap.size<W2.heap.size) hc=>join_v W1.heap.size (vs.map (textV E)) W2 hb hln hx hc;have HO:Hid _:=fun (W2:WL) (t2:NN) (h2:MM E X g (onStk s l) W2 t2) (t:BA)=>AI (MM.xout h2) (MM.setOut h2 t);have hjl:=joinF_len (vs.map (textV E)) hx;rw[List.length_map] at HJ hjl hln;unfold printW;obtain⟨jj,hjj⟩:∃ jj:BA,⟨(joinF (vs.map (textV E))).toArray⟩=jj:=⟨_,rfl⟩;have hjs:(joinF (vs.map (textV E))).length=jj.size:=by rw[← hjj];rfl
 have hja:(joinF (vs.map (textV E))++[10]).toArray=jj.data++#[10]:=by rw[← hjj];simp
 rw[hjs] at hjl;rw[hjs,hja];rw[hjj] at HJ;clear hjs hja hjj hx h h1 k1 F1 l1 hs hv;by_cases hbig:s.w.out.size+jj.size+1>1000
 ·rw[if_pos hbig];go_enter func126,ntmps126;go_wp2_with fail;refine (HP.out ()).mono ?_;rintro e W2 ⟨rfl,P2⟩;obtain⟨t2,M2,hlt,hc⟩:=P2.done;have HJ2:Hid _:=fun (_:Unit)=>HJ.out W2 hlt hc;have HM2:Hid _:=AI M2.1 (HM1.out.2.trans M2.2);clear P2 M2 hlt hc HP HJ;go_wp2_with fail;refine (HJ2.out ()).mono ?_;rintro e W3 ⟨rfl,F3⟩;obtain⟨t3,h3,k3⟩:=MM.fr HM2.out.1 F3;have HM3:Hid _:=AI h3 (HM2.out.2.trans k3);have x14':=MM.xout h3;have x14:W3.cell? (Ad X 14)=some (.string s.w.out):=x14';clear x14';have e1:IntKind.i64.wrap (s.w.out.size:Int)=s.w.out.size:=by rw[IntKind.wrap_i64];omega
  have e2:(jj++(⟨#[10]⟩:BA)).size=jj.size+1:=by rw[ByteArray.size_append];rfl
  clear h3 k3 F3 HJ2 HO;go_wp2_with fail;go_ret;exact⟨rfl,t3,HM3.out.1,HM3.out.2⟩
 rw[if_neg hbig];go_enter func126,ntmps126;go_wp2_with fail;refine (HP.out ()).mono ?_;rintro e W2 ⟨rfl,P2⟩;obtain⟨t2,M2,hlt,hc⟩:=P2.done;have HJ2:Hid _:=fun (_:Unit)=>HJ.out W2 hlt hc;have HM2:Hid _:=AI M2.1 (HM1.out.2.trans M2.2);clear P2 M2 hlt hc HP HJ;go_wp2_with fail;refine (HJ2.out ()).mono ?_;rintro e W3 ⟨rfl,F3⟩;obtain⟨t3,h3,k3⟩:=MM.fr HM2.out.1 F3;have HM3:Hid _:=AI h3 (HM2.out.2.trans k3);have x14':=MM.xout h3;have x14:W3.cell? (Ad X 14)=some (.string s.w.out):=x14';clear x14';have e1:IntKind.i64.wrap (s.w.out.size:Int)=s.w.out.size:=by rw[IntKind.wrap_i64];omega
 have e2:(jj++(⟨#[10]⟩:BA)).size=jj.size+1:=by rw[ByteArray.size_append];rfl
 obtain⟨-,z14,-,M4,K4⟩:=HO.out W3 t3 h3 ⟨s.w.out.data++(jj.data++#[10])⟩;clear h3 k3 F3 HJ2 HO;go_wp2_with fail;go_ret;have e5:s.w.out++(jj++(⟨#[10]⟩:BA))=⟨s.w.out.data++(jj.data++#[10])⟩:=by
  apply ByteArray.ext;simp[ByteArray.data_append]
 rw[e5];exact⟨rfl,t3,M4,HM3.out.2.trans K4⟩
end
theorem getK_at {l:List (BA × Val)}(hd:(keysA l).Nodup){j:Nat}{k:BA}{v:Val} (h:l[j]?=some (k,v)):getK l k=v∧hasK l k=true:=by
 induction l generalizing j with
 | nil=>simp at h
 | cons a l ih=>
  have hd':a.1 ∉ keysA l∧(keysA l).Nodup:=List.nodup_cons.1 hd;cases j with
  | zero=>
   have e:a=(k,v):=by simpa using h
   subst e;simp[getK,hasK]
  | succ j=>
   have h':l[j]?=some (k,v):=by simpa using h
   obtain⟨h1,h2⟩:=ih hd'.2 h';have hne:a.1≠k:=by
    rintro rfl;exact hd'.1 (List.mem_map.2 ⟨_,List.mem_of_getElem? h',rfl⟩)
   refine⟨?_,?_⟩
   ·unfold getK;rw[if_neg hne];exact h1
   unfold hasK at h2 ⊢;rw[List.any_cons,h2,Bool.or_true]
theorem getK_off {l:List (BA × Val)}{k:BA} (h:∀ e ∈ l,e.1≠k):getK l k=nothing∧hasK l k=false:=by
 induction l with
 | nil=>exact⟨rfl,rfl⟩
 | cons a l ih=>
  obtain⟨h1,h2⟩:=ih fun e he=>h e (by simp[he]);have hne:=h a (by simp);refine⟨?_,?_⟩
  ·unfold getK;rw[if_neg hne];exact h1
  unfold hasK at h2 ⊢;rw[List.any_cons,h2];simpa using hne
theorem lookup_run {W:WL}{b:Nat}{l:List (BA × Val)} (hm:MapAt W b (entL l)) (hd:(keysA l).Nodup) (hs:∀ e ∈ l,e.1.size≤1048576) {key:BA} (hk:key.size≤1048576) :
  (Instr.lookup 144 (.map (some b)) (.string key) true).run prog W=.ok (.tuple #[vV (getK l key),.bool (hasK l key)]) W:=by
 obtain⟨es,clock,hb,he⟩:=hm;have K:=WideMaps.string_law (P:=prog) (k:=9) underlying9;have hkey:=WideMaps.keyOf_string_mk (P:=prog) (k:=9) underlying9 (s:=key) (Nat.le_trans hk (by decide));have hmem:∀ e ∈ es.toList,∃ x ∈ l,e.key=.string x.1∧e.val=vV x.2:=fun e hx=>by
  have:(e.key,e.val) ∈ entL l:=by rw[← he];exact List.mem_map.2 ⟨e,hx,rfl⟩
  obtain⟨x,hx,h⟩:=List.mem_map.1 this;injection h with h1 h2;exact⟨x,hx,h1.symm,h2.symm⟩
 rcases K.find W hkey es.toList (fun e hx=>by
  obtain⟨x,hx,h1,-⟩:=hmem e hx;rw[h1];exact⟨_,WideMaps.keyOf_string_mk (P:=prog) (k:=9) underlying9 (Nat.le_trans (hs x hx) (by decide))⟩) with ⟨h1,h2⟩ | ⟨j,e0,h1,h2,h3⟩
 ·obtain⟨g1,g2⟩:=getK_off (l:=l) (k:=key) fun x hx hxk=>by
   have:((.string x.1:Value),vV x.2) ∈ entL l:=List.mem_map.2 ⟨x,hx,rfl⟩;rw[← he] at this;obtain⟨e,hx',h⟩:=List.mem_map.1 this;injection h with q1 q2;exact h2 e hx' (by rw[q1,hxk])
  rw[g1,g2];have hz:(zeroValue 221).run prog W=.ok (vV nothing) W:=by kernel_rfl
  simp[Instr.lookup,run_underlying underlying144,MapKept.run_getObj_map hb,K.check W _ hkey,h1,hz,Result.andThen]
 have:(entL l)[j]?=some (e0.key,e0.val):=by rw[← he,List.getElem?_map,h2];rfl
 rw[entL,List.getElem?_map] at this;obtain⟨x,hx,h⟩:=Option.map_eq_some_iff.1 this;obtain⟨q1,q2⟩:=Prod.mk.inj h;have hxk:x.1=key:=Value.string.inj (q1.trans h3);obtain⟨g1,g2⟩:=getK_at hd (j:=j) (k:=key) (v:=x.2) (by rw[hx,← hxk]);have q2':vV x.2=e0.val:=q2;rw[g1,g2,q2'];simp[Instr.lookup,run_underlying underlying144,MapKept.run_getObj_map hb,K.check W _ hkey,h1,Result.andThen]
section
variable {E:Env}{X:Nat}{g:Pl}{s:Ms}{W W':WL}{tag:NN}
end
section
variable {E:Env}{X:Nat}{g:Pl}{s:Ms}{W W':WL}{tag tag':NN}{lv:Nat→Bool}{R:Nat→Rw}{mp:Nat→Option (Nat × List (Value × Value))}{x:Mx}
end
section
variable {E:Env}{X:Nat}{g:Pl}{s:Ms}{W W':WL}{tag tag':NN}
end
section
variable {E:Env}{X:Nat}{g:Pl}{s:Ms}{W W':WL}{tag:NN}
end
theorem setK_at {l:List (BA × Val)}(hd:(keysA l).Nodup){j:Nat}{k:BA}{u:Val} (v:Val) (h:l[j]?=some (k,u)):setK l k v=l.set j (k,v):=by
 induction l generalizing j with
 | nil=>simp at h
 | cons a l ih=>
  have hd':a.1 ∉ keysA l∧(keysA l).Nodup:=List.nodup_cons.1 hd;cases j with
  | zero=>
   have e:a=(k,u):=by simpa using h
   subst e;simp[setK]
  | succ j=>
   have h':l[j]?=some (k,u):=by simpa using h
   have hne:a.1≠k:=by
    rintro rfl;exact hd'.1 (List.mem_map.2 ⟨_,List.mem_of_getElem? h',rfl⟩)
   unfold setK;rw[if_neg hne,ih hd'.2 h'];rfl
section
variable {E:Env}{X:Nat}{g:Pl}{s:Ms}{W W':WL}{tag tag':NN}
end
section
variable {E:Env}{X:Nat}{g:Pl}{s:Ms}{W W':WL}{tag:NN}
end
theorem infoA9:(prog.info? 9).map (fun i=>(i.zero,i.size,i.bytes))=some (some (.string ⟨#[]⟩),1,16):=by kernel_rfl
section
variable {W:WL}{tag:NN}{lv:Nat→Bool}{R:Nat→Rw}{mp:Nat→Option (Nat × List (Value × Value))}
end
section
variable {E:Env}{X:Nat}{g:Pl}{s:Ms}{W W':WL}{tag tag':NN}
end
section
variable {E:Env}{X:Nat}{g:Pl}{s:Ms}{W W':WL}{tag:NN}
end
section
variable {W:WL}{tag:NN}{lv:Nat→Bool}{R:Nat→Rw}{mp:Nat→Option (Nat × List (Value × Value))}
end
section
variable {E:Env}{X:Nat}{g:Pl}{s:Ms}{W W':WL}{tag:NN}
end
theorem RoL.of_own {W:WL}{tag:NN}{B n:Nat}{e:TypeId}{v:Value}{xs:LV} (h:W.ownsRow B e 1 v n xs) (ht:∀ g,B≤g→g<W.heap.size→tag g=9):RoL W tag v xs:=by
 have hl:=h.1;rw[Nat.mul_one] at hl;rcases h.2 with ⟨rfl,rfl⟩ | ⟨g,cap,cur,rfl,hb,hg,hnc,hcm,hcs,hx⟩
 ·exact⟨none,0,by rw[hl],by omega,by omega,fun h0=>by omega⟩
 have hgl:=(Age.1 hg).1;refine⟨some (Ad g 0),cap,by rw[hl],by omega,by unfold maxLen at hcm;omega,fun h0=>⟨g,0,rfl,hgl,ht g hb hgl,fun i x hi=>?_⟩⟩;rw[Nat.zero_add];exact own_cell h hi
section
variable {E:Env}{X:Nat}{g:Pl}{s:Ms}{W W':WL}{tag tag':NN}
theorem MR.norm {lv:Nat→Bool}{R:Nat→Rw}{mp:Nat→Option (Nat × List (Value × Value))}{x:Mx} (h:MR E X g.g s W tag lv R mp x):MR E X g.g s W tag lv R (fun q=>if q<5000 then mp q else none) x:=by
 refine { h with S:=⟨h.S.rows,fun i b l hm=>?_,fun i hi=>?_,fun i hi=>?_⟩,arr:=fun i hi=>?_ }
 ·split at hm
  ·exact h.S.maps i b l hm
  cases hm
 ·show (if i<5000 then mp i else none)=none;split
  ·exact h.S.far i hi
  rfl
 ·refine h.S.num i (hi.imp id fun c=>?_);intro hc;apply c;show (if i<5000 then mp i else none)=none;split
  ·exact hc
  rfl
 have:=h.nA;obtain⟨a,b,c⟩:=h.arr i hi;refine⟨?_,b,c⟩;show (if 20+2*i<5000 then mp (20+2*i) else none)=_;rw[if_pos (by omega)];exact a
end
section
variable {E:Env}{X:Nat}{g:Pl}{s:Ms}{W W':WL}{tag:NN}
end
section
variable {E:Env}{X:Nat}{g:Pl}{s:Ms}{W W':WL}{tag tag':NN}
end
section
variable {E:Env}{X:Nat}{g:Pl}{s:Ms}{W W':WL}{tag tag':NN}
end
theorem byteHi (c:Nat):128≤(UInt8.ofNat (128+c % 64)).toNat:=by
 rw[UInt8.toNat_ofNat'];omega
theorem enc2 (r:Int)(h1:128≤r)(h2:r<2048):∃ b0 b1:UInt8,Utf8.encode r=⟨#[b0,b1]⟩∧128≤b1.toNat:=by
 have hv:Utf8.valid r=true:=by unfold Utf8.valid;simp;left;omega
 refine⟨UInt8.ofNat (0xC0+r.toNat / 64),UInt8.ofNat (0x80+r.toNat % 64),?_,byteHi _⟩;unfold Utf8.encode;simp only[hv,if_true];rw[if_neg (by omega),if_pos (by omega)]
theorem enc3 (r:Int)(h1:2048≤r)(h2:r<65536)(hv:Utf8.valid r=true):∃ b0 b1 b2:UInt8,Utf8.encode r=⟨#[b0,b1,b2]⟩∧128≤b2.toNat:=by
 refine⟨UInt8.ofNat (0xE0+r.toNat / 4096),UInt8.ofNat (0x80+r.toNat / 64 % 64),UInt8.ofNat (0x80+r.toNat % 64),?_,byteHi _⟩;unfold Utf8.encode;simp only[hv,if_true];rw[if_neg (by omega),if_neg (by omega),if_pos (by omega)]
theorem enc4 (r:Int)(h1:65536≤r)(hv:Utf8.valid r=true):∃ b0 b1 b2 b3:UInt8,Utf8.encode r=⟨#[b0,b1,b2,b3]⟩:=by
 refine⟨UInt8.ofNat (0xF0+r.toNat / 262144),UInt8.ofNat (0x80+r.toNat / 4096 % 64),UInt8.ofNat (0x80+r.toNat / 64 % 64),UInt8.ofNat (0x80+r.toNat % 64),?_⟩;unfold Utf8.encode;simp only[hv,if_true];rw[if_neg (by omega),if_neg (by omega),if_neg (by omega)]
theorem ir_bad (r:Int)(h1:128≤r)(h2:r≠65533)(hv:Lib.validRune r=false)(w:WL) :
  Calls prog 360 #[.string ⟨#[32,9,10]⟩,.int .i32 r] w fun e w'=>e=.returned (iA (-1))∧w'=w:=by
 have HV:Hid _:=fun (_:Unit)=>utf8_ValidRune r w;rw[hv] at HV;have g1:(0:Int)≤r:=by omega
 have g2:¬ (r<128):=by omega
 have g3:(r==65533)=false:=by simp[h2]
 clear hv;go_enter func360,ntmps360;go_wp2_with fail;refine (HV.out ()).mono ?_;rintro e w' ⟨rfl,rfl⟩;go_wp2_with fail;go_ret;exact⟨rfl,rfl⟩
theorem ir_four (r:Int)(h1:65536≤r)(hv:Lib.validRune r=true)(w:WL) :
  Calls prog 360 #[.string ⟨#[32,9,10]⟩,.int .i32 r] w fun e w'=>e=.returned (iA (-1))∧w'=w:=by
 have HV:Hid _:=fun (_:Unit)=>utf8_ValidRune r w;rw[hv] at HV;have g1:(0:Int)≤r:=by omega
 have g2:¬ (r<128):=by omega
 have g3:(r==65533)=false:=by simp;omega
 have hv':Utf8.valid r=true:=by unfold Utf8.valid;unfold Lib.validRune at hv;simp at hv ⊢;omega
 obtain⟨b0,b1,b2,b3,he⟩:=enc4 r h1 hv';have hcv:∀ w,(convert 21 9 (.int .i32 r)).run prog w=.ok (.string ⟨#[b0,b1,b2,b3]⟩) w:=fun w=>by
  rw[← he];rfl
 clear hv hv' he;go_enter func360,ntmps360;go_wp2_with fail;refine (HV.out ()).mono ?_;rintro e w' ⟨rfl,rfl⟩;clear h1 g1 g2 g3;go_wp2_with fail
 go_step3
 go_wp2_with fail
 go_loop [9,10] (fun i f=>i=iA 3∧f=iA 0) (fun _ _=>0)
 case atStart=>exact⟨rfl,rfl⟩
 case round=>
  obtain⟨rfl,rfl⟩:=hrel;go_wp2_with fail;go_ret;exact⟨rfl,rfl⟩
theorem ir_two (r:Int)(h1:128≤r)(h2:r<2048)(w:WL) :
  Calls prog 360 #[.string ⟨#[32,9,10]⟩,.int .i32 r] w fun e w'=>e=.returned (iA (-1))∧Below w.heap.size w w':=by
 have hm:=hmX
 have HV:Hid _:=fun (_:Unit)=>utf8_ValidRune r w;rw[show Lib.validRune r=true by unfold Lib.validRune;simp;omega] at HV;have g1:(0:Int)≤r:=by omega
 have g2:¬ (r<128):=by omega
 have g3:(r==65533)=false:=by simp;omega
 obtain⟨b0,b1,he,hb⟩:=enc2 r h1 h2;have hcv:∀ w,(convert 21 9 (.int .i32 r)).run prog w=.ok (.string ⟨#[b0,b1]⟩) w:=fun w=>by
  rw[← he];rfl
 have HI:Hid _:=fun (w:WL)=>strings_IndexByte ⟨#[10]⟩ (b1.toNat:Int) w;rw[show Lib.indexByte [10] (b1.toNat:Int).toNat.toUInt8 = -1 by
  unfold Lib.indexByte Lib.indexByte;rw[if_neg (by
   simp;intro e;rw[← e] at hb;exact absurd hb (by decide))]
  rfl] at HI
 have hx:((((⟨#[32,9,10]⟩:BA)[1]'(by decide)).toNat:Int)!=(((⟨#[b0,b1]⟩:BA)[1]'(by show 1<2;decide)).toNat:Int))=true:=by
  show ((9:Int)!=(b1.toNat:Int))=true;simp;omega
 clear he hb h2;go_enter func360,ntmps360;go_wp2_with fail;refine (HV.out ()).mono ?_;rintro e w' ⟨rfl,rfl⟩;clear h1 g1 g2 g3 HV;go_wp2_with fail
 go_step3
 go_wp2_with fail
 go_loop [9,10] (fun i f=>i=iA 1∧f=iA 0) (fun _ _=>0)
 case atStart=>exact⟨rfl,rfl⟩
 case round=>
  obtain⟨rfl,rfl⟩:=hrel;go_wp2_with fail
  go_step3
  go_wp2_with fail;refine wp_region_lex hm (by kernel_rfl) ?_
  repeat still_step
  refine wpStill_nil ?_;go_wp2_with fail;refine wp_region_heldD (fun _=>True) hm ?_;have HB:Hid (Below w'.heap.size w' w'.drew.drew):=((Below.refl _ w').drew).drew;generalize w'.drew.drew=WD at HB ⊢;refine wpAnyH_takes (fun _ _ _ _ _ h=>h) trivial [0,1,2,3,4,5,6] (by kernel_rfl) ?_
  iterate 7
   refine Yls.cons (v:=?_) rfl (.inl ⟨rfl,fun w1 hS1=>?_⟩) ?_;rotate_left
   ·go_simp
    first | rfl | (refine (if_neg (by omega)).trans ?_;rfl)
   simp only[Act.put,Zp,Zq]
  refine Yls.nil ?_;refine rd1 (r:=7) (by kernel_rfl) rfl fun K hK=>?_;go_simp;refine (HI.out _).mono ?_;rintro e W4 ⟨rfl,rfl⟩;refine hK _ _ trivial ?_;clear hK K;intro _
  try simp only[Act.put,Zp,Zq]
  refine rd1 (r:=8) (by kernel_rfl) rfl fun K hK=>?_;go_simp;refine hK _ _ trivial ?_;clear hK K;intro _
  try simp only[Act.put,Zp,Zq]
  refine wpAnyH_done (by kernel_rfl) ?_ _;go_wp2_with fail;rw[Exit.noGoto_ret];dsimp +zetaDelta only [Exit.inBlock,Exit.then];rw[Exit.noGoto_ret]
  try dsimp +zetaDelta only [Exit.inBlock,Exit.then]
  go_ret;exact⟨rfl,HB.out⟩
theorem ir_three (r:Int)(h1:2048≤r)(h2:r<65536)(h3:r≠65533)(hv:Lib.validRune r=true)(w:WL) :
  Calls prog 360 #[.string ⟨#[32,9,10]⟩,.int .i32 r] w fun e w'=>e=.returned (iA (-1))∧Below w.heap.size w w':=by
 have hm:=hmX
 have HV:Hid _:=fun (_:Unit)=>utf8_ValidRune r w;rw[hv] at HV;have hv':Utf8.valid r=true:=by unfold Utf8.valid;unfold Lib.validRune at hv;simp at hv ⊢;omega
 have g1:(0:Int)≤r:=by omega
 have g2:¬ (r<128):=by omega
 have g3:(r==65533)=false:=by simp;omega
 obtain⟨b0,b1,b2,he,hb⟩:=enc3 r h1 h2 hv';have hcv:∀ w,(convert 21 9 (.int .i32 r)).run prog w=.ok (.string ⟨#[b0,b1,b2]⟩) w:=fun w=>by
  rw[← he];rfl
 have HI:Hid _:=fun (w:WL)=>strings_IndexByte ⟨#[]⟩ (b2.toNat:Int) w;rw[show Lib.indexByte (⟨#[]⟩:BA).data.toList (b2.toNat:Int).toNat.toUInt8 = -1 from rfl] at HI;have hx:((((⟨#[32,9,10]⟩:BA)[2]'(by decide)).toNat:Int)!=(((⟨#[b0,b1,b2]⟩:BA)[2]'(by show 2<3;decide)).toNat:Int))=true:=by
  show ((10:Int)!=(b2.toNat:Int))=true;simp;omega
 clear he hb h2 h3 hv hv';go_enter func360,ntmps360;go_wp2_with fail;refine (HV.out ()).mono ?_;rintro e w' ⟨rfl,rfl⟩;clear h1 g1 g2 g3 HV;go_wp2_with fail
 go_step3
 go_wp2_with fail
 go_loop [9,10] (fun i f=>i=iA 2∧f=iA 0) (fun _ _=>0)
 case atStart=>exact⟨rfl,rfl⟩
 case round=>
  obtain⟨rfl,rfl⟩:=hrel;go_wp2_with fail
  go_step3
  go_wp2_with fail;refine wp_region_lex hm (by kernel_rfl) ?_
  repeat still_step
  refine wpStill_nil ?_;go_wp2_with fail;refine wp_region_heldD (fun _=>True) hm ?_;have HB:Hid (Below w'.heap.size w' w'.drew.drew):=((Below.refl _ w').drew).drew;generalize w'.drew.drew=WD at HB ⊢;refine wpAnyH_takes (fun _ _ _ _ _ h=>h) trivial [0,1,2,3,4,5,6] (by kernel_rfl) ?_
  iterate 7
   refine Yls.cons (v:=?_) rfl (.inl ⟨rfl,fun w1 hS1=>?_⟩) ?_;rotate_left
   ·go_simp
    first | rfl | (refine (if_neg (by omega)).trans ?_;rfl)
   simp only[Act.put,Zp,Zq]
  refine Yls.nil ?_;refine rd1 (r:=7) (by kernel_rfl) rfl fun K hK=>?_;go_simp;refine (HI.out _).mono ?_;rintro e W4 ⟨rfl,rfl⟩;refine hK _ _ trivial ?_;clear hK K;intro _
  try simp only[Act.put,Zp,Zq]
  refine rd1 (r:=8) (by kernel_rfl) rfl fun K hK=>?_;go_simp;refine hK _ _ trivial ?_;clear hK K;intro _
  try simp only[Act.put,Zp,Zq]
  refine wpAnyH_done (by kernel_rfl) ?_ _;go_wp2_with fail;rw[Exit.noGoto_ret];dsimp +zetaDelta only [Exit.inBlock,Exit.then];rw[Exit.noGoto_ret]
  try dsimp +zetaDelta only [Exit.inBlock,Exit.then]
  go_ret;exact⟨rfl,HB.out⟩
abbrev blk3:BA:=⟨#[32,9,10]⟩
theorem next3 (w:WL)(ty:TypeId):(Instr.next (.pointer (some (Ad w.heap.size 0))) true ty).run prog (w.iter blk3 0)=.ok (.tuple #[.bool true,iA 0,.int .i32 32]) (w.iter blk3 1) ∧
  (Instr.next (.pointer (some (Ad w.heap.size 0))) true ty).run prog (w.iter blk3 1)=.ok (.tuple #[.bool true,iA 1,.int .i32 9]) (w.iter blk3 2) ∧
  (Instr.next (.pointer (some (Ad w.heap.size 0))) true ty).run prog (w.iter blk3 2)=.ok (.tuple #[.bool true,iA 2,.int .i32 10]) (w.iter blk3 3) ∧
  (Instr.next (.pointer (some (Ad w.heap.size 0))) true ty).run prog (w.iter blk3 3)=.ok (.tuple #[.bool false]) (w.iter blk3 3):=by
 refine⟨?_,?_,?_,?_⟩
 ·exact run_next_any w blk3 0 ty (by decide)
 ·exact run_next_any w blk3 1 ty (by decide)
 ·exact run_next_any w blk3 2 ty (by decide)
 exact run_next_end w blk3 3 ty (by decide)
theorem ir_err (w:WL) :
  Calls prog 360 #[.string ⟨#[32,9,10]⟩,.int .i32 65533] w fun e w'=>e=.returned (iA (-1))∧Below w.heap.size w w':=by
 obtain⟨n0,n1,n2,n3⟩:(∀ ty,_)∧(∀ ty,_)∧(∀ ty,_)∧(∀ ty,_):=⟨fun ty=>(next3 w ty).1,fun ty=>(next3 w ty).2.1,fun ty=>(next3 w ty).2.2.1,fun ty=>(next3 w ty).2.2.2⟩;go_enter func360,ntmps360;go_wp2_with fail
 go_loopw [5,6] (fun _ _ wr=>Hid (∃ pos,pos≤3∧wr=w.iter blk3 pos)) (fun _ _ wr=>3-wr.iterPos w.heap.size)
 case atStart=>exact⟨0,by decide,rfl⟩
 case round=>
  obtain⟨pos,hp,rfl⟩:=hrel.out;clear hrel;rcases (by omega:pos=0∨pos=1∨pos=2∨pos=3) with rfl | rfl | rfl | rfl
  ·obtain⟨V,hV⟩:=eXi (w.iter blk3 1);have HR:Hid (∃ pos,pos≤3∧V=w.iter blk3 pos):=⟨1,by decide,hV.symm⟩;have HM:Hid (3-V.iterPos w.heap.size<3-(w.iter blk3 0).iterPos w.heap.size):=by
    show _<_;rw[← hV,World.iterPos_iter,World.iterPos_iter];decide
   rw[hV] at n0;clear hV;clear n1 n2 n3;go_wp2_with fail;exact⟨HR,HM.out⟩
  ·obtain⟨V,hV⟩:=eXi (w.iter blk3 2);have HR:Hid (∃ pos,pos≤3∧V=w.iter blk3 pos):=⟨2,by decide,hV.symm⟩;have HM:Hid (3-V.iterPos w.heap.size<3-(w.iter blk3 1).iterPos w.heap.size):=by
    show _<_;rw[← hV,World.iterPos_iter,World.iterPos_iter];decide
   rw[hV] at n1;clear hV;clear n0 n2 n3;go_wp2_with fail;exact⟨HR,HM.out⟩
  ·obtain⟨V,hV⟩:=eXi (w.iter blk3 3);have HR:Hid (∃ pos,pos≤3∧V=w.iter blk3 pos):=⟨3,by decide,hV.symm⟩;have HM:Hid (3-V.iterPos w.heap.size<3-(w.iter blk3 2).iterPos w.heap.size):=by
    show _<_;rw[← hV,World.iterPos_iter,World.iterPos_iter];decide
   rw[hV] at n2;clear hV;clear n0 n1 n3;go_wp2_with fail;exact⟨HR,HM.out⟩
  have HB:Hid (Below w.heap.size w (w.iter blk3 3)):=(Below.refl _ w).alloc (Nat.le_refl _) _;clear n0 n1 n2;generalize w.iter blk3 3=V at n3 HB ⊢;go_wp2_with fail;go_ret;exact⟨rfl,HB.out⟩
def blankR (x:Nat):Bool:=decide (x=32∨x=9∨x=10)
theorem ir_high (x:Nat)(h0:128≤x)(h1:x≤1114111)(w:WL) :
  Calls prog 360 #[.string ⟨#[32,9,10]⟩,.int .i32 (x:Int)] w fun e w'=>e=.returned (iA (-1))∧Below w.heap.size w w':=by
 rcases Decidable.em (x=65533) with rfl | hx
 ·exact ir_err w
 cases hv:Lib.validRune (x:Int) with
 | false=>exact (ir_bad x (by omega) (by omega) hv w).mono fun e w' ⟨h,hw⟩=>⟨h,by rw[hw];exact Below.refl _ _⟩
 | true=>
  rcases Nat.lt_or_ge x 2048 with c | c
  ·exact ir_two x (by omega) (by omega) w
  rcases Nat.lt_or_ge x 65536 with c' | c'
  ·exact ir_three x (by omega) (by omega) (by omega) hv w
  exact (ir_four x (by omega) hv w).mono fun e w' ⟨h,hw⟩=>⟨h,by rw[hw];exact Below.refl _ _⟩
theorem contains_high (x:Nat)(h0:128≤x)(h1:x≤1114111)(w:WL) :
  Calls prog 349 #[.string ⟨#[32,9,10]⟩,.int .i32 (x:Int)] w fun e w'=>e=.returned (.bool false)∧Below w.heap.size w w':=by
 have HI:Hid _:=fun (_:Unit)=>ir_high x h0 h1 w;clear h0 h1;go_enter func349,ntmps349;go_wp2_with fail;refine (HI.out ()).mono ?_;rintro e w' ⟨rfl,hb⟩;have HB:Hid _:=hb;clear hb HI;go_wp2_with fail;go_ret;exact⟨rfl,HB.out⟩
theorem contains_any (x:Nat)(h1:x≤1114111)(w:WL) :
  Calls prog 349 #[.string ⟨#[32,9,10]⟩,.int .i32 (x:Int)] w fun e w'=>e=.returned (.bool (blankR x))∧Below w.heap.size w w':=by
 rcases Nat.lt_or_ge x 128 with c | c
 ·refine (strings_ContainsRune_ascii ⟨#[32,9,10]⟩ x w (by omega) (by omega)).mono ?_;rintro e w' ⟨rfl,rfl⟩;refine⟨?_,Below.refl _ _⟩;have:∀ x:Fin 128,decide (0≤Lib.indexByte (⟨#[32,9,10]⟩:BA).data.toList ((x.val:Nat):Int).toNat.toUInt8)=blankR x.val:=by decide
  rw[this ⟨x,c⟩]
 have e:blankR x=false:=by unfold blankR;simp;omega
 rw[e];exact contains_high x c h1 w
theorem isBlank_any (x:Nat)(h1:x≤1114111)(w:WL) :
  Calls prog 321 #[.int .i32 (x:Int)] w fun e w'=>e=.returned (.bool (blankR x))∧Below w.heap.size w w':=by
 have HI:Hid _:=fun (_:Unit)=>contains_any x h1 w;generalize blankR x=b at HI ⊢;clear h1;go_enter func321,ntmps321;go_wp2_with fail;refine (HI.out ()).mono ?_;rintro e w' ⟨rfl,hb⟩;have HB:Hid _:=hb;clear hb HI;go_wp2_with fail;go_ret;exact⟨rfl,HB.out⟩
theorem blank_grows (w:WL):PredGrows prog 321 #[] blankR w:=fun W x hx _=>isBlank_any x hx W
theorem get_bang {s:BA}{i:Nat} (h:i<s.size):s.get! i=s[i]:=by
 have:=get_at s i h
 rwa [Nat.add_zero] at this
theorem decode_span {s:BA}{i:Nat} (h:i<s.size) (hb:128≤(s.get! i).toNat):i+(Utf8.decode s i).2≤s.size∧∀ k,k<(Utf8.decode s i).2→128≤(s.get! (i+k)).toNat:=by
 have hn:¬ (s.get! (i+0)).toNat<0x80:=by rw[Nat.add_zero];omega
 have h0:∀ k,k<1→128≤(s.get! (i+k)).toNat:=fun k hk=>by
  have:k=0:=by omega
  subst this;rw[Nat.add_zero];exact hb
 unfold Utf8.decode;simp only[if_neg hn];split
 ·rename_i c1
  simp only[Bool.and_eq_true,decide_eq_true_eq,beq_iff_eq] at c1;split
  ·refine⟨by omega,fun k hk=>?_⟩;rcases (by omega:k=0∨k=1) with rfl | rfl
   ·exact h0 0 (by omega)
   omega
  exact⟨by omega,h0⟩
 split
 ·rename_i c1
  simp only[Bool.and_eq_true,decide_eq_true_eq,beq_iff_eq] at c1;split
  ·refine⟨by omega,fun k hk=>?_⟩;rcases (by omega:k=0∨k=1∨k=2) with rfl | rfl | rfl
   ·exact h0 0 (by omega)
   ·omega
   omega
  exact⟨by omega,h0⟩
 split
 ·rename_i c1
  simp only[Bool.and_eq_true,decide_eq_true_eq,beq_iff_eq] at c1;split
  ·refine⟨by omega,fun k hk=>?_⟩;rcases (by omega:k=0∨k=1∨k=2∨k=3) with rfl | rfl | rfl | rfl
   ·exact h0 0 (by omega)
   ·omega
   ·omega
   omega
  exact⟨by omega,h0⟩
 exact⟨by omega,h0⟩
theorem fieldsL_skip (u:LB):∀ (f l:LB),(∀ c ∈ u,blankB c=false)→fieldsL f (u++l)=fieldsL (f++u) l:=by
 induction u with
 | nil=>intro f l _;simp
 | cons a u ih=>
  intro f l hu;have ha:=hu a (by simp);rw[List.cons_append,fieldsL,if_neg (by rw[ha];simp),ih _ _ (fun c hc=>hu c (by simp[hc]))];simp
def seg (s:BA) (a b:Nat):LB:=((bl s).drop a).take (b-a)
theorem seg_extract (s:BA)(a b:Nat):s.extract a b=⟨(seg s a b).toArray⟩:=by
 apply ByteArray.ext;rw[ByteArray.data_extract];apply Array.toList_inj.1;rw[Array.toList_extract];show _=seg s a b;unfold seg bl;rw[List.extract_eq_take_drop]
theorem seg_join (s:BA){a b c:Nat}(h1:a≤b)(h2:b≤c):seg s a b++seg s b c=seg s a c:=by
 unfold seg;rw[show c-a=(b-a)+(c-b) by omega,List.take_add,List.drop_drop,show a+(b-a)=b by omega]
theorem seg_drop (s:BA){b c:Nat}(h:b≤c):(bl s).drop b=seg s b c++(bl s).drop c:=by
 unfold seg;rw[show (bl s).drop c=((bl s).drop b).drop (c-b) by rw[List.drop_drop,show b+(c-b)=c by omega],List.take_append_drop]
theorem seg_ne (s:BA){a b:Nat}(h1:a<b)(h2:b≤s.size):seg s a b≠[]:=by
 intro h;have:=congrArg List.length h;unfold seg at this;rw[List.length_take,List.length_drop,bl_length] at this;simp at this;omega
theorem seg_mem (s:BA){a b:Nat}{c:UInt8} (hb:b≤s.size) (h:c ∈ seg s a b):∃ k,k<b-a∧c=s.get! (a+k):=by
 obtain⟨k,hk,e⟩:=List.mem_iff_getElem.1 h;have hl:k<b-a∧a+k<s.size:=by
  unfold seg at hk;rw[List.length_take,List.length_drop,bl_length] at hk;omega
 refine⟨k,hl.1,?_⟩;rw[get_bang hl.2,← e];simp[seg,bl];rfl
theorem seg_one (s:BA){a:Nat}(h:a<s.size):seg s a (a+1)=[s.get! a]:=by
 have hne:=seg_ne s (Nat.lt_succ_self a) h;have hl:(seg s a (a+1)).length≤1:=by
  unfold seg;rw[List.length_take];omega
 rcases hq:seg s a (a+1) with _ | ⟨c,_ | ⟨d,q⟩⟩
 ·exact absurd hq hne
 ·obtain⟨k,hk,e⟩:=seg_mem s (a:=a) (b:=a+1) (c:=c) h (by rw[hq];simp);have:k=0:=by omega
  rw[e,this,Nat.add_zero]
 rw[hq] at hl;simp at hl
theorem blank_eq (c:UInt8):blankR c.toNat=blankB c:=by
 unfold blankR blankB;have e:=fun (d:UInt8)=>UInt8.toNat_inj (a:=c) (b:=d);rw[Bool.eq_iff_iff];simp only[decide_eq_true_eq,Bool.or_eq_true,beq_iff_eq];rw[← e 32,← e 9,← e 10];constructor
 ·rintro (h | h | h)
  ·exact .inl (.inl h)
  ·exact .inl (.inr h)
  exact .inr h
 rintro ((h | h) | h)
 ·exact .inl h
 ·exact .inr (.inl h)
 exact .inr (.inr h)
abbrev opn (s:BA) (st:Option Nat) (pos:Nat):LB:=match st with | none=>[] | some a=>seg s a pos
theorem close_end (s:BA)(st:Option Nat)(acc:List (Nat × Nat))(hst:∀ a,st=some a→a<s.size) :
  (Lib.closeSpans s (acc,st)).map (fun x=>s.extract x.1 x.2)=acc.map (fun x=>s.extract x.1 x.2)++fieldsL (opn s st s.size) []:=by
 cases st with
 | none=>simp[Lib.closeSpans,fieldsL,opn]
 | some a=>
  have:=seg_ne s (hst a rfl) (Nat.le_refl _);simp[Lib.closeSpans,fieldsL,opn,this,seg_extract]
theorem spans_eq (s:BA):∀ (f pos:Nat) (st:Option Nat) (acc:List (Nat × Nat)),s.size-pos≤f→pos≤s.size→(∀ a,st=some a→a<pos) →
  (Lib.closeSpans s (Lib.spansFromP blankR s f pos st acc)).map (fun x=>s.extract x.1 x.2)=acc.map (fun x=>s.extract x.1 x.2)++fieldsL (opn s st pos) ((bl s).drop pos):=by
 intro f;induction f with
 | zero=>
  intro pos st acc h1 h2 h3;have:pos=s.size:=by omega
  subst this;rw[List.drop_eq_nil_of_le (by rw[bl_length];exact Nat.le_refl _)];exact close_end s st acc h3
 | succ f ih=>
  intro pos st acc h1 h2 h3;rcases Nat.lt_or_ge pos s.size with c | c
  ·unfold Lib.spansFromP;rw[if_pos c];rcases hb:blankR (Utf8.decode s pos).1 with _ | _
   ·
    obtain⟨hn1,hn2,hn3⟩:1≤(Utf8.decode s pos).2∧pos+(Utf8.decode s pos).2≤s.size∧∀ c ∈ seg s pos (pos+(Utf8.decode s pos).2),blankB c=false:=by
     rcases Nat.lt_or_ge (s.get! pos).toNat 128 with d | d
     ·have e:=decode_ascii s pos c (by rw[← get_bang c];exact d);rw[e] at hb ⊢;refine⟨Nat.le_refl _,c,fun x hx=>?_⟩;obtain⟨k,hk,ex⟩:=seg_mem s (b:=pos+1) c hx;have:k=0:=by omega
      rw[this,Nat.add_zero,get_bang c] at ex;rw[ex,← blank_eq];exact hb
     obtain⟨e1,e2⟩:=decode_span c d;refine⟨(decode_high s pos c (by rw[← get_bang c];exact d)).2,e1,fun x hx=>?_⟩;obtain⟨k,hk,ex⟩:=seg_mem s e1 hx;have:=e2 k (by omega);rw[← blank_eq,ex];unfold blankR;simp;omega
    generalize (Utf8.decode s pos).2=n at hn1 hn2 hn3 ⊢;rw[seg_drop s (show pos≤pos+n by omega),fieldsL_skip _ _ _ hn3];cases st with
    | none=>
     simp only[Bool.false_eq_true,if_false];rw[ih (pos+n) (some pos) acc (by omega) hn2 (by intro a ha;cases ha;omega)];rfl
    | some a=>
     simp only[Bool.false_eq_true,if_false];rw[ih (pos+n) (some a) acc (by omega) hn2 (by intro b hb;cases hb;have:=h3 a rfl;omega)];show _++fieldsL (seg s a (pos+n)) _=_++fieldsL (seg s a pos++seg s pos (pos+n)) _;rw[seg_join s (Nat.le_of_lt (h3 a rfl)) (by omega)]
   ·
    have d:(s.get! pos).toNat<128:=by
     apply Nat.lt_of_not_le;intro d;have:=(decode_high s pos c (by rw[← get_bang c];exact d)).1;unfold blankR at hb;simp at hb;omega
    have e:=decode_ascii s pos c (by rw[← get_bang c];exact d);rw[e] at hb ⊢;simp only at hb ⊢;rw[← get_bang c,blank_eq] at hb;rw[seg_drop s (show pos≤pos+1 by omega),seg_one s c];cases st with
    | none=>
     simp only[if_true];rw[ih (pos+1) none acc (by omega) c (by intro a ha;cases ha)];simp only[opn,List.cons_append,List.nil_append,fieldsL,hb,if_true]
    | some a=>
     simp only[if_true];rw[ih (pos+1) none (acc++[(a,pos)]) (by omega) c (by intro a ha;cases ha)];have hne:=seg_ne s (h3 a rfl) h2;simp only[opn,List.cons_append,List.nil_append,fieldsL,hb,if_true,if_neg hne];rw[List.map_append,List.append_assoc];congr 1;simp[seg_extract]
  have:pos=s.size:=by omega
  subst this;rw[Lib.spansFromP_end _ _ _ _ _ _ (by omega),List.drop_eq_nil_of_le (by rw[bl_length];exact Nat.le_refl _)];exact close_end s st acc h3
theorem fields_cut (s:BA):Lib.goFieldsP blankR s=cutF s:=by
 unfold Lib.goFieldsP Lib.spansOfP;rw[spans_eq s s.size 0 none [] (by omega) (Nat.zero_le _) (by intro a ha;cases ha)];simp[opn,cutF]
theorem fields_any (s:BA)(hs:s.size≤4294967296)(W:WL) :
  Calls prog 289 #[.string s] W fun e W'=>∃ v',e=.returned v'∧Fr [] W W'∧W'.ownsRow W.heap.size 9 1 v' (cutF s).length ((cutF s).map .string):=by
 have HF:Hid _:=fun (_:Unit)=>strings_FieldsFunc_grows 321 #[] (by intro args w;rfl) blankR s W hs (blank_grows W);rw[fields_cut] at HF;generalize (cutF s).length=n at HF ⊢;generalize (cutF s).map Value.string=xs at HF ⊢;clear hs;go_enter func289,ntmps289;go_wp2_with fail;refine (HF.out ()).mono ?_;rintro e W1 ⟨A,rfl,-,ow,hB⟩;have HO:Hid _:=AI ow hB;clear ow hB HF;go_wp2_with fail;go_ret;exact⟨_,rfl,Fr.of_below HO.out.2,HO.out.1⟩
theorem build76 (s:BA)(vo:OA)(n c:Nat)(w:WL):(Instr.build 132 #[(0,.string s),(1,.slice vo n c)]).run prog w=.ok (.agg #[.string s,.slice vo n c]) w:=by
 kernel_rfl
theorem cells2 {w:WL}{b:Nat}{x y:Value}{t:TypeId} (h:w.heap[b]?=some (.cells #[x,y] t)):(w.cell? (Ad b 0)=some x∧w.cell? (Ad b 1)=some y)∧w.frozen? (Ad b 0)=false∧w.frozen? (Ad b 1)=false:=by
 refine⟨⟨?_,?_⟩,?_,?_⟩ <;> first | (unfold World.cell?;rw[h];rfl) | (unfold World.frozen?;rw[h];simp)
theorem set2 {w:WL}{b:Nat}{x y x' y':Value} (h:w.cell? (Ad b 0)=some x∧w.cell? (Ad b 1)=some y):∃ w',(w.setCell ⟨b,0,none⟩ x').setCell ⟨b,1,none⟩ y'=w'∧w'.cell? (Ad b 0)=some x'∧w'.cell? (Ad b 1)=some y'∧Fr [b] w w':=by
 obtain⟨h0,h1⟩:=h;refine⟨_,rfl,?_,?_,((Fr.refl [b] w).setCell (.inl (by simp)) _).setCell (.inl (by simp)) _⟩
 ·rw[setCell_off (by decide)];exact cell_setA h0
 exact cell_setA (by rw[setCell_off (by decide)];exact h1)
theorem newRec_any (s:BA)(hs:s.size≤4294967296)(W:WL) :
  Calls prog 228 #[.string s] W fun e W'=>∃ v',e=.returned (.agg #[.string s,v'])∧Fr [] W W'∧W'.ownsRow W.heap.size 9 1 v' (cutF s).length ((cutF s).map .string):=by
 have HF:Hid _:=fun (W1:WL)=>fields_any s hs W1;generalize (cutF s).length=n at HF ⊢;generalize (cutF s).map Value.string=xs at HF ⊢;obtain⟨W1,hW1⟩:=eXi (W.alloc (.cells #[.string ⟨#[]⟩,.slice none 0 0] 132));have F1:=frA hW1
 have k1:=kA hW1;have l1:=(Age.1 k1).1;have HF1:Hid _:=AI F1 (AI k1 l1);clear hs F1 k1 l1;go_enter func228,ntmps228;go_wp2_with fail;refine (HF.out W1).mono ?_;rintro e W2 ⟨v',rfl,F2,ow⟩;obtain⟨vo,vc,rfl⟩:=own_form ow;obtain⟨F1,k1,l1⟩:=HF1.out;obtain⟨hy,z0,z1⟩:=cells2 ((F2.block _ l1 (by simp)).trans k1);obtain⟨W7,hW7,r0,r1,F7⟩:=set2 (x':=.string s) (y':=.slice vo n vc) hy;obtain⟨y0,y1⟩:=hy;have hbd:=build76 s vo n vc;have ow7:W7.ownsRow W.heap.size 9 1 (.slice vo n vc) n xs:=by
  have ow':W2.ownsRow W.heap.size 9 1 (.slice vo n vc) n xs:=by
   refine⟨ow.1,ow.2.imp id ?_⟩;rintro ⟨g,cap,cur,e1,e2,e3⟩;exact⟨g,cap,cur,e1,Nat.le_trans F1.size e2,e3⟩
  exact own_of_block ow' fun g hg=>F7.block g (ow.lt g hg).2 (by
   simp;rintro rfl;have:=(ow.lt _ hg).1;omega)
 have HO:Hid _:=AI ((F1.trans F2).trans' F7 (by simp)) ow7;clear ow ow7 F7 F2 F1 k1 l1 HF1 HF;go_wp2_with fail;refine bodyPost_ret (v:=.agg #[.string s,.slice vo n vc]) (by simp[results,results228,go_sem,r0,r1]) rfl ?_;exact⟨_,rfl,HO.out.1,HO.out.2⟩
section
variable {E:Env}{X:Nat}{g:Pl}{s:Ms}{W W':WL}{tag:NN}
def onRec (s:Ms) (t:BA) (fl:LY):Ms:={ s with w:={ s.w with rcd:=t,flds:=fl } }
def onNr (s:Ms):Ms:={ s with w:={ s.w with nr:=s.w.nr+1 } }
theorem MM.setRec (h:MM E X g s W tag){W2:WL}(F:Fr [] W W2){v':Value}{fl:LY} (ow:W2.ownsRow W.heap.size 9 1 v' fl.length (fl.map .string)) (t:BA) :
  (W2.frozen? (Ad X 6)=false∧W2.frozen? (Ad X 7)=false)∧(∃ u,W2.cell? (Ad X 6)=some u)∧(∃ u,W2.cell? (Ad X 7)=some u) ∧
  ∃ t',MM E X g (onRec s t fl) ((W2.setCell ⟨X,6,none⟩ (.string t)).setCell ⟨X,7,none⟩ v') t'∧Kp tag t' W ((W2.setCell ⟨X,6,none⟩ (.string t)).setCell ⟨X,7,none⟩ v'):=by
 obtain⟨h6,lv,R,mp,x,hx,h⟩:=h;have S2:=h.S.frm F 9;have K2:Kp tag (newTag tag W.heap.size 9) W W2:=Kp.new F 9;have o:=(S2.rows 10 h.lX).1;rw[h.rX] at o;have hro:RoL W2 (newTag tag W.heap.size 9) v' (fl.map .string):=RoL.of_own ow fun q hq _=>newTag_new hq;obtain⟨S3,K3⟩:=S2.put h.lX h.rX (j:=6) (by omega) (.string t);obtain⟨S4,K4⟩:=S3.put h.lX (up_same _ _ _) (j:=7) (by omega) v';have K:=K2.trans (K3.trans K4);refine⟨⟨own_thaw o _,own_thaw o _⟩,⟨.string s.w.rcd,own_cell o rfl⟩,⟨x.flv,own_cell o rfl⟩,_,⟨Nat.le_trans h6 K.size,lv,_,mp,onL x x.rv x.dv v',hx,h.rex h6 (s':=onRec s t fl) K S4 rfl rfl rfl rfl ?_ ?_ (h.rcs.kp K) (h.drw.kp K) (hro.kp (K3.trans K4))⟩,K⟩
 ·rw[up_same];rfl
 intro i hi;rw[up_off _ _ hi,up_off _ _ hi]
theorem MM.noRec (h:MM E X g s W tag)(hd:s.w.recs[s.w.nr]?=none):∃ o c,W.cell? (Ad X 3)=some (.slice o 0 c):=by
 obtain⟨h6,lv,R,mp,x,hx,h⟩:=h;obtain⟨o,c,e1,-⟩:=h.rcs;have:s.w.recs.drop s.w.nr=[]:=List.drop_eq_nil_of_le (List.getElem?_eq_none_iff.1 hd);rw[this] at e1;exact⟨o,c,h.xc (by rw[show (Value.slice o 0 c)=x.rv from e1.symm];rfl)⟩
theorem MM.setNr (h:MM E X g s W tag){t:BA}(hd:s.w.recs[s.w.nr]?=some t):∃ gt off m c,W.cell? (Ad X 3)=some (.slice (some (Ad gt off)) (m+1) c)∧m+1≤c∧c≤9223372036854775807∧W.cell? (Ad gt off)=some (.string t)∧W.frozen? (Ad X 3)=false ∧
  ∀ o',(c≠1→o'=some (Ad gt (off+1)))→(W.setCell ⟨X,3,none⟩ (.slice o' m (c-1))).cell? (Ad X 5)=some (iA (s.w.nr:Nat))∧(W.setCell ⟨X,3,none⟩ (.slice o' m (c-1))).frozen? (Ad X 5)=false ∧
   MM E X g (onNr s) ((W.setCell ⟨X,3,none⟩ (.slice o' m (c-1))).setCell ⟨X,5,none⟩ (.int .i64 ((s.w.nr+1:Nat):Int))) tag∧Kp tag tag W ((W.setCell ⟨X,3,none⟩ (.slice o' m (c-1))).setCell ⟨X,5,none⟩ (.int .i64 ((s.w.nr+1:Nat):Int))):=by
 obtain⟨h6,lv,R,mp,x,hx,h⟩:=h;obtain⟨o,c,e1,e2,e2',e3⟩:=h.rcs;have hl:=(Lgs.1 hd).1;have hc:s.w.recs.drop s.w.nr=t :: s.w.recs.drop (s.w.nr+1):=by
  rw[List.drop_eq_getElem_cons hl,(Lgs.1 hd).2]
 rw[hc] at e1 e2 e3;simp only[List.map_cons,List.length_cons] at e1 e2 e3;obtain⟨gt,off,e4,e5,e6,e7⟩:=e3 (by omega);have ow:=(h.S.rows 10 h.lX).1;rw[h.rX] at ow;refine⟨gt,off,((s.w.recs.drop (s.w.nr+1)).map Value.string).length,c,h.xc (by rw[← e4,← e1];rfl),e2,e2',by have:=e7 0 _ rfl;exact this,own_thaw ow _,fun o' ho=>?_⟩;obtain⟨S1,k1⟩:=h.S.put h.lX h.rX (j:=3) (by omega) (.slice o' ((s.w.recs.drop (s.w.nr+1)).map Value.string).length (c-1));have ow1:=(S1.rows 10 h.lX).1;rw[up_same] at ow1;simp only at ow1;obtain⟨S2,k2⟩:=S1.put h.lX (up_same _ _ _) (j:=5) (by omega) (iA ((s.w.nr+1:Nat):Int));have k:=k1.trans k2;refine⟨own_cell ow1 rfl,own_thaw ow1 _,⟨Nat.le_trans h6 k.size,lv,_,mp,onL x (.slice o' ((s.w.recs.drop (s.w.nr+1)).map Value.string).length (c-1)) x.dv x.flv,hx,h.rex h6 (s':=onNr s) k S2 rfl rfl rfl rfl ?_ ?_ ?_ (h.drw.kp k) (h.fld.kp k)⟩,k⟩
 ·rw[up_same];rfl
 ·intro i hi;rw[up_off _ _ hi,up_off _ _ hi]
 refine⟨o',c-1,rfl,?_,by omega,fun h0=>?_⟩
 ·show ((s.w.recs.drop (s.w.nr+1)).map Value.string).length≤_;omega
 have h0':0<((s.w.recs.drop (s.w.nr+1)).map Value.string).length:=h0;refine⟨gt,off+1,ho (by omega),Nll e5 k.size,(k.ret gt e5).trans e6,fun i v hv=>?_⟩;have:=e7 (i+1) v hv;rw[show off+(i+1)=off+1+i by omega] at this;exact (k.cell (p:=Ad gt (off+1+i)) e5 (by show tag gt<10;omega)).trans this
theorem MM.read0 (h:MM E X g s W tag)(hd:s.w.recs[s.w.nr]?=none):Calls prog 129 #[ptr X] W (MP E X g s tag W (.bool false)):=by
 obtain⟨o,c,x3⟩:=h.noRec hd;have HM1:Hid _:=h;clear h;go_enter func129,ntmps129;go_wp2_with fail;go_ret;exact⟨rfl,tag,HM1.out,Kp.refl _ _⟩
theorem MM.read1 (h:MM E X g s W tag){t:BA}(hd:s.w.recs[s.w.nr]?=some t)(ht:t.size≤4294967296)(hn:s.w.recs.length≤1000000):Calls prog 129 #[ptr X] W (MP E X g (onNr (onRec s t (cutF t))) tag W (.bool true)):=by
 have hnr:=(Lgs.1 hd).1;obtain⟨gt,off,m,c,x3,hc,hc',y0,z3,-⟩:=h.setNr hd;have e0:(((m+1:Nat):Int)==0)=false:=by simp;omega
 have hw64:IntKind.i64.wrap ((m+1:Nat):Int)=((m+1:Nat):Int):=by rw[IntKind.wrap_i64];omega
 have HR:Hid _:=fun (_:Unit)=>newRec_any t ht W;have HS:Hid _:=fun (W2:WL) (F:Fr [] W W2) (v':Value) (ow:W2.ownsRow W.heap.size 9 1 v' (cutF t).length ((cutF t).map .string))=>h.setRec F ow t;have HN:Hid _:=fun (W3:WL) (t3:NN) (h3:MM E X g (onRec s t (cutF t)) W3 t3)=>h3.setNr (t:=t) hd;have hwn:IntKind.i64.wrap ((s.w.nr:Int)+1)=((s.w.nr+1:Nat):Int):=by rw[IntKind.wrap_i64];omega
 generalize onNr (onRec s t (cutF t))=s2 at HN ⊢;clear h hd ht hn hnr z3;go_enter func129,ntmps129;go_wp2_with fail;refine (HR.out ()).mono ?_;rintro e W2 ⟨v',rfl,F2,ow⟩;obtain⟨⟨z6,z7⟩,⟨u6,x6⟩,⟨u7,x7⟩,t3,h3,k3⟩:=HS.out W2 F2 v' ow;obtain⟨vo,vc,rfl⟩:=own_form ow;have x7':(W2.setCell ⟨X,6,none⟩ (.string t)).cell? (Ad X 7)=some u7:=by rw[setCell_off (by decide)];exact x7
 obtain⟨gt',off',m',c',x3',hc1,hc2,y0',z3',HF⟩:=HN.out _ t3 h3;have HK:Hid _:=k3;have e0':(((m'+1:Nat):Int)==0)=false:=by simp;omega
 have hw64':IntKind.i64.wrap ((m'+1:Nat):Int)=((m'+1:Nat):Int):=by rw[IntKind.wrap_i64];omega
 clear ow F2 HR HS HN h3 k3;obtain⟨V3,hV3⟩:=eXi ((W2.setCell ⟨X,6,none⟩ (.string t)).setCell ⟨X,7,none⟩ (.slice vo (cutF t).length vc));rw[hV3] at x3' y0' z3' HF HK;replace HF:∀ (o':OA),(c'≠1→o'=some (Ad gt' (off'+1)))→(V3.setCell ⟨X,3,none⟩ (.slice o' m' (c' - 1))).cell? (Ad X 5)=some (iA (s.w.nr:Nat))∧(V3.setCell ⟨X,3,none⟩ (.slice o' m' (c' - 1))).frozen? (Ad X 5)=false ∧
   MM E X g s2 ((V3.setCell ⟨X,3,none⟩ (.slice o' m' (c' - 1))).setCell ⟨X,5,none⟩ (.int .i64 ((s.w.nr+1:Nat):Int))) t3∧Kp t3 t3 V3 ((V3.setCell ⟨X,3,none⟩ (.slice o' m' (c' - 1))).setCell ⟨X,5,none⟩ (.int .i64 ((s.w.nr+1:Nat):Int))):=HF
 generalize s.w.nr=nr at HF hwn;have ec:((nr+1:Nat):Int)=(nr:Int)+1:=by omega
 rw[ec] at HF hwn;clear ec;generalize (cutF t).length=n at hV3;rcases Decidable.em (c'=1) with hc1' | hc1'
 ·subst hc1';have hm0:m'=0:=by omega
  subst hm0;obtain⟨q1,q2,q3,q4⟩:=HF (some (Ad gt' off')) (fun h=>absurd rfl h);obtain⟨V4,hV4⟩:=eXi (V3.setCell ⟨X,3,none⟩ (.slice (some ⟨gt',off',none⟩) 0 (1-1)));rw[hV4] at q1 q2 q3 q4;obtain⟨V5,hV5⟩:=eXi (V4.setCell ⟨X,5,none⟩ (.int .i64 ((nr:Int)+1)));rw[hV5] at q3 q4;have HM5:Hid _:=AI q3 (HK.out.trans q4);clear q3 q4 HF;go_wp2_with fail;go_ret;exact⟨rfl,t3,HM5.out.1,HM5.out.2⟩
 obtain⟨q1,q2,q3,q4⟩:=HF _ (fun _=>rfl);obtain⟨V4,hV4⟩:=eXi (V3.setCell ⟨X,3,none⟩ (.slice (some ⟨gt',off'+1,none⟩) m' (c' - 1)));rw[hV4] at q1 q2 q3 q4;obtain⟨V5,hV5⟩:=eXi (V4.setCell ⟨X,5,none⟩ (.int .i64 ((nr:Int)+1)));rw[hV5] at q3 q4;have HM5:Hid _:=AI q3 (HK.out.trans q4);clear q3 q4 HF;go_wp2_with fail;go_ret;exact⟨rfl,t3,HM5.out.1,HM5.out.2⟩
end
section
variable {E:Env}{X:Nat}{g:Pl}{s:Ms}{W W':WL}{tag:NN}
def onNext (s:Ms):Ms:={ s with w:=(nextR s.w).1 }
theorem MM.readR (h:MM E X g s W tag)(ht:∀ t,s.w.recs[s.w.nr]?=some t→t.size≤4294967296)(hn:s.w.recs.length≤1000000):Calls prog 129 #[ptr X] W (MP E X g (onNext s) tag W (.bool (nextR s.w).2)):=by
 unfold onNext Mach.nextR;cases hd:s.w.recs[s.w.nr]? with
 | none=>exact h.read0 hd
 | some t=>exact h.read1 hd (ht t hd) hn
end
theorem Fr.setCells {S:LN}{a:WL}{b:Nat} (hb:b ∈ S∨a.heap.size≤b):∀ (us:LV) (o:Nat) (w:WL),Fr S a w→Fr S a (w.setCells b o us)
 | [],o,w,h=>h
 | u :: us,o,w,h=>Fr.setCells hb us (o+1) _ (h.setCell (p:=⟨b,o,none⟩) hb u)
theorem add_plain (g o j:Nat):((Ad g o):Addr).add j=(Ad g (o+j)):=by cases j <;> simp[Addr.add]
section
variable {E:Env}{X:Nat}{g:Pl}{s:Ms}{W W':WL}{tag:NN}
end
section
variable {E:Env}{X:Nat}{g:Pl}{s:Ms}{W W':WL}{tag:NN}
end
section
variable {E:Env}{X:Nat}{g:Pl}{s:Ms}{W W':WL}{tag:NN}
end
section
variable {E:Env}{X:Nat}{g:Pl}{s:Ms}{W W':WL}{tag:NN}
end
section
variable {E:Env}{X:Nat}{g:Pl}{s:Ms}{W W':WL}{tag:NN}
end
end Go.Proofs.YtmolfmgchbjnbaaGreatDoor
