import Derived.Lib.SlBytesConst
import Derived.Handy
import Derived.Test.YtmolfmgchbjnbaaGreatDoorM13
import Derived.Test.YtmolfmgchbjnbaaGreatDoorM01
import Derived.Test.YtmolfmgchbjnbaaGreatDoorM02
set_option linter.unusedSimpArgs false
set_option linter.unusedVariables false
set_option linter.unusedSectionVars false
set_option maxRecDepth 100000
set_option maxHeartbeats 40000000
open _root_.Go.Proofs.Tryz
namespace Go.Proofs.YtmolfmgchbjnbaaGreatDoor
open Go.RowKit
open Wire
def mkB (l:LB):BA:=⟨l.toArray⟩
theorem mkB_size (l:LB):(mkB l).size=l.length:=mk_size l
theorem mkB_app (a b:LB):mkB a++mkB b=mkB (a++b):=by
 apply ByteArray.ext;simp[mkB]
theorem bl_mkB (l:LB):bl (mkB l)=l:=bl_mk l
theorem body_eq (m:Mo):body m=[71,76,1]++sect 1 (listing m.texts)++sect 2 (listing m.pats)++sect 3 (digs m.globs.toNat)++sect 4 (digs m.arrs.toNat)++sect 5 (fnsL m.fns):=by
 simp[body]
theorem body_len_le (m:Mo)(ip:BA→Bool)(h:within ip m=true):(body m).length≤100000000:=by
 obtain⟨q1,q2,q3,q4,q5,q6,q7,q8,q9,q10,q11⟩:=Wire.within_iff.1 h;have f11:=lawfulAll_mem _ _ q11;obtain⟨l1,n1⟩:=listing_len m.texts q9 q1;obtain⟨l2,n2⟩:=listing_len m.pats (fun s hs=>by have:=(q10 s hs).1;omega) q2;have l3:=digs_len m.globs.toNat;have l4:=digs_len m.arrs.toNat;obtain⟨l5,n5⟩:=fnsL_len m.fns (fun s hs=>(f11 s hs).1) q4;have s1:=sect_len 1 (listing m.texts);have s2:=sect_len 2 (listing m.pats);have s3:=sect_len 3 (digs m.globs.toNat);have s4:=sect_len 4 (digs m.arrs.toNat);have s5:=sect_len 5 (fnsL m.fns);rw[body_length];omega
def packS (m:Mo):BA:=if within ipF m=true∧(Wire.written m).length≤40000 then mkB (Wire.written m) else ⟨#[]⟩
def packE (m:Mo):Int:=if within ipF m=true∧(Wire.written m).length≤40000 then 0 else 4
theorem full_new (w:WL):Full w [71,76,1] (.slice (some (Ad w.heap.size 0)) 3 3) (w.alloc (.cells #[Value.int .u8 71,Value.int .u8 76,Value.int .u8 1] 5 (3,4))):=by
 have hm:=wan w (.cells #[Value.int .u8 71,Value.int .u8 76,Value.int .u8 1] 5 (3,4));have hc:∀ j:Nat,(w.alloc (.cells #[Value.int .u8 71,Value.int .u8 76,Value.int .u8 1] 5 (3,4))).cell? (Ad w.heap.size j)=(#[Value.int .u8 71,Value.int .u8 76,Value.int .u8 1]:Array Value)[j]?:=fun j=>by
  unfold World.cell?;rw[hm];simp
 refine⟨w.heap.size,rfl,Nat.le_refl _,by simp,fun j u hj=>?_,(Fr.refl [] w).alloc _⟩;rcases j with _ | _ | _ | j
 ·simp[Lib.byteCells] at hj;subst hj;exact hc 0
 ·simp[Lib.byteCells] at hj;subst hj;exact hc 1
 ·simp[Lib.byteCells] at hj;subst hj;exact hc 2
 simp[Lib.byteCells] at hj
theorem packM_any (mv:Value)(m:Mo)(w:WL)(hM:ModIn w mv m)(hz:ModSz m)(hp:m.pats=[])(hT:Tab w) :
  Calls prog 29 #[mv] w fun e w'=>e=.returned (.tuple #[.string (packS m),iA (packE m)])∧Fr [] w w':=by
 have hW:=fun (W:WL) (f:Fr [] w W)=>isWithin_any mv m W (hM.fr f) hz hp (hT.fr f (by simp));have hA:=fun (W W':WL) (f:Fr [] w W) (v:Value) (h:Full W [71,76,1] v W') (hw:within ipF m=true)=>appendSections_any W [71,76,1] v mv m ipF W' (by simp) h (hM.fr f) hw;simp only[← body_eq] at hA;have hbl:=body_len_le m ipF;have hwr:Wire.written m=body m++sum3 (body m):=rfl;unfold packS packE;obtain⟨tv,pv,fv,rfl,hT1,hP,hF⟩:=hM.is;obtain⟨ta,tc,tg,tz,rfl,-⟩:=id hT1;obtain⟨pa,pc,pg,po,rfl,-⟩:=id hP;obtain⟨fa,fc,fg,fo,rfl,-⟩:=id hF;clear hM hz hT hT1 hP hF hp;obtain⟨texts,pats,globs,arrs,fns⟩:=m;simp only at *;generalize (⟨texts,pats,globs,arrs,fns⟩:Mo)=m at *;have f0:Fr [] w (w.alloc (.cells #[Value.slice ta texts.length tc,Value.slice pa pats.length pc,iA globs,iA arrs,Value.slice fa fns.length fc] 70)):=(Fr.refl [] w).alloc _;have hnew:=wan w (.cells #[Value.slice ta texts.length tc,Value.slice pa pats.length pc,iA globs,iA arrs,Value.slice fa fns.length fc] 70);have hlt2:w.heap.size<(w.alloc (.cells #[Value.slice ta texts.length tc,Value.slice pa pats.length pc,iA globs,iA arrs,Value.slice fa fns.length fc] 70)).heap.size:=by simp
 cases hw:within ipF m with
 | false=>
  simp only[hw] at hW;rw[if_neg (by simp),if_neg (by simp)];have HW:Hid _:=hW;clear hW hA hbl hwr hw;go_enter func29,ntmps29;go_wp2_with fail;refine (HW.out _ f0).mono ?_;rintro e w1 ⟨rfl,f1⟩;go_wp2;go_ret2;exact⟨rfl,f0.trans f1⟩
 | true=>
  simp only[hw] at hW;have HW:Hid _:=hW;have hb:=hbl hw;have HA:Hid (∀ (W W':WL),Fr [] w W→∀ (v:Value),Full W [71,76,1] v W'→Calls prog 42 #[v,.agg #[Value.slice ta texts.length tc,Value.slice pa pats.length pc,iA globs,iA arrs,Value.slice fa fns.length fc]] W' fun e w'=>∃ v',e=.returned v'∧OwnB W (body m) v' w'):=fun W W' f v h=>hA W W' f v h hw;have hbne:body m≠[]:=by simp[body]
  obtain⟨R,hR⟩:∃ R:BA,(if true=true∧(Wire.written m).length≤40000 then mkB (Wire.written m) else ⟨#[]⟩:BA)=R:=⟨_,rfl⟩;obtain⟨E,hE⟩:∃ E:Int,(if true=true∧(Wire.written m).length≤40000 then 0 else 4:Int)=E:=⟨_,rfl⟩;rw[hR,hE];have HR:Hid _:=hR;have HE:Hid _:=hE;clear hR hE;generalize body m=B at *;clear hA hbl hW;go_enter func29,ntmps29;go_wp2_with fail;obtain⟨W,hWW⟩:=eXi (w.alloc (.cells #[Value.slice ta texts.length tc,Value.slice pa pats.length pc,iA globs,iA arrs,Value.slice fa fns.length fc] 70));rw[hWW] at f0 hnew hlt2 ⊢;clear hWW;refine (HW.out W f0).mono ?_;rintro e w1 ⟨rfl,f1⟩;have kept:w1.heap[w.heap.size]?=some (.cells #[Value.slice ta texts.length tc,Value.slice pa pats.length pc,iA globs,iA arrs,Value.slice fa fns.length fc] 70):=by
   rw[f1.block _ hlt2 (by simp),hnew]
  have hlt3:w.heap.size<w1.heap.size:=(Age.1 kept).1;have k0:w1.cell? (Ad w.heap.size 0)=some (Value.slice ta texts.length tc):=cof kept rfl;have k1:w1.cell? (Ad w.heap.size 1)=some (Value.slice pa pats.length pc):=cof kept rfl;have k2:w1.cell? (Ad w.heap.size 2)=some (iA globs):=cof kept rfl;have k3:w1.cell? (Ad w.heap.size 3)=some (iA arrs):=cof kept rfl;have k4:w1.cell? (Ad w.heap.size 4)=some (Value.slice fa fns.length fc):=cof kept rfl;clear HW hnew hlt2 kept;have kc:=fun (W:WL) (C:Array Value) (n c:Nat)=>Lib.run_convert_bytes_const (P:=prog) W 92 5 C n c underlying92 underlying5;have JF:=full_new w1;go_wp2_with fail;refine (HA.out w1 _ (f0.trans f1) _ JF).mono ?_;rintro e w2 ⟨v2,rfl,J2⟩;obtain⟨g,cap,rfl,hg0,hg1,hgc⟩:=J2.row hbne;clear HA JF kc k0 k1 k2 k3 k4;have hconv:=conv_bytes w2 g cap B.length B rfl (fun j hj=>by
   have:=hgc j (.int .u8 (B[j].toNat:Int)) (by simp[Lib.byteCells,List.getElem?_map,Lge hj]);rcases j with _ | j <;> simpa [Addr.add] using this)
  have hS:=sum_any (mkB B) w2 (by rw[mkB_size];omega);rw[bl_mkB] at hS;have hsz1:=mkB_size B;have hsz2:(mkB (sum3 B)).size=3:=by rw[mkB_size];rfl
  have happ:=mkB_app B (sum3 B);rw[← hwr] at happ;have hwl:(Wire.written m).length=B.length+3:=by rw[hwr,Lla];rfl
  have hsz3:(mkB (Wire.written m)).size=B.length+3:=by rw[mkB_size];exact hwl
  change (convert 92 9 _).run prog w2=.ok (.string (mkB B)) w2 at hconv;change Calls prog 43 _ w2 (fun e w'=>e=.returned (.string (mkB (sum3 B)))∧Fr [] w2 w') at hS;have HP:Hid ((mkB B++mkB (sum3 B):BA)=mkB (Wire.written m)):=happ;have f2:=(f0.trans f1).trans J2.fr;have e1:R=if B.length+3≤40000 then mkB (Wire.written m) else ⟨#[]⟩:=by
   rw[← HR.out,hwl];simp
  have e2:E=if B.length+3≤40000 then 0 else 4:=by
   rw[← HE.out,hwl];simp
  clear HR HE;generalize mkB (Wire.written m)=P at *;generalize mkB (sum3 B)=S at *;generalize mkB B=T at *;clear hgc J2 hwr happ hwl;go_wp2_with fail;refine hS.mono ?_;rintro e w3 ⟨rfl,f3⟩;clear hS hconv;have f3:=f2.trans f3;have g0:T.size+S.size≤9223372036854775807:=by omega
  clear hbne hlt3 f0 f1 f2 hg0 hg1;by_cases hle:B.length+3≤40000
  ·rw[if_pos hle] at e1 e2;have g1:¬ (40000:Int)<(T.size:Int)+S.size:=by omega
   have HE1:Hid _:=e1;subst e2;clear hsz1 hsz2 hsz3 hle hb e1;generalize B.length=n at *;go_wp2;go_ret2;refine⟨?_,f3⟩;rw[HE1.out,← HP.out];rfl
  rw[if_neg hle] at e1 e2;have g1:(40000:Int)<(T.size:Int)+S.size:=by omega
  subst e1 e2;clear hsz1 hsz2 hsz3 hle hb;generalize B.length=n at *;go_wp2;go_ret2;exact⟨rfl,f3⟩
structure RdC (w:WL) (r:Nat) (b:BA) (a e p er:Nat):Prop where
 c0:w.cell? ⟨r,0,none⟩=some (.string b)
 c1:w.cell? ⟨r,1,none⟩=some (.int .i64 a)
 c2:w.cell? ⟨r,2,none⟩=some (.int .i64 e)
 c3:w.cell? ⟨r,3,none⟩=some (.int .i64 p)
 c4:w.cell? ⟨r,4,none⟩=some (.int .i64 er)
 f1:w.frozen? ⟨r,1,none⟩=false
 f2:w.frozen? ⟨r,2,none⟩=false
 f3:w.frozen? ⟨r,3,none⟩=false
 f4:w.frozen? ⟨r,4,none⟩=false
theorem RdC.of_block {w w':WL}{r:Nat}{b:BA}{a e p er:Nat} (h:RdC w r b a e p er) (hb:w'.heap[r]?=w.heap[r]?):RdC w' r b a e p er:=
 ⟨(World.cell?_of_block (w:=w) (a:=Ad r 0) hb).trans h.c0,(World.cell?_of_block (w:=w) (a:=Ad r 1) hb).trans h.c1,(World.cell?_of_block (w:=w) (a:=Ad r 2) hb).trans h.c2,
   (World.cell?_of_block (w:=w) (a:=Ad r 3) hb).trans h.c3,(World.cell?_of_block (w:=w) (a:=Ad r 4) hb).trans h.c4,
   (World.frozen?_of_block (w:=w) (a:=Ad r 1) hb).trans h.f1,(World.frozen?_of_block (w:=w) (a:=Ad r 2) hb).trans h.f2,
   (World.frozen?_of_block (w:=w) (a:=Ad r 3) hb).trans h.f3,(World.frozen?_of_block (w:=w) (a:=Ad r 4) hb).trans h.f4⟩
theorem RdC.lt {w:WL}{r:Nat}{b:BA}{a e p er:Nat} (h:RdC w r b a e p er):r<w.heap.size:=lt_of_cell (a:=Ad r 0) h.c0
theorem RdC.fr {S:LN}{w w':WL}{r:Nat}{b:BA}{a e p er:Nat} (h:RdC w r b a e p er) (hf:Fr S w w') (hr:r ∉ S):RdC w' r b a e p er:=h.of_block (hf.block r h.lt hr)
theorem cell_set {w:WL}{b i:Nat}{u v:Value} (h:w.cell? (Ad b i)=some u):(w.setCell ⟨b,i,none⟩ v).cell? (Ad b i)=some v:=World.cell?_setCell_same' _ _ _ (by rw[h];rfl)
theorem RdC.set1 {w:WL}{r:Nat}{b:BA}{a e p er:Nat} (h:RdC w r b a e p er) (x:Nat):RdC (w.setCell ⟨r,1,none⟩ (.int .i64 x)) r b x e p er:=
 ⟨(setCell_off (by decide)).trans h.c0,cell_set h.c1,(setCell_off (by decide)).trans h.c2,(setCell_off (by decide)).trans h.c3,(setCell_off (by decide)).trans h.c4,
   by rw[wfz];exact h.f1,by rw[wfz];exact h.f2,by rw[wfz];exact h.f3,by rw[wfz];exact h.f4⟩
theorem RdC.set2 {w:WL}{r:Nat}{b:BA}{a e p er:Nat} (h:RdC w r b a e p er) (x:Nat):RdC (w.setCell ⟨r,2,none⟩ (.int .i64 x)) r b a x p er:=
 ⟨(setCell_off (by decide)).trans h.c0,(setCell_off (by decide)).trans h.c1,cell_set h.c2,(setCell_off (by decide)).trans h.c3,(setCell_off (by decide)).trans h.c4,
   by rw[wfz];exact h.f1,by rw[wfz];exact h.f2,by rw[wfz];exact h.f3,by rw[wfz];exact h.f4⟩
theorem seg_cons {b:BA}{a e:Nat} (h:a<e) (he:e≤b.size):seg (bl b) a e=b[a] :: seg (bl b) (a+1) e:=by
 have hL:=bl_length b;unfold seg;have hlt:a<((bl b).take e).length:=by rw[List.length_take];omega
 rw[List.drop_eq_getElem_cons hlt,List.getElem_take];congr 1
theorem bl_extract (b:BA)(a e:Nat):bl (b.extract a e)=seg (bl b) a e:=by
 unfold bl seg;rw[ByteArray.data_extract,Array.toList_extract,List.drop_take]
theorem cloneU_any (s:BA)(w:WL)(hs:s.size≤100000):Calls prog 58 #[.string s] w fun e w'=>e=.returned (.string s)∧Fr [] w w':=by
 have hc:=stringslite_Clone s w (by omega);go_enter func58,ntmps58;go_wp2_with fail;refine hc.mono ?_;rintro e w1 ⟨rfl,lo⟩;go_wp2;go_ret;exact⟨rfl,Fr.of_below lo⟩
theorem seg_take (l:LB)(a e x:Nat)(h:a+x≤e):(seg l a e).take x=seg l a (a+x):=by
 unfold seg;rw[List.drop_take,List.drop_take,List.take_take];congr 1;omega
theorem infoS:(prog.info? 9).map (fun i=>(i.zero,i.size,i.bytes))=some (some (.string ⟨#[]⟩),1,16):=by kernel_rfl
structure OwnT (r:Nat) (w0:WL) (L:LY) (v:Value) (W:WL):Prop where
 own:W.ownsRow w0.heap.size 9 1 v L.length (L.map Value.string)
 fr:Fr [r] w0 W
theorem OwnT.start {r:Nat}{w0 w1:WL} (hf:Fr [r] w0 w1):OwnT r w0 [] (.slice none 0 0) w1:=⟨World.ownsRow_nil _ _ _ _,hf⟩
theorem own_kept {r:Nat}{w0 W W':WL}{e:TypeId}{size n:Nat}{xs:LV}{v:Value} (h:W.ownsRow w0.heap.size e size v n xs) (hr:r<w0.heap.size) (hf:Fr [r] W W'):W'.ownsRow w0.heap.size e size v n xs:=by
 refine h.kept (row:=some r) ⟨hf.os,hf.tape,hf.output,hf.size,fun k hk hn=>hf.block k hk (by simpa using fun e=>hn (by rw[e]))⟩ ?_;cases hv:v.ownBlock with
 | none=>exact .inl rfl
 | some k=>
  refine .inr fun e=>?_;have:=(h.lt k hv).1;simp only[Option.some.injEq] at e;omega
theorem OwnT.kept {r:Nat}{w0:WL}{L:LY}{v:Value}{W W':WL} (h:OwnT r w0 L v W) (hr:r<w0.heap.size) (hf:Fr [r] W W'):OwnT r w0 L v W':=⟨own_kept h.own hr hf,h.fr.trans hf⟩
theorem fr_grown {r:Nat}{w0 W W':WL}{e:TypeId}{size n:Nat}{xs:LV}{v:Value} (h:W.ownsRow w0.heap.size e size v n xs) (hf:Fr [r] w0 W) (hg:W.grownBy W' v.ownBlock):Fr [r] w0 W':=by
 refine⟨hg.os.trans hf.os,hg.tape.trans hf.tape,hg.output.trans hf.output,Nat.le_trans hf.size hg.size,fun k hk hn=>?_⟩;have h1:=hf.size;rw[hg.block k (by omega) (fun e=>by have:=(h.lt k e.symm).1;omega),hf.block k hk hn]
theorem OwnT.grown {r:Nat}{w0:WL}{L:LY}{v v':Value}{W W':WL}{s:BA} (h:OwnT r w0 L v W) (hown:W'.ownsRow w0.heap.size 9 1 v' (L.length+1) (L.map Value.string++[.string s])) (hg:W.grownBy W' v.ownBlock):OwnT r w0 (L++[s]) v' W':=
 ⟨by rw[Lla,List.map_append];exact hown,fr_grown h.own h.fr hg⟩
theorem own_fr {B:Nat}{S:LN}{W W':WL}{e:TypeId}{size n:Nat}{xs:LV}{v:Value} (h:W.ownsRow B e size v n xs) (hf:Fr S W W') (hS:∀ x,x ∈ S→x<B):W'.ownsRow B e size v n xs:=by
 refine⟨h.1,?_⟩;rcases h.2 with h' | ⟨g,cap,cur,hv,hg,hh,r⟩
 ·exact .inl h'
 exact .inr ⟨g,cap,cur,hv,hg,by rw[hf.block g (Age.1 hh).1 (fun hm=>by have:=hS g hm;omega)];exact hh,r⟩
theorem own_low {W:WL}{B B':Nat}{e:TypeId}{k:Nat}{v:Value}{n:Nat}{xs:LV} (h:W.ownsRow B e k v n xs) (hb:B'≤B):W.ownsRow B' e k v n xs:=by
 refine⟨h.1,?_⟩;rcases h.2 with h' | ⟨g,cap,cur,hv,hg,r⟩
 ·exact .inl h'
 exact .inr ⟨g,cap,cur,hv,Nat.le_trans hb hg,r⟩
def StrsFar (B:Nat) (W:WL) (v:Value) (L:LY):Prop:=
 ∃ (a0:OA) (cap g off:Nat),v=.slice a0 L.length cap∧L.length≤cap∧(0<L.length→a0=some ⟨g,off,none⟩∧g<W.heap.size∧B≤g) ∧
  (∀ (i:Nat) (x:BA),L[i]?=some x→W.cell? ⟨g,off+i,none⟩=some (.string x))∧W.ownsRow B 9 1 v L.length (L.map Value.string)
theorem StrsFar.own {B:Nat}{W:WL}{v:Value}{L:LY} (h:StrsFar B W v L):W.ownsRow B 9 1 v L.length (L.map Value.string):=by
 obtain⟨a0,cap,g,off,h1,h2,h3,h4,h5⟩:=h;exact h5
theorem StrsFar.fr {B:Nat}{S:LN}{W W':WL}{v:Value}{L:LY} (h:StrsFar B W v L) (hf:Fr S W W') (hS:∀ x,x ∈ S→x<B):StrsFar B W' v L:=by
 obtain⟨a0,cap,g,off,h1,h2,h3,h4,h5⟩:=h;refine⟨a0,cap,g,off,h1,h2,fun h=>⟨(h3 h).1,Nll (h3 h).2.1 hf.size,(h3 h).2.2⟩,fun i x hi=>?_,own_fr h5 hf hS⟩;have h0:0<L.length:=by have:=(Lgs.1 hi).1;omega
 exact (hf.cell (p:=Ad g (off+i)) (h3 h0).2.1 (fun hm=>by have:=hS g hm;have:=(h3 h0).2.2;omega)).trans (h4 i x hi)
theorem OwnT.far {r:Nat}{w0:WL}{L:LY}{v:Value}{W:WL} (h:OwnT r w0 L v W):StrsFar w0.heap.size W v L:=by
 rcases h.own.2 with ⟨hv,h0⟩ | ⟨g,cap,cur,hv,hb,hg,hn,_⟩
 ·have hL:=List.eq_nil_of_length_eq_zero h0;subst hL;exact⟨none,0,0,0,hv,Nat.le_refl _,fun h=>absurd h (Nat.lt_irrefl _),(fun i x hx=>by cases hx),h.own⟩
 refine⟨some (Ad g 0),cap,g,0,hv,hn,fun _=>⟨rfl,(Age.1 hg).1,hb⟩,fun i x hx=>?_,h.own⟩;have:=h.own.cells (g:=g) (by rw[hv];rfl) i (.string x) (by rw[List.getElem?_map,hx];rfl);rcases i with _ | i
 ·simpa [Addr.add] using this
 simpa [Addr.add] using this
def slLen:Value→Nat
 | .slice _ n _=>n
 | _=>0
theorem OwnT.form {r:Nat}{w0:WL}{L:LY}{v:Value}{W:WL} (h:OwnT r w0 L v W):∃ a0 cap,v=.slice a0 L.length cap:=by
 rcases h.own.2 with ⟨hv,h0⟩ | ⟨g,cap,cur,hv,_⟩
 ·exact⟨none,0,by rw[hv,h0]⟩
 exact⟨_,cap,hv⟩
theorem one_text (s:BA):∀ u ∈ [Value.string s],u.oneCell'=true:=by intro u hu;simp at hu;subst hu;rfl
theorem infoF:(prog.info? 112).map (fun i=>(i.zero,i.size,i.bytes))=some (some (.agg #[iA 0,iA 0,.string ⟨#[]⟩]),3,32):=by kernel_rfl
def fnC (f:Wire.Fn):LV:=[.int .i64 f.params,.int .i64 f.locs,.string f.code]
theorem fnC_at (L:List Wire.Fn)(i t:Nat)(f:Wire.Fn)(hi:L[i]?=some f)(ht:t<3):(L.flatMap fnC)[i*3+t]?=(fnC f)[t]?:=by
 induction L generalizing i with
 | nil=>cases hi
 | cons a L ih=>
  rw[List.flatMap_cons];cases i with
  | zero=>
   simp at hi;subst hi;rw[List.getElem?_append_left (by simp[fnC];omega)];simp
  | succ i=>
   rw[List.getElem?_append_right (by simp[fnC];omega)];have e:(i+1)*3+t-(fnC a).length=i*3+t:=by simp[fnC];omega
   rw[e];exact ih i (by simpa using hi)
structure OwnF (r:Nat) (w0:WL) (L:List Wire.Fn) (v:Value) (W:WL):Prop where
 own:W.ownsRow w0.heap.size 112 3 v L.length (L.flatMap fnC)
 fr:Fr [r] w0 W
theorem OwnF.start {r:Nat}{w0 w1:WL} (hf:Fr [r] w0 w1):OwnF r w0 [] (.slice none 0 0) w1:=⟨World.ownsRow_nil _ _ _ _,hf⟩
theorem OwnF.kept {r:Nat}{w0:WL}{L:List Wire.Fn}{v:Value}{W W':WL} (h:OwnF r w0 L v W) (hr:r<w0.heap.size) (hf:Fr [r] W W'):OwnF r w0 L v W':=⟨own_kept h.own hr hf,h.fr.trans hf⟩
theorem OwnF.grown {r:Nat}{w0:WL}{L:List Wire.Fn}{v v':Value}{W W':WL}{s:Wire.Fn} (h:OwnF r w0 L v W) (hown:W'.ownsRow w0.heap.size 112 3 v' (L.length+1) (L.flatMap fnC++fnC s)) (hg:W.grownBy W' v.ownBlock):OwnF r w0 (L++[s]) v' W':=
 ⟨by rw[Lla,List.flatMap_append];simpa using hown,fr_grown h.own h.fr hg⟩
theorem OwnF.form {r:Nat}{w0:WL}{L:List Wire.Fn}{v:Value}{W:WL} (h:OwnF r w0 L v W):∃ a0 cap,v=.slice a0 L.length cap:=by
 rcases h.own.2 with ⟨hv,h0⟩ | ⟨g,cap,cur,hv,_⟩
 ·exact⟨none,0,by rw[hv,h0]⟩
 exact⟨_,cap,hv⟩
def FnsFar (B:Nat) (W:WL) (v:Value) (L:List Wire.Fn):Prop:=
 ∃ (a0:OA) (cap g off:Nat),v=.slice a0 L.length cap∧L.length≤cap∧(0<L.length→a0=some ⟨g,off,none⟩∧g<W.heap.size∧B≤g) ∧
  (∀ (i:Nat) (x:Wire.Fn),L[i]?=some x→W.cell? ⟨g,off+i*3,none⟩=some (.int .i64 x.params)∧W.cell? ⟨g,off+i*3+1,none⟩=some (.int .i64 x.locs)∧W.cell? ⟨g,off+i*3+2,none⟩=some (.string x.code))∧W.ownsRow B 112 3 v L.length (L.flatMap fnC)
theorem FnsFar.own {B:Nat}{W:WL}{v:Value}{L:List Wire.Fn} (h:FnsFar B W v L):W.ownsRow B 112 3 v L.length (L.flatMap fnC):=by
 obtain⟨a0,cap,g,off,h1,h2,h3,h4,h5⟩:=h;exact h5
theorem FnsFar.fns {B:Nat}{W:WL}{v:Value}{L:List Wire.Fn} (h:FnsFar B W v L):FnsIn W v L:=by
 obtain⟨a0,cap,g,off,h1,h2,h3,h4,h5⟩:=h;exact⟨a0,cap,g,off,h1,h2,fun h=>⟨(h3 h).1,(h3 h).2.1⟩,h4⟩
theorem FnsFar.fr {B:Nat}{S:LN}{W W':WL}{v:Value}{L:List Wire.Fn} (h:FnsFar B W v L) (hf:Fr S W W') (hS:∀ x,x ∈ S→x<B):FnsFar B W' v L:=by
 obtain⟨a0,cap,g,off,h1,h2,h3,h4,h5⟩:=h;refine⟨a0,cap,g,off,h1,h2,fun h=>⟨(h3 h).1,Nll (h3 h).2.1 hf.size,(h3 h).2.2⟩,fun i x hi=>?_,own_fr h5 hf hS⟩;have h0:0<L.length:=by have:=(Lgs.1 hi).1;omega
 have hn:g ∉ S:=fun hm=>by have:=hS g hm;have:=(h3 h0).2.2;omega
 obtain⟨x0,x1,x2⟩:=h4 i x hi;exact⟨(hf.cell (p:=Ad g (off+i*3)) (h3 h0).2.1 hn).trans x0,(hf.cell (p:=Ad g (off+i*3+1)) (h3 h0).2.1 hn).trans x1,(hf.cell (p:=Ad g (off+i*3+2)) (h3 h0).2.1 hn).trans x2⟩
theorem add_plain0 (g j:Nat):((Ad g 0):Addr).add j=(Ad g j):=by cases j <;> simp[Addr.add]
theorem OwnF.far {r:Nat}{w0:WL}{L:List Wire.Fn}{v:Value}{W:WL} (h:OwnF r w0 L v W):FnsFar w0.heap.size W v L:=by
 rcases h.own.2 with ⟨hv,h0⟩ | ⟨g,cap,cur,hv,hb,hg,hn,_⟩
 ·have hL:=List.eq_nil_of_length_eq_zero h0;subst hL;exact⟨none,0,0,0,hv,Nat.le_refl _,fun h=>absurd h (Nat.lt_irrefl _),(fun i x hx=>by cases hx),h.own⟩
 refine⟨some (Ad g 0),cap,g,0,hv,hn,fun _=>⟨rfl,(Age.1 hg).1,hb⟩,fun i x hx=>?_,h.own⟩;have hc:=fun t ht u hu=>h.own.cells (g:=g) (by rw[hv];rfl) (i*3+t) u ((fnC_at L i t x hx ht).trans hu);simp only[add_plain0] at hc;simp only[Nat.zero_add];exact⟨hc 0 (by omega) _ rfl,hc 1 (by omega) _ rfl,hc 2 (by omega) _ rfl⟩
theorem fnC_one (f:Wire.Fn):∀ u ∈ fnC f,u.oneCell'=true:=by
 intro u hu;simp only[fnC,List.mem_cons,List.not_mem_nil,or_false] at hu;rcases hu with rfl | rfl | rfl <;> rfl
theorem fnC_new (w:WL)(p l:Int)(c:BA):∀ j u,[iA p,iA l,Value.string c][j]?=some u→(w.alloc (.cells #[iA p,iA l,.string c] 112)).cell? (((Ad w.heap.size 0):Addr).add j)=some u:=by
 intro j u hj;have hm:=wan w (.cells #[iA p,iA l,.string c] 112);rw[add_plain0];unfold World.cell?;rw[hm];simpa using hj
variable {B r rb mb:Nat}{o0 o1:Option (LY)}{o2 o3:Option Nat}{o4:Option (List Wire.Fn)}{W W':WL}
theorem fr_set (W:WL)(mb i:Nat)(v:Value):Fr [mb] W (W.setCell ⟨mb,i,none⟩ v):=(Fr.refl [mb] W).setCell (p:=⟨mb,i,none⟩) (.inl (by simp)) _
theorem StrsFar.base {B B':Nat}{W:WL}{v:Value}{L:LY} (h:StrsFar B W v L) (hb:B'≤B):StrsFar B' W v L:=by
 obtain⟨a0,cap,g,off,h1,h2,h3,h4,h5⟩:=h;exact⟨a0,cap,g,off,h1,h2,fun h=>⟨(h3 h).1,(h3 h).2.1,Nat.le_trans hb (h3 h).2.2⟩,h4,own_low h5 hb⟩
theorem FnsFar.base {B B':Nat}{W:WL}{v:Value}{L:List Wire.Fn} (h:FnsFar B W v L) (hb:B'≤B):FnsFar B' W v L:=by
 obtain⟨a0,cap,g,off,h1,h2,h3,h4,h5⟩:=h;exact⟨a0,cap,g,off,h1,h2,fun h=>⟨(h3 h).1,(h3 h).2.1,Nat.le_trans hb (h3 h).2.2⟩,h4,own_low h5 hb⟩
theorem eq_strU (a b:BA):(a.toList==b.toList)=decide (a=b):=by
 rw[ByteArray.toList_eq,ByteArray.toList_eq,Bool.eq_iff_iff];simp only[beq_iff_eq,decide_eq_true_eq];exact⟨fun h=>ByteArray.ext (Array.toList_inj.1 h),fun h=>by rw[h]⟩
def put5 (W:WL) (g:Nat) (v0 v1 v2 v3 v4:Value):WL:=((((W.setCell ⟨g,0,none⟩ v0).setCell ⟨g,1,none⟩ v1).setCell ⟨g,2,none⟩ v2).setCell ⟨g,3,none⟩ v3).setCell ⟨g,4,none⟩ v4
theorem put5_fr (W:WL)(g:Nat)(v0 v1 v2 v3 v4:Value):Fr [g] W (put5 W g v0 v1 v2 v3 v4):=
 (((((Fr.refl [g] W).setCell (p:=⟨g,0,none⟩) (.inl (by simp)) _).setCell (p:=⟨g,1,none⟩) (.inl (by simp)) _).setCell (p:=⟨g,2,none⟩) (.inl (by simp)) _).setCell (p:=⟨g,3,none⟩) (.inl (by simp)) _).setCell (p:=⟨g,4,none⟩) (.inl (by simp)) _
theorem put5_cells {W:WL}{g:Nat}{u0 u1 u2 u3 u4:Value} (v0 v1 v2 v3 v4:Value) (e0:W.cell? (Ad g 0)=some u0) (e1:W.cell? (Ad g 1)=some u1) (e2:W.cell? (Ad g 2)=some u2) (e3:W.cell? (Ad g 3)=some u3) (e4:W.cell? (Ad g 4)=some u4) :
  (put5 W g v0 v1 v2 v3 v4).cell? (Ad g 0)=some v0∧(put5 W g v0 v1 v2 v3 v4).cell? (Ad g 1)=some v1∧(put5 W g v0 v1 v2 v3 v4).cell? (Ad g 2)=some v2∧(put5 W g v0 v1 v2 v3 v4).cell? (Ad g 3)=some v3∧(put5 W g v0 v1 v2 v3 v4).cell? (Ad g 4)=some v4:=by
 unfold put5;refine⟨?_,?_,?_,?_,?_⟩
 ·exact (setCell_off (by decide)).trans ((setCell_off (by decide)).trans ((setCell_off (by decide)).trans ((setCell_off (by decide)).trans (cell_set e0))))
 ·exact (setCell_off (by decide)).trans ((setCell_off (by decide)).trans ((setCell_off (by decide)).trans (cell_set ((setCell_off (by decide)).trans e1))))
 ·exact (setCell_off (by decide)).trans ((setCell_off (by decide)).trans (cell_set ((setCell_off (by decide)).trans ((setCell_off (by decide)).trans e2))))
 ·exact (setCell_off (by decide)).trans (cell_set ((setCell_off (by decide)).trans ((setCell_off (by decide)).trans ((setCell_off (by decide)).trans e3))))
 exact cell_set ((setCell_off (by decide)).trans ((setCell_off (by decide)).trans ((setCell_off (by decide)).trans ((setCell_off (by decide)).trans e4))))
def ModFar (B:Nat) (W:WL) (v:Value) (m:Mo):Prop:=
 ∃ tv pv fv,v=.agg #[tv,pv,.int .i64 m.globs,.int .i64 m.arrs,fv]∧StrsFar B W tv m.texts∧StrsFar B W pv m.pats∧FnsFar B W fv m.fns∧∀ g,tv.ownBlock=some g→pv.ownBlock=some g→False
theorem ModFar.fr {B:Nat}{S:LN}{W W':WL}{v:Value}{m:Mo} (h:ModFar B W v m) (hf:Fr S W W') (hS:∀ x,x ∈ S→x<B):ModFar B W' v m:=by
 obtain⟨tv,pv,fv,h1,h2,h3,h4,h5⟩:=h;exact⟨tv,pv,fv,h1,h2.fr hf hS,h3.fr hf hS,h4.fr hf hS,h5⟩
theorem ModFar.base {B B':Nat}{W:WL}{v:Value}{m:Mo} (h:ModFar B W v m) (hb:B'≤B):ModFar B' W v m:=by
 obtain⟨tv,pv,fv,h1,h2,h3,h4,h5⟩:=h;exact⟨tv,pv,fv,h1,h2.base hb,h3.base hb,h4.base hb,h5⟩
structure GR (w:WL) (r:Nat) (b:BA) (a e:Nat) (l:LB):Prop where
 c:RdC w r b a e 0 0
 le:a≤e∧e≤b.size∧b.size≤40000
 s:seg (bl b) a e=l
section
variable {w w':WL}{r:Nat}{b:BA}{a e:Nat}{l p t:LB}
theorem GR.fr {S:LN}(h:GR w r b a e l)(hf:Fr S w w')(hr:r ∉ S):GR w' r b a e l:=⟨h.c.fr hf hr,h.le,h.s⟩
theorem GR.heap (h:GR w r b a e l)(hh:w'.heap=w.heap):GR w' r b a e l:=⟨h.c.of_block (by rw[hh]),h.le,h.s⟩
theorem GR.len (h:GR w r b a e l):l.length=e-a:=by rw[← h.s,seg_length (by rw[bl_length];exact h.le.2.1)]
theorem GR.adv {k:Nat}(h:GR w r b a e (p++t))(hk:p.length=k):GR (w.setCell ⟨r,1,none⟩ (.int .i64 ((a:Int)+k))) r b (a+k) e t:=by
 have:=seg_suffix h.s h.le.1 (by rw[bl_length];exact h.le.2.1);have hl:=h.len;have h1:=h.le;simp at hl;rw[hk] at this;exact⟨by have:=h.c.set1 (a+k);rwa [Int.natCast_add] at this,by omega,by rw[← this.2.1];exact this.1⟩
theorem fr_set1 (w:WL)(r:Nat)(v:Value):Fr [r] w (w.setCell ⟨r,1,none⟩ v):=(Fr.refl [r] w).setCell (p:=⟨r,1,none⟩) (.inl (by simp)) _
theorem needG {c:UInt8}{cI nI:Int} (hc:cI=(c.toNat:Int)) (h:GR w r b a e (c :: t)) :
  Calls prog 168 #[.pointer (some (Ad r 0)),.int .u8 cI,iA nI] w fun ee w'=>ee=.returned (.tuple #[])∧GR w' r b (a+1) e t∧Fr [r] w w':=by
 subst hc;have hl:=h.len;have h1:=h.le;simp at hl;have hb:b[a]=c:=by
  have:=h.s;rw[seg_cons (by omega) h1.2.1] at this;exact (List.cons.inj this).1
 have K:GR (w.setCell ⟨r,1,none⟩ (.int .i64 ((a:Int)+1))) r b (a+1) e t:=GR.adv (k:=1) (p:=[c]) h rfl;obtain⟨c0,c1,c2,c3,c4,f1,f2,f3,f4⟩:=h.c;have hd:((a:Int)==(e:Int))=false:=by simp;omega
 have hd2:((b[a].toNat:Int)!=(c.toNat:Int))=false:=by simp[hb]
 have g1:(a:Int)<b.size:=by omega
 clear h;go_enter func168,ntmps168;go_wp2;go_quiet (fail);go_wp2;go_end0;exact⟨rfl,K.heap rfl,(fr_set1 _ _ _).drewN _⟩
theorem numberG {n:Nat}(hn:n<34359738368)(h:GR w r b a e (digs n++t)) :
  Calls prog 263 #[.pointer (some (Ad r 0))] w fun ee w'=>ee=.returned (iA n)∧GR w' r b (a+(digs n).length) e t∧Fr [r] w w':=by
 have h1:=h.le;have hl:=h.len;have hx:(b.extract a e).size=e-a:=by rw[ByteArray.size_extract];omega
 have hd:num (bl (b.extract a e))=some (n,t):=by rw[bl_extract,h.s];exact num_digs hn t
 have hread:=fun (W:WL)=>numRead_any (b.extract a e) (by omega) W;have hV:numV (bl (b.extract a e))=n:=by simp only[numV,hd]
 have hK:numK (bl (b.extract a e))=(digs n).length:=by simp only[numK,hd,bl_length,hx];simp at hl;omega
 simp only[hV,hK] at hread;have hdn:0<(digs n).length:=by
  cases hq:digs n with
  | nil=>exact absurd hq (digs_ne _ (by omega))
  | cons a r=>simp
 have hb10:=digs_len n;have K:=h.adv rfl;obtain⟨c0,c1,c2,c3,c4,f1,f2,f3,f4⟩:=h.c;have HR:Hid _:=hread;generalize (digs n).length=k at *;have g4:((k:Int)==0)=false:=by simp;omega
 have g2:(a:Int)≤e:=by omega
 have g3:(e:Int)≤b.size:=by omega
 clear hread hV hK hd hx h hl;go_enter func263,ntmps263;go_wp2;go_quiet (first | (go_at_call 188;refine Calls.quiet_of_same (HR.out _)))
 go_wp2;go_ret;exact⟨rfl,K.heap rfl,(fr_set1 _ _ _).drewN _⟩
theorem limitedG {n lo hi:Nat}{loI hiI:Int} (hlo:loI=(lo:Int)) (hhi:hiI=(hi:Int)) (h1:lo≤n) (h2:n≤hi) (h3:hi≤100000) (h:GR w r b a e (digs n++t)) :
  Calls prog 176 #[.pointer (some (Ad r 0)),iA loI,iA hiI] w fun ee w'=>ee=.returned (iA n)∧GR w' r b (a+(digs n).length) e t∧Fr [r] w w':=by
 subst hlo hhi;have hnum:=numberG (by omega) h;have c1:=h.c.c1;have g1:¬ (n:Int)<lo:=by omega
 have g2:¬ (hi:Int)<n:=by omega
 clear h;go_enter func176,ntmps176;go_wp2_with fail;refine hnum.mono ?_;rintro ee w1 ⟨rfl,K1,F1⟩;go_wp2;go_ret;exact⟨rfl,K1,F1⟩
theorem bytesOfG {s:BA}{lim:Nat}{lI:Int} (hlim:lI=(lim:Int)) (h1:s.size≤lim) (h2:lim≤20000) (h:GR w r b a e (textB s++t)) :
  Calls prog 264 #[.pointer (some (Ad r 0)),iA lI] w fun ee w'=>ee=.returned (.string s)∧GR w' r b (a+(textB s).length) e t∧Fr [r] w w':=by
 subst hlim;have hm:=hmX
 have h':GR w r b a e (digs s.size++(bl s++t)):=by rw[← List.append_assoc];exact h
 have hlm:=limitedG (lo:=0) (hi:=lim) rfl rfl (by omega) h1 (by omega) h';change Calls prog 176 #[.pointer (some (Ad r 0)),iA 0,iA lim] w _ at hlm;have ht:a+(textB s).length=a+(digs s.size).length+s.size:=by rw[textB,Lla,bl_length];omega
 rw[ht];have hl:=h'.len;have hle:=h.le;simp[bl_length] at hl;have c1:=h.c.c1;generalize a+(digs s.size).length=a1 at *;have hcl:=fun (W:WL)=>cloneU_any s W (by omega);have HC:Hid _:=hcl;clear h h' ht hcl;go_enter func264,ntmps264;go_wp2_with fail;refine hlm.mono ?_;rintro ee w1 ⟨rfl,K1,F1⟩;have hl1:=K1.len;simp[bl_length] at hl1;have hle1:=K1.le;have hs:b.extract a1 (a1+s.size)=s:=by
  apply bl_inj;rw[bl_extract,← seg_take (bl b) a1 e s.size (by omega),K1.s,List.take_left' (bl_length s)]
 obtain⟨d0,d1,d2,d3,d4,f1,f2,f3,f4⟩:=K1.c;have g1:¬ (e:Int)-(a1:Int)<s.size:=by omega
 have g2:(a1:Int)+s.size≤b.size:=by omega
 clear hlm hl hl1;go_wp2;go_quiet (fail);go_wp2;have K2:=(K1.heap (w':=w1.drewN nq) rfl).adv (bl_length s);have F2:=F1.trans (((Fr.refl [r] w1).drewN nq).trans (fr_set1 (w1.drewN nq) r (iA ((a1:Int)+s.size))));have C2:=K2.c;generalize (w1.drewN nq).setCell ⟨r,1,none⟩ (.int .i64 ((a1:Int)+s.size))=W2 at *;obtain⟨d0,d1,d2,d3,d4,f1,f2,f3,f4⟩:=C2;clear K1 F1 hle1;rw[Int.natCast_add] at d1;have g3:(0:Int)≤(a1:Int)+s.size-s.size:=by omega
 have g4:(a1:Int)+s.size-s.size=a1:=by omega
 have g5:IntKind.i64.wrap (a1:Int)=a1:=by rw[IntKind.wrap_i64];omega
 have g6:(a1:Int)≤(a1:Int)+s.size:=by omega
 have g7:(0:Int)≤(a1:Int):=by omega
 refine wp_region_tail 15 hm (by kernel_rfl) ?_;simp only[Zt]
 repeat still_step
 refine wpStill_nil ?_;go_wp2_with fail;simp only[hs];refine (HC.out _).mono ?_;rintro ee w3 ⟨rfl,F3⟩;have F3:Fr [] W2 w3:=⟨F3.os,F3.tape,F3.output,F3.size,F3.block⟩;clear HC d0 d1 d2 d3 d4 f1 f2 f3 f4 g4 g5;go_wp2;go_ret;exact⟨rfl,K2.fr F3 (by simp),F2.trans (F3.mono (by simp))⟩
theorem textG {s:BA}(h1:s.size≤100)(h:GR w r b a e (textB s++t)) :
  Calls prog 172 #[.pointer (some (Ad r 0))] w fun ee w'=>ee=.returned (.string s)∧GR w' r b (a+(textB s).length) e t∧Fr [r] w w':=by
 have hb:=bytesOfG (lim:=100) rfl h1 (by omega) h;change Calls prog 264 #[.pointer (some (Ad r 0)),iA 100] w _ at hb;clear h;go_enter func172,ntmps172;go_wp2_with fail;refine hb.mono ?_;rintro ee w1 ⟨rfl,K1,F1⟩;clear hb;go_wp2;go_ret;exact⟨rfl,K1,F1⟩
theorem patternG {s:BA}(hi:ipF s=true)(hT:Tab w)(hr0:r≠1)(h:GR w r b a e (textB s++t)) :
  Calls prog 174 #[.pointer (some (Ad r 0))] w fun ee w'=>ee=.returned (.string s)∧GR w' r b (a+(textB s).length) e t∧Fr [r] w w':=absurd hi (by simp[ipF])
end
def GS (w:WL) (r:Nat) (b:BA) (e:Nat) (l:LB):Prop:=∃ a,GR w r b a e l
section
variable {w w':WL}{r:Nat}{b:BA}{e:Nat}{l p t:LB}
theorem GS.fr {S:LN}(h:GS w r b e l)(hf:Fr S w w')(hr:r ∉ S):GS w' r b e l:=h.imp fun _ h=>h.fr hf hr
theorem GS.lt (h:GS w r b e l):r<w.heap.size:=by obtain⟨a,h⟩:=h;exact h.c.lt
theorem GS.lim {n lo hi:Nat}{loI hiI:Int} (hlo:loI=(lo:Int)) (hhi:hiI=(hi:Int)) (h1:lo≤n) (h2:n≤hi) (h3:hi≤100000) (h:GS w r b e (digs n++t)) :
  Calls prog 176 #[.pointer (some (Ad r 0)),iA loI,iA hiI] w fun ee w'=>ee=.returned (iA n)∧GS w' r b e t∧Fr [r] w w':=by
 obtain⟨a,h⟩:=h;exact (limitedG hlo hhi h1 h2 h3 h).mono fun _ _ ⟨h1,h2,h3⟩=>⟨h1,⟨_,h2⟩,h3⟩
theorem GS.bytes {s:BA}{lim:Nat}{lI:Int} (hlim:lI=(lim:Int)) (h1:s.size≤lim) (h2:lim≤20000) (h:GS w r b e (textB s++t)) :
  Calls prog 264 #[.pointer (some (Ad r 0)),iA lI] w fun ee w'=>ee=.returned (.string s)∧GS w' r b e t∧Fr [r] w w':=by
 obtain⟨a,h⟩:=h;exact (bytesOfG hlim h1 h2 h).mono fun _ _ ⟨h1,h2,h3⟩=>⟨h1,⟨_,h2⟩,h3⟩
theorem textsG {L:LY}(f:Nat)(hf:f=172∨f=174)(hL:L.length≤1000)
  (hone:∀ (W:WL) (s:BA) (t:LB),s ∈ L→Fr [r] w W→GS W r b e (textB s++t)→Calls prog f #[.pointer (some (Ad r 0))] W fun ee w'=>ee=.returned (.string s)∧GS w' r b e t∧Fr [r] W w') (h:GS w r b e (listing L++t)) :
  Calls prog 171 #[.pointer (some (Ad r 0)),.func (.func f) #[.pointer (some (Ad r 0))] #[]] w fun ee w'=>∃ v,ee=.returned v∧StrsFar w.heap.size w' v L∧GS w' r b e t∧Fr [r] w w':=by
 obtain⟨i0,hi,hz0,hz1,hz2⟩:=info_parts infoS;have hrl:=h.lt;rw[listing,List.append_assoc] at h;have hlm:=h.lim (lo:=0) (hi:=1000) rfl rfl (by omega) hL (by omega);change Calls prog 176 #[.pointer (some (Ad r 0)),iA 0,iA 1000] w _ at hlm;have HO:Hid _:=hone;clear hone h;rcases hf with rfl | rfl
 all_goals
  go_enter func171,ntmps171;go_wp2_with fail;refine hlm.mono ?_;rintro ee w1 ⟨rfl,K1,F1⟩;clear hlm;go_wp2
  go_loopw [5] (fun u wr=>∃ k:Nat,k≤L.length∧GS wr r b e (textsB (L.drop k)++t)∧OwnT r w (L.take k) u wr) (fun u _=>L.length-slLen u)
  case atStart=>exact⟨0,by omega,K1,OwnT.start F1⟩
  case round=>
   clear K1 F1;obtain⟨k,hk,K,J⟩:=hrel;obtain⟨a0,cap,rfl⟩:=J.form;have htk:(L.take k).length=k:=by rw[List.length_take];omega
   rw[htk] at J ⊢;have d4:wr.cell? (Ad r 4)=some (iA 0):=by obtain⟨a,K⟩:=K;exact K.c.c4
   by_cases hlt:k<L.length
   ·have g1:(k:Int)<L.length:=by omega
    rw[List.drop_eq_getElem_cons hlt] at K;simp only[textsB,List.flatMap_cons,List.append_assoc] at K;have hc:=HO.out wr L[k] _ (List.getElem_mem hlt) J.fr K;generalize hx:L[k]=x at *;clear K;go_wp2_with fail;refine hc.mono ?_;rintro ee w2 ⟨rfl,K2,F2⟩;have J2:=J.kept hrl F2;have hown:=J2.own;rw[htk] at hown;have hsz2:=J2.fr.size;clear J F2 d4 hc;go_wp2_with (at_builtin;refine wpList_append_own _ rfl _ _ 22 rfl w.heap.size 9 i0 (.string ⟨#[]⟩) 1 16 underlying22 hi hz0 hz1 hz2 rfl (by decide) _ _ _ rfl (hown.alloc _) (Ad w2.heap.size 0) 1 1 [.string x] rfl rfl (cell_one_new _ _ _) (one_text _) (by unfold maxLen;omega) (by omega) (le_alloc _ hsz2) ?_);intro v' w3 hown' hgrow _;have J3:=(J2.kept hrl ((Fr.refl [r] w2).alloc _)).grown (s:=x) (by rw[htk,List.map_take];exact hown') hgrow;have K3:GS w3 r b e (textsB (L.drop (k+1))++t):=by
     obtain⟨a,K2⟩:=K2;refine⟨a,K2.c.of_block ?_,K2.le,K2.s⟩;rw[hgrow.block r (by have:=K2.c.lt;simp;omega) (fun e=>by have:=(hown.lt r e.symm).1;omega)];exact Below.heap_alloc _ _ _ K2.c.lt
    clear hown hown' hgrow J2 K2;rw[← hx,List.take_append_getElem hlt] at J3;obtain⟨b0,cap3,rfl⟩:=J3.form;rw[List.length_take,Nat.min_eq_left (by omega)] at J3 ⊢;go_wp2;refine⟨⟨k+1,by omega,K3,J3⟩,?_⟩;simp[slLen];omega
   obtain rfl:k=L.length:=by omega
   have g1:¬ (L.length:Int)<L.length:=by omega
   rw[List.drop_length] at K;rw[List.take_length] at J;go_wp2;go_ret;exact⟨_,rfl,J.far,K,J.fr⟩
theorem functionG (f:Wire.Fn)(i:Nat)(hi:i≤1000)(hf:lawful f i=true)(h:GS w r b e (fnB f++t)) :
  Calls prog 265 #[.pointer (some (Ad r 0)),iA i] w fun ee w'=>ee=.returned (.agg #[iA f.params,iA f.locs,.string f.code])∧GS w' r b e t∧Fr [r] w w':=by
 have hmp:=fun (W:WL)=>maxParams_any i W;simp only[lawful,Bool.and_eq_true,Bool.or_eq_true,decide_eq_true_eq] at hf;obtain⟨x1,e1⟩:∃ x:Nat,f.params=x:=⟨f.params.toNat,by omega⟩;obtain⟨x2,e2⟩:∃ x:Nat,f.locs=x:=⟨f.locs.toNat,by omega⟩;obtain⟨p,q,o⟩:=f;simp only at e1 e2 hf;subst e1 e2;obtain⟨M,hM,hx1,hM8⟩:∃ M:Nat,(if i<3 then 0 else 8:Int)=(M:Nat)∧x1≤M∧M≤8:=by
  by_cases h3:i<3
  ·exact⟨0,if_pos h3,by omega,by omega⟩
  exact⟨8,if_neg h3,by omega,by omega⟩
 rw[hM] at hmp;simp only[fnB,Int.toNat_natCast,List.append_assoc] at h;have hrl:=h.lt;have K0:=h.fr ((Fr.refl [] w).alloc (.cells #[iA 0,iA 0,Value.string ⟨#[]⟩] 112)) (by simp);have hnew:=wan w (.cells #[iA 0,iA 0,Value.string ⟨#[]⟩] 112);have F0:Fr [r] w (w.alloc (.cells #[iA 0,iA 0,Value.string ⟨#[]⟩] 112)):=(Fr.refl [r] w).alloc _;have HM:Hid _:=hmp;clear hmp h hM;go_enter func265,ntmps265;go_wp2_with fail;generalize w.alloc (.cells #[iA 0,iA 0,Value.string ⟨#[]⟩] 112)=W at *;have hlt:=(Age.1 hnew).1;refine (HM.out W).mono ?_;rintro ee W ⟨rfl,rfl⟩;go_wp2_with fail;refine (K0.lim (lo:=0) rfl rfl (by omega) hx1 (by omega)).mono ?_;rintro ee w1 ⟨rfl,K1,F1⟩;go_wp2_with fail;refine (K1.lim (hi:=16) rfl rfl (by omega) (by omega) (by omega)).mono ?_;rintro ee w2 ⟨rfl,K2,F2⟩;go_wp2_with fail;refine (K2.bytes (lim:=20000) rfl (by omega) (by omega)).mono ?_;rintro ee w3 ⟨rfl,K3,F3⟩;have FW:=(F1.trans F2).trans F3;have kept:w3.heap[w.heap.size]?=some (.cells #[iA 0,iA 0,Value.string ⟨#[]⟩] 112):=by rw[FW.block _ hlt (by simp;omega),hnew]
 have cz:∀ j,w3.cell? (Ad w.heap.size j)=(#[iA 0,iA 0,Value.string ⟨#[]⟩]:Array Value)[j]?:=fun j=>by unfold World.cell?;rw[kept];rfl
 have e0:=cz 0;have e1:=cz 1;have e2:=cz 2;simp at e0 e1 e2;have e3:∀ i,w3.frozen? (Ad w.heap.size i)=false:=fun i=>by unfold World.frozen?;rw[kept];simp
 have FF:=F0.trans FW;clear HM hnew hlt F0 K0 K1 K2 F1 F2 F3 FW kept cz;have y2:=cell_set (v:=.string o) ((setCell_off (i:=1) (v:=iA x2) (by decide)).trans ((setCell_off (i:=0) (v:=iA x1) (by decide)).trans e2));have y1:=(setCell_off (i:=2) (v:=.string o) (by decide)).trans (cell_set (v:=iA x2) ((setCell_off (i:=0) (v:=iA x1) (by decide)).trans e1));have y0:=(setCell_off (i:=2) (v:=.string o) (by decide)).trans ((setCell_off (i:=1) (v:=iA x2) (by decide)).trans (cell_set (v:=iA x1) e0));have FZ:=((FF.setCell (p:=⟨w.heap.size,0,none⟩) (.inr (Nat.le_refl _)) (iA x1)).setCell (p:=⟨w.heap.size,1,none⟩) (.inr (Nat.le_refl _)) (iA x2)).setCell (p:=⟨w.heap.size,2,none⟩) (.inr (Nat.le_refl _)) (.string o);have KZ:=K3.fr (S:=[w.heap.size]) ((((Fr.refl [w.heap.size] w3).setCell (p:=⟨w.heap.size,0,none⟩) (.inl (by simp)) (iA x1)).setCell (p:=⟨w.heap.size,1,none⟩) (.inl (by simp)) (iA x2)).setCell (p:=⟨w.heap.size,2,none⟩) (.inl (by simp)) (.string o)) (by simp;omega);go_wp2;generalize (((w3.setCell ⟨w.heap.size,0,none⟩ (.int .i64 x1)).setCell ⟨w.heap.size,1,none⟩ (.int .i64 x2)).setCell ⟨w.heap.size,2,none⟩ (.string o))=Z at *;refine bodyPost_ret (v:=.agg #[iA x1,iA x2,.string o]) (by simp[results,results265,go_sem,y0,y1,y2]) rfl ?_;exact⟨rfl,KZ,FZ⟩
theorem lawful_at {L:List Wire.Fn}{i k:Nat} (h:lawfulAll L i=true) (hk:k<L.length):lawful L[k] (i+k)=true:=by
 induction L generalizing i k with
 | nil=>simp at hk
 | cons x L ih=>
  simp only[lawfulAll,Bool.and_eq_true] at h;cases k with
  | zero=>exact h.1
  | succ k=>have:=ih h.2 (k:=k) (by simpa using hk);rw[show i+(k+1)=i+1+k by omega];exact this
theorem funcsG {L:List Wire.Fn}(hL:3≤L.length∧L.length≤1000)(hf:lawfulAll L 0=true)(h:GS w r b e (fnsL L++t)) :
  Calls prog 179 #[.pointer (some (Ad r 0))] w fun ee w'=>∃ v,ee=.returned v∧FnsFar w.heap.size w' v L∧GS w' r b e t∧Fr [r] w w':=by
 obtain⟨i0,hi,hz0,hz1,hz2⟩:=info_parts infoF;have hrl:=h.lt;rw[fnsL,List.append_assoc] at h;have hlm:=h.lim (lo:=3) (hi:=1000) rfl rfl hL.1 hL.2 (by omega);change Calls prog 176 #[.pointer (some (Ad r 0)),iA 3,iA 1000] w _ at hlm;have HF:Hid _:=hf;clear h hf;go_enter func179,ntmps179;go_wp2_with fail;refine hlm.mono ?_;rintro ee w1 ⟨rfl,K1,F1⟩;clear hlm;go_wp2
 go_loopw [3] (fun u wr=>∃ k:Nat,k≤L.length∧GS wr r b e (fnsB (L.drop k)++t)∧OwnF r w (L.take k) u wr) (fun u _=>L.length-slLen u)
 case atStart=>exact⟨0,by omega,K1,OwnF.start F1⟩
 case round=>
  clear K1 F1;obtain⟨k,hk,K,J⟩:=hrel;obtain⟨a0,cap,rfl⟩:=J.form;have htk:(L.take k).length=k:=by rw[List.length_take];omega
  rw[htk] at J ⊢;have d4:wr.cell? (Ad r 4)=some (iA 0):=by obtain⟨a,K⟩:=K;exact K.c.c4
  by_cases hlt:k<L.length
  ·have g1:(k:Int)<L.length:=by omega
   rw[List.drop_eq_getElem_cons hlt] at K;simp only[fnsB,List.flatMap_cons,List.append_assoc] at K;have hla:=lawful_at HF.out hlt;rw[Nat.zero_add] at hla;have hc:=functionG L[k] k (by omega) hla K;generalize hx:L[k]=x at *;obtain⟨op,ol,oc⟩:=x;clear K hla;go_wp2_with fail;refine hc.mono ?_;rintro ee w2 ⟨rfl,K2,F2⟩;have J2:=J.kept hrl F2;have hown:=J2.own;rw[htk] at hown;have hsz2:=J2.fr.size;obtain⟨ys,hys⟩:=eXi ((L.take k).flatMap fnC);rw[hys] at hown;clear J F2 d4 hc;go_wp2_with (at_builtin;refine wpList_append_own _ rfl _ _ 68 rfl w.heap.size 112 i0 (.agg #[iA 0,iA 0,.string ⟨#[]⟩]) 3 32 underlying68 hi hz0 hz1 hz2 rfl (by decide) _ _ _ rfl (hown.alloc _) (Ad w2.heap.size 0) 1 1 [iA op,iA ol,.string oc] rfl rfl (fnC_new _ _ _ _) (fnC_one ⟨op,ol,oc⟩) (by unfold maxLen;omega) (by omega) (le_alloc _ hsz2) ?_);intro v' w3 hown' hgrow _;have J3:=(J2.kept hrl ((Fr.refl [r] w2).alloc _)).grown (s:=⟨op,ol,oc⟩) (by rw[htk,hys];exact hown') hgrow;have K3:GS w3 r b e (fnsB (L.drop (k+1))++t):=by
    obtain⟨a,K2⟩:=K2;refine⟨a,K2.c.of_block ?_,K2.le,K2.s⟩;rw[hgrow.block r (by have:=K2.c.lt;simp;omega) (fun e=>by have:=(hown.lt r e.symm).1;omega)];exact Below.heap_alloc _ _ _ K2.c.lt
   clear hown hown' hgrow J2 K2;rw[← hx,List.take_append_getElem hlt] at J3;obtain⟨b0,cap3,rfl⟩:=J3.form;rw[List.length_take,Nat.min_eq_left (by omega)] at J3 ⊢;go_wp2;refine⟨⟨k+1,by omega,K3,J3⟩,?_⟩;simp[slLen];omega
  obtain rfl:k=L.length:=by omega
  have g1:¬ (L.length:Int)<L.length:=by omega
  rw[List.drop_length] at K;rw[List.take_length] at J;go_wp2;go_ret;exact⟨_,rfl,J.far,K,J.fr⟩
end
section
variable {w w' W W':WL}{r B rb mb F f i:Nat}{b:BA}{a a' e k:Nat}{c p t:LB}{V:LV}{v:Value}
theorem GR.opn (h:GR w r b a e (p++t)):GR (w.setCell ⟨r,2,none⟩ (.int .i64 ((a:Int)+p.length))) r b a (a+p.length) p:=by
 have hl:=h.len;have h1:=h.le;simp at hl;exact⟨by have:=h.c.set2 (a+p.length);rwa [Int.natCast_add] at this,by omega,by rw[← seg_take _ _ e _ (by omega),h.s,List.take_left]⟩
theorem GR.cls (h:GR w r b a e (p++t))(h':GR W r b a' (a+p.length) []):GR (W.setCell ⟨r,2,none⟩ (.int .i64 e)) r b a' e t:=by
 have:=seg_suffix h.s h.le.1 (by rw[bl_length];exact h.le.2.1);have hl:=h.len;have h1:=h.le;have h2:=h'.len;have h3:=h'.le;simp at hl h2;obtain rfl:a'=a+p.length:=by omega
 exact⟨h'.c.set2 e,by omega,by rw[← this.2.1];exact this.1⟩
theorem sectionG (hF:F=170∨F=173∨F=175∨F=177∨F=178){kI:Int}(hkI:kI=(k:Int))(hk:k<256)(Q:WL→Prop)(hQ:∀ W W',Fr [r] W W'→Q W→Q W')
  (hc:∀ W e,Fr [r] w W→GS W r b e c→Calls prog F #[.pointer (some (Ad rb 0)),.pointer (some (Ad mb 0))] W fun ee W'=>ee=.returned (.tuple #[])∧GS W' r b e []∧Q W'∧Fr [r,mb] W W')
  (h:GS w r b b.size (sect k c++t)) :
  Calls prog 169 #[.pointer (some (Ad r 0)),.int .u8 kI,.func (.func F) #[] #[.pointer (some (Ad rb 0)),.pointer (some (Ad mb 0))]] w fun ee w'=>ee=.returned (.tuple #[])∧GS w' r b b.size t∧Q w'∧Fr [r,mb] w w':=by
 have hkc:kI=((UInt8.ofNat k).toNat:Int):=by rw[hkI];simp[UInt8.toNat_ofNat];omega
 obtain⟨a,h⟩:=h;have hl:=h.len;have hle:=h.le;simp only[sect,List.cons_append,List.append_assoc,List.length_cons,Lla] at h hl;have c1:=needG (nI:=7) hkc h;have c2:=fun W hW=>numberG (w:=W) (r:=r) (b:=b) (a:=a+1) (e:=b.size) (n:=c.length) (t:=c++t) (by omega) hW;have hd:=digs_len c.length;generalize hz:a+1+(digs c.length).length=z at *;have g1:¬ (b.size:Int)-(z:Int)<c.length:=by omega
 have g1b:(z:Int)+c.length≤40000:=by omega
 have C1:Hid _:=c1;have C2:Hid _:=c2;have HC:Hid _:=hc;clear c1 c2 hc h hz hl hkI hkc;rcases hF with rfl | rfl | rfl | rfl | rfl
 all_goals
  go_enter func169,ntmps169;go_wp2_with fail;refine Calls.mono C1.out ?_;rintro ee w1 ⟨rfl,K1,F1⟩;have a1:=K1.c.c1;go_wp2_with fail;refine (C2.out w1 K1).mono ?_;rintro ee w2 ⟨rfl,K2,F2⟩;have b1:=K2.c.c1;have b2:=K2.c.c2;have b3:=K2.c.f2;clear a1 K1;go_wp2;go_quiet (fail);go_wp2_with fail;have K3:=GR.opn (K2.heap (w':=w2.drewN nq) rfl);have FF:=(F1.trans F2).trans (((Fr.refl [r] w2).drewN nq).setCell (p:=⟨r,2,none⟩) (.inl (by simp)) (iA ((z:Int)+c.length)));refine (HC.out _ _ FF ⟨_,K3⟩).mono ?_;rintro ee w4 ⟨rfl,⟨y,K4⟩,hq,F4⟩;have hy:y=z+c.length:=by have h2:=K4.len;have h3:=K4.le;simp at h2;omega
  have d1:=K4.c.c1;have d2:=K4.c.c2;have g2:¬ (y:Int)<((z+c.length:Nat):Int):=by omega
  clear b1 b2 b3 F1 F2 K3;go_wp2;go_quiet (fail);have K5:=K4.heap (w':=w4.drewN nq) rfl;have e0:=K5.c.c0;have e1:=K5.c.f2;have e2:=K5.c.c2;have K6:=K2.cls K5;have F6:Fr [r] w4 ((w4.drewN nq).setCell ⟨r,2,none⟩ (.int .i64 b.size)):=((Fr.refl [r] w4).drewN nq).setCell (p:=⟨r,2,none⟩) (.inl (by simp)) _;clear d1 d2 K4 K5 K2;go_wp2;go_end0;exact⟨rfl,⟨_,K6⟩,hQ _ _ F6 hq,((FF.mono (by simp)).trans F4).trans (F6.mono (by simp))⟩
structure BX (B r rb mb:Nat) (V:LV) (W:WL):Prop where
 tab:Tab W
 rc:W.cell? ⟨rb,0,none⟩=some (.pointer (some ⟨r,0,none⟩))
 cs:∀ i,W.cell? ⟨mb,i,none⟩=V[i]?
 fz:∀ i,W.frozen? ⟨mb,i,none⟩=false
 n:r≠1∧mb≠1∧r≠mb∧r≠rb∧mb≠rb∧r<B∧mb<B∧B≤W.heap.size∧V.length=5
theorem BX.fr (h:BX B r rb mb V W)(hf:Fr [r] W W'):BX B r rb mb V W':=by
 obtain⟨n0,n1,n2,n3,n4,n5,n6,n7,n8⟩:=h.n;have hm:mb ∉ [r]:=by simpa using fun e=>n2 e.symm
 exact⟨h.tab.fr hf (by simpa using fun e=>n0 e.symm),(hf.cell (p:=Ad rb 0) (lt_of_cell h.rc) (by simpa using fun e=>n3 e.symm)).trans h.rc,fun i=>(hf.cell (p:=Ad mb i) (by simp only;omega) hm).trans (h.cs i),fun i=>(hf.frozen (p:=Ad mb i) (by simp only;omega) hm).trans (h.fz i),n0,n1,n2,n3,n4,n5,n6,Nat.le_trans n7 hf.size,n8⟩
theorem BX.set (h:BX B r rb mb V W)(hi:i<5)(v:Value):BX B r rb mb (V.set i v) (W.setCell ⟨mb,i,none⟩ v):=by
 obtain⟨n0,n1,n2,n3,n4,n5,n6,n7,n8⟩:=h.n;have hf:=fr_set W mb i v;refine⟨h.tab.fr hf (by simpa using fun e=>n1 e.symm),(setCell_far n4).trans h.rc,fun j=>?_,fun j=>by rw[wfz];exact h.fz j,n0,n1,n2,n3,n4,n5,n6,Nat.le_trans n7 hf.size,by simpa using n8⟩;by_cases hij:i=j
 ·subst hij;rw[List.getElem?_set_self (by omega)];exact cell_set ((h.cs i).trans (Lge (by omega)))
 rw[List.getElem?_set_ne hij];exact (setCell_off hij).trans (h.cs j)
theorem BX.at (h:BX B r rb mb V W)(hi:i<5):∃ u,W.cell? (Ad mb i)=some u:=⟨_,(h.cs i).trans (Lge (by have:=h.n;omega))⟩
theorem BX.put (h:BX B r rb mb V w)(hi:i<5)(h1:Fr [r] w W)(hK:GS W r b e t):BX B r rb mb (V.set i v) (W.setCell ⟨mb,i,none⟩ v)∧GS (W.setCell ⟨mb,i,none⟩ v) r b e t∧Fr [r,mb] w (W.setCell ⟨mb,i,none⟩ v):=
 ⟨(h.fr h1).set hi v,hK.fr (fr_set W mb i v) (by simpa using h.n.2.2.1),(h1.mono (by simp)).setCell (p:=⟨mb,i,none⟩) (.inl (by simp)) _⟩
theorem closureT {L:LY}(hF:F=170∧f=172∧i=0∨F=173∧f=174∧i=1)(hL:L.length≤1000)(hB:BX B r rb mb V w)
  (hone:∀ (W:WL) (s:BA) (t:LB),s ∈ L→Tab W→GS W r b e (textB s++t)→Calls prog f #[.pointer (some (Ad r 0))] W fun ee w'=>ee=.returned (.string s)∧GS w' r b e t∧Fr [r] W w') (h:GS w r b e (listing L)) :
  Calls prog F #[.pointer (some (Ad rb 0)),.pointer (some (Ad mb 0))] w fun ee W'=>ee=.returned (.tuple #[])∧GS W' r b e []∧(∃ v,BX B r rb mb (V.set i v) W'∧StrsFar w.heap.size W' v L)∧Fr [r,mb] w W':=by
 rw[← List.append_nil (listing L)] at h;have ht:=textsG (w:=w) f (by omega) hL (fun W s t hs hf=>hone W s t hs (hB.fr hf).tab) h;have rc:=hB.rc;have hm:mb<w.heap.size:=by have:=hB.n;omega
 clear hone h;rcases hF with ⟨rfl,rfl,rfl⟩ | ⟨rfl,rfl,rfl⟩;go_enter func170,ntmps170;rotate_left;go_enter func173,ntmps173
 all_goals
  go_wp2_with fail;refine ht.mono ?_;rintro ee w1 ⟨v,rfl,hv,K1,F1⟩;have hB1:=hB.fr F1;have fz:=hB1.fz;obtain⟨z0,a0⟩:=hB1.at (i:=0) (by omega);obtain⟨z1,a1⟩:=hB1.at (i:=1) (by omega);have hv0:=fun i=>hv.fr (fr_set w1 mb i v) (by simpa using hm);have hq0:=hB.put (i:=0) (v:=v) (by omega) F1 K1;have hq1:=hB.put (i:=1) (v:=v) (by omega) F1 K1;have HQ:Hid _:=AI hv0 (AI hq0 hq1);obtain⟨x0,cap,g,off,rfl,-⟩:=hv;clear ht rc hv0 hq0 hq1;go_wp2;go_end0;obtain⟨h0,⟨h1,h2,h3⟩,h4,h5,h6⟩:=HQ.out
  first
   | exact⟨rfl,h2,⟨_,h1,h0 _⟩,h3⟩
   | exact⟨rfl,h5,⟨_,h4,h0 _⟩,h6⟩
theorem closureN {n:Nat}(hF:F=175∧i=2∨F=177∧i=3)(hn:n≤1000)(hB:BX B r rb mb V w)(h:GS w r b e (digs n)) :
  Calls prog F #[.pointer (some (Ad rb 0)),.pointer (some (Ad mb 0))] w fun ee W'=>ee=.returned (.tuple #[])∧GS W' r b e []∧BX B r rb mb (V.set i (iA n)) W'∧Fr [r,mb] w W':=by
 rw[← List.append_nil (digs n)] at h;have ht:=h.lim (lo:=0) (hi:=1000) rfl rfl (by omega) hn (by omega);change Calls prog 176 #[.pointer (some (Ad r 0)),iA 0,iA 1000] w _ at ht;have rc:=hB.rc;clear h;rcases hF with ⟨rfl,rfl⟩ | ⟨rfl,rfl⟩;go_enter func175,ntmps175;rotate_left;go_enter func177,ntmps177
 all_goals
  go_wp2_with fail;refine ht.mono ?_;rintro ee w1 ⟨rfl,K1,F1⟩;have hB1:=hB.fr F1;have fz:=hB1.fz;obtain⟨z0,a0⟩:=hB1.at (i:=2) (by omega);obtain⟨z1,a1⟩:=hB1.at (i:=3) (by omega);have hq0:=hB.put (i:=2) (v:=iA n) (by omega) F1 K1;have hq1:=hB.put (i:=3) (v:=iA n) (by omega) F1 K1;have HQ:Hid _:=AI hq0 hq1;clear ht rc hq0 hq1;go_wp2;go_end0;obtain⟨⟨h1,h2,h3⟩,h4,h5,h6⟩:=HQ.out
  first
   | exact⟨rfl,h2,h1,h3⟩
   | exact⟨rfl,h5,h4,h6⟩
theorem closureF {L:List Wire.Fn}(hL:3≤L.length∧L.length≤1000)(hf:lawfulAll L 0=true)(hB:BX B r rb mb V w)(h:GS w r b e (fnsL L)) :
  Calls prog 178 #[.pointer (some (Ad rb 0)),.pointer (some (Ad mb 0))] w fun ee W'=>ee=.returned (.tuple #[])∧GS W' r b e []∧(∃ v,BX B r rb mb (V.set 4 v) W'∧FnsFar w.heap.size W' v L)∧Fr [r,mb] w W':=by
 rw[← List.append_nil (fnsL L)] at h;have ht:=funcsG hL hf h;have rc:=hB.rc;have hm:mb<w.heap.size:=by have:=hB.n;omega
 clear h;go_enter func178,ntmps178;go_wp2_with fail;refine ht.mono ?_;rintro ee w1 ⟨v,rfl,hv,K1,F1⟩;have hB1:=hB.fr F1;have fz:=hB1.fz;obtain⟨z0,a0⟩:=hB1.at (i:=4) (by omega);have hv0:=hv.fr (fr_set w1 mb 4 v) (by simpa using hm);have hq0:=hB.put (i:=4) (v:=v) (by omega) F1 K1;have HQ:Hid _:=AI hv0 hq0;obtain⟨x0,cap,g,off,rfl,-⟩:=hv;clear ht rc hv0 hq0;go_wp2;go_end0;obtain⟨h0,h1,h2,h3⟩:=HQ.out;exact⟨rfl,h2,⟨_,h1,h0⟩,h3⟩
theorem sectT {L:LY}{kI:Int} (hF:F=170∧f=172∧i=0∨F=173∧f=174∧i=1) (hkI:kI=(k:Int)) (hk:k<256) (hL:L.length≤1000) (hB:BX B r rb mb V w)
  (hone:∀ e (W:WL) (s:BA) (t:LB),s ∈ L→Tab W→GS W r b e (textB s++t)→Calls prog f #[.pointer (some (Ad r 0))] W fun ee w'=>ee=.returned (.string s)∧GS w' r b e t∧Fr [r] W w') (h:GS w r b b.size (sect k (listing L)++t)) :
  Calls prog 169 #[.pointer (some (Ad r 0)),.int .u8 kI,.func (.func F) #[] #[.pointer (some (Ad rb 0)),.pointer (some (Ad mb 0))]] w fun ee w'=>ee=.returned (.tuple #[])∧GS w' r b b.size t∧(∃ v,BX B r rb mb (V.set i v) w'∧StrsFar w.heap.size w' v L)∧Fr [r,mb] w w':=by
 have hr:=h.lt;exact sectionG (by omega) hkI hk (fun W=>∃ v,BX B r rb mb (V.set i v) W∧StrsFar w.heap.size W v L) (fun W W' f ⟨v,h1,h2⟩=>⟨v,h1.fr f,h2.fr f (by simpa using hr)⟩)
  (fun W e f hW=>(closureT hF hL (hB.fr f) (hone e) hW).mono fun _ _ ⟨h1,h2,⟨v,h3,h4⟩,h5⟩=>⟨h1,h2,⟨v,h3,h4.base f.size⟩,h5⟩) h
theorem sectN {n:Nat}{kI:Int} (hF:F=175∧i=2∨F=177∧i=3) (hkI:kI=(k:Int)) (hk:k<256) (hn:n≤1000) (hB:BX B r rb mb V w) (h:GS w r b b.size (sect k (digs n)++t)) :
  Calls prog 169 #[.pointer (some (Ad r 0)),.int .u8 kI,.func (.func F) #[] #[.pointer (some (Ad rb 0)),.pointer (some (Ad mb 0))]] w fun ee w'=>ee=.returned (.tuple #[])∧GS w' r b b.size t∧BX B r rb mb (V.set i (iA n)) w'∧Fr [r,mb] w w':=
 sectionG (by omega) hkI hk _ (fun W W' f h1=>h1.fr f) (fun W e f hW=>closureN hF hn (hB.fr f) hW) h
theorem sectF {L:List Wire.Fn}(hL:3≤L.length∧L.length≤1000)(hf:lawfulAll L 0=true)(hB:BX B r rb mb V w)(h:GS w r b b.size (sect 5 (fnsL L)++t)) :
  Calls prog 169 #[.pointer (some (Ad r 0)),.int .u8 5,.func (.func 178) #[] #[.pointer (some (Ad rb 0)),.pointer (some (Ad mb 0))]] w fun ee w'=>ee=.returned (.tuple #[])∧GS w' r b b.size t∧(∃ v,BX B r rb mb (V.set 4 v) w'∧FnsFar w.heap.size w' v L)∧Fr [r,mb] w w':=by
 have hr:=h.lt;exact sectionG (k:=5) (by omega) rfl (by omega) (fun W=>∃ v,BX B r rb mb (V.set 4 v) W∧FnsFar w.heap.size W v L) (fun W W' f ⟨v,h1,h2⟩=>⟨v,h1.fr f,h2.fr f (by simpa using hr)⟩)
  (fun W e f hW=>(closureF hL hf (hB.fr f) hW).mono fun _ _ ⟨h1,h2,⟨v,h3,h4⟩,h5⟩=>⟨h1,h2,⟨v,h3,h4.base f.size⟩,h5⟩) h
end
end Go.Proofs.YtmolfmgchbjnbaaGreatDoor
