import Derived.Lib.SlBytesConst
import Derived.Handy
import Derived.Test.YtlokkgajpjafmaaGreatDoorM22
set_option linter.unusedSimpArgs false
set_option linter.unusedVariables false
set_option maxRecDepth 100000
set_option maxHeartbeats 40000000
open _root_.Go.Proofs.Tryz
namespace Go.Proofs.YtlokkgajpjafmaaGreatDoor
open Go.RowKit
open Wire
def mkB (l:LB):BA:=⟨l.toArray⟩
theorem oW (l:LB):(mkB l).size=l.length:=aSy l
theorem aTb (a b:LB):mkB a++mkB b=mkB (a++b):=by
 apply ByteArray.ext;simp[mkB]
theorem aGn (l:LB):bl (mkB l)=l:=aDm l
theorem aVe (m:Mo):body m=[71,76,1]++eB 1 (bS m.texts)++eB 2 (bS m.pats)++eB 3 (bM m.globs.toNat)++eB 4 (bM m.arrs.toNat)++eB 5 (pD m.fns):=by
 simp[body]
theorem aDj (m:Mo)(ip:BA→Bool)(h:dI ip m=true):(body m).length≤100000000:=by
 obtain⟨q1,q2,q3,q4,q5,q6,q7,q8,q9,q10,q11⟩:=Wire.within_iff.1 h;have f11:=qE _ _ q11;obtain⟨l1,n1⟩:=lT m.texts q9 q1;obtain⟨l2,n2⟩:=lT m.pats (fun s hs=>by have:=(q10 s hs).1;omega) q2;have l3:=bZ m.globs.toNat;have l4:=bZ m.arrs.toNat;obtain⟨l5,n5⟩:=aCo m.fns (fun s hs=>(f11 s hs).1) q4;have s1:=gS 1 (bS m.texts);have s2:=gS 2 (bS m.pats);have s3:=gS 3 (bM m.globs.toNat);have s4:=gS 4 (bM m.arrs.toNat);have s5:=gS 5 (pD m.fns);rw[aDi];omega
def gT (m:Mo):BA:=if dI ipF m=true∧(Wire.written m).length≤40000 then mkB (Wire.written m) else ⟨#[]⟩
def kH (m:Mo):Int:=if dI ipF m=true∧(Wire.written m).length≤40000 then 0 else 4
theorem aPw (w:WL):X1 w [71,76,1] (.slice (some (Ad w.heap.size 0)) 3 3) (w.alloc (.cells #[Value.int .u8 71,Value.int .u8 76,Value.int .u8 1] 5 (3,4))):=by
 have hm:=wan w (.cells #[Value.int .u8 71,Value.int .u8 76,Value.int .u8 1] 5 (3,4));have hc:∀ j:Nat,(w.alloc (.cells #[Value.int .u8 71,Value.int .u8 76,Value.int .u8 1] 5 (3,4))).cell? (Ad w.heap.size j)=(#[Value.int .u8 71,Value.int .u8 76,Value.int .u8 1]:Array Value)[j]?:=fun j=>by
  unfold World.cell?;rw[hm];simp
 refine⟨w.heap.size,rfl,Nat.le_refl _,by simp,fun j u hj=>?_,(Fr.refl [] w).alloc _⟩;rcases j with _ | _ | _ | j
 ·simp[Lib.byteCells] at hj;subst hj;exact hc 0
 ·simp[Lib.byteCells] at hj;subst hj;exact hc 1
 ·simp[Lib.byteCells] at hj;subst hj;exact hc 2
 simp[Lib.byteCells] at hj
theorem aJp (mv:Value)(m:Mo)(w:WL)(hM:gY w mv m)(hz:E0 m)(hT:Tab w) :
  Calls prog 15 #[mv] w fun e w'=>e=.returned (.tuple #[.string (gT m),iA (kH m)])∧Fr [] w w':=by
 have hW:=fun (W:WL) (f:Fr [] w W)=>P8 mv m W (hM.fr f) hz (hT.fr f (by simp));have hA:=fun (W W':WL) (f:Fr [] w W) (v:Value) (h:X1 W [71,76,1] v W') (hw:dI ipF m=true)=>rH W [71,76,1] v mv m ipF W' (by simp) h (hM.fr f) hw;simp only[← aVe] at hA;have hbl:=aDj m ipF;have hwr:Wire.written m=body m++oM (body m):=rfl;unfold gT kH;obtain⟨tv,pv,fv,rfl,hT1,hP,hF⟩:=hM.is;obtain⟨ta,tc,tg,tz,rfl,-⟩:=id hT1;obtain⟨pa,pc,pg,po,rfl,-⟩:=id hP;obtain⟨fa,fc,fg,fo,rfl,-⟩:=id hF;clear hM hz hT hT1 hP hF;obtain⟨texts,pats,globs,arrs,fns⟩:=m;simp only at *;generalize (⟨texts,pats,globs,arrs,fns⟩:Mo)=m at *;have f0:Fr [] w (w.alloc (.cells #[Value.slice ta texts.length tc,Value.slice pa pats.length pc,iA globs,iA arrs,Value.slice fa fns.length fc] 25)):=(Fr.refl [] w).alloc _;have hnew:=wan w (.cells #[Value.slice ta texts.length tc,Value.slice pa pats.length pc,iA globs,iA arrs,Value.slice fa fns.length fc] 25);have hlt2:w.heap.size<(w.alloc (.cells #[Value.slice ta texts.length tc,Value.slice pa pats.length pc,iA globs,iA arrs,Value.slice fa fns.length fc] 25)).heap.size:=by simp
 cases hw:dI ipF m with
 | false=>
  simp only[hw] at hW;rw[if_neg (by simp),if_neg (by simp)];have HW:Hid _:=hW;clear hW hA hbl hwr hw;go_enter func15,ntmps15;go_wp2_with fail;refine (HW.out _ f0).mono ?_;rintro e w1 ⟨rfl,f1⟩;go_wp2;go_ret2;exact⟨rfl,f0.trans f1⟩
 | true=>
  simp only[hw] at hW;have HW:Hid _:=hW;have hb:=hbl hw;have HA:Hid (∀ (W W':WL),Fr [] w W→∀ (v:Value),X1 W [71,76,1] v W'→Calls prog 26 #[v,.agg #[Value.slice ta texts.length tc,Value.slice pa pats.length pc,iA globs,iA arrs,Value.slice fa fns.length fc]] W' fun e w'=>∃ v',e=.returned v'∧eY W (body m) v' w'):=fun W W' f v h=>hA W W' f v h hw;have hbne:body m≠[]:=by simp[body]
  obtain⟨R,hR⟩:∃ R:BA,(if true=true∧(Wire.written m).length≤40000 then mkB (Wire.written m) else ⟨#[]⟩:BA)=R:=⟨_,rfl⟩;obtain⟨E,hE⟩:∃ E:Int,(if true=true∧(Wire.written m).length≤40000 then 0 else 4:Int)=E:=⟨_,rfl⟩;rw[hR,hE];have HR:Hid _:=hR;have HE:Hid _:=hE;clear hR hE;generalize body m=B at *;clear hA hbl hW;go_enter func15,ntmps15;go_wp2_with fail;obtain⟨W,hWW⟩:=eXi (w.alloc (.cells #[Value.slice ta texts.length tc,Value.slice pa pats.length pc,iA globs,iA arrs,Value.slice fa fns.length fc] 25));rw[hWW] at f0 hnew hlt2 ⊢;clear hWW;refine (HW.out W f0).mono ?_;rintro e w1 ⟨rfl,f1⟩;have kept:w1.heap[w.heap.size]?=some (.cells #[Value.slice ta texts.length tc,Value.slice pa pats.length pc,iA globs,iA arrs,Value.slice fa fns.length fc] 25):=by
   rw[f1.block _ hlt2 (by simp),hnew]
  have hlt3:w.heap.size<w1.heap.size:=(Age.1 kept).1;have k0:w1.cell? (Ad w.heap.size 0)=some (Value.slice ta texts.length tc):=cof kept rfl;have k1:w1.cell? (Ad w.heap.size 1)=some (Value.slice pa pats.length pc):=cof kept rfl;have k2:w1.cell? (Ad w.heap.size 2)=some (iA globs):=cof kept rfl;have k3:w1.cell? (Ad w.heap.size 3)=some (iA arrs):=cof kept rfl;have k4:w1.cell? (Ad w.heap.size 4)=some (Value.slice fa fns.length fc):=cof kept rfl;clear HW hnew hlt2 kept;have kc:=fun (W:WL) (C:Array Value) (n c:Nat)=>Lib.run_convert_bytes_const (P:=prog) W 60 5 C n c underlying60 underlying5;have JF:=aPw w1;go_wp2_with fail;refine (HA.out w1 _ (f0.trans f1) _ JF).mono ?_;rintro e w2 ⟨v2,rfl,J2⟩;obtain⟨g,cap,rfl,hg0,hg1,hgc⟩:=J2.row hbne;clear HA JF kc k0 k1 k2 k3 k4;have hconv:=yV w2 g cap B.length B rfl (fun j hj=>by
   have:=hgc j (.int .u8 (B[j].toNat:Int)) (by simp[Lib.byteCells,List.getElem?_map,Lge hj]);rcases j with _ | j <;> simpa [Addr.add] using this)
  have hS:=aHd (mkB B) w2 (by rw[oW];omega);rw[aGn] at hS;have hsz1:=oW B;have hsz2:(mkB (oM B)).size=3:=by rw[oW];rfl
  have happ:=aTb B (oM B);rw[← hwr] at happ;have hwl:(Wire.written m).length=B.length+3:=by rw[hwr,Lla];rfl
  have hsz3:(mkB (Wire.written m)).size=B.length+3:=by rw[oW];exact hwl
  change (convert 60 9 _).run prog w2=.ok (.string (mkB B)) w2 at hconv;change Calls prog 27 _ w2 (fun e w'=>e=.returned (.string (mkB (oM B)))∧Fr [] w2 w') at hS;have HP:Hid ((mkB B++mkB (oM B):BA)=mkB (Wire.written m)):=happ;have f2:=(f0.trans f1).trans J2.fr;have e1:R=if B.length+3≤40000 then mkB (Wire.written m) else ⟨#[]⟩:=by
   rw[← HR.out,hwl];simp
  have e2:E=if B.length+3≤40000 then 0 else 4:=by
   rw[← HE.out,hwl];simp
  clear HR HE;generalize mkB (Wire.written m)=P at *;generalize mkB (oM B)=S at *;generalize mkB B=T at *;clear hgc J2 hwr happ hwl;go_wp2_with fail;refine hS.mono ?_;rintro e w3 ⟨rfl,f3⟩;clear hS hconv;have f3:=f2.trans f3;have g0:T.size+S.size≤9223372036854775807:=by omega
  clear hbne hlt3 f0 f1 f2 hg0 hg1;by_cases hle:B.length+3≤40000
  ·rw[if_pos hle] at e1 e2;have g1:¬ (40000:Int)<(T.size:Int)+S.size:=by omega
   have HE1:Hid _:=e1;subst e2;clear hsz1 hsz2 hsz3 hle hb e1;generalize B.length=n at *;go_wp2;go_ret2;refine⟨?_,f3⟩;rw[HE1.out,← HP.out];rfl
  rw[if_neg hle] at e1 e2;have g1:(40000:Int)<(T.size:Int)+S.size:=by omega
  subst e1 e2;clear hsz1 hsz2 hsz3 hle hb;generalize B.length=n at *;go_wp2;go_ret2;exact⟨rfl,f3⟩
theorem aAs (mv:Value)(m:Mo)(w:WL)(hM:gY w mv m)(hz:E0 m)(hT:Tab w) :
  Calls prog 5 #[mv] w fun e w'=>e=.returned (.tuple #[.string (gT m),iA (kH m)])∧Fr [] w w':=by
 have h:=fun (W:WL) (f:Fr [] w W)=>aJp mv m W (hM.fr f) hz (hT.fr f (by simp));obtain⟨tv,pv,fv,rfl,hT1,hP,hF⟩:=hM.is;obtain⟨ta,tc,tg,tz,rfl,-⟩:=id hT1;obtain⟨pa,pc,pg,po,rfl,-⟩:=id hP;obtain⟨fa,fc,fg,fo,rfl,-⟩:=id hF;generalize gT m=S at *;generalize kH m=E at *;have H:Hid _:=h;clear hM hz hT hT1 hP hF h;go_enter func5,ntmps5;go_wp2_with fail;refine (H.out _ ((Fr.refl [] w).alloc _)).mono ?_;rintro e w1 ⟨rfl,f1⟩;clear H;have f2:=((Fr.refl [] w).alloc _).trans f1;go_wp2;go_ret2;exact⟨rfl,f2⟩
structure RdC (w:WL) (r:Nat) (b:BA) (a e p er:Nat):Prop where
 c0:w.cell? ⟨r,0,none⟩=some (.string b)
 c1:w.cell? ⟨r,1,none⟩=some (.int .i64 a)
 c2:w.cell? ⟨r,2,none⟩=some (.int .i64 e)
 c3:w.cell? ⟨r,3,none⟩=some (.int .i64 p)
 c4:w.cell? ⟨r,4,none⟩=some (.int .i64 er)
 f1:w.frozen? ⟨r,1,none⟩=false
 f2:w.frozen? ⟨r,2,none⟩=false
 f3:w.frozen? ⟨r,3,none⟩=false
 f4:w.frozen? ⟨r,4,none⟩=false
theorem RdC.of_block {w w':WL}{r:Nat}{b:BA}{a e p er:Nat} (h:RdC w r b a e p er) (hb:w'.heap[r]?=w.heap[r]?):RdC w' r b a e p er:=
 ⟨(World.cell?_of_block (w:=w) (a:=Ad r 0) hb).trans h.c0,(World.cell?_of_block (w:=w) (a:=Ad r 1) hb).trans h.c1,(World.cell?_of_block (w:=w) (a:=Ad r 2) hb).trans h.c2,
   (World.cell?_of_block (w:=w) (a:=Ad r 3) hb).trans h.c3,(World.cell?_of_block (w:=w) (a:=Ad r 4) hb).trans h.c4,
   (World.frozen?_of_block (w:=w) (a:=Ad r 1) hb).trans h.f1,(World.frozen?_of_block (w:=w) (a:=Ad r 2) hb).trans h.f2,
   (World.frozen?_of_block (w:=w) (a:=Ad r 3) hb).trans h.f3,(World.frozen?_of_block (w:=w) (a:=Ad r 4) hb).trans h.f4⟩
theorem RdC.lt {w:WL}{r:Nat}{b:BA}{a e p er:Nat} (h:RdC w r b a e p er):r<w.heap.size:=aB (a:=Ad r 0) h.c0
theorem RdC.fr {S:LN}{w w':WL}{r:Nat}{b:BA}{a e p er:Nat} (h:RdC w r b a e p er) (hf:Fr S w w') (hr:r ∉ S):RdC w' r b a e p er:=h.of_block (hf.block r h.lt hr)
theorem cZ {w:WL}{b i:Nat}{u v:Value} (h:w.cell? (Ad b i)=some u):(w.setCell ⟨b,i,none⟩ v).cell? (Ad b i)=some v:=World.cell?_setCell_same' _ _ _ (by rw[h];rfl)
theorem RdC.set1 {w:WL}{r:Nat}{b:BA}{a e p er:Nat} (h:RdC w r b a e p er) (x:Nat):RdC (w.setCell ⟨r,1,none⟩ (.int .i64 x)) r b x e p er:=
 ⟨(aA (by decide)).trans h.c0,cZ h.c1,(aA (by decide)).trans h.c2,(aA (by decide)).trans h.c3,(aA (by decide)).trans h.c4,
   by rw[wfz];exact h.f1,by rw[wfz];exact h.f2,by rw[wfz];exact h.f3,by rw[wfz];exact h.f4⟩
theorem RdC.set2 {w:WL}{r:Nat}{b:BA}{a e p er:Nat} (h:RdC w r b a e p er) (x:Nat):RdC (w.setCell ⟨r,2,none⟩ (.int .i64 x)) r b a x p er:=
 ⟨(aA (by decide)).trans h.c0,(aA (by decide)).trans h.c1,cZ h.c2,(aA (by decide)).trans h.c3,(aA (by decide)).trans h.c4,
   by rw[wfz];exact h.f1,by rw[wfz];exact h.f2,by rw[wfz];exact h.f3,by rw[wfz];exact h.f4⟩
theorem aNa {b:BA}{a e:Nat} (h:a<e) (he:e≤b.size):seg (bl b) a e=b[a] :: seg (bl b) (a+1) e:=by
 have hL:=aO b;unfold seg;have hlt:a<((bl b).take e).length:=by rw[List.length_take];omega
 rw[List.drop_eq_getElem_cons hlt,List.getElem_take];congr 1
theorem kT (b:BA)(a e:Nat):bl (b.extract a e)=seg (bl b) a e:=by
 unfold bl seg;rw[ByteArray.data_extract,Array.toList_extract,List.drop_take]
theorem aGb (s:BA)(w:WL)(hs:s.size≤100000):Calls prog 35 #[.string s] w fun e w'=>e=.returned (.string s)∧Fr [] w w':=by
 have hc:=stringslite_Clone s w (by omega);go_enter func35,ntmps35;go_wp2_with fail;refine hc.mono ?_;rintro e w1 ⟨rfl,lo⟩;go_wp2;go_ret;exact⟨rfl,Fr.of_below lo⟩
theorem Z0 (l:LB)(a e x:Nat)(h:a+x≤e):(seg l a e).take x=seg l a (a+x):=by
 unfold seg;rw[List.drop_take,List.drop_take,List.take_take];congr 1;omega
theorem aZf:(prog.info? 9).map (fun i=>(i.zero,i.size,i.bytes))=some (some (.string ⟨#[]⟩),1,16):=by kernel_rfl
def aZm {α:Type} (acc:List α) (e:Nat):((Nat × Nat) ⊕ (List α × LB))→Sta × List α
 | .inl f=>(.inl f,[])
 | .inr p=>(.inr (e-p.2.length,e),acc++p.1)
structure tB (r:Nat) (w0:WL) (L:LY) (v:Value) (W:WL):Prop where
 own:W.ownsRow w0.heap.size 9 1 v L.length (L.map Value.string)
 fr:Fr [r] w0 W
theorem tB.start {r:Nat}{w0 w1:WL} (hf:Fr [r] w0 w1):tB r w0 [] (.slice none 0 0) w1:=⟨World.ownsRow_nil _ _ _ _,hf⟩
theorem aAv {r:Nat}{w0 W W':WL}{e:TypeId}{size n:Nat}{xs:LV}{v:Value} (h:W.ownsRow w0.heap.size e size v n xs) (hr:r<w0.heap.size) (hf:Fr [r] W W'):W'.ownsRow w0.heap.size e size v n xs:=by
 refine h.kept (row:=some r) ⟨hf.os,hf.tape,hf.output,hf.size,fun k hk hn=>hf.block k hk (by simpa using fun e=>hn (by rw[e]))⟩ ?_;cases hv:v.ownBlock with
 | none=>exact .inl rfl
 | some k=>
  refine .inr fun e=>?_;have:=(h.lt k hv).1;simp only[Option.some.injEq] at e;omega
theorem tB.kept {r:Nat}{w0:WL}{L:LY}{v:Value}{W W':WL} (h:tB r w0 L v W) (hr:r<w0.heap.size) (hf:Fr [r] W W'):tB r w0 L v W':=⟨aAv h.own hr hf,h.fr.trans hf⟩
theorem aCn {r:Nat}{w0 W W':WL}{e:TypeId}{size n:Nat}{xs:LV}{v:Value} (h:W.ownsRow w0.heap.size e size v n xs) (hf:Fr [r] w0 W) (hg:W.grownBy W' v.ownBlock):Fr [r] w0 W':=by
 refine⟨hg.os.trans hf.os,hg.tape.trans hf.tape,hg.output.trans hf.output,Nat.le_trans hf.size hg.size,fun k hk hn=>?_⟩;have h1:=hf.size;rw[hg.block k (by omega) (fun e=>by have:=(h.lt k e.symm).1;omega),hf.block k hk hn]
theorem tB.grown {r:Nat}{w0:WL}{L:LY}{v v':Value}{W W':WL}{s:BA} (h:tB r w0 L v W) (hown:W'.ownsRow w0.heap.size 9 1 v' (L.length+1) (L.map Value.string++[.string s])) (hg:W.grownBy W' v.ownBlock):tB r w0 (L++[s]) v' W':=
 ⟨by rw[Lla,List.map_append];exact hown,aCn h.own h.fr hg⟩
theorem aEs {B:Nat}{S:LN}{W W':WL}{e:TypeId}{size n:Nat}{xs:LV}{v:Value} (h:W.ownsRow B e size v n xs) (hf:Fr S W W') (hS:∀ x,x ∈ S→x<B):W'.ownsRow B e size v n xs:=by
 refine⟨h.1,?_⟩;rcases h.2 with h' | ⟨g,cap,cur,hv,hg,hh,r⟩
 ·exact .inl h'
 exact .inr ⟨g,cap,cur,hv,hg,by rw[hf.block g (Age.1 hh).1 (fun hm=>by have:=hS g hm;omega)];exact hh,r⟩
theorem vP {W:WL}{B B':Nat}{e:TypeId}{k:Nat}{v:Value}{n:Nat}{xs:LV} (h:W.ownsRow B e k v n xs) (hb:B'≤B):W.ownsRow B' e k v n xs:=by
 refine⟨h.1,?_⟩;rcases h.2 with h' | ⟨g,cap,cur,hv,hg,r⟩
 ·exact .inl h'
 exact .inr ⟨g,cap,cur,hv,Nat.le_trans hb hg,r⟩
def dD (B:Nat) (W:WL) (v:Value) (L:LY):Prop:=
 ∃ (a0:OA) (cap g off:Nat),v=.slice a0 L.length cap∧L.length≤cap∧(0<L.length→a0=some ⟨g,off,none⟩∧g<W.heap.size∧B≤g) ∧
  (∀ (i:Nat) (x:BA),L[i]?=some x→W.cell? ⟨g,off+i,none⟩=some (.string x))∧W.ownsRow B 9 1 v L.length (L.map Value.string)
theorem dD.own {B:Nat}{W:WL}{v:Value}{L:LY} (h:dD B W v L):W.ownsRow B 9 1 v L.length (L.map Value.string):=by
 obtain⟨a0,cap,g,off,h1,h2,h3,h4,h5⟩:=h;exact h5
theorem dD.strs {B:Nat}{W:WL}{v:Value}{L:LY} (h:dD B W v L):mD W v L:=by
 obtain⟨a0,cap,g,off,h1,h2,h3,h4,h5⟩:=h;exact⟨a0,cap,g,off,h1,h2,fun h=>⟨(h3 h).1,(h3 h).2.1⟩,h4⟩
theorem dD.fr {B:Nat}{S:LN}{W W':WL}{v:Value}{L:LY} (h:dD B W v L) (hf:Fr S W W') (hS:∀ x,x ∈ S→x<B):dD B W' v L:=by
 obtain⟨a0,cap,g,off,h1,h2,h3,h4,h5⟩:=h;refine⟨a0,cap,g,off,h1,h2,fun h=>⟨(h3 h).1,Nll (h3 h).2.1 hf.size,(h3 h).2.2⟩,fun i x hi=>?_,aEs h5 hf hS⟩;have h0:0<L.length:=by have:=(Lgs.1 hi).1;omega
 exact (hf.cell (p:=Ad g (off+i)) (h3 h0).2.1 (fun hm=>by have:=hS g hm;have:=(h3 h0).2.2;omega)).trans (h4 i x hi)
theorem tB.far {r:Nat}{w0:WL}{L:LY}{v:Value}{W:WL} (h:tB r w0 L v W):dD w0.heap.size W v L:=by
 rcases h.own.2 with ⟨hv,h0⟩ | ⟨g,cap,cur,hv,hb,hg,hn,_⟩
 ·have hL:=List.eq_nil_of_length_eq_zero h0;subst hL;exact⟨none,0,0,0,hv,Nat.le_refl _,fun h=>absurd h (Nat.lt_irrefl _),(fun i x hx=>by cases hx),h.own⟩
 refine⟨some (Ad g 0),cap,g,0,hv,hn,fun _=>⟨rfl,(Age.1 hg).1,hb⟩,fun i x hx=>?_,h.own⟩;have:=h.own.cells (g:=g) (by rw[hv];rfl) i (.string x) (by rw[List.getElem?_map,hx];rfl);rcases i with _ | i
 ·simpa [Addr.add] using this
 simpa [Addr.add] using this
def aHf:Value→Nat
 | .slice _ n _=>n
 | _=>0
theorem tB.form {r:Nat}{w0:WL}{L:LY}{v:Value}{W:WL} (h:tB r w0 L v W):∃ a0 cap,v=.slice a0 L.length cap:=by
 rcases h.own.2 with ⟨hv,h0⟩ | ⟨g,cap,cur,hv,_⟩
 ·exact⟨none,0,by rw[hv,h0]⟩
 exact⟨_,cap,hv⟩
theorem aOd (s:BA):∀ u ∈ [Value.string s],u.oneCell'=true:=by intro u hu;simp at hu;subst hu;rfl
theorem aZh:(prog.info? 46).map (fun i=>(i.zero,i.size,i.bytes))=some (some (.agg #[iA 0,iA 0,.string ⟨#[]⟩]),3,32):=by kernel_rfl
def aVk (n:Nat) (l:LB) (R:Sta × List Wire.Fn) (acc:List Wire.Fn):Sta→Prop
 | .inl f=>R.1=.inl f
 | .inr p=>aZm acc p.2 (aXs p.2 (n-acc.length) acc.length (seg l p.1 p.2))=R
theorem aVk.stop {n:Nat}{b:BA}{R:Sta × List Wire.Fn}{acc:List Wire.Fn}{s:Sta} (h:aVk n (bl b) R acc s) (hok:aOe (bl b) s) (hd:acc.length=n∨∃ f,s=.inl f) :
  s=R.1∧((∃ p,R.1=.inr p)→acc=R.2):=by
 rcases s with f | ⟨a,e⟩
 ·simp only[aVk] at h;exact⟨h.symm,fun ⟨p,hp⟩=>by rw[h] at hp;cases hp⟩
 obtain⟨o1,o2⟩:=hok;rcases hd with hd | ⟨f,hf⟩
 ·simp only[aVk,hd,Nat.sub_self,aXs,aZm] at h;rw[qR o2] at h;rw[← h];refine⟨?_,fun _=>by simp⟩;simp only;congr 2;omega
 cases hf
def fnC (f:Wire.Fn):LV:=[.int .i64 f.params,.int .i64 f.locs,.string f.code]
theorem aXt (L:List Wire.Fn)(i t:Nat)(f:Wire.Fn)(hi:L[i]?=some f)(ht:t<3):(L.flatMap fnC)[i*3+t]?=(fnC f)[t]?:=by
 induction L generalizing i with
 | nil=>cases hi
 | cons a L ih=>
  rw[List.flatMap_cons];cases i with
  | zero=>
   simp at hi;subst hi;rw[List.getElem?_append_left (by simp[fnC];omega)];simp
  | succ i=>
   rw[List.getElem?_append_right (by simp[fnC];omega)];have e:(i+1)*3+t-(fnC a).length=i*3+t:=by simp[fnC];omega
   rw[e];exact ih i (by simpa using hi)
theorem bAh (L:List Wire.Fn):(L.flatMap fnC).length=L.length*3:=by
 induction L with
 | nil=>rfl
 | cons a L ih=>rw[List.flatMap_cons,Lla,ih,List.length_cons];simp[fnC];omega
structure tC (r:Nat) (w0:WL) (L:List Wire.Fn) (v:Value) (W:WL):Prop where
 own:W.ownsRow w0.heap.size 46 3 v L.length (L.flatMap fnC)
 fr:Fr [r] w0 W
theorem tC.start {r:Nat}{w0 w1:WL} (hf:Fr [r] w0 w1):tC r w0 [] (.slice none 0 0) w1:=⟨World.ownsRow_nil _ _ _ _,hf⟩
theorem tC.kept {r:Nat}{w0:WL}{L:List Wire.Fn}{v:Value}{W W':WL} (h:tC r w0 L v W) (hr:r<w0.heap.size) (hf:Fr [r] W W'):tC r w0 L v W':=⟨aAv h.own hr hf,h.fr.trans hf⟩
theorem tC.grown {r:Nat}{w0:WL}{L:List Wire.Fn}{v v':Value}{W W':WL}{s:Wire.Fn} (h:tC r w0 L v W) (hown:W'.ownsRow w0.heap.size 46 3 v' (L.length+1) (L.flatMap fnC++fnC s)) (hg:W.grownBy W' v.ownBlock):tC r w0 (L++[s]) v' W':=
 ⟨by rw[Lla,List.flatMap_append];simpa using hown,aCn h.own h.fr hg⟩
theorem tC.form {r:Nat}{w0:WL}{L:List Wire.Fn}{v:Value}{W:WL} (h:tC r w0 L v W):∃ a0 cap,v=.slice a0 L.length cap:=by
 rcases h.own.2 with ⟨hv,h0⟩ | ⟨g,cap,cur,hv,_⟩
 ·exact⟨none,0,by rw[hv,h0]⟩
 exact⟨_,cap,hv⟩
def gI (B:Nat) (W:WL) (v:Value) (L:List Wire.Fn):Prop:=
 ∃ (a0:OA) (cap g off:Nat),v=.slice a0 L.length cap∧L.length≤cap∧(0<L.length→a0=some ⟨g,off,none⟩∧g<W.heap.size∧B≤g) ∧
  (∀ (i:Nat) (x:Wire.Fn),L[i]?=some x→W.cell? ⟨g,off+i*3,none⟩=some (.int .i64 x.params)∧W.cell? ⟨g,off+i*3+1,none⟩=some (.int .i64 x.locs)∧W.cell? ⟨g,off+i*3+2,none⟩=some (.string x.code))∧W.ownsRow B 46 3 v L.length (L.flatMap fnC)
theorem gI.fns {B:Nat}{W:WL}{v:Value}{L:List Wire.Fn} (h:gI B W v L):vB W v L:=by
 obtain⟨a0,cap,g,off,h1,h2,h3,h4,h5⟩:=h;exact⟨a0,cap,g,off,h1,h2,fun h=>⟨(h3 h).1,(h3 h).2.1⟩,h4⟩
theorem gI.fr {B:Nat}{S:LN}{W W':WL}{v:Value}{L:List Wire.Fn} (h:gI B W v L) (hf:Fr S W W') (hS:∀ x,x ∈ S→x<B):gI B W' v L:=by
 obtain⟨a0,cap,g,off,h1,h2,h3,h4,h5⟩:=h;refine⟨a0,cap,g,off,h1,h2,fun h=>⟨(h3 h).1,Nll (h3 h).2.1 hf.size,(h3 h).2.2⟩,fun i x hi=>?_,aEs h5 hf hS⟩;have h0:0<L.length:=by have:=(Lgs.1 hi).1;omega
 have hn:g ∉ S:=fun hm=>by have:=hS g hm;have:=(h3 h0).2.2;omega
 obtain⟨x0,x1,x2⟩:=h4 i x hi;exact⟨(hf.cell (p:=Ad g (off+i*3)) (h3 h0).2.1 hn).trans x0,(hf.cell (p:=Ad g (off+i*3+1)) (h3 h0).2.1 hn).trans x1,(hf.cell (p:=Ad g (off+i*3+2)) (h3 h0).2.1 hn).trans x2⟩
theorem nU (g j:Nat):((Ad g 0):Addr).add j=(Ad g j):=by cases j <;> simp[Addr.add]
theorem tC.far {r:Nat}{w0:WL}{L:List Wire.Fn}{v:Value}{W:WL} (h:tC r w0 L v W):gI w0.heap.size W v L:=by
 rcases h.own.2 with ⟨hv,h0⟩ | ⟨g,cap,cur,hv,hb,hg,hn,_⟩
 ·have hL:=List.eq_nil_of_length_eq_zero h0;subst hL;exact⟨none,0,0,0,hv,Nat.le_refl _,fun h=>absurd h (Nat.lt_irrefl _),(fun i x hx=>by cases hx),h.own⟩
 refine⟨some (Ad g 0),cap,g,0,hv,hn,fun _=>⟨rfl,(Age.1 hg).1,hb⟩,fun i x hx=>?_,h.own⟩;have hc:=fun t ht u hu=>h.own.cells (g:=g) (by rw[hv];rfl) (i*3+t) u ((aXt L i t x hx ht).trans hu);simp only[nU] at hc;simp only[Nat.zero_add];exact⟨hc 0 (by omega) _ rfl,hc 1 (by omega) _ rfl,hc 2 (by omega) _ rfl⟩
theorem aUp (f:Wire.Fn):∀ u ∈ fnC f,u.oneCell'=true:=by
 intro u hu;simp only[fnC,List.mem_cons,List.not_mem_nil,or_false] at hu;rcases hu with rfl | rfl | rfl <;> rfl
theorem aUq (w:WL)(p l:Int)(c:BA):∀ j u,[iA p,iA l,Value.string c][j]?=some u→(w.alloc (.cells #[iA p,iA l,.string c] 46)).cell? (((Ad w.heap.size 0):Addr).add j)=some u:=by
 intro j u hj;have hm:=wan w (.cells #[iA p,iA l,.string c] 46);rw[nU];unfold World.cell?;rw[hm];simpa using hj
structure aGz (B:Nat) (r rb mb:Nat) (o0 o1:Option (LY)) (o2 o3:Option Nat) (o4:Option (List Wire.Fn)) (W:WL):Prop where
 tab:Tab W
 rc:W.cell? ⟨rb,0,none⟩=some (.pointer (some ⟨r,0,none⟩))
 m0:∃ v L,W.cell? ⟨mb,0,none⟩=some v∧dD B W v L∧∀ X,o0=some X→L=X
 m1:∃ v L,W.cell? ⟨mb,1,none⟩=some v∧dD B W v L∧∀ X,o1=some X→L=X
 m2:∃ n:Nat,W.cell? ⟨mb,2,none⟩=some (.int .i64 n)∧∀ X,o2=some X→n=X
 m3:∃ n:Nat,W.cell? ⟨mb,3,none⟩=some (.int .i64 n)∧∀ X,o3=some X→n=X
 m4:∃ v L,W.cell? ⟨mb,4,none⟩=some v∧gI B W v L∧∀ X,o4=some X→L=X
 fz:∀ i,W.frozen? ⟨mb,i,none⟩=false
 dis:∀ v0 v1 g,W.cell? ⟨mb,0,none⟩=some v0→W.cell? ⟨mb,1,none⟩=some v1→v0.ownBlock=some g→v1.ownBlock=some g→False
 n0:r≠1
 n1:mb≠1
 n2:r≠mb
 n3:r≠rb
 n4:mb≠rb
 lr:r<B
 lm:mb<B
 lB:B≤W.heap.size
variable {B r rb mb:Nat}{o0 o1:Option (LY)}{o2 o3:Option Nat}{o4:Option (List Wire.Fn)}{W W':WL}
theorem aGz.ltm (h:aGz B r rb mb o0 o1 o2 o3 o4 W):mb<W.heap.size:=Nll h.lm h.lB
theorem aGz.ltr (h:aGz B r rb mb o0 o1 o2 o3 o4 W):rb<W.heap.size:=aB (a:=Ad rb 0) h.rc
theorem aGz.fr (h:aGz B r rb mb o0 o1 o2 o3 o4 W)(hf:Fr [r] W W'):aGz B r rb mb o0 o1 o2 o3 o4 W':=by
 have hS:∀ x,x ∈ [r]→x<B:=fun x hx=>by have:=h.lr;simp at hx;omega
 have cm:∀ i,W'.cell? (Ad mb i)=W.cell? (Ad mb i):=fun i=>hf.cell (p:=Ad mb i) h.ltm (by simpa using fun e=>h.n2 e.symm);obtain⟨v0,L0,a0,b0,c0⟩:=h.m0;obtain⟨v1,L1,a1,b1,c1⟩:=h.m1;obtain⟨n2,a2,c2⟩:=h.m2;obtain⟨n3,a3,c3⟩:=h.m3;obtain⟨v4,L4,a4,b4,c4⟩:=h.m4;refine⟨h.tab.fr hf (by simpa using fun e=>h.n0 e.symm),(hf.cell (p:=Ad rb 0) h.ltr (by simpa using fun e=>h.n3 e.symm)).trans h.rc,⟨v0,L0,(cm 0).trans a0,b0.fr hf hS,c0⟩,⟨v1,L1,(cm 1).trans a1,b1.fr hf hS,c1⟩,
  ⟨n2,(cm 2).trans a2,c2⟩,⟨n3,(cm 3).trans a3,c3⟩,⟨v4,L4,(cm 4).trans a4,b4.fr hf hS,c4⟩,fun i=>(hf.frozen (p:=Ad mb i) h.ltm (by simpa using fun e=>h.n2 e.symm)).trans (h.fz i),fun w0 w1 g j0 j1=>h.dis w0 w1 g ((cm 0).symm.trans j0) ((cm 1).symm.trans j1),h.n0,h.n1,h.n2,h.n3,h.n4,h.lr,h.lm,Nat.le_trans h.lB hf.size⟩
theorem Q6 (W:WL)(mb i:Nat)(v:Value):Fr [mb] W (W.setCell ⟨mb,i,none⟩ v):=(Fr.refl [mb] W).setCell (p:=⟨mb,i,none⟩) (.inl (by simp)) _
theorem dD.base {B B':Nat}{W:WL}{v:Value}{L:LY} (h:dD B W v L) (hb:B'≤B):dD B' W v L:=by
 obtain⟨a0,cap,g,off,h1,h2,h3,h4,h5⟩:=h;exact⟨a0,cap,g,off,h1,h2,fun h=>⟨(h3 h).1,(h3 h).2.1,Nat.le_trans hb (h3 h).2.2⟩,h4,vP h5 hb⟩
theorem gI.base {B B':Nat}{W:WL}{v:Value}{L:List Wire.Fn} (h:gI B W v L) (hb:B'≤B):gI B' W v L:=by
 obtain⟨a0,cap,g,off,h1,h2,h3,h4,h5⟩:=h;exact⟨a0,cap,g,off,h1,h2,fun h=>⟨(h3 h).1,(h3 h).2.1,Nat.le_trans hb (h3 h).2.2⟩,h4,vP h5 hb⟩
theorem aUv (a b:BA):(a.toList==b.toList)=decide (a=b):=by
 rw[ByteArray.toList_eq,ByteArray.toList_eq,Bool.eq_iff_iff];simp only[beq_iff_eq,decide_eq_true_eq];exact⟨fun h=>ByteArray.ext (Array.toList_inj.1 h),fun h=>by rw[h]⟩
def iS (W:WL) (g:Nat) (v0 v1 v2 v3 v4:Value):WL:=((((W.setCell ⟨g,0,none⟩ v0).setCell ⟨g,1,none⟩ v1).setCell ⟨g,2,none⟩ v2).setCell ⟨g,3,none⟩ v3).setCell ⟨g,4,none⟩ v4
theorem L8 (W:WL)(g:Nat)(v0 v1 v2 v3 v4:Value):Fr [g] W (iS W g v0 v1 v2 v3 v4):=
 (((((Fr.refl [g] W).setCell (p:=⟨g,0,none⟩) (.inl (by simp)) _).setCell (p:=⟨g,1,none⟩) (.inl (by simp)) _).setCell (p:=⟨g,2,none⟩) (.inl (by simp)) _).setCell (p:=⟨g,3,none⟩) (.inl (by simp)) _).setCell (p:=⟨g,4,none⟩) (.inl (by simp)) _
theorem gD {W:WL}{g:Nat}{u0 u1 u2 u3 u4:Value} (v0 v1 v2 v3 v4:Value) (e0:W.cell? (Ad g 0)=some u0) (e1:W.cell? (Ad g 1)=some u1) (e2:W.cell? (Ad g 2)=some u2) (e3:W.cell? (Ad g 3)=some u3) (e4:W.cell? (Ad g 4)=some u4) :
  (iS W g v0 v1 v2 v3 v4).cell? (Ad g 0)=some v0∧(iS W g v0 v1 v2 v3 v4).cell? (Ad g 1)=some v1∧(iS W g v0 v1 v2 v3 v4).cell? (Ad g 2)=some v2∧(iS W g v0 v1 v2 v3 v4).cell? (Ad g 3)=some v3∧(iS W g v0 v1 v2 v3 v4).cell? (Ad g 4)=some v4:=by
 unfold iS;refine⟨?_,?_,?_,?_,?_⟩
 ·exact (aA (by decide)).trans ((aA (by decide)).trans ((aA (by decide)).trans ((aA (by decide)).trans (cZ e0))))
 ·exact (aA (by decide)).trans ((aA (by decide)).trans ((aA (by decide)).trans (cZ ((aA (by decide)).trans e1))))
 ·exact (aA (by decide)).trans ((aA (by decide)).trans (cZ ((aA (by decide)).trans ((aA (by decide)).trans e2))))
 ·exact (aA (by decide)).trans (cZ ((aA (by decide)).trans ((aA (by decide)).trans ((aA (by decide)).trans e3))))
 exact cZ ((aA (by decide)).trans ((aA (by decide)).trans ((aA (by decide)).trans ((aA (by decide)).trans e4))))
def iL (B:Nat) (W:WL) (v:Value) (m:Mo):Prop:=
 ∃ tv pv fv,v=.agg #[tv,pv,.int .i64 m.globs,.int .i64 m.arrs,fv]∧dD B W tv m.texts∧dD B W pv m.pats∧gI B W fv m.fns∧∀ g,tv.ownBlock=some g→pv.ownBlock=some g→False
theorem iL.mod {B:Nat}{W:WL}{v:Value}{m:Mo} (h:iL B W v m):gY W v m:=by
 obtain⟨tv,pv,fv,h1,h2,h3,h4,h5⟩:=h;exact⟨tv,pv,fv,h1,h2.strs,h3.strs,h4.fns⟩
theorem iL.fr {B:Nat}{S:LN}{W W':WL}{v:Value}{m:Mo} (h:iL B W v m) (hf:Fr S W W') (hS:∀ x,x ∈ S→x<B):iL B W' v m:=by
 obtain⟨tv,pv,fv,h1,h2,h3,h4,h5⟩:=h;exact⟨tv,pv,fv,h1,h2.fr hf hS,h3.fr hf hS,h4.fr hf hS,h5⟩
theorem iL.base {B B':Nat}{W:WL}{v:Value}{m:Mo} (h:iL B W v m) (hb:B'≤B):iL B' W v m:=by
 obtain⟨tv,pv,fv,h1,h2,h3,h4,h5⟩:=h;exact⟨tv,pv,fv,h1,h2.base hb,h3.base hb,h4.base hb,h5⟩
structure GR (w:WL) (r:Nat) (b:BA) (a e:Nat) (l:LB):Prop where
 c:RdC w r b a e 0 0
 le:a≤e∧e≤b.size∧b.size≤40000
 s:seg (bl b) a e=l
section
variable {w w':WL}{r:Nat}{b:BA}{a e:Nat}{l p t:LB}
theorem GR.fr {S:LN}(h:GR w r b a e l)(hf:Fr S w w')(hr:r ∉ S):GR w' r b a e l:=⟨h.c.fr hf hr,h.le,h.s⟩
theorem GR.heap (h:GR w r b a e l)(hh:w'.heap=w.heap):GR w' r b a e l:=⟨h.c.of_block (by rw[hh]),h.le,h.s⟩
theorem GR.len (h:GR w r b a e l):l.length=e-a:=by rw[← h.s,qR (by rw[aO];exact h.le.2.1)]
theorem GR.adv {k:Nat}(h:GR w r b a e (p++t))(hk:p.length=k):GR (w.setCell ⟨r,1,none⟩ (.int .i64 ((a:Int)+k))) r b (a+k) e t:=by
 have:=qQ h.s h.le.1 (by rw[aO];exact h.le.2.1);have hl:=h.len;have h1:=h.le;simp at hl;rw[hk] at this;exact⟨by have:=h.c.set1 (a+k);rwa [Int.natCast_add] at this,by omega,by rw[← this.2.1];exact this.1⟩
theorem Q5 (w:WL)(r:Nat)(v:Value):Fr [r] w (w.setCell ⟨r,1,none⟩ v):=(Fr.refl [r] w).setCell (p:=⟨r,1,none⟩) (.inl (by simp)) _
theorem aVs {c:UInt8}{cI nI:Int} (hc:cI=(c.toNat:Int)) (h:GR w r b a e (c :: t)) :
  Calls prog 79 #[.pointer (some (Ad r 0)),.int .u8 cI,iA nI] w fun ee w'=>ee=.returned (.tuple #[])∧GR w' r b (a+1) e t∧Fr [r] w w':=by
 subst hc;have hl:=h.len;have h1:=h.le;simp at hl;have hb:b[a]=c:=by
  have:=h.s;rw[aNa (by omega) h1.2.1] at this;exact (List.cons.inj this).1
 have K:GR (w.setCell ⟨r,1,none⟩ (.int .i64 ((a:Int)+1))) r b (a+1) e t:=GR.adv (k:=1) (p:=[c]) h rfl;obtain⟨c0,c1,c2,c3,c4,f1,f2,f3,f4⟩:=h.c;have hd:((a:Int)==(e:Int))=false:=by simp;omega
 have hd2:((b[a].toNat:Int)!=(c.toNat:Int))=false:=by simp[hb]
 have g1:(a:Int)<b.size:=by omega
 clear h;go_enter func79,ntmps79;go_wp2;go_quiet (fail);go_wp2;go_end0;exact⟨rfl,K.heap rfl,(Q5 _ _ _).drewN _⟩
theorem aHo {n:Nat}(hn:n<34359738368)(h:GR w r b a e (bM n++t)) :
  Calls prog 140 #[.pointer (some (Ad r 0))] w fun ee w'=>ee=.returned (iA n)∧GR w' r b (a+(bM n).length) e t∧Fr [r] w w':=by
 have h1:=h.le;have hl:=h.len;have hx:(b.extract a e).size=e-a:=by rw[ByteArray.size_extract];omega
 have hd:num (bl (b.extract a e))=some (n,t):=by rw[kT,h.s];exact aOh hn t
 have hread:=fun (W:WL)=>uM (b.extract a e) (by omega) W;have hV:numV (bl (b.extract a e))=n:=by simp only[numV,hd]
 have hK:yC (bl (b.extract a e))=(bM n).length:=by simp only[yC,hd,aO,hx];simp at hl;omega
 simp only[hV,hK] at hread;have hdn:0<(bM n).length:=by
  cases hq:bM n with
  | nil=>exact absurd hq (sW _ (by omega))
  | cons a r=>simp
 have hb10:=bZ n;have K:=h.adv rfl;obtain⟨c0,c1,c2,c3,c4,f1,f2,f3,f4⟩:=h.c;have HR:Hid _:=hread;generalize (bM n).length=k at *;have g4:((k:Int)==0)=false:=by simp;omega
 have g2:(a:Int)≤e:=by omega
 have g3:(e:Int)≤b.size:=by omega
 clear hread hV hK hd hx h hl;go_enter func140,ntmps140;go_wp2;go_quiet (first | (go_at_call 99;refine Calls.quiet_of_same (HR.out _)))
 go_wp2;go_ret;exact⟨rfl,K.heap rfl,(Q5 _ _ _).drewN _⟩
theorem aBi {n lo hi:Nat}{loI hiI:Int} (hlo:loI=(lo:Int)) (hhi:hiI=(hi:Int)) (h1:lo≤n) (h2:n≤hi) (h3:hi≤100000) (h:GR w r b a e (bM n++t)) :
  Calls prog 87 #[.pointer (some (Ad r 0)),iA loI,iA hiI] w fun ee w'=>ee=.returned (iA n)∧GR w' r b (a+(bM n).length) e t∧Fr [r] w w':=by
 subst hlo hhi;have hnum:=aHo (by omega) h;have c1:=h.c.c1;have g1:¬ (n:Int)<lo:=by omega
 have g2:¬ (hi:Int)<n:=by omega
 clear h;go_enter func87,ntmps87;go_wp2_with fail;refine hnum.mono ?_;rintro ee w1 ⟨rfl,K1,F1⟩;go_wp2;go_ret;exact⟨rfl,K1,F1⟩
theorem yY {s:BA}{lim:Nat}{lI:Int} (hlim:lI=(lim:Int)) (h1:s.size≤lim) (h2:lim≤20000) (h:GR w r b a e (fQ s++t)) :
  Calls prog 141 #[.pointer (some (Ad r 0)),iA lI] w fun ee w'=>ee=.returned (.string s)∧GR w' r b (a+(fQ s).length) e t∧Fr [r] w w':=by
 subst hlim;have hm:=hmX
 have h':GR w r b a e (bM s.size++(bl s++t)):=by rw[← List.append_assoc];exact h
 have hlm:=aBi (lo:=0) (hi:=lim) rfl rfl (by omega) h1 (by omega) h';change Calls prog 87 #[.pointer (some (Ad r 0)),iA 0,iA lim] w _ at hlm;have ht:a+(fQ s).length=a+(bM s.size).length+s.size:=by rw[fQ,Lla,aO];omega
 rw[ht];have hl:=h'.len;have hle:=h.le;simp[aO] at hl;have c1:=h.c.c1;generalize a+(bM s.size).length=a1 at *;have hcl:=fun (W:WL)=>aGb s W (by omega);have HC:Hid _:=hcl;clear h h' ht hcl;go_enter func141,ntmps141;go_wp2_with fail;refine hlm.mono ?_;rintro ee w1 ⟨rfl,K1,F1⟩;have hl1:=K1.len;simp[aO] at hl1;have hle1:=K1.le;have hs:b.extract a1 (a1+s.size)=s:=by
  apply aRe;rw[kT,← Z0 (bl b) a1 e s.size (by omega),K1.s,List.take_left' (aO s)]
 obtain⟨d0,d1,d2,d3,d4,f1,f2,f3,f4⟩:=K1.c;have g1:¬ (e:Int)-(a1:Int)<s.size:=by omega
 have g2:(a1:Int)+s.size≤b.size:=by omega
 clear hlm hl hl1;go_wp2;go_quiet (fail);go_wp2;have K2:=(K1.heap (w':=w1.drewN nq) rfl).adv (aO s);have F2:=F1.trans (((Fr.refl [r] w1).drewN nq).trans (Q5 (w1.drewN nq) r (iA ((a1:Int)+s.size))));have C2:=K2.c;generalize (w1.drewN nq).setCell ⟨r,1,none⟩ (.int .i64 ((a1:Int)+s.size))=W2 at *;obtain⟨d0,d1,d2,d3,d4,f1,f2,f3,f4⟩:=C2;clear K1 F1 hle1;rw[Int.natCast_add] at d1;have g3:(0:Int)≤(a1:Int)+s.size-s.size:=by omega
 have g4:(a1:Int)+s.size-s.size=a1:=by omega
 have g5:IntKind.i64.wrap (a1:Int)=a1:=by rw[IntKind.wrap_i64];omega
 have g6:(a1:Int)≤(a1:Int)+s.size:=by omega
 have g7:(0:Int)≤(a1:Int):=by omega
 refine aP 15 hm (by kernel_rfl) ?_;simp only[Zt]
 repeat still_step
 refine wpStill_nil ?_;go_wp2_with fail;simp only[hs];refine (HC.out _).mono ?_;rintro ee w3 ⟨rfl,F3⟩;have F3:Fr [] W2 w3:=⟨F3.os,F3.tape,F3.output,F3.size,F3.block⟩;clear HC d0 d1 d2 d3 d4 f1 f2 f3 f4 g4 g5;go_wp2;go_ret;exact⟨rfl,K2.fr F3 (by simp),F2.trans (F3.mono (by simp))⟩
theorem aYr {s:BA}(h1:s.size≤100)(h:GR w r b a e (fQ s++t)) :
  Calls prog 83 #[.pointer (some (Ad r 0))] w fun ee w'=>ee=.returned (.string s)∧GR w' r b (a+(fQ s).length) e t∧Fr [r] w w':=by
 have hb:=yY (lim:=100) rfl h1 (by omega) h;change Calls prog 141 #[.pointer (some (Ad r 0)),iA 100] w _ at hb;clear h;go_enter func83,ntmps83;go_wp2_with fail;refine hb.mono ?_;rintro ee w1 ⟨rfl,K1,F1⟩;clear hb;go_wp2;go_ret;exact⟨rfl,K1,F1⟩
theorem aNr {s:BA}(hi:ipF s=true)(hT:Tab w)(hr0:r≠1)(h:GR w r b a e (fQ s++t)) :
  Calls prog 85 #[.pointer (some (Ad r 0))] w fun ee w'=>ee=.returned (.string s)∧GR w' r b (a+(fQ s).length) e t∧Fr [r] w w':=by
 have h1:s.size≤50:=by simp only[ipF,Bool.and_eq_true,decide_eq_true_eq] at hi;exact hi.1
 have hb:=yY (lim:=50) rfl h1 (by omega) h;change Calls prog 141 #[.pointer (some (Ad r 0)),iA 50] w _ at hb;have HI:Hid _:=fun (W:WL) (f:Fr [r] w W)=>qG s W (by unfold maxLen;omega) (hT.fr f (by simpa using fun e=>hr0 e.symm));simp only[hi] at HI;clear h;go_enter func85,ntmps85;go_wp2_with fail;refine hb.mono ?_;rintro ee w1 ⟨rfl,K1,F1⟩;clear hb;go_wp2_with fail;refine (HI.out w1 F1).mono ?_;rintro ee w2 ⟨rfl,F2⟩;go_wp2;go_ret;exact⟨rfl,K1.fr F2 (by simp),F1.trans (F2.mono (by simp))⟩
end
def GS (w:WL) (r:Nat) (b:BA) (e:Nat) (l:LB):Prop:=∃ a,GR w r b a e l
section
variable {w w':WL}{r:Nat}{b:BA}{e:Nat}{l p t:LB}
theorem GS.fr {S:LN}(h:GS w r b e l)(hf:Fr S w w')(hr:r ∉ S):GS w' r b e l:=h.imp fun _ h=>h.fr hf hr
theorem GS.lt (h:GS w r b e l):r<w.heap.size:=by obtain⟨a,h⟩:=h;exact h.c.lt
theorem GS.lim {n lo hi:Nat}{loI hiI:Int} (hlo:loI=(lo:Int)) (hhi:hiI=(hi:Int)) (h1:lo≤n) (h2:n≤hi) (h3:hi≤100000) (h:GS w r b e (bM n++t)) :
  Calls prog 87 #[.pointer (some (Ad r 0)),iA loI,iA hiI] w fun ee w'=>ee=.returned (iA n)∧GS w' r b e t∧Fr [r] w w':=by
 obtain⟨a,h⟩:=h;exact (aBi hlo hhi h1 h2 h3 h).mono fun _ _ ⟨h1,h2,h3⟩=>⟨h1,⟨_,h2⟩,h3⟩
theorem GS.bytes {s:BA}{lim:Nat}{lI:Int} (hlim:lI=(lim:Int)) (h1:s.size≤lim) (h2:lim≤20000) (h:GS w r b e (fQ s++t)) :
  Calls prog 141 #[.pointer (some (Ad r 0)),iA lI] w fun ee w'=>ee=.returned (.string s)∧GS w' r b e t∧Fr [r] w w':=by
 obtain⟨a,h⟩:=h;exact (yY hlim h1 h2 h).mono fun _ _ ⟨h1,h2,h3⟩=>⟨h1,⟨_,h2⟩,h3⟩
theorem aWg {L:LY}(f:Nat)(hf:f=83∨f=85)(hL:L.length≤1000)
  (hone:∀ (W:WL) (s:BA) (t:LB),s ∈ L→Fr [r] w W→GS W r b e (fQ s++t)→Calls prog f #[.pointer (some (Ad r 0))] W fun ee w'=>ee=.returned (.string s)∧GS w' r b e t∧Fr [r] W w') (h:GS w r b e (bS L++t)) :
  Calls prog 82 #[.pointer (some (Ad r 0)),.func (.func f) #[.pointer (some (Ad r 0))] #[]] w fun ee w'=>∃ v,ee=.returned v∧dD w.heap.size w' v L∧GS w' r b e t∧Fr [r] w w':=by
 obtain⟨i0,hi,hz0,hz1,hz2⟩:=info_parts aZf;have hrl:=h.lt;rw[bS,List.append_assoc] at h;have hlm:=h.lim (lo:=0) (hi:=1000) rfl rfl (by omega) hL (by omega);change Calls prog 87 #[.pointer (some (Ad r 0)),iA 0,iA 1000] w _ at hlm;have HO:Hid _:=hone;clear hone h;rcases hf with rfl | rfl
 all_goals
  go_enter func82,ntmps82;go_wp2_with fail;refine hlm.mono ?_;rintro ee w1 ⟨rfl,K1,F1⟩;clear hlm;go_wp2
  go_loopw [5] (fun u wr=>∃ k:Nat,k≤L.length∧GS wr r b e (fK (L.drop k)++t)∧tB r w (L.take k) u wr) (fun u _=>L.length-aHf u)
  case atStart=>exact⟨0,by omega,K1,tB.start F1⟩
  case round=>
   clear K1 F1;obtain⟨k,hk,K,J⟩:=hrel;obtain⟨a0,cap,rfl⟩:=J.form;have htk:(L.take k).length=k:=by rw[List.length_take];omega
   rw[htk] at J ⊢;have d4:wr.cell? (Ad r 4)=some (iA 0):=by obtain⟨a,K⟩:=K;exact K.c.c4
   by_cases hlt:k<L.length
   ·have g1:(k:Int)<L.length:=by omega
    rw[List.drop_eq_getElem_cons hlt] at K;simp only[fK,List.flatMap_cons,List.append_assoc] at K;have hc:=HO.out wr L[k] _ (List.getElem_mem hlt) J.fr K;generalize hx:L[k]=x at *;clear K;go_wp2_with fail;refine hc.mono ?_;rintro ee w2 ⟨rfl,K2,F2⟩;have J2:=J.kept hrl F2;have hown:=J2.own;rw[htk] at hown;have hsz2:=J2.fr.size;clear J F2 d4 hc;go_wp2_with (at_builtin;refine wpList_append_own _ rfl _ _ 22 rfl w.heap.size 9 i0 (.string ⟨#[]⟩) 1 16 underlying22 hi hz0 hz1 hz2 rfl (by decide) _ _ _ rfl (hown.alloc _) (Ad w2.heap.size 0) 1 1 [.string x] rfl rfl (cell_one_new _ _ _) (aOd _) (by unfold maxLen;omega) (by omega) (iY _ hsz2) ?_);intro v' w3 hown' hgrow _;have J3:=(J2.kept hrl ((Fr.refl [r] w2).alloc _)).grown (s:=x) (by rw[htk,List.map_take];exact hown') hgrow;have K3:GS w3 r b e (fK (L.drop (k+1))++t):=by
     obtain⟨a,K2⟩:=K2;refine⟨a,K2.c.of_block ?_,K2.le,K2.s⟩;rw[hgrow.block r (by have:=K2.c.lt;simp;omega) (fun e=>by have:=(hown.lt r e.symm).1;omega)];exact Below.heap_alloc _ _ _ K2.c.lt
    clear hown hown' hgrow J2 K2;rw[← hx,List.take_append_getElem hlt] at J3;obtain⟨b0,cap3,rfl⟩:=J3.form;rw[List.length_take,Nat.min_eq_left (by omega)] at J3 ⊢;go_wp2;refine⟨⟨k+1,by omega,K3,J3⟩,?_⟩;simp[aHf];omega
   obtain rfl:k=L.length:=by omega
   have g1:¬ (L.length:Int)<L.length:=by omega
   rw[List.drop_length] at K;rw[List.take_length] at J;go_wp2;go_ret;exact⟨_,rfl,J.far,K,J.fr⟩
theorem aKt (f:Wire.Fn)(i:Nat)(hi:i≤1000)(hf:fO f i=true)(h:GS w r b e (fnB f++t)) :
  Calls prog 142 #[.pointer (some (Ad r 0)),iA i] w fun ee w'=>ee=.returned (.agg #[iA f.params,iA f.locs,.string f.code])∧GS w' r b e t∧Fr [r] w w':=by
 have hmp:=fun (W:WL)=>qD i W;simp only[fO,Bool.and_eq_true,Bool.or_eq_true,decide_eq_true_eq] at hf;obtain⟨x1,e1⟩:∃ x:Nat,f.params=x:=⟨f.params.toNat,by omega⟩;obtain⟨x2,e2⟩:∃ x:Nat,f.locs=x:=⟨f.locs.toNat,by omega⟩;obtain⟨p,q,o⟩:=f;simp only at e1 e2 hf;subst e1 e2;obtain⟨M,hM,hx1,hM8⟩:∃ M:Nat,(if i<3 then 0 else 8:Int)=(M:Nat)∧x1≤M∧M≤8:=by
  by_cases h3:i<3
  ·exact⟨0,if_pos h3,by omega,by omega⟩
  exact⟨8,if_neg h3,by omega,by omega⟩
 rw[hM] at hmp;simp only[fnB,Int.toNat_natCast,List.append_assoc] at h;have hrl:=h.lt;have K0:=h.fr ((Fr.refl [] w).alloc (.cells #[iA 0,iA 0,Value.string ⟨#[]⟩] 46)) (by simp);have hnew:=wan w (.cells #[iA 0,iA 0,Value.string ⟨#[]⟩] 46);have F0:Fr [r] w (w.alloc (.cells #[iA 0,iA 0,Value.string ⟨#[]⟩] 46)):=(Fr.refl [r] w).alloc _;have HM:Hid _:=hmp;clear hmp h hM;go_enter func142,ntmps142;go_wp2_with fail;generalize w.alloc (.cells #[iA 0,iA 0,Value.string ⟨#[]⟩] 46)=W at *;have hlt:=(Age.1 hnew).1;refine (HM.out W).mono ?_;rintro ee W ⟨rfl,rfl⟩;go_wp2_with fail;refine (K0.lim (lo:=0) rfl rfl (by omega) hx1 (by omega)).mono ?_;rintro ee w1 ⟨rfl,K1,F1⟩;go_wp2_with fail;refine (K1.lim (hi:=16) rfl rfl (by omega) (by omega) (by omega)).mono ?_;rintro ee w2 ⟨rfl,K2,F2⟩;go_wp2_with fail;refine (K2.bytes (lim:=20000) rfl (by omega) (by omega)).mono ?_;rintro ee w3 ⟨rfl,K3,F3⟩;have FW:=(F1.trans F2).trans F3;have kept:w3.heap[w.heap.size]?=some (.cells #[iA 0,iA 0,Value.string ⟨#[]⟩] 46):=by rw[FW.block _ hlt (by simp;omega),hnew]
 have cz:∀ j,w3.cell? (Ad w.heap.size j)=(#[iA 0,iA 0,Value.string ⟨#[]⟩]:Array Value)[j]?:=fun j=>by unfold World.cell?;rw[kept];rfl
 have e0:=cz 0;have e1:=cz 1;have e2:=cz 2;simp at e0 e1 e2;have e3:∀ i,w3.frozen? (Ad w.heap.size i)=false:=fun i=>by unfold World.frozen?;rw[kept];simp
 have FF:=F0.trans FW;clear HM hnew hlt F0 K0 K1 K2 F1 F2 F3 FW kept cz;have y2:=cZ (v:=.string o) ((aA (i:=1) (v:=iA x2) (by decide)).trans ((aA (i:=0) (v:=iA x1) (by decide)).trans e2));have y1:=(aA (i:=2) (v:=.string o) (by decide)).trans (cZ (v:=iA x2) ((aA (i:=0) (v:=iA x1) (by decide)).trans e1));have y0:=(aA (i:=2) (v:=.string o) (by decide)).trans ((aA (i:=1) (v:=iA x2) (by decide)).trans (cZ (v:=iA x1) e0));have FZ:=((FF.setCell (p:=⟨w.heap.size,0,none⟩) (.inr (Nat.le_refl _)) (iA x1)).setCell (p:=⟨w.heap.size,1,none⟩) (.inr (Nat.le_refl _)) (iA x2)).setCell (p:=⟨w.heap.size,2,none⟩) (.inr (Nat.le_refl _)) (.string o);have KZ:=K3.fr (S:=[w.heap.size]) ((((Fr.refl [w.heap.size] w3).setCell (p:=⟨w.heap.size,0,none⟩) (.inl (by simp)) (iA x1)).setCell (p:=⟨w.heap.size,1,none⟩) (.inl (by simp)) (iA x2)).setCell (p:=⟨w.heap.size,2,none⟩) (.inl (by simp)) (.string o)) (by simp;omega);go_wp2;generalize (((w3.setCell ⟨w.heap.size,0,none⟩ (.int .i64 x1)).setCell ⟨w.heap.size,1,none⟩ (.int .i64 x2)).setCell ⟨w.heap.size,2,none⟩ (.string o))=Z at *;refine bodyPost_ret (v:=.agg #[iA x1,iA x2,.string o]) (by simp[results,results142,go_sem,y0,y1,y2]) rfl ?_;exact⟨rfl,KZ,FZ⟩
theorem aKl {L:List Wire.Fn}{i k:Nat} (h:aS L i=true) (hk:k<L.length):fO L[k] (i+k)=true:=by
 induction L generalizing i k with
 | nil=>simp at hk
 | cons x L ih=>
  simp only[aS,Bool.and_eq_true] at h;cases k with
  | zero=>exact h.1
  | succ k=>have:=ih h.2 (k:=k) (by simpa using hk);rw[show i+(k+1)=i+1+k by omega];exact this
theorem aXr {L:List Wire.Fn}(hL:3≤L.length∧L.length≤1000)(hf:aS L 0=true)(h:GS w r b e (pD L++t)) :
  Calls prog 90 #[.pointer (some (Ad r 0))] w fun ee w'=>∃ v,ee=.returned v∧gI w.heap.size w' v L∧GS w' r b e t∧Fr [r] w w':=by
 obtain⟨i0,hi,hz0,hz1,hz2⟩:=info_parts aZh;have hrl:=h.lt;rw[pD,List.append_assoc] at h;have hlm:=h.lim (lo:=3) (hi:=1000) rfl rfl hL.1 hL.2 (by omega);change Calls prog 87 #[.pointer (some (Ad r 0)),iA 3,iA 1000] w _ at hlm;have HF:Hid _:=hf;clear h hf;go_enter func90,ntmps90;go_wp2_with fail;refine hlm.mono ?_;rintro ee w1 ⟨rfl,K1,F1⟩;clear hlm;go_wp2
 go_loopw [3] (fun u wr=>∃ k:Nat,k≤L.length∧GS wr r b e (mP (L.drop k)++t)∧tC r w (L.take k) u wr) (fun u _=>L.length-aHf u)
 case atStart=>exact⟨0,by omega,K1,tC.start F1⟩
 case round=>
  clear K1 F1;obtain⟨k,hk,K,J⟩:=hrel;obtain⟨a0,cap,rfl⟩:=J.form;have htk:(L.take k).length=k:=by rw[List.length_take];omega
  rw[htk] at J ⊢;have d4:wr.cell? (Ad r 4)=some (iA 0):=by obtain⟨a,K⟩:=K;exact K.c.c4
  by_cases hlt:k<L.length
  ·have g1:(k:Int)<L.length:=by omega
   rw[List.drop_eq_getElem_cons hlt] at K;simp only[mP,List.flatMap_cons,List.append_assoc] at K;have hla:=aKl HF.out hlt;rw[Nat.zero_add] at hla;have hc:=aKt L[k] k (by omega) hla K;generalize hx:L[k]=x at *;obtain⟨op,ol,oc⟩:=x;clear K hla;go_wp2_with fail;refine hc.mono ?_;rintro ee w2 ⟨rfl,K2,F2⟩;have J2:=J.kept hrl F2;have hown:=J2.own;rw[htk] at hown;have hsz2:=J2.fr.size;obtain⟨ys,hys⟩:=eXi ((L.take k).flatMap fnC);rw[hys] at hown;clear J F2 d4 hc;go_wp2_with (at_builtin;refine wpList_append_own _ rfl _ _ 23 rfl w.heap.size 46 i0 (.agg #[iA 0,iA 0,.string ⟨#[]⟩]) 3 32 underlying23 hi hz0 hz1 hz2 rfl (by decide) _ _ _ rfl (hown.alloc _) (Ad w2.heap.size 0) 1 1 [iA op,iA ol,.string oc] rfl rfl (aUq _ _ _ _) (aUp ⟨op,ol,oc⟩) (by unfold maxLen;omega) (by omega) (iY _ hsz2) ?_);intro v' w3 hown' hgrow _;have J3:=(J2.kept hrl ((Fr.refl [r] w2).alloc _)).grown (s:=⟨op,ol,oc⟩) (by rw[htk,hys];exact hown') hgrow;have K3:GS w3 r b e (mP (L.drop (k+1))++t):=by
    obtain⟨a,K2⟩:=K2;refine⟨a,K2.c.of_block ?_,K2.le,K2.s⟩;rw[hgrow.block r (by have:=K2.c.lt;simp;omega) (fun e=>by have:=(hown.lt r e.symm).1;omega)];exact Below.heap_alloc _ _ _ K2.c.lt
   clear hown hown' hgrow J2 K2;rw[← hx,List.take_append_getElem hlt] at J3;obtain⟨b0,cap3,rfl⟩:=J3.form;rw[List.length_take,Nat.min_eq_left (by omega)] at J3 ⊢;go_wp2;refine⟨⟨k+1,by omega,K3,J3⟩,?_⟩;simp[aHf];omega
  obtain rfl:k=L.length:=by omega
  have g1:¬ (L.length:Int)<L.length:=by omega
  rw[List.drop_length] at K;rw[List.take_length] at J;go_wp2;go_ret;exact⟨_,rfl,J.far,K,J.fr⟩
end
section
variable {w w' W W':WL}{r B rb mb F f i:Nat}{b:BA}{a a' e k:Nat}{c p t:LB}{V:LV}{v:Value}
theorem GR.opn (h:GR w r b a e (p++t)):GR (w.setCell ⟨r,2,none⟩ (.int .i64 ((a:Int)+p.length))) r b a (a+p.length) p:=by
 have hl:=h.len;have h1:=h.le;simp at hl;exact⟨by have:=h.c.set2 (a+p.length);rwa [Int.natCast_add] at this,by omega,by rw[← Z0 _ _ e _ (by omega),h.s,List.take_left]⟩
theorem GR.cls (h:GR w r b a e (p++t))(h':GR W r b a' (a+p.length) []):GR (W.setCell ⟨r,2,none⟩ (.int .i64 e)) r b a' e t:=by
 have:=qQ h.s h.le.1 (by rw[aO];exact h.le.2.1);have hl:=h.len;have h1:=h.le;have h2:=h'.len;have h3:=h'.le;simp at hl h2;obtain rfl:a'=a+p.length:=by omega
 exact⟨h'.c.set2 e,by omega,by rw[← this.2.1];exact this.1⟩
theorem xR (hF:F=81∨F=84∨F=86∨F=88∨F=89){kI:Int}(hkI:kI=(k:Int))(hk:k<256)(Q:WL→Prop)(hQ:∀ W W',Fr [r] W W'→Q W→Q W')
  (hc:∀ W e,Fr [r] w W→GS W r b e c→Calls prog F #[.pointer (some (Ad rb 0)),.pointer (some (Ad mb 0))] W fun ee W'=>ee=.returned (.tuple #[])∧GS W' r b e []∧Q W'∧Fr [r,mb] W W')
  (h:GS w r b b.size (eB k c++t)) :
  Calls prog 80 #[.pointer (some (Ad r 0)),.int .u8 kI,.func (.func F) #[] #[.pointer (some (Ad rb 0)),.pointer (some (Ad mb 0))]] w fun ee w'=>ee=.returned (.tuple #[])∧GS w' r b b.size t∧Q w'∧Fr [r,mb] w w':=by
 have hkc:kI=((UInt8.ofNat k).toNat:Int):=by rw[hkI];simp[UInt8.toNat_ofNat];omega
 obtain⟨a,h⟩:=h;have hl:=h.len;have hle:=h.le;simp only[eB,List.cons_append,List.append_assoc,List.length_cons,Lla] at h hl;have c1:=aVs (nI:=7) hkc h;have c2:=fun W hW=>aHo (w:=W) (r:=r) (b:=b) (a:=a+1) (e:=b.size) (n:=c.length) (t:=c++t) (by omega) hW;have hd:=bZ c.length;generalize hz:a+1+(bM c.length).length=z at *;have g1:¬ (b.size:Int)-(z:Int)<c.length:=by omega
 have g1b:(z:Int)+c.length≤40000:=by omega
 have C1:Hid _:=c1;have C2:Hid _:=c2;have HC:Hid _:=hc;clear c1 c2 hc h hz hl hkI hkc;rcases hF with rfl | rfl | rfl | rfl | rfl
 all_goals
  go_enter func80,ntmps80;go_wp2_with fail;refine Calls.mono C1.out ?_;rintro ee w1 ⟨rfl,K1,F1⟩;have a1:=K1.c.c1;go_wp2_with fail;refine (C2.out w1 K1).mono ?_;rintro ee w2 ⟨rfl,K2,F2⟩;have b1:=K2.c.c1;have b2:=K2.c.c2;have b3:=K2.c.f2;clear a1 K1;go_wp2;go_quiet (fail);go_wp2_with fail;have K3:=GR.opn (K2.heap (w':=w2.drewN nq) rfl);have FF:=(F1.trans F2).trans (((Fr.refl [r] w2).drewN nq).setCell (p:=⟨r,2,none⟩) (.inl (by simp)) (iA ((z:Int)+c.length)));refine (HC.out _ _ FF ⟨_,K3⟩).mono ?_;rintro ee w4 ⟨rfl,⟨y,K4⟩,hq,F4⟩;have hy:y=z+c.length:=by have h2:=K4.len;have h3:=K4.le;simp at h2;omega
  have d1:=K4.c.c1;have d2:=K4.c.c2;have g2:¬ (y:Int)<((z+c.length:Nat):Int):=by omega
  clear b1 b2 b3 F1 F2 K3;go_wp2;go_quiet (fail);have K5:=K4.heap (w':=w4.drewN nq) rfl;have e0:=K5.c.c0;have e1:=K5.c.f2;have e2:=K5.c.c2;have K6:=K2.cls K5;have F6:Fr [r] w4 ((w4.drewN nq).setCell ⟨r,2,none⟩ (.int .i64 b.size)):=((Fr.refl [r] w4).drewN nq).setCell (p:=⟨r,2,none⟩) (.inl (by simp)) _;clear d1 d2 K4 K5 K2;go_wp2;go_end0;exact⟨rfl,⟨_,K6⟩,hQ _ _ F6 hq,((FF.mono (by simp)).trans F4).trans (F6.mono (by simp))⟩
structure BX (B r rb mb:Nat) (V:LV) (W:WL):Prop where
 tab:Tab W
 rc:W.cell? ⟨rb,0,none⟩=some (.pointer (some ⟨r,0,none⟩))
 cs:∀ i,W.cell? ⟨mb,i,none⟩=V[i]?
 fz:∀ i,W.frozen? ⟨mb,i,none⟩=false
 n:r≠1∧mb≠1∧r≠mb∧r≠rb∧mb≠rb∧r<B∧mb<B∧B≤W.heap.size∧V.length=5
theorem BX.fr (h:BX B r rb mb V W)(hf:Fr [r] W W'):BX B r rb mb V W':=by
 obtain⟨n0,n1,n2,n3,n4,n5,n6,n7,n8⟩:=h.n;have hm:mb ∉ [r]:=by simpa using fun e=>n2 e.symm
 exact⟨h.tab.fr hf (by simpa using fun e=>n0 e.symm),(hf.cell (p:=Ad rb 0) (aB h.rc) (by simpa using fun e=>n3 e.symm)).trans h.rc,fun i=>(hf.cell (p:=Ad mb i) (by simp only;omega) hm).trans (h.cs i),fun i=>(hf.frozen (p:=Ad mb i) (by simp only;omega) hm).trans (h.fz i),n0,n1,n2,n3,n4,n5,n6,Nat.le_trans n7 hf.size,n8⟩
theorem BX.set (h:BX B r rb mb V W)(hi:i<5)(v:Value):BX B r rb mb (V.set i v) (W.setCell ⟨mb,i,none⟩ v):=by
 obtain⟨n0,n1,n2,n3,n4,n5,n6,n7,n8⟩:=h.n;have hf:=Q6 W mb i v;refine⟨h.tab.fr hf (by simpa using fun e=>n1 e.symm),(aX n4).trans h.rc,fun j=>?_,fun j=>by rw[wfz];exact h.fz j,n0,n1,n2,n3,n4,n5,n6,Nat.le_trans n7 hf.size,by simpa using n8⟩;by_cases hij:i=j
 ·subst hij;rw[List.getElem?_set_self (by omega)];exact cZ ((h.cs i).trans (Lge (by omega)))
 rw[List.getElem?_set_ne hij];exact (aA hij).trans (h.cs j)
theorem BX.at (h:BX B r rb mb V W)(hi:i<5):∃ u,W.cell? (Ad mb i)=some u:=⟨_,(h.cs i).trans (Lge (by have:=h.n;omega))⟩
theorem BX.put (h:BX B r rb mb V w)(hi:i<5)(h1:Fr [r] w W)(hK:GS W r b e t):BX B r rb mb (V.set i v) (W.setCell ⟨mb,i,none⟩ v)∧GS (W.setCell ⟨mb,i,none⟩ v) r b e t∧Fr [r,mb] w (W.setCell ⟨mb,i,none⟩ v):=
 ⟨(h.fr h1).set hi v,hK.fr (Q6 W mb i v) (by simpa using h.n.2.2.1),(h1.mono (by simp)).setCell (p:=⟨mb,i,none⟩) (.inl (by simp)) _⟩
theorem aQp {L:LY}(hF:F=81∧f=83∧i=0∨F=84∧f=85∧i=1)(hL:L.length≤1000)(hB:BX B r rb mb V w)
  (hone:∀ (W:WL) (s:BA) (t:LB),s ∈ L→Tab W→GS W r b e (fQ s++t)→Calls prog f #[.pointer (some (Ad r 0))] W fun ee w'=>ee=.returned (.string s)∧GS w' r b e t∧Fr [r] W w') (h:GS w r b e (bS L)) :
  Calls prog F #[.pointer (some (Ad rb 0)),.pointer (some (Ad mb 0))] w fun ee W'=>ee=.returned (.tuple #[])∧GS W' r b e []∧(∃ v,BX B r rb mb (V.set i v) W'∧dD w.heap.size W' v L)∧Fr [r,mb] w W':=by
 rw[← List.append_nil (bS L)] at h;have ht:=aWg (w:=w) f (by omega) hL (fun W s t hs hf=>hone W s t hs (hB.fr hf).tab) h;have rc:=hB.rc;have hm:mb<w.heap.size:=by have:=hB.n;omega
 clear hone h;rcases hF with ⟨rfl,rfl,rfl⟩ | ⟨rfl,rfl,rfl⟩;go_enter func81,ntmps81;rotate_left;go_enter func84,ntmps84
 all_goals
  go_wp2_with fail;refine ht.mono ?_;rintro ee w1 ⟨v,rfl,hv,K1,F1⟩;have hB1:=hB.fr F1;have fz:=hB1.fz;obtain⟨z0,a0⟩:=hB1.at (i:=0) (by omega);obtain⟨z1,a1⟩:=hB1.at (i:=1) (by omega);have hv0:=fun i=>hv.fr (Q6 w1 mb i v) (by simpa using hm);have hq0:=hB.put (i:=0) (v:=v) (by omega) F1 K1;have hq1:=hB.put (i:=1) (v:=v) (by omega) F1 K1;have HQ:Hid _:=AI hv0 (AI hq0 hq1);obtain⟨x0,cap,g,off,rfl,-⟩:=hv;clear ht rc hv0 hq0 hq1;go_wp2;go_end0;obtain⟨h0,⟨h1,h2,h3⟩,h4,h5,h6⟩:=HQ.out
  first
   | exact⟨rfl,h2,⟨_,h1,h0 _⟩,h3⟩
   | exact⟨rfl,h5,⟨_,h4,h0 _⟩,h6⟩
theorem aQq {n:Nat}(hF:F=86∧i=2∨F=88∧i=3)(hn:n≤1000)(hB:BX B r rb mb V w)(h:GS w r b e (bM n)) :
  Calls prog F #[.pointer (some (Ad rb 0)),.pointer (some (Ad mb 0))] w fun ee W'=>ee=.returned (.tuple #[])∧GS W' r b e []∧BX B r rb mb (V.set i (iA n)) W'∧Fr [r,mb] w W':=by
 rw[← List.append_nil (bM n)] at h;have ht:=h.lim (lo:=0) (hi:=1000) rfl rfl (by omega) hn (by omega);change Calls prog 87 #[.pointer (some (Ad r 0)),iA 0,iA 1000] w _ at ht;have rc:=hB.rc;clear h;rcases hF with ⟨rfl,rfl⟩ | ⟨rfl,rfl⟩;go_enter func86,ntmps86;rotate_left;go_enter func88,ntmps88
 all_goals
  go_wp2_with fail;refine ht.mono ?_;rintro ee w1 ⟨rfl,K1,F1⟩;have hB1:=hB.fr F1;have fz:=hB1.fz;obtain⟨z0,a0⟩:=hB1.at (i:=2) (by omega);obtain⟨z1,a1⟩:=hB1.at (i:=3) (by omega);have hq0:=hB.put (i:=2) (v:=iA n) (by omega) F1 K1;have hq1:=hB.put (i:=3) (v:=iA n) (by omega) F1 K1;have HQ:Hid _:=AI hq0 hq1;clear ht rc hq0 hq1;go_wp2;go_end0;obtain⟨⟨h1,h2,h3⟩,h4,h5,h6⟩:=HQ.out
  first
   | exact⟨rfl,h2,h1,h3⟩
   | exact⟨rfl,h5,h4,h6⟩
theorem aQr {L:List Wire.Fn}(hL:3≤L.length∧L.length≤1000)(hf:aS L 0=true)(hB:BX B r rb mb V w)(h:GS w r b e (pD L)) :
  Calls prog 89 #[.pointer (some (Ad rb 0)),.pointer (some (Ad mb 0))] w fun ee W'=>ee=.returned (.tuple #[])∧GS W' r b e []∧(∃ v,BX B r rb mb (V.set 4 v) W'∧gI w.heap.size W' v L)∧Fr [r,mb] w W':=by
 rw[← List.append_nil (pD L)] at h;have ht:=aXr hL hf h;have rc:=hB.rc;have hm:mb<w.heap.size:=by have:=hB.n;omega
 clear h;go_enter func89,ntmps89;go_wp2_with fail;refine ht.mono ?_;rintro ee w1 ⟨v,rfl,hv,K1,F1⟩;have hB1:=hB.fr F1;have fz:=hB1.fz;obtain⟨z0,a0⟩:=hB1.at (i:=4) (by omega);have hv0:=hv.fr (Q6 w1 mb 4 v) (by simpa using hm);have hq0:=hB.put (i:=4) (v:=v) (by omega) F1 K1;have HQ:Hid _:=AI hv0 hq0;obtain⟨x0,cap,g,off,rfl,-⟩:=hv;clear ht rc hv0 hq0;go_wp2;go_end0;obtain⟨h0,h1,h2,h3⟩:=HQ.out;exact⟨rfl,h2,⟨_,h1,h0⟩,h3⟩
theorem aVn {L:LY}{kI:Int} (hF:F=81∧f=83∧i=0∨F=84∧f=85∧i=1) (hkI:kI=(k:Int)) (hk:k<256) (hL:L.length≤1000) (hB:BX B r rb mb V w)
  (hone:∀ e (W:WL) (s:BA) (t:LB),s ∈ L→Tab W→GS W r b e (fQ s++t)→Calls prog f #[.pointer (some (Ad r 0))] W fun ee w'=>ee=.returned (.string s)∧GS w' r b e t∧Fr [r] W w') (h:GS w r b b.size (eB k (bS L)++t)) :
  Calls prog 80 #[.pointer (some (Ad r 0)),.int .u8 kI,.func (.func F) #[] #[.pointer (some (Ad rb 0)),.pointer (some (Ad mb 0))]] w fun ee w'=>ee=.returned (.tuple #[])∧GS w' r b b.size t∧(∃ v,BX B r rb mb (V.set i v) w'∧dD w.heap.size w' v L)∧Fr [r,mb] w w':=by
 have hr:=h.lt;exact xR (by omega) hkI hk (fun W=>∃ v,BX B r rb mb (V.set i v) W∧dD w.heap.size W v L) (fun W W' f ⟨v,h1,h2⟩=>⟨v,h1.fr f,h2.fr f (by simpa using hr)⟩)
  (fun W e f hW=>(aQp hF hL (hB.fr f) (hone e) hW).mono fun _ _ ⟨h1,h2,⟨v,h3,h4⟩,h5⟩=>⟨h1,h2,⟨v,h3,h4.base f.size⟩,h5⟩) h
theorem aVo {n:Nat}{kI:Int} (hF:F=86∧i=2∨F=88∧i=3) (hkI:kI=(k:Int)) (hk:k<256) (hn:n≤1000) (hB:BX B r rb mb V w) (h:GS w r b b.size (eB k (bM n)++t)) :
  Calls prog 80 #[.pointer (some (Ad r 0)),.int .u8 kI,.func (.func F) #[] #[.pointer (some (Ad rb 0)),.pointer (some (Ad mb 0))]] w fun ee w'=>ee=.returned (.tuple #[])∧GS w' r b b.size t∧BX B r rb mb (V.set i (iA n)) w'∧Fr [r,mb] w w':=
 xR (by omega) hkI hk _ (fun W W' f h1=>h1.fr f) (fun W e f hW=>aQq hF hn (hB.fr f) hW) h
theorem aYu {L:List Wire.Fn}(hL:3≤L.length∧L.length≤1000)(hf:aS L 0=true)(hB:BX B r rb mb V w)(h:GS w r b b.size (eB 5 (pD L)++t)) :
  Calls prog 80 #[.pointer (some (Ad r 0)),.int .u8 5,.func (.func 89) #[] #[.pointer (some (Ad rb 0)),.pointer (some (Ad mb 0))]] w fun ee w'=>ee=.returned (.tuple #[])∧GS w' r b b.size t∧(∃ v,BX B r rb mb (V.set 4 v) w'∧gI w.heap.size w' v L)∧Fr [r,mb] w w':=by
 have hr:=h.lt;exact xR (k:=5) (by omega) rfl (by omega) (fun W=>∃ v,BX B r rb mb (V.set 4 v) W∧gI w.heap.size W v L) (fun W W' f ⟨v,h1,h2⟩=>⟨v,h1.fr f,h2.fr f (by simpa using hr)⟩)
  (fun W e f hW=>(aQr hL hf (hB.fr f) hW).mono fun _ _ ⟨h1,h2,⟨v,h3,h4⟩,h5⟩=>⟨h1,h2,⟨v,h3,h4.base f.size⟩,h5⟩) h
end
end Go.Proofs.YtlokkgajpjafmaaGreatDoor
