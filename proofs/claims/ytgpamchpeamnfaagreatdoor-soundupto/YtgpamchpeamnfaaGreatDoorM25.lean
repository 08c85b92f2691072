/-
  Texts Gd Kf Kg Kh La Lb Lc Ld.
-/
import Derived.Maps.AppendAt
import Derived.Laws.OwnMore
import Derived.Shelf.Strconv.Itoa0
import Derived.Shelf.Strconv.Itoa1
import Derived.Shelf.LaysM
import Derived.Shelf.Strconv.Itoa2
import Derived.Shelf.Strconv.Itoa3
import Derived.Test.YtgpamchpeamnfaaGreatDoorProg
import Derived.Lib.AppendIntMem
import Derived.Lib.ItoaLen
import Derived.Test.YtgpamchpeamnfaaGreatDoorRows
import Derived.Test.YtgpamchpeamnfaaGreatDoorMA
import Derived.Test.YtgpamchpeamnfaaGreatDoorM00
import Derived.Test.YtgpamchpeamnfaaGreatDoorM24
import Derived.Test.YtgpamchpeamnfaaGreatDoorM12
set_option linter.unusedSimpArgs false
set_option linter.unusedVariables false
set_option maxRecDepth 100000
set_option maxHeartbeats 40000000
open _root_.Go.Proofs.Tryz
namespace Go.Proofs.YtgpamchpeamnfaaGreatDoor
open Go.RowKit
open Wire
theorem aBz (L:List Wire.Fn)(k:Nat)(x:Wire.Fn)(h:L[k]?=some x):gL (L.take (k+1))=gL (L.take k)++(aY x.params.toNat++(aY x.locs.toNat++(aY x.code.size++bl x.code))):=by
 obtain⟨hk,rfl⟩:=Lgs.1 h
 rw[List.take_succ_eq_append_getElem hk,gL,List.flatMap_append]
 simp[gL,fnB,fP]
theorem aRg (L:List Wire.Fn)(k:Nat)(hs:∀ s ∈ L,s.code.size≤20000):(gL (L.take k)).length≤20030*k:=by
 induction k with
 | zero=>simp[gL]
 | succ k ih=>
  cases hx:L[k]? with
  | none=>
   have:L.length≤k:=by simpa using hx
   rw[List.take_of_length_le (by omega)] at ih ⊢
   omega
  | some x=>
   rw[aBz L k x hx]
   simp only[Lla,aD]
   have:=hs x (List.mem_of_getElem? hx)
   have:=fK x.code.size
   have:=fK x.params.toNat
   have:=fK x.locs.toNat
   omega
theorem asz (a b:ByteArray):(a++b).size=a.size+b.size:=ByteArray.size_append
theorem aCk (mv:Value)(m:Mo)(w:World)(hM:eR w mv m)(hw:cE ipF m=true):Calls prog 13 #[mv] w fun e w'=>e=.returned (.string (mkR (Wire.written m)))∧Fr [] w w':=by
 have hm:prog.follows .mixedOrders=true:=by kernel_rfl
 obtain⟨q1,q2,q3,q4,q5,q6,q7,q8,q9,q10,q11⟩:=Wire.within_iff.1 hw
 have f11:=qU _ _ q11
 obtain⟨l1,-⟩:=kZ m.texts q9 q1
 obtain⟨l2,-⟩:=kZ m.pats (fun s hs=>by have:=(q10 s hs).1;omega) q2
 obtain⟨l5,-⟩:=T5 m.fns (fun s hs=>(f11 s hs).1) q4
 have s1:=fU 1 (aZ m.texts)
 have s2:=fU 2 (aZ m.pats)
 have s3:=fU 3 (aY m.globs.toNat)
 have s4:=fU 4 (aY m.arrs.toNat)
 have s5:=fU 5 (gZ m.fns)
 have l3:=fK m.globs.toNat
 have l4:=fK m.arrs.toNat
 have hbe:=aOm m
 have hwr:Wire.written m=body m++dG (body m):=rfl
 obtain⟨tv,pv,fv,rfl,hT1,hP,hF⟩:=hM.is
 have hl1:=fun (W:World) (f:Fr [] w W)=>xY tv m.texts W q9 q1 (hT1.fr f)
 have hl2:=fun (W:World) (f:Fr [] w W)=>xY pv m.pats W (fun s hs=>by have:=(q10 s hs).1;omega) q2 (hP.fr f)
 have hs1:=fun (W:World)=>lL 1 (aZ m.texts) W (by omega) (by omega)
 have hs2:=fun (W:World)=>lL 2 (aZ m.pats) W (by omega) (by omega)
 have hs3:=fun (W:World)=>lL 3 (aY m.globs.toNat) W (by omega) (by omega)
 have hs4:=fun (W:World)=>lL 4 (aY m.arrs.toNat) W (by omega) (by omega)
 have hs5:=fun (W:World)=>lL 5 (gZ m.fns) W (by omega) (by omega)
 have hd3:=fun (W:World)=>lE m.globs.toNat W (by omega)
 have hd4:=fun (W:World)=>lE m.arrs.toNat W (by omega)
 have hdf:=fun (W:World)=>lE m.fns.length W (by omega)
 have c3:((m.globs.toNat:Nat):Int)=m.globs:=by omega
 have c4:((m.arrs.toNat:Nat):Int)=m.arrs:=by omega
 rw[c3] at hd3
 rw[c4] at hd4
 have e1:(⟨#[71,76,1]⟩:ByteArray)++mkR (bR 1 (aZ m.texts))++mkR (bR 2 (aZ m.pats))++mkR (bR 3 (aY m.globs.toNat))++mkR (bR 4 (aY m.arrs.toNat))++mkR (bR 5 (gZ m.fns))=mkR (body m):=by
  have h0:(⟨#[71,76,1]⟩:ByteArray)=mkR [71,76,1]:=rfl
  rw[h0,gY,gY,gY,gY,gY,← hbe]
 have hsum:=fun (W:World)=>H7 (mkR (body m)) W (by rw[eJ];have:=qJ m ipF hw;omega)
 rw[bDa] at hsum
 have e2:mkR (body m)++mkR (dG (body m))=mkR (Wire.written m):=by rw[gY,← hwr]
 have zb:(mkR (body m)).size≤100000000:=by rw[eJ];exact qJ m ipF hw
 have zs:(mkR (dG (body m))).size=3:=by rw[eJ];rfl
 have z1:(mkR (bR 1 (aZ m.texts))).size≤40000000:=by rw[eJ];omega
 have z2:(mkR (bR 2 (aZ m.pats))).size≤40000000:=by rw[eJ];omega
 have z3:(mkR (bR 3 (aY m.globs.toNat))).size≤40000000:=by rw[eJ];omega
 have z4:(mkR (bR 4 (aY m.arrs.toNat))).size≤40000000:=by rw[eJ];omega
 have z5:(mkR (bR 5 (gZ m.fns))).size≤40000000:=by rw[eJ];omega
 obtain⟨ta,tc,tg,tto,rfl,-⟩:=id hT1
 obtain⟨pa,pc,pg,po,rfl,-⟩:=id hP
 obtain⟨fa,fc,fg,fo,rfl,fcap,fha,fhx⟩:=hF
 obtain⟨texts,pats,globs,arrs,fns⟩:=m
 simp only at *
 generalize (⟨texts,pats,globs,arrs,fns⟩:Mo)=m at *
 have F11:Hid _:=f11
 have HL1:Hid _:=hl1
 have HL2:Hid _:=hl2
 have HS1:Hid _:=hs1
 have HS2:Hid _:=hs2
 have HS3:Hid _:=hs3
 have HS4:Hid _:=hs4
 have HS5:Hid _:=hs5
 have HD3:Hid _:=hd3
 have HD4:Hid _:=hd4
 have HDF:Hid _:=hdf
 have HSU:Hid _:=hsum
 have E1:Hid _:=e1
 have E2:Hid _:=e2
 have FHA:Hid _:=fha
 have FHX:Hid _:=fhx
 have F20:Hid (∀ s ∈ fns,s.code.size≤20000):=fun s hs=>(F11.out s hs).1
 have ldf:=fK fns.length
 clear hl1 hl2 hs1 hs2 hs3 hs4 hs5 hd3 hd4 hdf hsum e1 e2 fha fhx hM hw q5 q6 q7 q8 q9 q10 q11 f11 l1 l2 l3 l4 l5 s1 s2 s3 s4 s5 c3 c4 hbe hwr hT1 hP
 generalize mkR (Wire.written m)=WR at *
 generalize mkR (body m)=BB at *
 generalize mkR (dG (body m))=SU at *
 generalize mkR (bR 1 (aZ texts))=S1 at *
 generalize mkR (bR 2 (aZ pats))=S2 at *
 generalize mkR (bR 3 (aY globs.toNat))=S3 at *
 generalize mkR (bR 4 (aY arrs.toNat))=S4 at *
 generalize mkR (bR 5 (gZ fns))=S5 at *
 generalize mkR (aZ texts)=L1 at *
 generalize mkR (aZ pats)=L2 at *
 generalize mkR (aY globs.toNat)=D3 at *
 generalize mkR (aY arrs.toNat)=D4 at *
 have hnew:=wan w (.cells #[Value.slice ta texts.length tc,Value.slice pa pats.length pc,Value.int IntKind.i64 globs,Value.int IntKind.i64 arrs,Value.slice fa fns.length fc] 25)
 have hlt2:w.heap.size<(w.alloc (.cells #[Value.slice ta texts.length tc,Value.slice pa pats.length pc,Value.int IntKind.i64 globs,Value.int IntKind.i64 arrs,Value.slice fa fns.length fc] 25)).heap.size:=by simp
 have f0:Fr [] w (w.alloc (.cells #[Value.slice ta texts.length tc,Value.slice pa pats.length pc,Value.int IntKind.i64 globs,Value.int IntKind.i64 arrs,Value.slice fa fns.length fc] 25)):=(Fr.refl [] w).alloc _
 have kept:∀ {W':World},Fr [] (w.alloc (.cells #[Value.slice ta texts.length tc,Value.slice pa pats.length pc,Value.int IntKind.i64 globs,Value.int IntKind.i64 arrs,Value.slice fa fns.length fc] 25)) W'→(W'.cell? ⟨w.heap.size,0,none⟩=some (Value.slice ta texts.length tc)∧W'.cell? ⟨w.heap.size,1,none⟩=some (Value.slice pa pats.length pc)∧W'.cell? ⟨w.heap.size,2,none⟩=some (Value.int .i64 globs)∧W'.cell? ⟨w.heap.size,3,none⟩=some (Value.int .i64 arrs)∧W'.cell? ⟨w.heap.size,4,none⟩=some (Value.slice fa fns.length fc)):=by
  intro W' G
  have hb:=G.block _ hlt2 (by simp)
  rw[hnew] at hb
  refine⟨?_,?_,?_,?_,?_⟩ <;> (unfold World.cell?;rw[hb];rfl)
 have Hkept:Hid _:=@kept
 clear kept hnew hlt2
 go_enter func13,ntmps13
 go_wp2_with fail
 generalize hWW:w.alloc (.cells #[Value.slice ta texts.length tc,Value.slice pa pats.length pc,Value.int IntKind.i64 globs,Value.int IntKind.i64 arrs,Value.slice fa fns.length fc] 25)=W at *
 clear hWW
 refine (HDF.out _).mono ?_
 rintro e w1 ⟨rfl,f1⟩
 clear HDF
 go_wp2
 go_loopw [3,4] (fun s i wr=>∃ k:Nat,k≤fns.length∧i=.int .i64 k∧s=.string (mkR (aY fns.length++gL (fns.take k)))∧Fr [] W wr) (fun _ i _=>fns.length-(intOf i).toNat)
 case atStart=>exact⟨0,by omega,rfl,by simp[gL],f1⟩
 case round=>
  obtain⟨k,hk,rfl,rfl,fr⟩:=hrel
  obtain⟨k0,k1,k2,k3,k4⟩:=Hkept.out fr
  have hbl:=aC k0
  by_cases hlt:k<fns.length
  ·have g1:(k:Int)<fns.length:=by omega
   obtain⟨rfl,hgl⟩:=FHA.out (by omega)
   obtain⟨x,hx⟩:∃ x,fns[k]?=some x:=⟨_,Lge hlt⟩
   obtain⟨x5,x1,x2,x3,x4⟩:=F11.out x (List.mem_of_getElem? hx)
   obtain⟨y0,y1,y2⟩:=FHX.out k x hx
   have c0:=((f0.trans fr).cell (p:=⟨fg,fo+k*3,none⟩) hgl (by simp)).trans y0
   have c1:=((f0.trans fr).cell (p:=⟨fg,fo+k*3+1,none⟩) hgl (by simp)).trans y1
   have c2:=((f0.trans fr).cell (p:=⟨fg,fo+k*3+2,none⟩) hgl (by simp)).trans y2
   have hsn:=aBz fns k x hx
   have hts:=aRg fns k F20.out
   obtain⟨p,l,co⟩:=x
   simp only at c0 c1 c2 x1 x2 x3 x4 x5 hsn
   obtain⟨pn,rfl⟩:∃ n:Nat,p=n:=⟨p.toNat,by omega⟩
   obtain⟨ln,rfl⟩:∃ n:Nat,l=n:=⟨l.toNat,by omega⟩
   simp only[Int.toNat_natCast] at hsn
   obtain⟨DP,hDP,zP,HP⟩:=pO pn (by omega)
   obtain⟨DL,hDL,zL,HL⟩:=pO ln (by omega)
   obtain⟨DC,hDC,zC,HC⟩:=pO co.size (by omega)
   have e3:mkR (aY fns.length++gL (fns.take k))++DP++DL++DC++co=mkR (aY fns.length++gL (fns.take (k+1))):=by
    rw[← hDP,← hDL,← hDC]
    conv=>lhs;rhs;rw[← aUq co]
    rw[gY,gY,gY,gY,hsn]
    simp
   have zT:(mkR (aY fns.length++gL (fns.take k))).size≤30000000:=by rw[eJ,Lla];omega
   have E3:Hid _:=e3
   clear hx y0 y1 y2 e3 hDP hDL hDC hsn hts x1 x3
   generalize mkR (aY fns.length++gL (fns.take k))=T at *
   have v1:=asz T DP
   have v2:=asz (T++DP) DL
   have v3:=asz (T++DP++DL) DC
   go_wp2
   have fa:Fr [] wr (wr.alloc (Obj.cells #[.int .i64 pn,.int .i64 ln,.string co] 47)):=(Fr.refl [] wr).alloc _
   have b0:(wr.alloc (Obj.cells #[.int .i64 pn,.int .i64 ln,.string co] 47)).cell? ⟨wr.heap.size,0,none⟩=some (.int .i64 pn):=by simp
   have b1:(wr.alloc (Obj.cells #[.int .i64 pn,.int .i64 ln,.string co] 47)).cell? ⟨wr.heap.size,1,none⟩=some (.int .i64 ln):=by simp
   have b2:(wr.alloc (Obj.cells #[.int .i64 pn,.int .i64 ln,.string co] 47)).cell? ⟨wr.heap.size,2,none⟩=some (.string co):=by simp
   generalize (wr.alloc (Obj.cells #[.int .i64 pn,.int .i64 ln,.string co] 47))=W0 at *
   generalize wr.heap.size=fcb at *
   have hfl:=aC b0
   clear c0 c1 c2 k0 k1 k2 k3 k4
   refine aE (fun w1=>w1.cell? ⟨fcb,0,none⟩=some (.int .i64 pn)∧w1.cell? ⟨fcb,1,none⟩=some (.int .i64 ln)∧w1.cell? ⟨fcb,2,none⟩=some (.string co)) hm ?_
   have hS:(fun w1=>w1.cell? ⟨fcb,0,none⟩=some (.int .i64 pn)∧w1.cell? ⟨fcb,1,none⟩=some (.int .i64 ln)∧w1.cell? ⟨fcb,2,none⟩=some (.string co)) W0.drew:=⟨b0,b1,b2⟩
   refine aH (fun _ _ _ _ _ h=>h) hS [0,1,2,5,6,9,10,11,14,15] (by kernel_rfl) ?_
   iterate 10
    refine Yls.cons (v:=?_) rfl (.inl ⟨rfl,fun w1 hS1=>?_⟩) ?_
    rotate_left
    ·obtain⟨q1,q2,q3⟩:=hS1
     go_simp
     first | rfl | (refine (if_neg (by omega)).trans ?_;rfl)
    simp only[Act.put,Z1,Z2,Z3,Z4,Z5,Z6]
   refine Yls.nil ?_
   refine rd1 (r:=3) (by kernel_rfl) rfl fun K hK=>?_
   go_simp
   refine (HP.out _).mono ?_
   rintro e V1 ⟨rfl,g1⟩
   have v1:Fr [] W0 V1:=(Fr.refl [] W0).drew.trans g1
   refine hK _ _ (⟨(v1.cell (p:=⟨fcb,0,none⟩) hfl (by simp)).trans b0,(v1.cell (p:=⟨fcb,1,none⟩) hfl (by simp)).trans b1,(v1.cell (p:=⟨fcb,2,none⟩) hfl (by simp)).trans b2⟩) ?_
   clear hK K
   intro hS
   refine wpAnyH_take (i:=4) (v:=?_) rfl (by kernel_rfl) (by kernel_rfl) (by kernel_rfl) (fun _ _ _ h=>h) (.inl ⟨rfl,fun w1 hS1=>?_⟩) hS ?_
   rotate_left
   ·obtain⟨q1,q2,q3⟩:=hS1
    go_simp
    first | rfl | (refine (if_neg (by omega)).trans ?_;rfl)
   simp only[Act.put,Z1,Z2,Z3,Z4,Z5,Z6]
   refine rd1 (r:=7) (by kernel_rfl) rfl fun K hK=>?_
   go_simp
   refine (HL.out _).mono ?_
   rintro e V2 ⟨rfl,g2⟩
   have v2:=v1.trans g2
   refine hK _ _ (⟨(v2.cell (p:=⟨fcb,0,none⟩) hfl (by simp)).trans b0,(v2.cell (p:=⟨fcb,1,none⟩) hfl (by simp)).trans b1,(v2.cell (p:=⟨fcb,2,none⟩) hfl (by simp)).trans b2⟩) ?_
   clear hK K
   intro hS
   refine wpAnyH_take (i:=8) (v:=?_) rfl (by kernel_rfl) (by kernel_rfl) (by kernel_rfl) (fun _ _ _ h=>h) (.inl ⟨rfl,fun w1 hS1=>?_⟩) hS ?_
   rotate_left
   ·obtain⟨q1,q2,q3⟩:=hS1
    go_simp
    first | rfl | (refine (if_neg (by omega)).trans ?_;rfl)
   simp only[Act.put,Z1,Z2,Z3,Z4,Z5,Z6]
   refine rd1 (r:=12) (by kernel_rfl) rfl fun K hK=>?_
   go_simp
   refine (HC.out _).mono ?_
   rintro e V3 ⟨rfl,g3⟩
   have v3:=v2.trans g3
   refine hK _ _ (⟨(v3.cell (p:=⟨fcb,0,none⟩) hfl (by simp)).trans b0,(v3.cell (p:=⟨fcb,1,none⟩) hfl (by simp)).trans b1,(v3.cell (p:=⟨fcb,2,none⟩) hfl (by simp)).trans b2⟩) ?_
   clear hK K
   intro hS
   refine aH (fun _ _ _ _ _ h=>h) hS [13,16,17] (by kernel_rfl) ?_
   iterate 3
    refine Yls.cons (v:=?_) rfl (.inl ⟨rfl,fun w1 hS1=>?_⟩) ?_
    rotate_left
    ·obtain⟨q1,q2,q3⟩:=hS1
     go_simp
     first | rfl | (refine (if_neg (by omega)).trans ?_;rfl)
    simp only[Act.put,Z1,Z2,Z3,Z4,Z5,Z6]
   refine Yls.nil ?_
   refine wpAnyH_done (by kernel_rfl) ?_ _
   have f3:Fr [] W V3:=(fr.trans fa).trans v3
   clear hS b0 b1 b2 HP HL HC
   go_wp2
   exact⟨⟨k+1,by omega,by go_num,congrArg Value.string E3.out,f3⟩,by simp[intOf];omega⟩
  ·have g1:¬ ((k:Int)<fns.length):=by omega
   have e3:mkR (aY fns.length++gL (fns.take k))=mkR (gZ fns):=by rw[List.take_of_length_le (by omega),gZ]
   rw[e3]
   generalize mkR (gZ fns)=FL at *
   have F0:=f0.trans fr
   have v1:=asz ⟨#[71,76,1]⟩ S1
   have v2:=asz (⟨#[71,76,1]⟩++S1) S2
   have v3:=asz (⟨#[71,76,1]⟩++S1++S2) S3
   have v4:=asz (⟨#[71,76,1]⟩++S1++S2++S3) S4
   have v5:=asz (⟨#[71,76,1]⟩++S1++S2++S3++S4) S5
   have v0:(⟨#[71,76,1]⟩:ByteArray).size=3:=rfl
   have v6:=asz BB SU
   clear e3
   go_wp2
   refine aE (fun w1:World=>w1.cell? ⟨w.heap.size,0,none⟩=some (Value.slice ta texts.length tc)∧w1.cell? ⟨w.heap.size,1,none⟩=some (Value.slice pa pats.length pc)∧w1.cell? ⟨w.heap.size,2,none⟩=some (Value.int .i64 globs)∧w1.cell? ⟨w.heap.size,3,none⟩=some (Value.int .i64 arrs)) hm ?_
   have hS:(fun w1:World=>w1.cell? ⟨w.heap.size,0,none⟩=some (Value.slice ta texts.length tc)∧w1.cell? ⟨w.heap.size,1,none⟩=some (Value.slice pa pats.length pc)∧w1.cell? ⟨w.heap.size,2,none⟩=some (Value.int .i64 globs)∧w1.cell? ⟨w.heap.size,3,none⟩=some (Value.int .i64 arrs)) wr.drew:=⟨k0,k1,k2,k3⟩
   refine aH (fun _ _ _ _ _ h=>h) hS [0,1,5,6] (by kernel_rfl) ?_
   iterate 4
    refine Yls.cons (v:=?_) rfl (.inl ⟨rfl,fun w1 hS1=>?_⟩) ?_
    rotate_left
    ·obtain⟨q1,q2,q3,q4⟩:=hS1
     go_simp
     first | rfl | (refine (if_neg (by omega)).trans ?_;rfl)
    simp only[Act.put,Z1,Z2,Z3,Z4,Z5,Z6]
   refine Yls.nil ?_
   refine rd1 (r:=2) (by kernel_rfl) rfl fun K hK=>?_
   go_simp
   refine (HL1.out _ F0.drew).mono ?_
   rintro e V1 ⟨rfl,g1⟩
   have u1:Fr [] wr V1:=(Fr.refl [] wr).drew.trans g1
   refine hK _ _ (⟨(u1.cell (p:=⟨w.heap.size,0,none⟩) hbl (by simp)).trans k0,(u1.cell (p:=⟨w.heap.size,1,none⟩) hbl (by simp)).trans k1,(u1.cell (p:=⟨w.heap.size,2,none⟩) hbl (by simp)).trans k2,(u1.cell (p:=⟨w.heap.size,3,none⟩) hbl (by simp)).trans k3⟩) ?_
   clear hK K
   intro hS
   refine rd1 (r:=3) (by kernel_rfl) rfl fun K hK=>?_
   go_simp
   refine (HS1.out _).mono ?_
   rintro e V2 ⟨rfl,g2⟩
   have u2:=u1.trans g2
   refine hK _ _ (⟨(u2.cell (p:=⟨w.heap.size,0,none⟩) hbl (by simp)).trans k0,(u2.cell (p:=⟨w.heap.size,1,none⟩) hbl (by simp)).trans k1,(u2.cell (p:=⟨w.heap.size,2,none⟩) hbl (by simp)).trans k2,(u2.cell (p:=⟨w.heap.size,3,none⟩) hbl (by simp)).trans k3⟩) ?_
   clear hK K
   intro hS
   refine wpAnyH_take (i:=4) (v:=?_) rfl (by kernel_rfl) (by kernel_rfl) (by kernel_rfl) (fun _ _ _ h=>h) (.inl ⟨rfl,fun w1 hS1=>?_⟩) hS ?_
   rotate_left
   ·obtain⟨q1,q2,q3,q4⟩:=hS1
    go_simp
    first | rfl | (refine (if_neg (by omega)).trans ?_;rfl)
   simp only[Act.put,Z1,Z2,Z3,Z4,Z5,Z6]
   refine rd1 (r:=7) (by kernel_rfl) rfl fun K hK=>?_
   go_simp
   refine (HL2.out _ (F0.trans u2)).mono ?_
   rintro e V3 ⟨rfl,g3⟩
   have u3:=u2.trans g3
   refine hK _ _ (⟨(u3.cell (p:=⟨w.heap.size,0,none⟩) hbl (by simp)).trans k0,(u3.cell (p:=⟨w.heap.size,1,none⟩) hbl (by simp)).trans k1,(u3.cell (p:=⟨w.heap.size,2,none⟩) hbl (by simp)).trans k2,(u3.cell (p:=⟨w.heap.size,3,none⟩) hbl (by simp)).trans k3⟩) ?_
   clear hK K
   intro hS
   refine rd1 (r:=8) (by kernel_rfl) rfl fun K hK=>?_
   go_simp
   refine (HS2.out _).mono ?_
   rintro e V4 ⟨rfl,g4⟩
   have u4:=u3.trans g4
   refine hK _ _ (⟨(u4.cell (p:=⟨w.heap.size,0,none⟩) hbl (by simp)).trans k0,(u4.cell (p:=⟨w.heap.size,1,none⟩) hbl (by simp)).trans k1,(u4.cell (p:=⟨w.heap.size,2,none⟩) hbl (by simp)).trans k2,(u4.cell (p:=⟨w.heap.size,3,none⟩) hbl (by simp)).trans k3⟩) ?_
   clear hK K
   intro hS
   refine aH (fun _ _ _ _ _ h=>h) hS [9,10] (by kernel_rfl) ?_
   iterate 2
    refine Yls.cons (v:=?_) rfl (.inl ⟨rfl,fun w1 hS1=>?_⟩) ?_
    rotate_left
    ·obtain⟨q1,q2,q3,q4⟩:=hS1
     go_simp
     first | rfl | (refine (if_neg (by omega)).trans ?_;rfl)
    simp only[Act.put,Z1,Z2,Z3,Z4,Z5,Z6]
   refine Yls.nil ?_
   refine wpAnyH_done (by kernel_rfl) ?_ _
   have k0:=(u4.cell (p:=⟨w.heap.size,0,none⟩) hbl (by simp)).trans k0
   have k1:=(u4.cell (p:=⟨w.heap.size,1,none⟩) hbl (by simp)).trans k1
   have k2:=(u4.cell (p:=⟨w.heap.size,2,none⟩) hbl (by simp)).trans k2
   have k3:=(u4.cell (p:=⟨w.heap.size,3,none⟩) hbl (by simp)).trans k3
   have hbl:=aC k0
   have F4:=F0.trans u4
   clear u1 u2 u3 u4 g1 g2 g3 g4 hS
   go_wp2
   refine aE (fun w1:World=>w1.cell? ⟨w.heap.size,0,none⟩=some (Value.slice ta texts.length tc)∧w1.cell? ⟨w.heap.size,1,none⟩=some (Value.slice pa pats.length pc)∧w1.cell? ⟨w.heap.size,2,none⟩=some (Value.int .i64 globs)∧w1.cell? ⟨w.heap.size,3,none⟩=some (Value.int .i64 arrs)) hm ?_
   have hS:(fun w1:World=>w1.cell? ⟨w.heap.size,0,none⟩=some (Value.slice ta texts.length tc)∧w1.cell? ⟨w.heap.size,1,none⟩=some (Value.slice pa pats.length pc)∧w1.cell? ⟨w.heap.size,2,none⟩=some (Value.int .i64 globs)∧w1.cell? ⟨w.heap.size,3,none⟩=some (Value.int .i64 arrs)) V4.drew:=⟨k0,k1,k2,k3⟩
   refine aH (fun _ _ _ _ _ h=>h) hS [0,1,2,6,7,11] (by kernel_rfl) ?_
   iterate 6
    refine Yls.cons (v:=?_) rfl (.inl ⟨rfl,fun w1 hS1=>?_⟩) ?_
    rotate_left
    ·obtain⟨q1,q2,q3,q4⟩:=hS1
     go_simp
     first | rfl | (refine (if_neg (by omega)).trans ?_;rfl)
    simp only[Act.put,Z1,Z2,Z3,Z4,Z5,Z6]
   refine Yls.nil ?_
   refine rd1 (r:=3) (by kernel_rfl) rfl fun K hK=>?_
   go_simp
   refine (HD3.out _).mono ?_
   rintro e V5 ⟨rfl,g5⟩
   have u5:Fr [] V4 V5:=(Fr.refl [] V4).drew.trans g5
   refine hK _ _ (⟨(u5.cell (p:=⟨w.heap.size,0,none⟩) hbl (by simp)).trans k0,(u5.cell (p:=⟨w.heap.size,1,none⟩) hbl (by simp)).trans k1,(u5.cell (p:=⟨w.heap.size,2,none⟩) hbl (by simp)).trans k2,(u5.cell (p:=⟨w.heap.size,3,none⟩) hbl (by simp)).trans k3⟩) ?_
   clear hK K
   intro hS
   refine rd1 (r:=4) (by kernel_rfl) rfl fun K hK=>?_
   go_simp
   refine (HS3.out _).mono ?_
   rintro e V6 ⟨rfl,g6⟩
   have u6:=u5.trans g6
   refine hK _ _ (⟨(u6.cell (p:=⟨w.heap.size,0,none⟩) hbl (by simp)).trans k0,(u6.cell (p:=⟨w.heap.size,1,none⟩) hbl (by simp)).trans k1,(u6.cell (p:=⟨w.heap.size,2,none⟩) hbl (by simp)).trans k2,(u6.cell (p:=⟨w.heap.size,3,none⟩) hbl (by simp)).trans k3⟩) ?_
   clear hK K
   intro hS
   refine wpAnyH_take (i:=5) (v:=?_) rfl (by kernel_rfl) (by kernel_rfl) (by kernel_rfl) (fun _ _ _ h=>h) (.inl ⟨rfl,fun w1 hS1=>?_⟩) hS ?_
   rotate_left
   ·obtain⟨q1,q2,q3,q4⟩:=hS1
    go_simp
    first | rfl | (refine (if_neg (by omega)).trans ?_;rfl)
   simp only[Act.put,Z1,Z2,Z3,Z4,Z5,Z6]
   refine rd1 (r:=8) (by kernel_rfl) rfl fun K hK=>?_
   go_simp
   refine (HD4.out _).mono ?_
   rintro e V7 ⟨rfl,g7⟩
   have u7:=u6.trans g7
   refine hK _ _ (⟨(u7.cell (p:=⟨w.heap.size,0,none⟩) hbl (by simp)).trans k0,(u7.cell (p:=⟨w.heap.size,1,none⟩) hbl (by simp)).trans k1,(u7.cell (p:=⟨w.heap.size,2,none⟩) hbl (by simp)).trans k2,(u7.cell (p:=⟨w.heap.size,3,none⟩) hbl (by simp)).trans k3⟩) ?_
   clear hK K
   intro hS
   refine rd1 (r:=9) (by kernel_rfl) rfl fun K hK=>?_
   go_simp
   refine (HS4.out _).mono ?_
   rintro e V8 ⟨rfl,g8⟩
   have u8:=u7.trans g8
   refine hK _ _ (⟨(u8.cell (p:=⟨w.heap.size,0,none⟩) hbl (by simp)).trans k0,(u8.cell (p:=⟨w.heap.size,1,none⟩) hbl (by simp)).trans k1,(u8.cell (p:=⟨w.heap.size,2,none⟩) hbl (by simp)).trans k2,(u8.cell (p:=⟨w.heap.size,3,none⟩) hbl (by simp)).trans k3⟩) ?_
   clear hK K
   intro hS
   refine wpAnyH_take (i:=10) (v:=?_) rfl (by kernel_rfl) (by kernel_rfl) (by kernel_rfl) (fun _ _ _ h=>h) (.inl ⟨rfl,fun w1 hS1=>?_⟩) hS ?_
   rotate_left
   ·obtain⟨q1,q2,q3,q4⟩:=hS1
    go_simp
    first | rfl | (refine (if_neg (by omega)).trans ?_;rfl)
   simp only[Act.put,Z1,Z2,Z3,Z4,Z5,Z6]
   refine rd1 (r:=12) (by kernel_rfl) rfl fun K hK=>?_
   go_simp
   refine (HS5.out _).mono ?_
   rintro e V9 ⟨rfl,g9⟩
   have u9:=u8.trans g9
   refine hK _ _ (⟨(u9.cell (p:=⟨w.heap.size,0,none⟩) hbl (by simp)).trans k0,(u9.cell (p:=⟨w.heap.size,1,none⟩) hbl (by simp)).trans k1,(u9.cell (p:=⟨w.heap.size,2,none⟩) hbl (by simp)).trans k2,(u9.cell (p:=⟨w.heap.size,3,none⟩) hbl (by simp)).trans k3⟩) ?_
   clear hK K
   intro hS
   refine aH (fun _ _ _ _ _ h=>h) hS [13,14] (by kernel_rfl) ?_
   iterate 2
    refine Yls.cons (v:=?_) rfl (.inl ⟨rfl,fun w1 hS1=>?_⟩) ?_
    rotate_left
    ·obtain⟨q1,q2,q3,q4⟩:=hS1
     go_simp
     first | rfl | (refine (if_neg (by omega)).trans ?_;rfl)
    simp only[Act.put,Z1,Z2,Z3,Z4,Z5,Z6]
   refine Yls.nil ?_
   refine wpAnyH_done (by kernel_rfl) ?_ _
   have F9:=F4.trans u9
   clear u5 u6 u7 u8 u9 g5 g6 g7 g8 g9 hS k0 k1 k2 k3
   simp only[E1.out]
   go_wp2_with fail
   refine (HSU.out _).mono ?_
   rintro e V10 ⟨rfl,g10⟩
   go_wp2
   go_ret
   rw[← E2.out]
   exact⟨rfl,F9.trans g10⟩
theorem uM (mv:Value)(m:Mo)(w:World)(hM:eR w mv m)(hz:yP m) :
  Calls prog 7 #[mv] w fun e w'=>e=.returned (.tuple #[.string (jQ m),.int .i64 (pA m)])∧Fr [] w w':=by
 have hW:=fun (W:World) (f:Fr [] w W)=>aFl mv m W (hM.fr f) hz
 have hR:=fun (hw:cE ipF m=true) (W:World) (f:Fr [] w W)=>aCk mv m W (hM.fr f) hw
 have hbl:=fun (hw:cE ipF m=true)=>qJ m ipF hw
 have hwl:=oR m
 obtain⟨tv,pv,fv,rfl,hT1,hP,hF⟩:=hM.is
 obtain⟨ta,tc,tg,tto,rfl,-⟩:=id hT1
 obtain⟨pa,pc,pg,po,rfl,-⟩:=id hP
 obtain⟨fa,fc,fg,fo,rfl,-⟩:=id hF
 clear hM hz hT1 hP hF
 unfold jQ pA
 have hmk:mkB (Wire.written m)=mkR (Wire.written m):=rfl
 have hsz:=eJ (Wire.written m)
 rw[hmk]
 clear hmk
 obtain⟨texts,pats,globs,arrs,fns⟩:=m
 simp only at *
 generalize (⟨texts,pats,globs,arrs,fns⟩:Mo)=m at *
 have f0:Fr [] w (w.alloc (.cells #[Value.slice ta texts.length tc,Value.slice pa pats.length pc,Value.int IntKind.i64 globs,Value.int IntKind.i64 arrs,Value.slice fa fns.length fc] 25)):=(Fr.refl [] w).alloc _
 have hnew:=wan w (.cells #[Value.slice ta texts.length tc,Value.slice pa pats.length pc,Value.int IntKind.i64 globs,Value.int IntKind.i64 arrs,Value.slice fa fns.length fc] 25)
 have hlt2:w.heap.size<(w.alloc (.cells #[Value.slice ta texts.length tc,Value.slice pa pats.length pc,Value.int IntKind.i64 globs,Value.int IntKind.i64 arrs,Value.slice fa fns.length fc] 25)).heap.size:=by simp
 cases hw:cE ipF m with
 | false=>
  simp only[hw] at hW
  rw[if_neg (by simp),if_neg (by simp)]
  have HW:Hid _:=hW
  clear hW hR hbl hwl hw hsz
  go_enter func7,ntmps7
  go_wp2_with fail
  refine (HW.out _ f0).mono ?_
  rintro e w1 ⟨rfl,f1⟩
  go_wp2
  go_ret2
  exact⟨rfl,f0.trans f1⟩
 | true=>
  simp only[hw] at hW
  have HW:Hid _:=hW
  have HR:Hid _:=hR hw
  have hb:=hbl hw
  clear hW hR hbl hw
  generalize mkR (Wire.written m)=R at *
  generalize (Wire.written m).length=n at *
  generalize (body m).length=n0 at *
  by_cases hle:n≤40000
  ·rw[if_pos ⟨rfl,hle⟩,if_pos ⟨rfl,hle⟩]
   have g1:¬ (40000:Int)<R.size:=by omega
   clear hsz hwl hb hle
   go_enter func7,ntmps7
   go_wp2_with fail
   obtain⟨W,hWW⟩:=eX (w.alloc (.cells #[Value.slice ta texts.length tc,Value.slice pa pats.length pc,Value.int IntKind.i64 globs,Value.int IntKind.i64 arrs,Value.slice fa fns.length fc] 25))
   rw[hWW] at f0 hnew hlt2 ⊢
   clear hWW
   refine (HW.out W f0).mono ?_
   rintro e w1 ⟨rfl,f1⟩
   have kept:w1.heap[w.heap.size]?=some (.cells #[Value.slice ta texts.length tc,Value.slice pa pats.length pc,Value.int IntKind.i64 globs,Value.int IntKind.i64 arrs,Value.slice fa fns.length fc] 25):=by
    rw[f1.block _ hlt2 (by simp),hnew]
   have k0:w1.cell? ⟨w.heap.size,0,none⟩=some (Value.slice ta texts.length tc):=cof kept rfl
   have k1:w1.cell? ⟨w.heap.size,1,none⟩=some (Value.slice pa pats.length pc):=cof kept rfl
   have k2:w1.cell? ⟨w.heap.size,2,none⟩=some (Value.int .i64 globs):=cof kept rfl
   have k3:w1.cell? ⟨w.heap.size,3,none⟩=some (Value.int .i64 arrs):=cof kept rfl
   have k4:w1.cell? ⟨w.heap.size,4,none⟩=some (Value.slice fa fns.length fc):=cof kept rfl
   clear kept hnew HW
   go_wp2_with fail
   refine (HR.out w1 (f0.trans f1)).mono ?_
   rintro e w2 ⟨rfl,f2⟩
   clear HR k0 k1 k2 k3 k4
   have f3:=(f0.trans f1).trans f2
   go_wp2
   go_ret2
   exact⟨rfl,f3⟩
  ·rw[if_neg (fun h=>hle h.2),if_neg (fun h=>hle h.2)]
   have g1:(40000:Int)<R.size:=by omega
   clear hsz hwl hb hle
   go_enter func7,ntmps7
   go_wp2_with fail
   obtain⟨W,hWW⟩:=eX (w.alloc (.cells #[Value.slice ta texts.length tc,Value.slice pa pats.length pc,Value.int IntKind.i64 globs,Value.int IntKind.i64 arrs,Value.slice fa fns.length fc] 25))
   rw[hWW] at f0 hnew hlt2 ⊢
   clear hWW
   refine (HW.out W f0).mono ?_
   rintro e w1 ⟨rfl,f1⟩
   have kept:w1.heap[w.heap.size]?=some (.cells #[Value.slice ta texts.length tc,Value.slice pa pats.length pc,Value.int IntKind.i64 globs,Value.int IntKind.i64 arrs,Value.slice fa fns.length fc] 25):=by
    rw[f1.block _ hlt2 (by simp),hnew]
   have k0:w1.cell? ⟨w.heap.size,0,none⟩=some (Value.slice ta texts.length tc):=cof kept rfl
   have k1:w1.cell? ⟨w.heap.size,1,none⟩=some (Value.slice pa pats.length pc):=cof kept rfl
   have k2:w1.cell? ⟨w.heap.size,2,none⟩=some (Value.int .i64 globs):=cof kept rfl
   have k3:w1.cell? ⟨w.heap.size,3,none⟩=some (Value.int .i64 arrs):=cof kept rfl
   have k4:w1.cell? ⟨w.heap.size,4,none⟩=some (Value.slice fa fns.length fc):=cof kept rfl
   clear kept hnew HW
   go_wp2_with fail
   refine (HR.out w1 (f0.trans f1)).mono ?_
   rintro e w2 ⟨rfl,f2⟩
   clear HR k0 k1 k2 k3 k4
   have f3:=(f0.trans f1).trans f2
   go_wp2
   go_ret2
   exact⟨rfl,f3⟩
open Wire Flow Mach
structure Chg (tag:Nat→Nat) (S:List Nat) (W W':World):Prop where
 os:W'.os=W.os
 tape:W'.tape=W.tape
 output:W'.output=W.output
 size:W.heap.size≤W'.heap.size
 block:∀ k,k<W.heap.size→tag k ∉ S→W'.heap[k]?=W.heap[k]?
theorem Chg.of_fr {tag:Nat→Nat}{S:List Nat}{W W':World} (h:Fr [] W W'):Chg tag S W W':=⟨h.os,h.tape,h.output,h.size,fun k hk _=>h.block k hk (by simp)⟩
theorem Chg.refl (tag:Nat→Nat)(S:List Nat)(W:World):Chg tag S W W:=Chg.of_fr (Fr.refl [] W)
theorem Chg.setCell {tag:Nat→Nat}{S:List Nat} (W:World) {p:Addr} (hp:tag p.block ∈ S) (u:Value):Chg tag S W (W.setCell p u):=
 ⟨rfl,rfl,rfl,by simp[World.setCell],fun k hk hn=>Below.heap_setCell _ _ _ _ (by rintro rfl;exact hn hp)⟩
theorem Chg.grown {tag:Nat→Nat}{S:List Nat}{W W':World}{row:Option Nat} (h:W.grownBy W' row) (hr:∀ k,row=some k→tag k ∈ S):Chg tag S W W':=
 ⟨h.os,h.tape,h.output,h.size,fun k hk hn=>h.block k hk (fun e=>hn (hr k e.symm))⟩
theorem Chg.cell {tag:Nat→Nat}{S:List Nat}{W W':World} (h:Chg tag S W W') {p:Addr} (hp:p.block<W.heap.size) (hn:tag p.block ∉ S):W'.cell? p=W.cell? p:=World.cell?_of_block (w:=W) (h.block p.block hp hn)
theorem Chg.frozen {tag:Nat→Nat}{S:List Nat}{W W':World} (h:Chg tag S W W') {p:Addr} (hp:p.block<W.heap.size) (hn:tag p.block ∉ S):W'.frozen? p=W.frozen? p:=World.frozen?_of_block (w:=W) (h.block p.block hp hn)
def Tg (tag:Nat→Nat) (v:Value) (t:Nat):Prop:=∀ g,v.ownBlock=some g→tag g=t
structure iR (B:Nat) (W:World) (tag:Nat→Nat) (t:Nat) (e:TypeId) (size:Nat) (v:Value) (n:Nat) (xs:List Value):Prop where
 own:W.ownsRow B e size v n xs
 tg:Tg tag v t
theorem iR.chg {B:Nat}{W W':World}{tag:Nat→Nat}{t:Nat}{e:TypeId}{size:Nat}{v:Value}{n:Nat}{xs:List Value}{S:List Nat} (h:iR B W tag t e size v n xs) (hc:Chg tag S W W') (ht:t ∉ S):iR B W' tag t e size v n xs:=
 ⟨eG h.own fun g hg=>hc.block g (h.own.lt g hg).2 (by rw[h.tg g hg];exact ht),h.tg⟩
theorem zH {w0 W W':World}{tag:Nat→Nat}{S:List Nat} (h:Fr [] w0 W) (low:∀ k,k<w0.heap.size→tag k=7) (hc:Chg tag S W W') (h7:7 ∉ S):Fr [] w0 W':=
 ⟨hc.os.trans h.os,hc.tape.trans h.tape,hc.output.trans h.output,Nat.le_trans h.size hc.size,fun k hk hn=>(hc.block k (Nll hk h.size) (by rw[low k hk];exact h7)).trans (h.block k hk hn)⟩
def aM (tag:Nat→Nat) (n t:Nat):Nat→Nat:=fun k=>if k<n then tag k else t
theorem aI {tag:Nat→Nat}{n t k:Nat} (h:k<n):aM tag n t k=tag k:=by simp[aM,h]
theorem cX {tag:Nat→Nat}{n t k:Nat} (h:n≤k):aM tag n t k=t:=by simp[aM];omega
def jO (W:World) (v:Value) (n z:Nat) (xs:List Value):Prop:=
 xs.length=n*z∧((n=0∧v=.slice none 0 0)∨∃ g cap,v=.slice (some ⟨g,0,none⟩) n cap∧n≤cap∧g<W.heap.size∧∀ (j:Nat) (x:Value),xs[j]?=some x→W.cell? ⟨g,j,none⟩=some x)
theorem jO.lt {W:World}{v:Value}{n z:Nat}{xs:List Value} (h:jO W v n z xs):∀ g,v.ownBlock=some g→g<W.heap.size:=by
 intro g hg
 rcases h.2 with ⟨rfl,rfl⟩ | ⟨g',cap,rfl,_,hl,_⟩
 ·cases hg
 ·obtain rfl:g'=g:=by simpa [Value.ownBlock] using hg
  exact hl
theorem Tg.re {W:World}{tag tag':Nat→Nat}{v:Value}{t:Nat} (h:Tg tag v t) (hl:∀ g,v.ownBlock=some g→g<W.heap.size) (ht:∀ k,k<W.heap.size→tag k=t→tag' k=t):Tg tag' v t:=fun g hg=>ht g (hl g hg) (h g hg)
structure Stp (tag tag':Nat→Nat) (t:Nat) (W W2:World):Prop where
 chg:Chg tag [0,t] W W2
 ret:∀ k,k<W.heap.size→tag' k=tag k
theorem iF {W:World}{B:Nat}{e:TypeId}{k:Nat}{v:Value}{n:Nat}{xs:List Value} (h:W.ownsRow B e k v n xs):∃ o cap,v=.slice o n cap:=by
 rcases h.2 with ⟨h',rfl⟩ | ⟨g,cap,cur,hv,_⟩
 ·exact⟨_,_,h'⟩
 ·exact⟨_,_,hv⟩
def up {α:Type} (f:Nat→α) (i:Nat) (x:α):Nat→α:=fun j=>if j=i then x else f j
theorem bG {α:Type}(f:Nat→α)(i:Nat)(x:α):up f i x i=x:=by simp[up]
theorem aJ {α:Type}(f:Nat→α){i j:Nat}(x:α)(h:j≠i):up f i x j=f j:=by simp[up,h]
end Go.Proofs.YtgpamchpeamnfaaGreatDoor
namespace Go.Proofs
open Go.Shelf
def laysM171_ren:Go.Shelf.Ren:=⟨fun | 171=>114 | 243=>136 | 246=>146 | 283=>157 | 284=>158 | 285=>159 | 286=>160 | 129=>175 | 317=>174 | 318=>176 | 319=>177 | 320=>178 | 337=>192 | 338=>193 | n=>n,fun | 3=>3 | 9=>9 | 2=>2 | 4=>4 | 171=>230 | 0=>0 | 53=>162 | 37=>105 | 5=>5 | 173=>233 | 212=>252 | 51=>181 | 20=>20 | 213=>253 | 46=>182 | 232=>268 | 233=>269 | n=>n,fun | 17=>3 | 18=>4 | 19=>5 | n=>n⟩
theorem laysM171:Go.Proofs.LaysM.n171 prog laysM171_ren:={
 mixed:=by kernel_rfl
 f129:=func175.trans (congrArg some (by kernel_rfl))
 f171:=func114.trans (congrArg some (by kernel_rfl))
 f243:=func136.trans (congrArg some (by kernel_rfl))
 f246:=func146.trans (congrArg some (by kernel_rfl))
 f283:=func157.trans (congrArg some (by kernel_rfl))
 f284:=func158.trans (congrArg some (by kernel_rfl))
 f285:=func159.trans (congrArg some (by kernel_rfl))
 f286:=func160.trans (congrArg some (by kernel_rfl))
 f317:=func174.trans (congrArg some (by kernel_rfl))
 f318:=func176.trans (congrArg some (by kernel_rfl))
 f319:=func177.trans (congrArg some (by kernel_rfl))
 f320:=func178.trans (congrArg some (by kernel_rfl))
 f337:=func192.trans (congrArg some (by kernel_rfl))
 f338:=func193.trans (congrArg some (by kernel_rfl))
 t0:=underlying0
 a0:=isAgg0
 z0:=sizeOf0
 v0:=zeroValue0
 t2:=underlying2
 a2:=isAgg2
 z2:=sizeOf2
 v2:=zeroValue2
 t3:=underlying3
 a3:=isAgg3
 z3:=sizeOf3
 v3:=zeroValue3
 t4:=underlying4
 a4:=isAgg4
 z4:=sizeOf4
 v4:=zeroValue4
 t5:=underlying5
 a5:=isAgg5
 z5:=sizeOf5
 v5:=zeroValue5
 t9:=underlying9
 a9:=isAgg9
 z9:=sizeOf9
 v9:=zeroValue9
 t20:=underlying20
 a20:=isAgg20
 z20:=sizeOf20
 v20:=zeroValue20
 t37:=underlying105
 a37:=isAgg105
 z37:=sizeOf105
 v37:=zeroValue105
 t46:=underlying182
 a46:=isAgg182
 z46:=sizeOf182
 v46:=zeroValue182
 t51:=underlying181
 a51:=isAgg181
 z51:=sizeOf181
 v51:=zeroValue181
 t53:=underlying162
 a53:=isAgg162
 z53:=sizeOf162
 v53:=zeroValue162
 t171:=underlying230
 a171:=isAgg230
 z171:=sizeOf230
 v171:=zeroValue230
 t173:=underlying233
 a173:=isAgg233
 z173:=sizeOf233
 v173:=zeroValue233
 t212:=underlying252
 a212:=isAgg252
 z212:=sizeOf252
 v212:=zeroValue252
 t213:=underlying253
 a213:=isAgg253
 z213:=sizeOf253
 t232:=underlying268
 a232:=isAgg268
 z232:=sizeOf268
 v232:=zeroValue268
 t233:=underlying269
 a233:=isAgg269
 z233:=sizeOf269
 v233:=zeroValue269
 g17:=by kernel_rfl
 g18:=by kernel_rfl
 g19:=by kernel_rfl
 i0:=by kernel_rfl
 i2:=by kernel_rfl
 i3:=by kernel_rfl
 i4:=by kernel_rfl
 i5:=by kernel_rfl
 i9:=by kernel_rfl
 i20:=by kernel_rfl
 i37:=by kernel_rfl
 i46:=by kernel_rfl
 i51:=by kernel_rfl
 i53:=by kernel_rfl
 i171:=by kernel_rfl
 i173:=by kernel_rfl
 i212:=by kernel_rfl
 i232:=by kernel_rfl
 i233:=by kernel_rfl
 m17:=by kernel_rfl
 m18:=by kernel_rfl
 m19:=by kernel_rfl }
end Go.Proofs
namespace Go.Proofs.YtgpamchpeamnfaaGreatDoor
open Go.RowKit
def aXs : String := Rows.soundUptoRow.named.getD 4 ""
def iM (w:World):Prop:=Lib.TabIs prog w aXs .u64 Lib.pow10Tab
theorem iM.fr {w w':World}(h:iM w)(hf:Fr [] w w'):iM w':=Lib.tabBelow_of_tabIs h w' (hf.below (Nat.le_refl _) (by simp))
theorem aYx (w:World)(k:Nat)(os:Array Obj):Fr [] w (Go.Sort.grow (w.drewN k) os):=
 ⟨rfl,rfl,rfl,by simp[Go.Sort.grow,World.drewN],fun i hi _=>by simp only[Go.Sort.grow,World.drewN];exact Array.getElem?_append_left hi⟩
theorem aIi (n:Int)(w:World)(h0:-9223372036854775808≤n)(h1:n≤9223372036854775807)(ht:iM w) :
  Calls prog 114 #[.int .i64 n] w fun e w'=>∃ s:ByteArray,s.size≤21∧e=.returned (.string s)∧Fr [] w w':=
 (Any.strconv_Itoa laysM171 n h0 h1 w ht).mono fun e w' ⟨he,k,os,hw⟩=>⟨_,by have:=Lib.itoa_length_le n h0 h1;simpa [ByteArray.size] using this,he,by rw[hw];exact aYx w k os⟩
open Wire Flow Mach
structure TyI (t e:TypeId) (i0:TypeInfo) (zv:Value) (z bytes:Nat):Prop where
 ht:prog.underlying t=some (.slice e)
 hi:prog.info? e=some i0
 hz0:i0.zero=some zv
 hz1:i0.size=z
 hz2:i0.bytes=bytes
 hzs:zv.cells.size=z
 hsz:0<z
 hby:bytes≤1000
theorem sC {w:World}{B:Nat}{e:TypeId}{z g n n' cap:Nat}{xs:List Value} (h:w.ownsRow B e z (.slice (some ⟨g,0,none⟩) n' cap) n' xs) (hn:n≤n'):w.ownsRow B e z (.slice (some ⟨g,0,none⟩) n cap) n (xs.take (n*z)):=by
 have hl:=h.1
 have hmul:n*z≤n'*z:=Nat.mul_le_mul_right z hn
 rcases h.2 with ⟨h',_⟩ | ⟨g',cap',cur,h',hb,hg,hnc,hcm,hcs,htake⟩
 ·cases h'
 ·simp only[Value.slice.injEq,Option.some.injEq,Addr.mk.injEq,and_true,true_and] at h'
  obtain⟨rfl,rfl⟩:=h'
  refine⟨by rw[List.length_take];omega,.inr ⟨g,cap,cur,rfl,hb,hg,by omega,hcm,hcs,?_⟩⟩
  rw[← htake,List.take_take]
  congr 1
  omega
end Go.Proofs.YtgpamchpeamnfaaGreatDoor
