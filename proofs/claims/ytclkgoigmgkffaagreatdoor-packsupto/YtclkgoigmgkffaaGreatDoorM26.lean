/-
  Texts Gd Kf Kg Kh.
-/
import Derived.Test.YtclkgoigmgkffaaGreatDoorM21
import Derived.Test.YtclkgoigmgkffaaGreatDoorM13
import Derived.Test.YtclkgoigmgkffaaGreatDoorM25
set_option linter.unusedSimpArgs false
set_option linter.unusedVariables false
set_option maxRecDepth 100000
set_option maxHeartbeats 40000000
namespace Go.Proofs.YtclkgoigmgkffaaGreatDoor
open Go.RowKit
open Wire
theorem fnsB_snoc (L:List Wire.Fn) (k:Nat) (x:Wire.Fn) (h:L[k]?=some x):fnsB (L.take (k+1))=fnsB (L.take k)++(digs x.params.toNat++(digs x.locs.toNat++(digs x.code.size++bl x.code))):=by
 obtain⟨hk,rfl⟩:=List.getElem?_eq_some_iff.1 h
 rw[List.take_succ_eq_append_getElem hk,fnsB,List.flatMap_append]
 simp[fnsB,fnB,textB]
theorem fnsB_size (L:List Wire.Fn) (k:Nat) (hs:∀ s ∈ L,s.code.size≤20000):(fnsB (L.take k)).length≤20030*k:=by
 induction k with
 | zero=>simp[fnsB]
 | succ k ih=>
  cases hx:L[k]? with
  | none=>
   have:L.length≤k:=by simpa using hx
   rw[List.take_of_length_le (by omega)] at ih ⊢
   omega
  | some x=>
   rw[fnsB_snoc L k x hx]
   simp only[List.length_append,bl_length]
   have:=hs x (List.mem_of_getElem? hx)
   have:=digs_len10 x.code.size
   have:=digs_len10 x.params.toNat
   have:=digs_len10 x.locs.toNat
   omega
theorem asz (a b:ByteArray):(a++b).size=a.size+b.size:=ByteArray.size_append
theorem writtenR_any (mv:Value) (m:Mo) (w:World) (hM:ModIn w mv m) (hw:within ipF m=true):Calls Tryz.prog 22 #[mv] w fun e w'=>e=.returned (.string (mkR (Wire.written m)))∧Fr [] w w':=by
 have hm:Tryz.prog.follows .mixedOrders=true:=by kernel_rfl
 obtain⟨q1,q2,q3,q4,q5,q6,q7,q8,q9,q10,q11⟩:=Wire.within_iff.1 hw
 have f11:=lawfulAll_mem _ _ q11
 obtain⟨l1,-⟩:=listing_len m.texts q9 q1
 obtain⟨l2,-⟩:=listing_len m.pats (fun s hs=>by have:=(q10 s hs).1;omega) q2
 obtain⟨l5,-⟩:=fnsL_len m.fns (fun s hs=>(f11 s hs).1) q4
 have s1:=sect_len 1 (listing m.texts)
 have s2:=sect_len 2 (listing m.pats)
 have s3:=sect_len 3 (digs m.globs.toNat)
 have s4:=sect_len 4 (digs m.arrs.toNat)
 have s5:=sect_len 5 (fnsL m.fns)
 have l3:=digs_len10 m.globs.toNat
 have l4:=digs_len10 m.arrs.toNat
 have hbe:=body_eq m
 have hwr:Wire.written m=body m++sum3 (body m):=rfl
 obtain⟨tv,pv,fv,rfl,hT1,hP,hF⟩:=hM.is
 have hl1:=fun (W:World) (f:Fr [] w W)=>listingR_any tv m.texts W q9 q1 (hT1.fr f)
 have hl2:=fun (W:World) (f:Fr [] w W)=>listingR_any pv m.pats W (fun s hs=>by have:=(q10 s hs).1;omega) q2 (hP.fr f)
 have hs1:=fun (W:World)=>sectionR_any 1 (listing m.texts) W (by omega) (by omega)
 have hs2:=fun (W:World)=>sectionR_any 2 (listing m.pats) W (by omega) (by omega)
 have hs3:=fun (W:World)=>sectionR_any 3 (digs m.globs.toNat) W (by omega) (by omega)
 have hs4:=fun (W:World)=>sectionR_any 4 (digs m.arrs.toNat) W (by omega) (by omega)
 have hs5:=fun (W:World)=>sectionR_any 5 (fnsL m.fns) W (by omega) (by omega)
 have hd3:=fun (W:World)=>digitsR_any m.globs.toNat W (by omega)
 have hd4:=fun (W:World)=>digitsR_any m.arrs.toNat W (by omega)
 have hdf:=fun (W:World)=>digitsR_any m.fns.length W (by omega)
 have c3:((m.globs.toNat:Nat):Int)=m.globs:=by omega
 have c4:((m.arrs.toNat:Nat):Int)=m.arrs:=by omega
 rw[c3] at hd3
 rw[c4] at hd4
 have e1:(⟨#[71,76,1]⟩:ByteArray)++mkR (sect 1 (listing m.texts))++mkR (sect 2 (listing m.pats))++mkR (sect 3 (digs m.globs.toNat))++mkR (sect 4 (digs m.arrs.toNat))++mkR (sect 5 (fnsL m.fns))=mkR (body m):=by
  have h0:(⟨#[71,76,1]⟩:ByteArray)=mkR [71,76,1]:=rfl
  rw[h0,mkR_app,mkR_app,mkR_app,mkR_app,mkR_app,← hbe]
 have hsum:=fun (W:World)=>sumR_any (mkR (body m)) W (by rw[mkR_size];have:=body_len_le m ipF hw;omega)
 rw[bl_mkR] at hsum
 have e2:mkR (body m)++mkR (sum3 (body m))=mkR (Wire.written m):=by rw[mkR_app,← hwr]
 have zb:(mkR (body m)).size≤100000000:=by rw[mkR_size];exact body_len_le m ipF hw
 have zs:(mkR (sum3 (body m))).size=3:=by rw[mkR_size];rfl
 have z1:(mkR (sect 1 (listing m.texts))).size≤40000000:=by rw[mkR_size];omega
 have z2:(mkR (sect 2 (listing m.pats))).size≤40000000:=by rw[mkR_size];omega
 have z3:(mkR (sect 3 (digs m.globs.toNat))).size≤40000000:=by rw[mkR_size];omega
 have z4:(mkR (sect 4 (digs m.arrs.toNat))).size≤40000000:=by rw[mkR_size];omega
 have z5:(mkR (sect 5 (fnsL m.fns))).size≤40000000:=by rw[mkR_size];omega
 obtain⟨ta,tc,tg,tz,rfl,-⟩:=id hT1
 obtain⟨pa,pc,pg,po,rfl,-⟩:=id hP
 obtain⟨fa,fc,fg,fo,rfl,fcap,fha,fhx⟩:=hF
 obtain⟨texts,pats,globs,arrs,fns⟩:=m
 simp only at *
 generalize (⟨texts,pats,globs,arrs,fns⟩:Mo)=m at *
 have F11:Hid _:=f11
 have HL1:Hid _:=hl1
 have HL2:Hid _:=hl2
 have HS1:Hid _:=hs1
 have HS2:Hid _:=hs2
 have HS3:Hid _:=hs3
 have HS4:Hid _:=hs4
 have HS5:Hid _:=hs5
 have HD3:Hid _:=hd3
 have HD4:Hid _:=hd4
 have HDF:Hid _:=hdf
 have HSU:Hid _:=hsum
 have E1:Hid _:=e1
 have E2:Hid _:=e2
 have FHA:Hid _:=fha
 have FHX:Hid _:=fhx
 have F20:Hid (∀ s ∈ fns,s.code.size≤20000):=fun s hs=>(F11.out s hs).1
 have ldf:=digs_len10 fns.length
 clear hl1 hl2 hs1 hs2 hs3 hs4 hs5 hd3 hd4 hdf hsum e1 e2 fha fhx hM hw q5 q6 q7 q8 q9 q10 q11 f11 l1 l2 l3 l4 l5 s1 s2 s3 s4 s5 c3 c4 hbe hwr hT1 hP
 generalize mkR (Wire.written m)=WR at *
 generalize mkR (body m)=BB at *
 generalize mkR (sum3 (body m))=SU at *
 generalize mkR (sect 1 (listing texts))=S1 at *
 generalize mkR (sect 2 (listing pats))=S2 at *
 generalize mkR (sect 3 (digs globs.toNat))=S3 at *
 generalize mkR (sect 4 (digs arrs.toNat))=S4 at *
 generalize mkR (sect 5 (fnsL fns))=S5 at *
 generalize mkR (listing texts)=L1 at *
 generalize mkR (listing pats)=L2 at *
 generalize mkR (digs globs.toNat)=D3 at *
 generalize mkR (digs arrs.toNat)=D4 at *
 have hnew:=World.alloc_heap_new w (.cells #[Value.slice ta texts.length tc,Value.slice pa pats.length pc,Value.int IntKind.i64 globs,Value.int IntKind.i64 arrs,Value.slice fa fns.length fc] 30)
 have hlt2:w.heap.size<(w.alloc (.cells #[Value.slice ta texts.length tc,Value.slice pa pats.length pc,Value.int IntKind.i64 globs,Value.int IntKind.i64 arrs,Value.slice fa fns.length fc] 30)).heap.size:=by simp
 have f0:Fr [] w (w.alloc (.cells #[Value.slice ta texts.length tc,Value.slice pa pats.length pc,Value.int IntKind.i64 globs,Value.int IntKind.i64 arrs,Value.slice fa fns.length fc] 30)):=(Fr.refl [] w).alloc _
 have kept:∀ {W':World},Fr [] (w.alloc (.cells #[Value.slice ta texts.length tc,Value.slice pa pats.length pc,Value.int IntKind.i64 globs,Value.int IntKind.i64 arrs,Value.slice fa fns.length fc] 30)) W'→(W'.cell? ⟨w.heap.size,0,none⟩=some (Value.slice ta texts.length tc)∧W'.cell? ⟨w.heap.size,1,none⟩=some (Value.slice pa pats.length pc)∧W'.cell? ⟨w.heap.size,2,none⟩=some (Value.int .i64 globs)∧W'.cell? ⟨w.heap.size,3,none⟩=some (Value.int .i64 arrs)∧W'.cell? ⟨w.heap.size,4,none⟩=some (Value.slice fa fns.length fc)):=by
  intro W' G
  have hb:=G.block _ hlt2 (by simp)
  rw[hnew] at hb
  refine⟨?_,?_,?_,?_,?_⟩ <;> (unfold World.cell?;rw[hb];rfl)
 have Hkept:Hid _:=@kept
 clear kept hnew hlt2
 go_enter Tryz.func22,Tryz.ntmps22
 go_wp2_with fail
 generalize hWW:w.alloc (.cells #[Value.slice ta texts.length tc,Value.slice pa pats.length pc,Value.int IntKind.i64 globs,Value.int IntKind.i64 arrs,Value.slice fa fns.length fc] 30)=W at *
 clear hWW
 refine (HDF.out _).mono ?_
 rintro e w1 ⟨rfl,f1⟩
 clear HDF
 go_wp2
 go_loopw [3,4] (fun s i wr=>∃ k:Nat,k≤fns.length∧i=.int .i64 k∧s=.string (mkR (digs fns.length++fnsB (fns.take k)))∧Fr [] W wr) (fun _ i _=>fns.length-(intOf i).toNat)
 case atStart=>exact⟨0,by omega,rfl,by simp[fnsB],f1⟩
 case round=>
  obtain⟨k,hk,rfl,rfl,fr⟩:=hrel
  obtain⟨k0,k1,k2,k3,k4⟩:=Hkept.out fr
  have hbl:=lt_of_cell k0
  by_cases hlt:k<fns.length
  ·have g1:(k:Int)<fns.length:=by omega
   obtain⟨rfl,hgl⟩:=FHA.out (by omega)
   obtain⟨x,hx⟩:∃ x,fns[k]?=some x:=⟨_,List.getElem?_eq_getElem hlt⟩
   obtain⟨x5,x1,x2,x3,x4⟩:=F11.out x (List.mem_of_getElem? hx)
   obtain⟨y0,y1,y2⟩:=FHX.out k x hx
   have c0:=((f0.trans fr).cell (p:=⟨fg,fo+k*3,none⟩) hgl (by simp)).trans y0
   have c1:=((f0.trans fr).cell (p:=⟨fg,fo+k*3+1,none⟩) hgl (by simp)).trans y1
   have c2:=((f0.trans fr).cell (p:=⟨fg,fo+k*3+2,none⟩) hgl (by simp)).trans y2
   have hsn:=fnsB_snoc fns k x hx
   have hts:=fnsB_size fns k F20.out
   obtain⟨p,l,co⟩:=x
   simp only at c0 c1 c2 x1 x2 x3 x4 x5 hsn
   obtain⟨pn,rfl⟩:∃ n:Nat,p=n:=⟨p.toNat,by omega⟩
   obtain⟨ln,rfl⟩:∃ n:Nat,l=n:=⟨l.toNat,by omega⟩
   simp only[Int.toNat_natCast] at hsn
   obtain⟨DP,hDP,zP,HP⟩:=digitsR_ex pn (by omega)
   obtain⟨DL,hDL,zL,HL⟩:=digitsR_ex ln (by omega)
   obtain⟨DC,hDC,zC,HC⟩:=digitsR_ex co.size (by omega)
   have e3:mkR (digs fns.length++fnsB (fns.take k))++DP++DL++DC++co=mkR (digs fns.length++fnsB (fns.take (k+1))):=by
    rw[← hDP,← hDL,← hDC]
    conv=>lhs;rhs;rw[← mkR_bl co]
    rw[mkR_app,mkR_app,mkR_app,mkR_app,hsn]
    simp
   have zT:(mkR (digs fns.length++fnsB (fns.take k))).size≤30000000:=by rw[mkR_size,List.length_append];omega
   have E3:Hid _:=e3
   clear hx y0 y1 y2 e3 hDP hDL hDC hsn hts x1 x3
   generalize mkR (digs fns.length++fnsB (fns.take k))=T at *
   have v1:=asz T DP
   have v2:=asz (T++DP) DL
   have v3:=asz (T++DP++DL) DC
   go_wp2
   have fa:Fr [] wr (wr.alloc (Obj.cells #[.int .i64 pn,.int .i64 ln,.string co] 65)):=(Fr.refl [] wr).alloc _
   have b0:(wr.alloc (Obj.cells #[.int .i64 pn,.int .i64 ln,.string co] 65)).cell? ⟨wr.heap.size,0,none⟩=some (.int .i64 pn):=by simp
   have b1:(wr.alloc (Obj.cells #[.int .i64 pn,.int .i64 ln,.string co] 65)).cell? ⟨wr.heap.size,1,none⟩=some (.int .i64 ln):=by simp
   have b2:(wr.alloc (Obj.cells #[.int .i64 pn,.int .i64 ln,.string co] 65)).cell? ⟨wr.heap.size,2,none⟩=some (.string co):=by simp
   generalize (wr.alloc (Obj.cells #[.int .i64 pn,.int .i64 ln,.string co] 65))=W0 at *
   generalize wr.heap.size=fcb at *
   have hfl:=lt_of_cell b0
   clear c0 c1 c2 k0 k1 k2 k3 k4
   refine wp_region_heldD (fun w1=>w1.cell? ⟨fcb,0,none⟩=some (.int .i64 pn)∧w1.cell? ⟨fcb,1,none⟩=some (.int .i64 ln)∧w1.cell? ⟨fcb,2,none⟩=some (.string co)) hm ?_
   have hS:(fun w1=>w1.cell? ⟨fcb,0,none⟩=some (.int .i64 pn)∧w1.cell? ⟨fcb,1,none⟩=some (.int .i64 ln)∧w1.cell? ⟨fcb,2,none⟩=some (.string co)) W0.drew:=⟨b0,b1,b2⟩
   refine wpAnyH_take (i:=0) (v:=?_) rfl (by kernel_rfl) (by kernel_rfl) (by kernel_rfl) (fun _ _ _ h=>h) (.inl ⟨rfl,fun w1 hS1=>?_⟩) hS ?_
   rotate_left
   ·obtain⟨q1,q2,q3⟩:=hS1
    go_simp
    first | rfl | (refine (if_neg (by omega)).trans ?_;rfl)
   simp only[Act.put,List.setIfInBounds_toArray,List.set_cons_zero,List.set_cons_succ,List.getElem_toArray,List.getElem_cons_succ,List.getElem_cons_zero]
   refine wpAnyH_take (i:=1) (v:=?_) rfl (by kernel_rfl) (by kernel_rfl) (by kernel_rfl) (fun _ _ _ h=>h) (.inl ⟨rfl,fun w1 hS1=>?_⟩) hS ?_
   rotate_left
   ·obtain⟨q1,q2,q3⟩:=hS1
    go_simp
    first | rfl | (refine (if_neg (by omega)).trans ?_;rfl)
   simp only[Act.put,List.setIfInBounds_toArray,List.set_cons_zero,List.set_cons_succ,List.getElem_toArray,List.getElem_cons_succ,List.getElem_cons_zero]
   refine wpAnyH_take (i:=2) (v:=?_) rfl (by kernel_rfl) (by kernel_rfl) (by kernel_rfl) (fun _ _ _ h=>h) (.inl ⟨rfl,fun w1 hS1=>?_⟩) hS ?_
   rotate_left
   ·obtain⟨q1,q2,q3⟩:=hS1
    go_simp
    first | rfl | (refine (if_neg (by omega)).trans ?_;rfl)
   simp only[Act.put,List.setIfInBounds_toArray,List.set_cons_zero,List.set_cons_succ,List.getElem_toArray,List.getElem_cons_succ,List.getElem_cons_zero]
   refine wpAnyH_take (i:=5) (v:=?_) rfl (by kernel_rfl) (by kernel_rfl) (by kernel_rfl) (fun _ _ _ h=>h) (.inl ⟨rfl,fun w1 hS1=>?_⟩) hS ?_
   rotate_left
   ·obtain⟨q1,q2,q3⟩:=hS1
    go_simp
    first | rfl | (refine (if_neg (by omega)).trans ?_;rfl)
   simp only[Act.put,List.setIfInBounds_toArray,List.set_cons_zero,List.set_cons_succ,List.getElem_toArray,List.getElem_cons_succ,List.getElem_cons_zero]
   refine wpAnyH_take (i:=6) (v:=?_) rfl (by kernel_rfl) (by kernel_rfl) (by kernel_rfl) (fun _ _ _ h=>h) (.inl ⟨rfl,fun w1 hS1=>?_⟩) hS ?_
   rotate_left
   ·obtain⟨q1,q2,q3⟩:=hS1
    go_simp
    first | rfl | (refine (if_neg (by omega)).trans ?_;rfl)
   simp only[Act.put,List.setIfInBounds_toArray,List.set_cons_zero,List.set_cons_succ,List.getElem_toArray,List.getElem_cons_succ,List.getElem_cons_zero]
   refine wpAnyH_take (i:=9) (v:=?_) rfl (by kernel_rfl) (by kernel_rfl) (by kernel_rfl) (fun _ _ _ h=>h) (.inl ⟨rfl,fun w1 hS1=>?_⟩) hS ?_
   rotate_left
   ·obtain⟨q1,q2,q3⟩:=hS1
    go_simp
    first | rfl | (refine (if_neg (by omega)).trans ?_;rfl)
   simp only[Act.put,List.setIfInBounds_toArray,List.set_cons_zero,List.set_cons_succ,List.getElem_toArray,List.getElem_cons_succ,List.getElem_cons_zero]
   refine wpAnyH_take (i:=10) (v:=?_) rfl (by kernel_rfl) (by kernel_rfl) (by kernel_rfl) (fun _ _ _ h=>h) (.inl ⟨rfl,fun w1 hS1=>?_⟩) hS ?_
   rotate_left
   ·obtain⟨q1,q2,q3⟩:=hS1
    go_simp
    first | rfl | (refine (if_neg (by omega)).trans ?_;rfl)
   simp only[Act.put,List.setIfInBounds_toArray,List.set_cons_zero,List.set_cons_succ,List.getElem_toArray,List.getElem_cons_succ,List.getElem_cons_zero]
   refine wpAnyH_take (i:=11) (v:=?_) rfl (by kernel_rfl) (by kernel_rfl) (by kernel_rfl) (fun _ _ _ h=>h) (.inl ⟨rfl,fun w1 hS1=>?_⟩) hS ?_
   rotate_left
   ·obtain⟨q1,q2,q3⟩:=hS1
    go_simp
    first | rfl | (refine (if_neg (by omega)).trans ?_;rfl)
   simp only[Act.put,List.setIfInBounds_toArray,List.set_cons_zero,List.set_cons_succ,List.getElem_toArray,List.getElem_cons_succ,List.getElem_cons_zero]
   refine wpAnyH_take (i:=14) (v:=?_) rfl (by kernel_rfl) (by kernel_rfl) (by kernel_rfl) (fun _ _ _ h=>h) (.inl ⟨rfl,fun w1 hS1=>?_⟩) hS ?_
   rotate_left
   ·obtain⟨q1,q2,q3⟩:=hS1
    go_simp
    first | rfl | (refine (if_neg (by omega)).trans ?_;rfl)
   simp only[Act.put,List.setIfInBounds_toArray,List.set_cons_zero,List.set_cons_succ,List.getElem_toArray,List.getElem_cons_succ,List.getElem_cons_zero]
   refine wpAnyH_take (i:=15) (v:=?_) rfl (by kernel_rfl) (by kernel_rfl) (by kernel_rfl) (fun _ _ _ h=>h) (.inl ⟨rfl,fun w1 hS1=>?_⟩) hS ?_
   rotate_left
   ·obtain⟨q1,q2,q3⟩:=hS1
    go_simp
    first | rfl | (refine (if_neg (by omega)).trans ?_;rfl)
   simp only[Act.put,List.setIfInBounds_toArray,List.set_cons_zero,List.set_cons_succ,List.getElem_toArray,List.getElem_cons_succ,List.getElem_cons_zero]
   refine wpAnyH_ready (rs:=[3]) (by kernel_rfl) (by simp) ?_
   refine AllReadyH.cons rfl (fun K hK=>?_) AllReadyH.nil
   go_simp
   refine (HP.out _).mono ?_
   rintro e V1 ⟨rfl,g1⟩
   have v1:Fr [] W0 V1:=(Fr.refl [] W0).drew.trans g1
   refine hK _ _ (⟨(v1.cell (p:=⟨fcb,0,none⟩) hfl (by simp)).trans b0,(v1.cell (p:=⟨fcb,1,none⟩) hfl (by simp)).trans b1,(v1.cell (p:=⟨fcb,2,none⟩) hfl (by simp)).trans b2⟩) ?_
   clear hK K
   intro hS
   refine wpAnyH_take (i:=4) (v:=?_) rfl (by kernel_rfl) (by kernel_rfl) (by kernel_rfl) (fun _ _ _ h=>h) (.inl ⟨rfl,fun w1 hS1=>?_⟩) hS ?_
   rotate_left
   ·obtain⟨q1,q2,q3⟩:=hS1
    go_simp
    first | rfl | (refine (if_neg (by omega)).trans ?_;rfl)
   simp only[Act.put,List.setIfInBounds_toArray,List.set_cons_zero,List.set_cons_succ,List.getElem_toArray,List.getElem_cons_succ,List.getElem_cons_zero]
   refine wpAnyH_ready (rs:=[7]) (by kernel_rfl) (by simp) ?_
   refine AllReadyH.cons rfl (fun K hK=>?_) AllReadyH.nil
   go_simp
   refine (HL.out _).mono ?_
   rintro e V2 ⟨rfl,g2⟩
   have v2:=v1.trans g2
   refine hK _ _ (⟨(v2.cell (p:=⟨fcb,0,none⟩) hfl (by simp)).trans b0,(v2.cell (p:=⟨fcb,1,none⟩) hfl (by simp)).trans b1,(v2.cell (p:=⟨fcb,2,none⟩) hfl (by simp)).trans b2⟩) ?_
   clear hK K
   intro hS
   refine wpAnyH_take (i:=8) (v:=?_) rfl (by kernel_rfl) (by kernel_rfl) (by kernel_rfl) (fun _ _ _ h=>h) (.inl ⟨rfl,fun w1 hS1=>?_⟩) hS ?_
   rotate_left
   ·obtain⟨q1,q2,q3⟩:=hS1
    go_simp
    first | rfl | (refine (if_neg (by omega)).trans ?_;rfl)
   simp only[Act.put,List.setIfInBounds_toArray,List.set_cons_zero,List.set_cons_succ,List.getElem_toArray,List.getElem_cons_succ,List.getElem_cons_zero]
   refine wpAnyH_ready (rs:=[12]) (by kernel_rfl) (by simp) ?_
   refine AllReadyH.cons rfl (fun K hK=>?_) AllReadyH.nil
   go_simp
   refine (HC.out _).mono ?_
   rintro e V3 ⟨rfl,g3⟩
   have v3:=v2.trans g3
   refine hK _ _ (⟨(v3.cell (p:=⟨fcb,0,none⟩) hfl (by simp)).trans b0,(v3.cell (p:=⟨fcb,1,none⟩) hfl (by simp)).trans b1,(v3.cell (p:=⟨fcb,2,none⟩) hfl (by simp)).trans b2⟩) ?_
   clear hK K
   intro hS
   refine wpAnyH_take (i:=13) (v:=?_) rfl (by kernel_rfl) (by kernel_rfl) (by kernel_rfl) (fun _ _ _ h=>h) (.inl ⟨rfl,fun w1 hS1=>?_⟩) hS ?_
   rotate_left
   ·obtain⟨q1,q2,q3⟩:=hS1
    go_simp
    first | rfl | (refine (if_neg (by omega)).trans ?_;rfl)
   simp only[Act.put,List.setIfInBounds_toArray,List.set_cons_zero,List.set_cons_succ,List.getElem_toArray,List.getElem_cons_succ,List.getElem_cons_zero]
   refine wpAnyH_take (i:=16) (v:=?_) rfl (by kernel_rfl) (by kernel_rfl) (by kernel_rfl) (fun _ _ _ h=>h) (.inl ⟨rfl,fun w1 hS1=>?_⟩) hS ?_
   rotate_left
   ·obtain⟨q1,q2,q3⟩:=hS1
    go_simp
    first | rfl | (refine (if_neg (by omega)).trans ?_;rfl)
   simp only[Act.put,List.setIfInBounds_toArray,List.set_cons_zero,List.set_cons_succ,List.getElem_toArray,List.getElem_cons_succ,List.getElem_cons_zero]
   refine wpAnyH_take (i:=17) (v:=?_) rfl (by kernel_rfl) (by kernel_rfl) (by kernel_rfl) (fun _ _ _ h=>h) (.inl ⟨rfl,fun w1 hS1=>?_⟩) hS ?_
   rotate_left
   ·obtain⟨q1,q2,q3⟩:=hS1
    go_simp
    first | rfl | (refine (if_neg (by omega)).trans ?_;rfl)
   simp only[Act.put,List.setIfInBounds_toArray,List.set_cons_zero,List.set_cons_succ,List.getElem_toArray,List.getElem_cons_succ,List.getElem_cons_zero]
   refine wpAnyH_done (by kernel_rfl) ?_ _
   have f3:Fr [] W V3:=(fr.trans fa).trans v3
   clear hS b0 b1 b2 HP HL HC
   go_wp2
   exact⟨⟨k+1,by omega,by go_num,congrArg Value.string E3.out,f3⟩,by simp[intOf];omega⟩
  ·have g1:¬ ((k:Int)<fns.length):=by omega
   have e3:mkR (digs fns.length++fnsB (fns.take k))=mkR (fnsL fns):=by rw[List.take_of_length_le (by omega),fnsL]
   rw[e3]
   generalize mkR (fnsL fns)=FL at *
   have F0:=f0.trans fr
   have v1:=asz ⟨#[71,76,1]⟩ S1
   have v2:=asz (⟨#[71,76,1]⟩++S1) S2
   have v3:=asz (⟨#[71,76,1]⟩++S1++S2) S3
   have v4:=asz (⟨#[71,76,1]⟩++S1++S2++S3) S4
   have v5:=asz (⟨#[71,76,1]⟩++S1++S2++S3++S4) S5
   have v0:(⟨#[71,76,1]⟩:ByteArray).size=3:=rfl
   have v6:=asz BB SU
   clear e3
   go_wp2
   refine wp_region_heldD (fun w1:World=>w1.cell? ⟨w.heap.size,0,none⟩=some (Value.slice ta texts.length tc)∧w1.cell? ⟨w.heap.size,1,none⟩=some (Value.slice pa pats.length pc)∧w1.cell? ⟨w.heap.size,2,none⟩=some (Value.int .i64 globs)∧w1.cell? ⟨w.heap.size,3,none⟩=some (Value.int .i64 arrs)) hm ?_
   have hS:(fun w1:World=>w1.cell? ⟨w.heap.size,0,none⟩=some (Value.slice ta texts.length tc)∧w1.cell? ⟨w.heap.size,1,none⟩=some (Value.slice pa pats.length pc)∧w1.cell? ⟨w.heap.size,2,none⟩=some (Value.int .i64 globs)∧w1.cell? ⟨w.heap.size,3,none⟩=some (Value.int .i64 arrs)) wr.drew:=⟨k0,k1,k2,k3⟩
   refine wpAnyH_take (i:=0) (v:=?_) rfl (by kernel_rfl) (by kernel_rfl) (by kernel_rfl) (fun _ _ _ h=>h) (.inl ⟨rfl,fun w1 hS1=>?_⟩) hS ?_
   rotate_left
   ·obtain⟨q1,q2,q3,q4⟩:=hS1
    go_simp
    first | rfl | (refine (if_neg (by omega)).trans ?_;rfl)
   simp only[Act.put,List.setIfInBounds_toArray,List.set_cons_zero,List.set_cons_succ,List.getElem_toArray,List.getElem_cons_succ,List.getElem_cons_zero]
   refine wpAnyH_take (i:=1) (v:=?_) rfl (by kernel_rfl) (by kernel_rfl) (by kernel_rfl) (fun _ _ _ h=>h) (.inl ⟨rfl,fun w1 hS1=>?_⟩) hS ?_
   rotate_left
   ·obtain⟨q1,q2,q3,q4⟩:=hS1
    go_simp
    first | rfl | (refine (if_neg (by omega)).trans ?_;rfl)
   simp only[Act.put,List.setIfInBounds_toArray,List.set_cons_zero,List.set_cons_succ,List.getElem_toArray,List.getElem_cons_succ,List.getElem_cons_zero]
   refine wpAnyH_take (i:=5) (v:=?_) rfl (by kernel_rfl) (by kernel_rfl) (by kernel_rfl) (fun _ _ _ h=>h) (.inl ⟨rfl,fun w1 hS1=>?_⟩) hS ?_
   rotate_left
   ·obtain⟨q1,q2,q3,q4⟩:=hS1
    go_simp
    first | rfl | (refine (if_neg (by omega)).trans ?_;rfl)
   simp only[Act.put,List.setIfInBounds_toArray,List.set_cons_zero,List.set_cons_succ,List.getElem_toArray,List.getElem_cons_succ,List.getElem_cons_zero]
   refine wpAnyH_take (i:=6) (v:=?_) rfl (by kernel_rfl) (by kernel_rfl) (by kernel_rfl) (fun _ _ _ h=>h) (.inl ⟨rfl,fun w1 hS1=>?_⟩) hS ?_
   rotate_left
   ·obtain⟨q1,q2,q3,q4⟩:=hS1
    go_simp
    first | rfl | (refine (if_neg (by omega)).trans ?_;rfl)
   simp only[Act.put,List.setIfInBounds_toArray,List.set_cons_zero,List.set_cons_succ,List.getElem_toArray,List.getElem_cons_succ,List.getElem_cons_zero]
   refine wpAnyH_ready (rs:=[2]) (by kernel_rfl) (by simp) ?_
   refine AllReadyH.cons rfl (fun K hK=>?_) AllReadyH.nil
   go_simp
   refine (HL1.out _ F0.drew).mono ?_
   rintro e V1 ⟨rfl,g1⟩
   have u1:Fr [] wr V1:=(Fr.refl [] wr).drew.trans g1
   refine hK _ _ (⟨(u1.cell (p:=⟨w.heap.size,0,none⟩) hbl (by simp)).trans k0,(u1.cell (p:=⟨w.heap.size,1,none⟩) hbl (by simp)).trans k1,(u1.cell (p:=⟨w.heap.size,2,none⟩) hbl (by simp)).trans k2,(u1.cell (p:=⟨w.heap.size,3,none⟩) hbl (by simp)).trans k3⟩) ?_
   clear hK K
   intro hS
   refine wpAnyH_ready (rs:=[3]) (by kernel_rfl) (by simp) ?_
   refine AllReadyH.cons rfl (fun K hK=>?_) AllReadyH.nil
   go_simp
   refine (HS1.out _).mono ?_
   rintro e V2 ⟨rfl,g2⟩
   have u2:=u1.trans g2
   refine hK _ _ (⟨(u2.cell (p:=⟨w.heap.size,0,none⟩) hbl (by simp)).trans k0,(u2.cell (p:=⟨w.heap.size,1,none⟩) hbl (by simp)).trans k1,(u2.cell (p:=⟨w.heap.size,2,none⟩) hbl (by simp)).trans k2,(u2.cell (p:=⟨w.heap.size,3,none⟩) hbl (by simp)).trans k3⟩) ?_
   clear hK K
   intro hS
   refine wpAnyH_take (i:=4) (v:=?_) rfl (by kernel_rfl) (by kernel_rfl) (by kernel_rfl) (fun _ _ _ h=>h) (.inl ⟨rfl,fun w1 hS1=>?_⟩) hS ?_
   rotate_left
   ·obtain⟨q1,q2,q3,q4⟩:=hS1
    go_simp
    first | rfl | (refine (if_neg (by omega)).trans ?_;rfl)
   simp only[Act.put,List.setIfInBounds_toArray,List.set_cons_zero,List.set_cons_succ,List.getElem_toArray,List.getElem_cons_succ,List.getElem_cons_zero]
   refine wpAnyH_ready (rs:=[7]) (by kernel_rfl) (by simp) ?_
   refine AllReadyH.cons rfl (fun K hK=>?_) AllReadyH.nil
   go_simp
   refine (HL2.out _ (F0.trans u2)).mono ?_
   rintro e V3 ⟨rfl,g3⟩
   have u3:=u2.trans g3
   refine hK _ _ (⟨(u3.cell (p:=⟨w.heap.size,0,none⟩) hbl (by simp)).trans k0,(u3.cell (p:=⟨w.heap.size,1,none⟩) hbl (by simp)).trans k1,(u3.cell (p:=⟨w.heap.size,2,none⟩) hbl (by simp)).trans k2,(u3.cell (p:=⟨w.heap.size,3,none⟩) hbl (by simp)).trans k3⟩) ?_
   clear hK K
   intro hS
   refine wpAnyH_ready (rs:=[8]) (by kernel_rfl) (by simp) ?_
   refine AllReadyH.cons rfl (fun K hK=>?_) AllReadyH.nil
   go_simp
   refine (HS2.out _).mono ?_
   rintro e V4 ⟨rfl,g4⟩
   have u4:=u3.trans g4
   refine hK _ _ (⟨(u4.cell (p:=⟨w.heap.size,0,none⟩) hbl (by simp)).trans k0,(u4.cell (p:=⟨w.heap.size,1,none⟩) hbl (by simp)).trans k1,(u4.cell (p:=⟨w.heap.size,2,none⟩) hbl (by simp)).trans k2,(u4.cell (p:=⟨w.heap.size,3,none⟩) hbl (by simp)).trans k3⟩) ?_
   clear hK K
   intro hS
   refine wpAnyH_take (i:=9) (v:=?_) rfl (by kernel_rfl) (by kernel_rfl) (by kernel_rfl) (fun _ _ _ h=>h) (.inl ⟨rfl,fun w1 hS1=>?_⟩) hS ?_
   rotate_left
   ·obtain⟨q1,q2,q3,q4⟩:=hS1
    go_simp
    first | rfl | (refine (if_neg (by omega)).trans ?_;rfl)
   simp only[Act.put,List.setIfInBounds_toArray,List.set_cons_zero,List.set_cons_succ,List.getElem_toArray,List.getElem_cons_succ,List.getElem_cons_zero]
   refine wpAnyH_take (i:=10) (v:=?_) rfl (by kernel_rfl) (by kernel_rfl) (by kernel_rfl) (fun _ _ _ h=>h) (.inl ⟨rfl,fun w1 hS1=>?_⟩) hS ?_
   rotate_left
   ·obtain⟨q1,q2,q3,q4⟩:=hS1
    go_simp
    first | rfl | (refine (if_neg (by omega)).trans ?_;rfl)
   simp only[Act.put,List.setIfInBounds_toArray,List.set_cons_zero,List.set_cons_succ,List.getElem_toArray,List.getElem_cons_succ,List.getElem_cons_zero]
   refine wpAnyH_done (by kernel_rfl) ?_ _
   have k0:=(u4.cell (p:=⟨w.heap.size,0,none⟩) hbl (by simp)).trans k0
   have k1:=(u4.cell (p:=⟨w.heap.size,1,none⟩) hbl (by simp)).trans k1
   have k2:=(u4.cell (p:=⟨w.heap.size,2,none⟩) hbl (by simp)).trans k2
   have k3:=(u4.cell (p:=⟨w.heap.size,3,none⟩) hbl (by simp)).trans k3
   have hbl:=lt_of_cell k0
   have F4:=F0.trans u4
   clear u1 u2 u3 u4 g1 g2 g3 g4 hS
   go_wp2
   refine wp_region_heldD (fun w1:World=>w1.cell? ⟨w.heap.size,0,none⟩=some (Value.slice ta texts.length tc)∧w1.cell? ⟨w.heap.size,1,none⟩=some (Value.slice pa pats.length pc)∧w1.cell? ⟨w.heap.size,2,none⟩=some (Value.int .i64 globs)∧w1.cell? ⟨w.heap.size,3,none⟩=some (Value.int .i64 arrs)) hm ?_
   have hS:(fun w1:World=>w1.cell? ⟨w.heap.size,0,none⟩=some (Value.slice ta texts.length tc)∧w1.cell? ⟨w.heap.size,1,none⟩=some (Value.slice pa pats.length pc)∧w1.cell? ⟨w.heap.size,2,none⟩=some (Value.int .i64 globs)∧w1.cell? ⟨w.heap.size,3,none⟩=some (Value.int .i64 arrs)) V4.drew:=⟨k0,k1,k2,k3⟩
   refine wpAnyH_take (i:=0) (v:=?_) rfl (by kernel_rfl) (by kernel_rfl) (by kernel_rfl) (fun _ _ _ h=>h) (.inl ⟨rfl,fun w1 hS1=>?_⟩) hS ?_
   rotate_left
   ·obtain⟨q1,q2,q3,q4⟩:=hS1
    go_simp
    first | rfl | (refine (if_neg (by omega)).trans ?_;rfl)
   simp only[Act.put,List.setIfInBounds_toArray,List.set_cons_zero,List.set_cons_succ,List.getElem_toArray,List.getElem_cons_succ,List.getElem_cons_zero]
   refine wpAnyH_take (i:=1) (v:=?_) rfl (by kernel_rfl) (by kernel_rfl) (by kernel_rfl) (fun _ _ _ h=>h) (.inl ⟨rfl,fun w1 hS1=>?_⟩) hS ?_
   rotate_left
   ·obtain⟨q1,q2,q3,q4⟩:=hS1
    go_simp
    first | rfl | (refine (if_neg (by omega)).trans ?_;rfl)
   simp only[Act.put,List.setIfInBounds_toArray,List.set_cons_zero,List.set_cons_succ,List.getElem_toArray,List.getElem_cons_succ,List.getElem_cons_zero]
   refine wpAnyH_take (i:=2) (v:=?_) rfl (by kernel_rfl) (by kernel_rfl) (by kernel_rfl) (fun _ _ _ h=>h) (.inl ⟨rfl,fun w1 hS1=>?_⟩) hS ?_
   rotate_left
   ·obtain⟨q1,q2,q3,q4⟩:=hS1
    go_simp
    first | rfl | (refine (if_neg (by omega)).trans ?_;rfl)
   simp only[Act.put,List.setIfInBounds_toArray,List.set_cons_zero,List.set_cons_succ,List.getElem_toArray,List.getElem_cons_succ,List.getElem_cons_zero]
   refine wpAnyH_take (i:=6) (v:=?_) rfl (by kernel_rfl) (by kernel_rfl) (by kernel_rfl) (fun _ _ _ h=>h) (.inl ⟨rfl,fun w1 hS1=>?_⟩) hS ?_
   rotate_left
   ·obtain⟨q1,q2,q3,q4⟩:=hS1
    go_simp
    first | rfl | (refine (if_neg (by omega)).trans ?_;rfl)
   simp only[Act.put,List.setIfInBounds_toArray,List.set_cons_zero,List.set_cons_succ,List.getElem_toArray,List.getElem_cons_succ,List.getElem_cons_zero]
   refine wpAnyH_take (i:=7) (v:=?_) rfl (by kernel_rfl) (by kernel_rfl) (by kernel_rfl) (fun _ _ _ h=>h) (.inl ⟨rfl,fun w1 hS1=>?_⟩) hS ?_
   rotate_left
   ·obtain⟨q1,q2,q3,q4⟩:=hS1
    go_simp
    first | rfl | (refine (if_neg (by omega)).trans ?_;rfl)
   simp only[Act.put,List.setIfInBounds_toArray,List.set_cons_zero,List.set_cons_succ,List.getElem_toArray,List.getElem_cons_succ,List.getElem_cons_zero]
   refine wpAnyH_take (i:=11) (v:=?_) rfl (by kernel_rfl) (by kernel_rfl) (by kernel_rfl) (fun _ _ _ h=>h) (.inl ⟨rfl,fun w1 hS1=>?_⟩) hS ?_
   rotate_left
   ·obtain⟨q1,q2,q3,q4⟩:=hS1
    go_simp
    first | rfl | (refine (if_neg (by omega)).trans ?_;rfl)
   simp only[Act.put,List.setIfInBounds_toArray,List.set_cons_zero,List.set_cons_succ,List.getElem_toArray,List.getElem_cons_succ,List.getElem_cons_zero]
   refine wpAnyH_ready (rs:=[3]) (by kernel_rfl) (by simp) ?_
   refine AllReadyH.cons rfl (fun K hK=>?_) AllReadyH.nil
   go_simp
   refine (HD3.out _).mono ?_
   rintro e V5 ⟨rfl,g5⟩
   have u5:Fr [] V4 V5:=(Fr.refl [] V4).drew.trans g5
   refine hK _ _ (⟨(u5.cell (p:=⟨w.heap.size,0,none⟩) hbl (by simp)).trans k0,(u5.cell (p:=⟨w.heap.size,1,none⟩) hbl (by simp)).trans k1,(u5.cell (p:=⟨w.heap.size,2,none⟩) hbl (by simp)).trans k2,(u5.cell (p:=⟨w.heap.size,3,none⟩) hbl (by simp)).trans k3⟩) ?_
   clear hK K
   intro hS
   refine wpAnyH_ready (rs:=[4]) (by kernel_rfl) (by simp) ?_
   refine AllReadyH.cons rfl (fun K hK=>?_) AllReadyH.nil
   go_simp
   refine (HS3.out _).mono ?_
   rintro e V6 ⟨rfl,g6⟩
   have u6:=u5.trans g6
   refine hK _ _ (⟨(u6.cell (p:=⟨w.heap.size,0,none⟩) hbl (by simp)).trans k0,(u6.cell (p:=⟨w.heap.size,1,none⟩) hbl (by simp)).trans k1,(u6.cell (p:=⟨w.heap.size,2,none⟩) hbl (by simp)).trans k2,(u6.cell (p:=⟨w.heap.size,3,none⟩) hbl (by simp)).trans k3⟩) ?_
   clear hK K
   intro hS
   refine wpAnyH_take (i:=5) (v:=?_) rfl (by kernel_rfl) (by kernel_rfl) (by kernel_rfl) (fun _ _ _ h=>h) (.inl ⟨rfl,fun w1 hS1=>?_⟩) hS ?_
   rotate_left
   ·obtain⟨q1,q2,q3,q4⟩:=hS1
    go_simp
    first | rfl | (refine (if_neg (by omega)).trans ?_;rfl)
   simp only[Act.put,List.setIfInBounds_toArray,List.set_cons_zero,List.set_cons_succ,List.getElem_toArray,List.getElem_cons_succ,List.getElem_cons_zero]
   refine wpAnyH_ready (rs:=[8]) (by kernel_rfl) (by simp) ?_
   refine AllReadyH.cons rfl (fun K hK=>?_) AllReadyH.nil
   go_simp
   refine (HD4.out _).mono ?_
   rintro e V7 ⟨rfl,g7⟩
   have u7:=u6.trans g7
   refine hK _ _ (⟨(u7.cell (p:=⟨w.heap.size,0,none⟩) hbl (by simp)).trans k0,(u7.cell (p:=⟨w.heap.size,1,none⟩) hbl (by simp)).trans k1,(u7.cell (p:=⟨w.heap.size,2,none⟩) hbl (by simp)).trans k2,(u7.cell (p:=⟨w.heap.size,3,none⟩) hbl (by simp)).trans k3⟩) ?_
   clear hK K
   intro hS
   refine wpAnyH_ready (rs:=[9]) (by kernel_rfl) (by simp) ?_
   refine AllReadyH.cons rfl (fun K hK=>?_) AllReadyH.nil
   go_simp
   refine (HS4.out _).mono ?_
   rintro e V8 ⟨rfl,g8⟩
   have u8:=u7.trans g8
   refine hK _ _ (⟨(u8.cell (p:=⟨w.heap.size,0,none⟩) hbl (by simp)).trans k0,(u8.cell (p:=⟨w.heap.size,1,none⟩) hbl (by simp)).trans k1,(u8.cell (p:=⟨w.heap.size,2,none⟩) hbl (by simp)).trans k2,(u8.cell (p:=⟨w.heap.size,3,none⟩) hbl (by simp)).trans k3⟩) ?_
   clear hK K
   intro hS
   refine wpAnyH_take (i:=10) (v:=?_) rfl (by kernel_rfl) (by kernel_rfl) (by kernel_rfl) (fun _ _ _ h=>h) (.inl ⟨rfl,fun w1 hS1=>?_⟩) hS ?_
   rotate_left
   ·obtain⟨q1,q2,q3,q4⟩:=hS1
    go_simp
    first | rfl | (refine (if_neg (by omega)).trans ?_;rfl)
   simp only[Act.put,List.setIfInBounds_toArray,List.set_cons_zero,List.set_cons_succ,List.getElem_toArray,List.getElem_cons_succ,List.getElem_cons_zero]
   refine wpAnyH_ready (rs:=[12]) (by kernel_rfl) (by simp) ?_
   refine AllReadyH.cons rfl (fun K hK=>?_) AllReadyH.nil
   go_simp
   refine (HS5.out _).mono ?_
   rintro e V9 ⟨rfl,g9⟩
   have u9:=u8.trans g9
   refine hK _ _ (⟨(u9.cell (p:=⟨w.heap.size,0,none⟩) hbl (by simp)).trans k0,(u9.cell (p:=⟨w.heap.size,1,none⟩) hbl (by simp)).trans k1,(u9.cell (p:=⟨w.heap.size,2,none⟩) hbl (by simp)).trans k2,(u9.cell (p:=⟨w.heap.size,3,none⟩) hbl (by simp)).trans k3⟩) ?_
   clear hK K
   intro hS
   refine wpAnyH_take (i:=13) (v:=?_) rfl (by kernel_rfl) (by kernel_rfl) (by kernel_rfl) (fun _ _ _ h=>h) (.inl ⟨rfl,fun w1 hS1=>?_⟩) hS ?_
   rotate_left
   ·obtain⟨q1,q2,q3,q4⟩:=hS1
    go_simp
    first | rfl | (refine (if_neg (by omega)).trans ?_;rfl)
   simp only[Act.put,List.setIfInBounds_toArray,List.set_cons_zero,List.set_cons_succ,List.getElem_toArray,List.getElem_cons_succ,List.getElem_cons_zero]
   refine wpAnyH_take (i:=14) (v:=?_) rfl (by kernel_rfl) (by kernel_rfl) (by kernel_rfl) (fun _ _ _ h=>h) (.inl ⟨rfl,fun w1 hS1=>?_⟩) hS ?_
   rotate_left
   ·obtain⟨q1,q2,q3,q4⟩:=hS1
    go_simp
    first | rfl | (refine (if_neg (by omega)).trans ?_;rfl)
   simp only[Act.put,List.setIfInBounds_toArray,List.set_cons_zero,List.set_cons_succ,List.getElem_toArray,List.getElem_cons_succ,List.getElem_cons_zero]
   refine wpAnyH_done (by kernel_rfl) ?_ _
   have F9:=F4.trans u9
   clear u5 u6 u7 u8 u9 g5 g6 g7 g8 g9 hS k0 k1 k2 k3
   simp only[E1.out]
   go_wp2_with fail
   refine (HSU.out _).mono ?_
   rintro e V10 ⟨rfl,g10⟩
   go_wp2
   go_ret
   rw[← E2.out]
   exact⟨rfl,F9.trans g10⟩
theorem packR_any (mv:Value) (m:Mo) (w:World) (hM:ModIn w mv m) (hz:ModSm m) :
  Calls Tryz.prog 11 #[mv] w fun e w'=>e=.returned (.tuple #[.string (packS m),.int .i64 (packE m)])∧Fr [] w w':=by
 have hW:=fun (W:World) (f:Fr [] w W)=>withinR_any mv m W (hM.fr f) hz
 have hR:=fun (hw:within ipF m=true) (W:World) (f:Fr [] w W)=>writtenR_any mv m W (hM.fr f) hw
 have hbl:=fun (hw:within ipF m=true)=>body_len_le m ipF hw
 have hwl:=written_length m
 obtain⟨tv,pv,fv,rfl,hT1,hP,hF⟩:=hM.is
 obtain⟨ta,tc,tg,tz,rfl,-⟩:=id hT1
 obtain⟨pa,pc,pg,po,rfl,-⟩:=id hP
 obtain⟨fa,fc,fg,fo,rfl,-⟩:=id hF
 clear hM hz hT1 hP hF
 unfold packS packE
 have hmk:mkB (Wire.written m)=mkR (Wire.written m):=rfl
 have hsz:=mkR_size (Wire.written m)
 rw[hmk]
 clear hmk
 obtain⟨texts,pats,globs,arrs,fns⟩:=m
 simp only at *
 generalize (⟨texts,pats,globs,arrs,fns⟩:Mo)=m at *
 have f0:Fr [] w (w.alloc (.cells #[Value.slice ta texts.length tc,Value.slice pa pats.length pc,Value.int IntKind.i64 globs,Value.int IntKind.i64 arrs,Value.slice fa fns.length fc] 30)):=(Fr.refl [] w).alloc _
 have hnew:=World.alloc_heap_new w (.cells #[Value.slice ta texts.length tc,Value.slice pa pats.length pc,Value.int IntKind.i64 globs,Value.int IntKind.i64 arrs,Value.slice fa fns.length fc] 30)
 have hlt2:w.heap.size<(w.alloc (.cells #[Value.slice ta texts.length tc,Value.slice pa pats.length pc,Value.int IntKind.i64 globs,Value.int IntKind.i64 arrs,Value.slice fa fns.length fc] 30)).heap.size:=by simp
 cases hw:within ipF m with
 | false=>
  simp only[hw] at hW
  rw[if_neg (by simp),if_neg (by simp)]
  have HW:Hid _:=hW
  clear hW hR hbl hwl hw hsz
  go_enter Tryz.func11,Tryz.ntmps11
  go_wp2_with fail
  refine (HW.out _ f0).mono ?_
  rintro e w1 ⟨rfl,f1⟩
  go_wp2
  go_ret2
  exact⟨rfl,f0.trans f1⟩
 | true=>
  simp only[hw] at hW
  have HW:Hid _:=hW
  have HR:Hid _:=hR hw
  have hb:=hbl hw
  clear hW hR hbl hw
  generalize mkR (Wire.written m)=R at *
  generalize (Wire.written m).length=n at *
  generalize (body m).length=n0 at *
  by_cases hle:n≤40000
  ·rw[if_pos ⟨rfl,hle⟩,if_pos ⟨rfl,hle⟩]
   have g1:¬ (40000:Int)<R.size:=by omega
   clear hsz hwl hb hle
   go_enter Tryz.func11,Tryz.ntmps11
   go_wp2_with fail
   obtain⟨W,hWW⟩:∃ W,w.alloc (.cells #[Value.slice ta texts.length tc,Value.slice pa pats.length pc,Value.int IntKind.i64 globs,Value.int IntKind.i64 arrs,Value.slice fa fns.length fc] 30)=W:=⟨_,rfl⟩
   rw[hWW] at f0 hnew hlt2 ⊢
   clear hWW
   refine (HW.out W f0).mono ?_
   rintro e w1 ⟨rfl,f1⟩
   have kept:w1.heap[w.heap.size]?=some (.cells #[Value.slice ta texts.length tc,Value.slice pa pats.length pc,Value.int IntKind.i64 globs,Value.int IntKind.i64 arrs,Value.slice fa fns.length fc] 30):=by
    rw[f1.block _ hlt2 (by simp),hnew]
   have k0:w1.cell? ⟨w.heap.size,0,none⟩=some (Value.slice ta texts.length tc):=by unfold World.cell?;rw[kept];rfl
   have k1:w1.cell? ⟨w.heap.size,1,none⟩=some (Value.slice pa pats.length pc):=by unfold World.cell?;rw[kept];rfl
   have k2:w1.cell? ⟨w.heap.size,2,none⟩=some (Value.int .i64 globs):=by unfold World.cell?;rw[kept];rfl
   have k3:w1.cell? ⟨w.heap.size,3,none⟩=some (Value.int .i64 arrs):=by unfold World.cell?;rw[kept];rfl
   have k4:w1.cell? ⟨w.heap.size,4,none⟩=some (Value.slice fa fns.length fc):=by unfold World.cell?;rw[kept];rfl
   clear kept hnew HW
   go_wp2_with fail
   refine (HR.out w1 (f0.trans f1)).mono ?_
   rintro e w2 ⟨rfl,f2⟩
   clear HR k0 k1 k2 k3 k4
   have f3:=(f0.trans f1).trans f2
   go_wp2
   go_ret2
   exact⟨rfl,f3⟩
  ·rw[if_neg (fun h=>hle h.2),if_neg (fun h=>hle h.2)]
   have g1:(40000:Int)<R.size:=by omega
   clear hsz hwl hb hle
   go_enter Tryz.func11,Tryz.ntmps11
   go_wp2_with fail
   obtain⟨W,hWW⟩:∃ W,w.alloc (.cells #[Value.slice ta texts.length tc,Value.slice pa pats.length pc,Value.int IntKind.i64 globs,Value.int IntKind.i64 arrs,Value.slice fa fns.length fc] 30)=W:=⟨_,rfl⟩
   rw[hWW] at f0 hnew hlt2 ⊢
   clear hWW
   refine (HW.out W f0).mono ?_
   rintro e w1 ⟨rfl,f1⟩
   have kept:w1.heap[w.heap.size]?=some (.cells #[Value.slice ta texts.length tc,Value.slice pa pats.length pc,Value.int IntKind.i64 globs,Value.int IntKind.i64 arrs,Value.slice fa fns.length fc] 30):=by
    rw[f1.block _ hlt2 (by simp),hnew]
   have k0:w1.cell? ⟨w.heap.size,0,none⟩=some (Value.slice ta texts.length tc):=by unfold World.cell?;rw[kept];rfl
   have k1:w1.cell? ⟨w.heap.size,1,none⟩=some (Value.slice pa pats.length pc):=by unfold World.cell?;rw[kept];rfl
   have k2:w1.cell? ⟨w.heap.size,2,none⟩=some (Value.int .i64 globs):=by unfold World.cell?;rw[kept];rfl
   have k3:w1.cell? ⟨w.heap.size,3,none⟩=some (Value.int .i64 arrs):=by unfold World.cell?;rw[kept];rfl
   have k4:w1.cell? ⟨w.heap.size,4,none⟩=some (Value.slice fa fns.length fc):=by unfold World.cell?;rw[kept];rfl
   clear kept hnew HW
   go_wp2_with fail
   refine (HR.out w1 (f0.trans f1)).mono ?_
   rintro e w2 ⟨rfl,f2⟩
   clear HR k0 k1 k2 k3 k4
   have f3:=(f0.trans f1).trans f2
   go_wp2
   go_ret2
   exact⟨rfl,f3⟩
open Wire Flow Mach
structure MsAt (w0:World) (mg moff mn:Nat) (L:List Mo):Prop where
 len:L.length=mn
 lt:mg<w0.heap.size
 at_:∀ (i:Nat) (m:Mo),L[i]?=some m→ModSm m∧∃ tv pv fv,ModIn w0 (.agg #[tv,pv,.int .i64 m.globs,.int .i64 m.arrs,fv]) m∧w0.cell? ⟨mg,moff+i*5,none⟩=some tv∧w0.cell? ⟨mg,moff+i*5+1,none⟩=some pv∧w0.cell? ⟨mg,moff+i*5+2,none⟩=some (.int .i64 m.globs)∧w0.cell? ⟨mg,moff+i*5+3,none⟩=some (.int .i64 m.arrs)∧w0.cell? ⟨mg,moff+i*5+4,none⟩=some fv
theorem FrB.as_fr {w0 W:World} (h:FrB w0.heap.size w0 W):Fr [] w0 W:=⟨h.os,h.tape,h.output,h.size,fun k hk _=>h.block k hk⟩
theorem packS_small (m:Mo):(packS m).size≤9223372036854775807:=by
 unfold packS
 split
 ·rename_i h
  have:(mkB (Wire.written m)).size=(Wire.written m).length:=by simp[mkB,ByteArray.size]
  omega
 ·decide
def MsIn (w0:World) (ms:Value):Prop:=(∃ ma mc,ms=.slice ma 0 mc)∨∃ mg moff mn mc L,ms=.slice (some ⟨mg,moff,none⟩) mn mc∧0<mn∧mn≤9223372036854775807∧MsAt w0 mg moff mn L
end Go.Proofs.YtclkgoigmgkffaaGreatDoor
