/-
  Texts Mh Mi Mj Na Nb Nc Sh.
-/
import Derived.Laws.Concat
import Derived.Lib.SlBytesConst
import Derived.Shelf.Strings.Builder1
import Derived.Shelf.Strings.BuilderF
import Derived.Shelf.Strings.BuilderK
import Derived.Shelf.LaysM
import Derived.Shelf.Strconv.Clone
import Derived.Test.YtclkgoigmgkffaaGreatDoorProg
import Derived.Test.YtclkgoigmgkffaaGreatDoorM12
set_option linter.unusedSimpArgs false
set_option linter.unusedVariables false
set_option maxRecDepth 100000
set_option maxHeartbeats 40000000
namespace Go.Proofs.YtclkgoigmgkffaaGreatDoor
open Go.RowKit
open Wire
theorem lawfulAll_app (A:List Wire.Fn) (x:Wire.Fn) (i:Nat):lawfulAll (A++[x]) i=(lawfulAll A i && lawful x (i+A.length)):=by
 induction A generalizing i with
 | nil=>simp[lawfulAll]
 | cons a A ih=>
  simp only[List.cons_append,lawfulAll,ih,Bool.and_assoc,List.length_cons]
  rw[show i+1+A.length=i+(A.length+1) by omega]
theorem lawfulAll_take (L:List Wire.Fn) (k:Nat) (h:k<L.length) (ha:lawfulAll (L.take k) 0=true):lawfulAll (L.take (k+1)) 0=lawful L[k] k:=by
 rw[List.take_succ_eq_append_getElem h,lawfulAll_app,ha,List.length_take,Nat.min_eq_left (by omega)]
 simp
theorem lawfulAll_at (L:List Wire.Fn) (i k:Nat) (h:k<L.length) (ha:lawfulAll L i=true):lawful L[k] (i+k)=true:=by
 induction L generalizing i k with
 | nil=>simp at h
 | cons a L ih=>
  simp only[lawfulAll,Bool.and_eq_true] at ha
  cases k with
  | zero=>simpa using ha.1
  | succ k=>
   have:=ih (i+1) k (by simpa using h) ha.2
   simpa [show i+1+k=i+(k+1) by omega] using this
theorem lawfulAll_stop (L:List Wire.Fn) (k:Nat) (h:k<L.length) (ha:lawful L[k] k=false):lawfulAll L 0=false:=by
 cases hl:lawfulAll L 0 with
 | false=>rfl
 | true=>have:=lawfulAll_at L 0 k h hl;rw[Nat.zero_add,ha] at this;cases this
theorem lawful_eq (f:Wire.Fn) (i:Nat):lawful f i=true↔(0≤f.params∧f.params≤(if i<3 then 0 else 8))∧(f.params≤f.locs∧f.locs≤16)∧f.code.size≤20000:=by
 rw[lawful_iff]
 by_cases h:i<3
 ·rw[if_pos h];omega
 ·rw[if_neg h];omega
theorem areFuncs_any (tv:Value) (L:List Wire.Fn) (w:World) (hn:L.length≤maxLen) (hs:∀ s ∈ L,s.code.size≤maxLen) (hL:FnsIn w tv L) :
  Calls Tryz.prog 231 #[tv] w fun e w'=>e=.returned (.bool (okFns L))∧Fr [] w w':=by
 obtain⟨a0,cap,g,off,rfl,hcap,ha,hx⟩:=hL
 unfold okFns
 have hb:=isBetween_any L.length 3 1000 w
 by_cases h1:3≤L.length∧L.length≤1000
 ·have e0:(decide ((3:Int)≤L.length) && decide ((L.length:Int)≤1000))=true:=by simp;omega
  rw[e0] at hb
  have HA:Hid (∀ k (hk:k<L.length),lawfulAll (L.take k) 0=true→lawfulAll (L.take (k+1)) 0=lawful L[k] k):=fun k hk ha=>lawfulAll_take L k hk ha
  have HB:Hid (∀ k (hk:k<L.length),lawful L[k] k=false→lawfulAll L 0=false):=fun k hk ha=>lawfulAll_stop L k hk ha
  rw[decide_eq_true h1.1,decide_eq_true h1.2,Bool.true_and,Bool.true_and]
  obtain⟨r,hr⟩:∃ r,lawfulAll L 0=r:=⟨_,rfl⟩
  rw[hr]
  have Hr:Hid _:=hr
  have Hx:Hid _:=hx
  have Ha:Hid _:=ha
  have Hs:Hid _:=hs
  clear hr hx ha hs e0
  go_enter Tryz.func231,Tryz.ntmps231
  go_wp2_with fail
  refine hb.mono ?_
  rintro e w ⟨rfl,rfl⟩
  clear hb
  go_wp2
  go_loopw [11] (fun i wr=>∃ k:Nat,k≤L.length∧i=.int .i64 k∧Hid (lawfulAll (L.take k) 0=true)∧Fr [] w wr) (fun i _=>L.length-(intOf i).toNat)
  case atStart=>exact⟨0,by omega,rfl,by show _=_;simp[lawfulAll],Fr.refl _ _⟩
  case round=>
   obtain⟨k,hk,rfl,hall,hF⟩:=hrel
   by_cases hlt:k<L.length
   ·obtain⟨rfl,hg⟩:=Ha.out (by omega)
    have g2:(k:Int)<L.length:=by omega
    obtain⟨x0,x1,x2⟩:=Hx.out k _ (List.getElem?_eq_getElem hlt)
    have c0:=(hF.cell (p:=⟨g,off+k*3,none⟩) hg (by simp)).trans x0
    have c1:=(hF.cell (p:=⟨g,off+k*3+1,none⟩) hg (by simp)).trans x1
    have c2:=(hF.cell (p:=⟨g,off+k*3+2,none⟩) hg (by simp)).trans x2
    have e1:=HA.out k hlt hall.out
    have e2:=HB.out k hlt
    have e3:=Hs.out L[k] (List.getElem_mem hlt)
    have e5:=lawful_eq L[k] k
    obtain⟨⟨p,lc,co⟩,hsk⟩:∃ s,L[k]=s:=⟨_,rfl⟩
    rw[hsk] at c0 c1 c2 e1 e2 e3 e5
    simp only at c0 c1 c2 e3 e5
    have E1:Hid _:=e1
    have E2:Hid _:=e2
    have hmp:=maxParams_any k
    unfold maxLen at e3
    obtain⟨M,hM⟩:∃ M:Int,(if k<3 then 0 else 8)=M:=⟨_,rfl⟩
    rw[hM] at e5
    simp only[hM] at hmp
    have E5:Hid _:=e5
    have Hmp:Hid _:=hmp
    have hb1:=isBetween_any p 0 M
    have hb2:=isBetween_any lc p 16
    clear e1 e2 e5 hmp hM x0 x1 x2 hsk
    by_cases q1:0≤p∧p≤M
    ·have t1:(decide (0≤p) && decide (p≤M))=true:=by simp;exact q1
     simp only[t1] at hb1
     by_cases q2:p≤lc∧lc≤16
     ·have t2:(decide (p≤lc) && decide (lc≤16))=true:=by simp;exact q2
      simp only[t2] at hb2
      have Hb1:Hid _:=hb1
      have Hb2:Hid _:=hb2
      clear hb1 hb2 t1 t2
      by_cases q3:co.size≤20000
      ·have g3:decide ((20000:Int)<co.size)=false:=by simp;omega
       have e4:lawful ⟨p,lc,co⟩ k=true:=E5.out.2 ⟨q1,q2,q3⟩
       have E4:Hid _:=E1.out.trans e4
       clear E1 E2 E5 e4 q1 q2
       go_wp2
       go_quiet (first | (go_at_call 208;refine Calls.quiet_of_same (Hmp.out _)) | (go_at_call_of 230 (Value.int IntKind.i64 lc);refine Calls.quiet_of_same (Hb2.out _)) | (go_at_call 230;refine Calls.quiet_of_same (Hb1.out _)))
       go_wp2
       refine⟨⟨k+1,by omega,by go_num,E4,?_⟩,by simp[intOf];omega⟩
       exact (hF.alloc _).drewN _
      ·have g3:decide ((20000:Int)<co.size)=true:=by simp;omega
       have e4:r=false:=by
        rw[← Hr.out]
        refine E2.out (Bool.eq_false_iff.2 fun h=>?_)
        exact q3 (E5.out.1 h).2.2
       subst e4
       clear E1 E2 E5 q1 q2
       go_wp2
       go_quiet (first | (go_at_call 208;refine Calls.quiet_of_same (Hmp.out _)) | (go_at_call_of 230 (Value.int IntKind.i64 lc);refine Calls.quiet_of_same (Hb2.out _)) | (go_at_call 230;refine Calls.quiet_of_same (Hb1.out _)))
       go_wp2
       go_ret
       exact⟨rfl,(hF.alloc _).drewN _⟩
     ·have t2:(decide (p≤lc) && decide (lc≤16))=false:=by
       simp only[Bool.and_eq_false_iff,decide_eq_false_iff_not];omega
      simp only[t2] at hb2
      have Hb1:Hid _:=hb1
      have Hb2:Hid _:=hb2
      have e4:r=false:=by
       rw[← Hr.out]
       refine E2.out (Bool.eq_false_iff.2 fun h=>?_)
       exact q2 (E5.out.1 h).2.1
      subst e4
      clear hb1 hb2 t1 t2 E1 E2 E5 q1 q2
      go_wp2
      go_quiet (first | (go_at_call 208;refine Calls.quiet_of_same (Hmp.out _)) | (go_at_call_of 230 (Value.int IntKind.i64 lc);refine Calls.quiet_of_same (Hb2.out _)) | (go_at_call 230;refine Calls.quiet_of_same (Hb1.out _)))
      go_wp2
      go_ret
      exact⟨rfl,(hF.alloc _).drewN _⟩
    ·have t1:(decide (0≤p) && decide (p≤M))=false:=by
      simp only[Bool.and_eq_false_iff,decide_eq_false_iff_not];omega
     simp only[t1] at hb1
     have Hb1:Hid _:=hb1
     have Hb2:Hid _:=hb2
     have e4:r=false:=by
      rw[← Hr.out]
      refine E2.out (Bool.eq_false_iff.2 fun h=>?_)
      exact q1 (E5.out.1 h).1
     subst e4
     clear hb1 hb2 t1 E1 E2 E5 q1
     go_wp2
     go_quiet (first | (go_at_call 208;refine Calls.quiet_of_same (Hmp.out _)) | (go_at_call_of 230 (Value.int IntKind.i64 lc);refine Calls.quiet_of_same (Hb2.out _)) | (go_at_call 230;refine Calls.quiet_of_same (Hb1.out _)))
     go_wp2
     go_ret
     exact⟨rfl,(hF.alloc _).drewN _⟩
   ·obtain rfl:k=L.length:=by omega
    have g2:¬ ((L.length:Int)<L.length):=by omega
    have e4:r=true:=by rw[← Hr.out,← hall.out,List.take_length]
    subst e4
    go_wp2
    go_ret
    exact⟨rfl,hF⟩
 ·have e0:(decide ((3:Int)≤L.length) && decide ((L.length:Int)≤1000))=false:=by simp;omega
  rw[e0] at hb
  have e1:(decide (3≤L.length) && decide (L.length≤1000) && lawfulAll L 0)=false:=by
   have:(decide (3≤L.length) && decide (L.length≤1000))=false:=by simp;omega
   rw[this];rfl
  rw[e1]
  clear e0 e1
  unfold maxLen at hn
  go_enter Tryz.func231,Tryz.ntmps231
  go_wp2_with fail
  refine hb.mono ?_
  rintro e w ⟨rfl,rfl⟩
  clear hb
  go_wp2
  go_ret
  exact⟨rfl,Fr.refl _ _⟩
structure ModSz (m:Mo):Prop where
 t:m.texts.length≤maxLen
 ts:∀ s ∈ m.texts,s.size≤maxLen
 p:m.pats.length≤maxLen
 ps:∀ s ∈ m.pats,s.size≤maxLen
 f:m.fns.length≤maxLen
 fs:∀ s ∈ m.fns,s.code.size≤maxLen
theorem okAll (m:Mo):within ipF m=(okTexts m.texts && (okPats m.pats && ((decide (0≤m.globs) && decide (m.globs≤1000)) && ((decide (0≤m.arrs) && decide (m.arrs≤1000)) && okFns m.fns)))):=by
 rw[Bool.eq_iff_iff,Wire.within_iff]
 simp only[okTexts,okPats,okFns,Bool.and_eq_true,decide_eq_true_eq,List.all_eq_true]
 constructor
 ·rintro ⟨a,b,c,d,e,f,g,h,i,j,k⟩
  exact⟨⟨a,i⟩,⟨b,fun s hs=>(j s hs).2⟩,⟨e,f⟩,⟨g,h⟩,⟨⟨c,d⟩,k⟩⟩
 ·rintro ⟨⟨a,i⟩,⟨b,j⟩,⟨e,f⟩,⟨g,h⟩,⟨⟨c,d⟩,k⟩⟩
  refine⟨a,b,c,d,e,f,g,h,i,fun s hs=>⟨?_,j s hs⟩,k⟩
  have:=j s hs
  simp only[ipF,Bool.and_eq_true,decide_eq_true_eq] at this
  exact this.1
theorem isWithin_any (mv:Value) (m:Mo) (w:World) (hM:ModIn w mv m) (hz:ModSz m) (hT:Tab w):Calls Tryz.prog 199 #[mv] w fun e w'=>e=.returned (.bool (within ipF m))∧Fr [] w w':=by
 obtain⟨tv,pv,fv,rfl,hT1,hP,hF⟩:=hM.is
 rw[okAll]
 obtain⟨z1,z2,z3,z4,z5,z6⟩:=hz
 obtain⟨texts,pats,globs,arrs,fns⟩:=m
 simp only at *
 have a1:=fun (W:World) (f:Fr [] w W)=>areTexts_any tv texts W z1 z2 (hT1.fr f)
 have a2:=fun (W:World) (f:Fr [] w W)=>arePatterns_any pv pats W z3 z4 (hP.fr f) (hT.fr f (by simp))
 have a3:=isBetween_any globs 0 1000
 have a4:=isBetween_any arrs 0 1000
 have a5:=fun (W:World) (f:Fr [] w W)=>areFuncs_any fv fns W z5 z6 (hF.fr f)
 obtain⟨ta,tc,tg,to,rfl,-⟩:=id hT1
 obtain⟨pa,pc,pg,po,rfl,-⟩:=id hP
 obtain⟨fa,fc,fg,fo,rfl,-⟩:=id hF
 have A1:Hid _:=a1
 have A2:Hid _:=a2
 have A3:Hid _:=a3
 have A4:Hid _:=a4
 have A5:Hid _:=a5
 generalize okTexts texts=b1 at *
 generalize okPats pats=b2 at *
 generalize (decide (0≤globs) && decide (globs≤1000))=b3 at *
 generalize (decide (0≤arrs) && decide (arrs≤1000))=b4 at *
 generalize okFns fns=b5 at *
 clear a1 a2 a3 a4 a5 hT1 hP hF hM z1 z2 z3 z4 z5 z6 hT
 have f0:Fr [] w (w.alloc (.cells #[Value.slice ta texts.length tc,Value.slice pa pats.length pc,Value.int IntKind.i64 globs,Value.int IntKind.i64 arrs,Value.slice fa fns.length fc] 30)):=(Fr.refl [] w).alloc _
 have hnew:=World.alloc_heap_new w (.cells #[Value.slice ta texts.length tc,Value.slice pa pats.length pc,Value.int IntKind.i64 globs,Value.int IntKind.i64 arrs,Value.slice fa fns.length fc] 30)
 have hlt2:w.heap.size<(w.alloc (.cells #[Value.slice ta texts.length tc,Value.slice pa pats.length pc,Value.int IntKind.i64 globs,Value.int IntKind.i64 arrs,Value.slice fa fns.length fc] 30)).heap.size:=by simp
 go_enter Tryz.func199,Tryz.ntmps199
 go_wp2_with fail
 obtain⟨W,hWW⟩:∃ W,w.alloc (.cells #[Value.slice ta texts.length tc,Value.slice pa pats.length pc,Value.int IntKind.i64 globs,Value.int IntKind.i64 arrs,Value.slice fa fns.length fc] 30)=W:=⟨_,rfl⟩
 rw[hWW] at f0 hnew hlt2 ⊢
 clear hWW
 have kept:∀ {W':World},Fr [] W W'→W'.heap[w.heap.size]?=some (.cells #[Value.slice ta texts.length tc,Value.slice pa pats.length pc,Value.int IntKind.i64 globs,Value.int IntKind.i64 arrs,Value.slice fa fns.length fc] 30):=fun G=>by
  rw[G.block _ hlt2 (by simp),hnew]
 have Hkept:Hid _:=@kept
 clear kept hnew
 refine (A1.out W f0).mono ?_
 rintro e w1 ⟨rfl,rfl⟩
 cases b1 with
 | false=>
  go_wp2
  go_ret
  exact⟨rfl,f0⟩
 | true=>
  simp only[Bool.true_and]
  have e1:w1.cell? ⟨w.heap.size,1,none⟩=some (Value.slice pa pats.length pc):=by unfold World.cell?;rw[Hkept.out (Fr.refl _ _)];rfl
  go_wp2_with fail
  refine (A2.out w1 f0).mono ?_
  rintro e w2 ⟨rfl,f2⟩
  cases b2 with
  | false=>
   go_wp2
   go_ret
   exact⟨rfl,f0.trans f2⟩
  | true=>
   simp only[Bool.true_and]
   have e2:w2.cell? ⟨w.heap.size,2,none⟩=some (Value.int .i64 globs):=by unfold World.cell?;rw[Hkept.out f2];rfl
   have e3:w2.cell? ⟨w.heap.size,3,none⟩=some (Value.int .i64 arrs):=by unfold World.cell?;rw[Hkept.out f2];rfl
   have e4:w2.cell? ⟨w.heap.size,4,none⟩=some (Value.slice fa fns.length fc):=by unfold World.cell?;rw[Hkept.out f2];rfl
   clear e1
   go_wp2_with fail
   refine (A3.out w2).mono ?_
   rintro e w2 ⟨rfl,rfl⟩
   cases b3 with
   | false=>
    go_wp2
    go_ret
    exact⟨rfl,f0.trans f2⟩
   | true=>
    simp only[Bool.true_and]
    go_wp2_with fail
    refine (A4.out _).mono ?_
    rintro e w2 ⟨rfl,rfl⟩
    cases b4 with
    | false=>
     go_wp2
     go_ret
     exact⟨rfl,f0.trans f2⟩
    | true=>
     simp only[Bool.true_and]
     go_wp2_with fail
     refine (A5.out _ (f0.trans f2)).mono ?_
     rintro e w3 ⟨rfl,f3⟩
     clear e2 e3 e4
     cases b5 with
     | false=>
      go_wp2
      go_ret
      exact⟨rfl,(f0.trans f2).trans f3⟩
     | true=>
      go_wp2
      go_ret
      exact⟨rfl,(f0.trans f2).trans f3⟩
def mkB (l:List UInt8):ByteArray:=⟨l.toArray⟩
theorem mkB_size (l:List UInt8):(mkB l).size=l.length:=mk_size l
theorem mkB_app (a b:List UInt8):mkB a++mkB b=mkB (a++b):=by
 apply ByteArray.ext
 simp[mkB]
theorem bl_mkB (l:List UInt8):bl (mkB l)=l:=bl_mk l
theorem body_eq (m:Mo):body m=[71,76,1]++sect 1 (listing m.texts)++sect 2 (listing m.pats)++sect 3 (digs m.globs.toNat)++sect 4 (digs m.arrs.toNat)++sect 5 (fnsL m.fns):=by
 simp[body]
theorem body_len_le (m:Mo) (ip:ByteArray→Bool) (h:within ip m=true):(body m).length≤100000000:=by
 obtain⟨q1,q2,q3,q4,q5,q6,q7,q8,q9,q10,q11⟩:=Wire.within_iff.1 h
 have f11:=lawfulAll_mem _ _ q11
 obtain⟨l1,n1⟩:=listing_len m.texts q9 q1
 obtain⟨l2,n2⟩:=listing_len m.pats (fun s hs=>by have:=(q10 s hs).1;omega) q2
 have l3:=digs_len m.globs.toNat
 have l4:=digs_len m.arrs.toNat
 obtain⟨l5,n5⟩:=fnsL_len m.fns (fun s hs=>(f11 s hs).1) q4
 have s1:=sect_len 1 (listing m.texts)
 have s2:=sect_len 2 (listing m.pats)
 have s3:=sect_len 3 (digs m.globs.toNat)
 have s4:=sect_len 4 (digs m.arrs.toNat)
 have s5:=sect_len 5 (fnsL m.fns)
 rw[body_length]
 omega
def packS (m:Mo):ByteArray:=if within ipF m=true∧(Wire.written m).length≤40000 then mkB (Wire.written m) else ⟨#[]⟩
def packE (m:Mo):Int:=if within ipF m=true∧(Wire.written m).length≤40000 then 0 else 4
theorem full_new (w:World):Full w [71,76,1] (.slice (some ⟨w.heap.size,0,none⟩) 3 3) (w.alloc (.cells #[Value.int .u8 71,Value.int .u8 76,Value.int .u8 1] 5 (3,4))):=by
 have hm:=World.alloc_heap_new w (.cells #[Value.int .u8 71,Value.int .u8 76,Value.int .u8 1] 5 (3,4))
 have hc:∀ j:Nat,(w.alloc (.cells #[Value.int .u8 71,Value.int .u8 76,Value.int .u8 1] 5 (3,4))).cell? ⟨w.heap.size,j,none⟩=(#[Value.int .u8 71,Value.int .u8 76,Value.int .u8 1]:Array Value)[j]?:=fun j=>by
  unfold World.cell?;rw[hm];simp
 refine⟨w.heap.size,rfl,Nat.le_refl _,by simp,fun j u hj=>?_,(Fr.refl [] w).alloc _⟩
 rcases j with _ | _ | _ | j
 ·simp[Lib.byteCells] at hj;subst hj;exact hc 0
 ·simp[Lib.byteCells] at hj;subst hj;exact hc 1
 ·simp[Lib.byteCells] at hj;subst hj;exact hc 2
 ·simp[Lib.byteCells] at hj
theorem packM_any (mv:Value) (m:Mo) (w:World) (hM:ModIn w mv m) (hz:ModSz m) (hT:Tab w) :
  Calls Tryz.prog 165 #[mv] w fun e w'=>e=.returned (.tuple #[.string (packS m),.int .i64 (packE m)])∧Fr [] w w':=by
 have hW:=fun (W:World) (f:Fr [] w W)=>isWithin_any mv m W (hM.fr f) hz (hT.fr f (by simp))
 have hA:=fun (W W':World) (f:Fr [] w W) (v:Value) (h:Full W [71,76,1] v W') (hw:within ipF m=true)=>appendSections_any W [71,76,1] v mv m ipF W' (by simp) h (hM.fr f) hw
 simp only[← body_eq] at hA
 have hbl:=body_len_le m ipF
 have hwr:Wire.written m=body m++sum3 (body m):=rfl
 unfold packS packE
 obtain⟨tv,pv,fv,rfl,hT1,hP,hF⟩:=hM.is
 obtain⟨ta,tc,tg,to,rfl,-⟩:=id hT1
 obtain⟨pa,pc,pg,po,rfl,-⟩:=id hP
 obtain⟨fa,fc,fg,fo,rfl,-⟩:=id hF
 clear hM hz hT hT1 hP hF
 obtain⟨texts,pats,globs,arrs,fns⟩:=m
 simp only at *
 generalize (⟨texts,pats,globs,arrs,fns⟩:Mo)=m at *
 have f0:Fr [] w (w.alloc (.cells #[Value.slice ta texts.length tc,Value.slice pa pats.length pc,Value.int IntKind.i64 globs,Value.int IntKind.i64 arrs,Value.slice fa fns.length fc] 30)):=(Fr.refl [] w).alloc _
 have hnew:=World.alloc_heap_new w (.cells #[Value.slice ta texts.length tc,Value.slice pa pats.length pc,Value.int IntKind.i64 globs,Value.int IntKind.i64 arrs,Value.slice fa fns.length fc] 30)
 have hlt2:w.heap.size<(w.alloc (.cells #[Value.slice ta texts.length tc,Value.slice pa pats.length pc,Value.int IntKind.i64 globs,Value.int IntKind.i64 arrs,Value.slice fa fns.length fc] 30)).heap.size:=by simp
 cases hw:within ipF m with
 | false=>
  simp only[hw] at hW
  rw[if_neg (by simp),if_neg (by simp)]
  have HW:Hid _:=hW
  clear hW hA hbl hwr hw
  go_enter Tryz.func165,Tryz.ntmps165
  go_wp2_with fail
  refine (HW.out _ f0).mono ?_
  rintro e w1 ⟨rfl,f1⟩
  go_wp2
  go_ret2
  exact⟨rfl,f0.trans f1⟩
 | true=>
  simp only[hw] at hW
  have HW:Hid _:=hW
  have hb:=hbl hw
  have HA:Hid (∀ (W W':World),Fr [] w W→∀ (v:Value),Full W [71,76,1] v W'→Calls Tryz.prog 200 #[v,.agg #[Value.slice ta texts.length tc,Value.slice pa pats.length pc,Value.int IntKind.i64 globs,Value.int IntKind.i64 arrs,Value.slice fa fns.length fc]] W' fun e w'=>∃ v',e=.returned v'∧OwnB W (body m) v' w'):=fun W W' f v h=>hA W W' f v h hw
  have hbne:body m≠[]:=by simp[body]
  obtain⟨R,hR⟩:∃ R:ByteArray,(if true=true∧(Wire.written m).length≤40000 then mkB (Wire.written m) else ⟨#[]⟩:ByteArray)=R:=⟨_,rfl⟩
  obtain⟨E,hE⟩:∃ E:Int,(if true=true∧(Wire.written m).length≤40000 then 0 else 4:Int)=E:=⟨_,rfl⟩
  rw[hR,hE]
  have HR:Hid _:=hR
  have HE:Hid _:=hE
  clear hR hE
  generalize body m=B at *
  clear hA hbl hW
  go_enter Tryz.func165,Tryz.ntmps165
  go_wp2_with fail
  obtain⟨W,hWW⟩:∃ W,w.alloc (.cells #[Value.slice ta texts.length tc,Value.slice pa pats.length pc,Value.int IntKind.i64 globs,Value.int IntKind.i64 arrs,Value.slice fa fns.length fc] 30)=W:=⟨_,rfl⟩
  rw[hWW] at f0 hnew hlt2 ⊢
  clear hWW
  refine (HW.out W f0).mono ?_
  rintro e w1 ⟨rfl,f1⟩
  have kept:w1.heap[w.heap.size]?=some (.cells #[Value.slice ta texts.length tc,Value.slice pa pats.length pc,Value.int IntKind.i64 globs,Value.int IntKind.i64 arrs,Value.slice fa fns.length fc] 30):=by
   rw[f1.block _ hlt2 (by simp),hnew]
  have hlt3:w.heap.size<w1.heap.size:=(Array.getElem?_eq_some_iff.1 kept).1
  have k0:w1.cell? ⟨w.heap.size,0,none⟩=some (Value.slice ta texts.length tc):=by unfold World.cell?;rw[kept];rfl
  have k1:w1.cell? ⟨w.heap.size,1,none⟩=some (Value.slice pa pats.length pc):=by unfold World.cell?;rw[kept];rfl
  have k2:w1.cell? ⟨w.heap.size,2,none⟩=some (Value.int .i64 globs):=by unfold World.cell?;rw[kept];rfl
  have k3:w1.cell? ⟨w.heap.size,3,none⟩=some (Value.int .i64 arrs):=by unfold World.cell?;rw[kept];rfl
  have k4:w1.cell? ⟨w.heap.size,4,none⟩=some (Value.slice fa fns.length fc):=by unfold World.cell?;rw[kept];rfl
  clear HW hnew hlt2 kept
  have kc:=fun (W:World) (C:Array Value) (n c:Nat)=>Lib.run_convert_bytes_const (P:=Tryz.prog) W 129 5 C n c Tryz.underlying129 Tryz.underlying5
  have JF:=full_new w1
  go_wp2_with fail
  refine (HA.out w1 _ (f0.trans f1) _ JF).mono ?_
  rintro e w2 ⟨v2,rfl,J2⟩
  obtain⟨g,cap,rfl,hg0,hg1,hgc⟩:=J2.row hbne
  clear HA JF kc k0 k1 k2 k3 k4
  have hconv:=conv_bytes w2 g cap B.length B rfl (fun j hj=>by
   have:=hgc j (.int .u8 (B[j].toNat:Int)) (by simp[Lib.byteCells,List.getElem?_map,List.getElem?_eq_getElem hj])
   rcases j with _ | j <;> simpa [Addr.add] using this)
  have hS:=sum_any (mkB B) w2 (by rw[mkB_size];omega)
  rw[bl_mkB] at hS
  have hsz1:=mkB_size B
  have hsz2:(mkB (sum3 B)).size=3:=by rw[mkB_size];rfl
  have happ:=mkB_app B (sum3 B)
  rw[← hwr] at happ
  have hwl:(Wire.written m).length=B.length+3:=by rw[hwr,List.length_append];rfl
  have hsz3:(mkB (Wire.written m)).size=B.length+3:=by rw[mkB_size];exact hwl
  change (convert 129 9 _).run Tryz.prog w2=.ok (.string (mkB B)) w2 at hconv
  change Calls Tryz.prog 108 _ w2 (fun e w'=>e=.returned (.string (mkB (sum3 B)))∧Fr [] w2 w') at hS
  have HP:Hid ((mkB B++mkB (sum3 B):ByteArray)=mkB (Wire.written m)):=happ
  have f2:=(f0.trans f1).trans J2.fr
  have e1:R=if B.length+3≤40000 then mkB (Wire.written m) else ⟨#[]⟩:=by
   rw[← HR.out,hwl];simp
  have e2:E=if B.length+3≤40000 then 0 else 4:=by
   rw[← HE.out,hwl];simp
  clear HR HE
  generalize mkB (Wire.written m)=P at *
  generalize mkB (sum3 B)=S at *
  generalize mkB B=T at *
  clear hgc J2 hwr happ hwl
  go_wp2_with fail
  refine hS.mono ?_
  rintro e w3 ⟨rfl,f3⟩
  clear hS hconv
  have f3:=f2.trans f3
  have g0:T.size+S.size≤9223372036854775807:=by omega
  clear hbne hlt3 f0 f1 f2 hg0 hg1
  by_cases hle:B.length+3≤40000
  ·rw[if_pos hle] at e1 e2
   have g1:¬ (40000:Int)<(T.size:Int)+S.size:=by omega
   have HE1:Hid _:=e1
   subst e2
   clear hsz1 hsz2 hsz3 hle hb e1
   generalize B.length=n at *
   go_wp2
   go_ret2
   refine⟨?_,f3⟩
   rw[HE1.out,← HP.out]
   rfl
  ·rw[if_neg hle] at e1 e2
   have g1:(40000:Int)<(T.size:Int)+S.size:=by omega
   subst e1 e2
   clear hsz1 hsz2 hsz3 hle hb
   generalize B.length=n at *
   go_wp2
   go_ret2
   exact⟨rfl,f3⟩
theorem pack_any (mv:Value) (m:Mo) (w:World) (hM:ModIn w mv m) (hz:ModSz m) (hT:Tab w) :
  Calls Tryz.prog 76 #[mv] w fun e w'=>e=.returned (.tuple #[.string (packS m),.int .i64 (packE m)])∧Fr [] w w':=by
 have h:=fun (W:World) (f:Fr [] w W)=>packM_any mv m W (hM.fr f) hz (hT.fr f (by simp))
 obtain⟨tv,pv,fv,rfl,hT1,hP,hF⟩:=hM.is
 obtain⟨ta,tc,tg,to,rfl,-⟩:=id hT1
 obtain⟨pa,pc,pg,po,rfl,-⟩:=id hP
 obtain⟨fa,fc,fg,fo,rfl,-⟩:=id hF
 generalize packS m=S at *
 generalize packE m=E at *
 have H:Hid _:=h
 clear hM hz hT hT1 hP hF h
 go_enter Tryz.func76,Tryz.ntmps76
 go_wp2_with fail
 refine (H.out _ ((Fr.refl [] w).alloc _)).mono ?_
 rintro e w1 ⟨rfl,f1⟩
 clear H
 have f2:=((Fr.refl [] w).alloc _).trans f1
 go_wp2
 go_ret2
 exact⟨rfl,f2⟩
structure RdC (w:World) (r:Nat) (b:ByteArray) (a e p er:Nat):Prop where
 c0:w.cell? ⟨r,0,none⟩=some (.string b)
 c1:w.cell? ⟨r,1,none⟩=some (.int .i64 a)
 c2:w.cell? ⟨r,2,none⟩=some (.int .i64 e)
 c3:w.cell? ⟨r,3,none⟩=some (.int .i64 p)
 c4:w.cell? ⟨r,4,none⟩=some (.int .i64 er)
 f1:w.frozen? ⟨r,1,none⟩=false
 f2:w.frozen? ⟨r,2,none⟩=false
 f3:w.frozen? ⟨r,3,none⟩=false
 f4:w.frozen? ⟨r,4,none⟩=false
theorem RdC.of_block {w w':World}{r:Nat}{b:ByteArray}{a e p er:Nat} (h:RdC w r b a e p er) (hb:w'.heap[r]?=w.heap[r]?):RdC w' r b a e p er:=
 ⟨(World.cell?_of_block (w:=w) (a:=⟨r,0,none⟩) hb).trans h.c0,(World.cell?_of_block (w:=w) (a:=⟨r,1,none⟩) hb).trans h.c1,(World.cell?_of_block (w:=w) (a:=⟨r,2,none⟩) hb).trans h.c2,
   (World.cell?_of_block (w:=w) (a:=⟨r,3,none⟩) hb).trans h.c3,(World.cell?_of_block (w:=w) (a:=⟨r,4,none⟩) hb).trans h.c4,
   (World.frozen?_of_block (w:=w) (a:=⟨r,1,none⟩) hb).trans h.f1,(World.frozen?_of_block (w:=w) (a:=⟨r,2,none⟩) hb).trans h.f2,
   (World.frozen?_of_block (w:=w) (a:=⟨r,3,none⟩) hb).trans h.f3,(World.frozen?_of_block (w:=w) (a:=⟨r,4,none⟩) hb).trans h.f4⟩
theorem RdC.lt {w:World}{r:Nat}{b:ByteArray}{a e p er:Nat} (h:RdC w r b a e p er):r<w.heap.size:=lt_of_cell (a:=⟨r,0,none⟩) h.c0
theorem RdC.fr {S:List Nat}{w w':World}{r:Nat}{b:ByteArray}{a e p er:Nat} (h:RdC w r b a e p er) (hf:Fr S w w') (hr:r ∉ S):RdC w' r b a e p er:=h.of_block (hf.block r h.lt hr)
theorem cell_set {w:World}{b i:Nat}{u v:Value} (h:w.cell? ⟨b,i,none⟩=some u):(w.setCell ⟨b,i,none⟩ v).cell? ⟨b,i,none⟩=some v:=World.cell?_setCell_same' _ _ _ (by rw[h];rfl)
theorem RdC.set1 {w:World}{r:Nat}{b:ByteArray}{a e p er:Nat} (h:RdC w r b a e p er) (x:Nat):RdC (w.setCell ⟨r,1,none⟩ (.int .i64 x)) r b x e p er:=
 ⟨(setCell_off (by decide)).trans h.c0,cell_set h.c1,(setCell_off (by decide)).trans h.c2,(setCell_off (by decide)).trans h.c3,(setCell_off (by decide)).trans h.c4,
   by rw[World.frozen?_setCell];exact h.f1,by rw[World.frozen?_setCell];exact h.f2,by rw[World.frozen?_setCell];exact h.f3,by rw[World.frozen?_setCell];exact h.f4⟩
theorem RdC.set2 {w:World}{r:Nat}{b:ByteArray}{a e p er:Nat} (h:RdC w r b a e p er) (x:Nat):RdC (w.setCell ⟨r,2,none⟩ (.int .i64 x)) r b a x p er:=
 ⟨(setCell_off (by decide)).trans h.c0,(setCell_off (by decide)).trans h.c1,cell_set h.c2,(setCell_off (by decide)).trans h.c3,(setCell_off (by decide)).trans h.c4,
   by rw[World.frozen?_setCell];exact h.f1,by rw[World.frozen?_setCell];exact h.f2,by rw[World.frozen?_setCell];exact h.f3,by rw[World.frozen?_setCell];exact h.f4⟩
theorem RdC.set34 {w:World}{r:Nat}{b:ByteArray}{a e p er:Nat} (h:RdC w r b a e p er) (x y:Nat):RdC ((w.setCell ⟨r,3,none⟩ (.int .i64 x)).setCell ⟨r,4,none⟩ (.int .i64 y)) r b a e x y:=
 ⟨(setCell_off (by decide)).trans ((setCell_off (by decide)).trans h.c0),(setCell_off (by decide)).trans ((setCell_off (by decide)).trans h.c1),(setCell_off (by decide)).trans ((setCell_off (by decide)).trans h.c2),
   (setCell_off (by decide)).trans (cell_set h.c3),cell_set ((setCell_off (by decide)).trans h.c4),
   by rw[World.frozen?_setCell,World.frozen?_setCell];exact h.f1,by rw[World.frozen?_setCell,World.frozen?_setCell];exact h.f2,by rw[World.frozen?_setCell,World.frozen?_setCell];exact h.f3,by rw[World.frozen?_setCell,World.frozen?_setCell];exact h.f4⟩
def stA (n:Nat):Sta→Nat
 | .inl _=>n
 | .inr p=>p.1
def stE (n:Nat):Sta→Nat
 | .inl _=>n
 | .inr p=>p.2
def stP:Sta→Nat
 | .inl f=>f.2
 | .inr _=>0
def stR:Sta→Nat
 | .inl f=>f.1
 | .inr _=>0
structure RdS (w:World) (r:Nat) (b:ByteArray) (s:Sta):Prop where
 c:RdC w r b (stA b.size s) (stE b.size s) (stP s) (stR s)
 ok:okSta (bl b) s
theorem RdS.fr {S:List Nat}{w w':World}{r:Nat}{b:ByteArray}{s:Sta} (h:RdS w r b s) (hf:Fr S w w') (hr:r ∉ S):RdS w' r b s:=⟨h.c.fr hf hr,h.ok⟩
theorem RdS.heap {w w':World}{r:Nat}{b:ByteArray}{s:Sta} (h:RdS w r b s) (hh:w'.heap=w.heap):RdS w' r b s:=⟨h.c.of_block (by rw[hh]),h.ok⟩
theorem RdS.lt {w:World}{r:Nat}{b:ByteArray}{s:Sta} (h:RdS w r b s):r<w.heap.size:=h.c.lt
def failS (er place:Nat):Sta→Sta
 | .inl f=>.inl f
 | .inr _=>.inl (er,place)
theorem failC_any (w:World) (r:Nat) (b:ByteArray) (a e p er place no:Nat) (h:RdC w r b a e p er) (hs:b.size≤40000) :
  Calls Tryz.prog 109 #[.pointer (some ⟨r,0,none⟩),.int .i64 place,.int .i64 no] w fun ee w'=>ee=.returned (.tuple #[])∧RdC w' r b b.size b.size (if er=0 then place else p) (if er=0 then no else er)∧Fr [r] w w':=by
 have hm:Tryz.prog.follows Departure.mixedOrders=true:=by kernel_rfl
 have K1:=h.set34 place no
 have F1:Fr [r] w ((w.setCell ⟨r,3,none⟩ (.int .i64 place)).setCell ⟨r,4,none⟩ (.int .i64 no)):=((Fr.refl [r] w).setCell (p:=⟨r,3,none⟩) (.inl (by simp)) _).setCell (p:=⟨r,4,none⟩) (.inl (by simp)) _
 have K0:=h
 obtain⟨c0,c1,c2,c3,c4,f1,f2,f3,f4⟩:=h
 by_cases he:er=0
 ·subst he
  rw[if_pos rfl,if_pos rfl]
  clear K0
  go_enter Tryz.func109,Tryz.ntmps109
  go_wp2
  have K2:=K1
  obtain⟨c0,c1,c2,c3,c4,f1,f2,f3,f4⟩:=K1
  generalize ((w.setCell ⟨r,3,none⟩ (.int .i64 place)).setCell ⟨r,4,none⟩ (.int .i64 no))=W at *
  go_region
  go_end0
  exact⟨rfl,((K2.set1 b.size).set2 b.size).of_block rfl,((F1.setCell (p:=⟨r,1,none⟩) (.inl (by simp)) _).setCell (p:=⟨r,2,none⟩) (.inl (by simp)) _).drewN 1⟩
 ·have g1:((er:Int)==0)=false:=by simp;omega
  rw[if_neg he,if_neg he]
  clear K1 F1
  go_enter Tryz.func109,Tryz.ntmps109
  go_wp2
  go_region
  go_end0
  exact⟨rfl,((K0.set1 b.size).set2 b.size).of_block rfl,(((Fr.refl [r] w).setCell (p:=⟨r,1,none⟩) (.inl (by simp)) _).setCell (p:=⟨r,2,none⟩) (.inl (by simp)) _).drewN 1⟩
theorem failU_any {w:World}{r:Nat}{b:ByteArray}{s:Sta}{place no:Nat}{nI:Int} (hn:nI=(no:Int)) (h:RdS w r b s) (hs:b.size≤40000) (h0:0<no) (h1:no≤100) (hp:place≤b.size) :
  Calls Tryz.prog 109 #[.pointer (some ⟨r,0,none⟩),.int .i64 place,.int .i64 nI] w fun ee w'=>ee=.returned (.tuple #[])∧RdS w' r b (failS no place s)∧Fr [r] w w':=by
 subst hn
 refine (failC_any w r b _ _ _ _ place no h.c hs).mono ?_
 rintro e w' ⟨rfl,K,F⟩
 refine⟨rfl,?_,F⟩
 have hL:=bl_length b
 rcases s with ⟨x,y⟩ | ⟨x,y⟩
 ·obtain⟨k0,k1,k2⟩:=h.ok
  have k3:¬ x=0:=by simp only at k0;omega
  have e1:(if stR (.inl (x,y))=0 then place else stP (.inl (x,y)))=y:=if_neg k3
  have e2:(if stR (.inl (x,y))=0 then no else stR (.inl (x,y)))=x:=if_neg k3
  rw[e1,e2] at K
  exact⟨K,h.ok⟩
 ·have e1:(if stR (.inr (x,y))=0 then place else stP (.inr (x,y)))=place:=if_pos rfl
  have e2:(if stR (.inr (x,y))=0 then no else stR (.inr (x,y)))=no:=if_pos rfl
  rw[e1,e2] at K
  exact⟨K,h0,h1,by simp only;omega⟩
def needR (c:UInt8) (no:Nat):Rd Unit:=fun base l=>match l with
 | []=>.inl (no,base)
 | x :: t=>if x=c then .inr ((),t) else .inl (no,base-l.length)
theorem needR_tidy (c:UInt8) (no:Nat) (h0:0<no) (h1:no≤100):Tidy (needR c no):=by
 refine⟨fun {base l f} h=>?_,fun {base l x r} h=>?_⟩
 ·unfold needR at h
  split at h
  ·simp only[Sum.inl.injEq] at h;subst h;exact⟨h0,h1,Nat.le_refl _⟩
  ·split at h
   ·cases h
   ·simp only[Sum.inl.injEq] at h;subst h;exact⟨h0,h1,Nat.sub_le _ _⟩
 ·unfold needR at h
  split at h
  ·cases h
  ·split at h
   ·simp only[Sum.inr.injEq,Prod.mk.injEq] at h
    obtain⟨-,rfl⟩:=h
    rename_i x t _
    exact⟨[x],rfl⟩
   ·cases h
theorem seg_nil (l:List UInt8) (a:Nat):seg l a a=[]:=by
 unfold seg
 rw[List.drop_eq_nil_iff,List.length_take]
 omega
theorem seg_cons {b:ByteArray}{a e:Nat} (h:a<e) (he:e≤b.size):seg (bl b) a e=b[a] :: seg (bl b) (a+1) e:=by
 have hL:=bl_length b
 unfold seg
 have hlt:a<((bl b).take e).length:=by rw[List.length_take];omega
 rw[List.drop_eq_getElem_cons hlt,List.getElem_take]
 congr 1
theorem needU_any {w:World}{r:Nat}{b:ByteArray}{s:Sta}{c:UInt8}{cI nI:Int}{no:Nat} (hc:cI=(c.toNat:Int)) (hn:nI=(no:Int)) (h:RdS w r b s) (hs:b.size≤40000) (h0:0<no) (h1:no≤100) :
  Calls Tryz.prog 96 #[.pointer (some ⟨r,0,none⟩),.int .u8 cI,.int .i64 nI] w fun ee w'=>ee=.returned (.tuple #[])∧RdS w' r b (nextR (needR c no) (bl b) s)∧Fr [r] w w':=by
 have hm:Tryz.prog.follows Departure.mixedOrders=true:=by kernel_rfl
 have hL:=bl_length b
 subst hc hn
 have hfail:=fun (place:Nat) (hp:place≤b.size) (W:World) (hW:RdS W r b s)=>failU_any (place:=place) rfl hW hs h0 h1 hp
 have K:=h
 obtain⟨⟨c0,c1,c2,c3,c4,f1,f2,f3,f4⟩,hok⟩:=h
 by_cases hae:stA b.size s=stE b.size s
 ·
  have hlt:stA b.size s≤b.size:=by
   rcases s with ⟨x,y⟩ | ⟨x,y⟩
   ·exact Nat.le_refl _
   ·have:=hok.1;have:=hok.2;simp only[stA];omega
  have hnext:nextR (needR c no) (bl b) s=failS no (stA b.size s) s:=by
   rcases s with ⟨x,y⟩ | ⟨x,y⟩
   ·rfl
   ·simp only[stA,stE] at hae
    subst hae
    simp only[nextR,failS,seg_nil,needR,stA]
  rw[hnext]
  have HF:Hid _:=hfail _ hlt
  have hd:((stA b.size s:Int)==(stE b.size s:Int))=true:=by simp;omega
  rw[hae] at c1 hd HF ⊢
  generalize stE b.size s=e at *
  clear hfail hnext hae hok hlt
  go_enter Tryz.func96,Tryz.ntmps96
  go_wp2
  go_quiet (fail)
  go_wp2_with fail
  refine (HF.out _ ?hk).mono ?_
  case hk=>exact K.heap rfl
  rintro ee w1 ⟨rfl,K1,F1⟩
  go_wp2
  refine bodyPost_ret (results_none rfl _ _ _) rfl ?_
  exact⟨rfl,K1,⟨F1.os,F1.tape,F1.output,F1.size,F1.block⟩⟩
 ·rcases s with ⟨x,y⟩ | ⟨a,e⟩
  ·exact absurd rfl hae
  ·obtain⟨o1,o2⟩:=hok
   simp only[stA,stE] at hae c1 c2
   have hlt:a<e:=by omega
   have hsz:a<b.size:=by omega
   have hcons:=seg_cons hlt (by omega:e≤b.size)
   have hd:((a:Int)==(e:Int))=false:=by simp;omega
   have g1:(a:Int)<b.size:=by omega
   by_cases hb:b[a]=c
   ·have hd2:((b[a].toNat:Int)!=(c.toNat:Int))=false:=by simp[hb]
    have hnext:nextR (needR c no) (bl b) (.inr (a,e))=.inr (a+1,e):=by
     simp only[nextR,hcons,needR,if_pos hb]
     rw[seg_length (by omega)]
     congr 2
     omega
    rw[hnext]
    have K1:RdS (w.setCell ⟨r,1,none⟩ (.int .i64 ((a+1:Nat):Int))) r b (.inr (a+1,e)):=⟨K.c.set1 (a+1),by show a+1≤e∧_;omega⟩
    have ea:((a+1:Nat):Int)=(a:Int)+1:=by omega
    rw[ea] at K1
    clear hfail hnext hcons hL hb
    go_enter Tryz.func96,Tryz.ntmps96
    go_wp2
    go_quiet (fail)
    go_wp2
    go_end0
    refine⟨rfl,K1.heap rfl,?_⟩
    exact ((Fr.refl [r] w).setCell (p:=⟨r,1,none⟩) (.inl (by simp)) _).drewN _
   ·have hd2:((b[a].toNat:Int)!=(c.toNat:Int))=true:=by
     simp only[bne_iff_ne,ne_eq]
     intro e'
     exact hb (UInt8.toNat_inj.1 (by omega))
    have hnext:nextR (needR c no) (bl b) (.inr (a,e))=failS no a (.inr (a,e)):=by
     simp only[nextR,hcons,needR,if_neg hb,failS]
     rw[← hcons,seg_length (by omega)]
     congr 2
     omega
    rw[hnext]
    have HF:Hid _:=hfail a (by omega)
    clear hfail hnext hcons hL hb
    go_enter Tryz.func96,Tryz.ntmps96
    go_wp2
    go_quiet (fail)
    go_wp2_with fail
    refine (HF.out _ ?hk).mono ?_
    case hk=>exact K.heap rfl
    rintro ee w1 ⟨rfl,K1,F1⟩
    go_wp2
    refine bodyPost_ret (results_none rfl _ _ _) rfl ?_
    exact⟨rfl,K1,⟨F1.os,F1.tape,F1.output,F1.size,F1.block⟩⟩
def numU:Rd Nat:=fun base c=>match num c with
 | none=>.inl (6,base-c.length)
 | some p=>.inr p
theorem numU_tidy:Tidy numU:=by
 refine⟨fun {base l f} h=>?_,fun {base l x r} h=>?_⟩
 ·unfold numU at h
  split at h
  ·simp only[Sum.inl.injEq] at h;subst h;exact⟨by simp,by simp,Nat.sub_le _ _⟩
  ·cases h
 ·unfold numU at h
  split at h
  ·cases h
  ·rename_i p hp
   simp only[Sum.inr.injEq] at h
   subst h
   exact⟨_,(num_some hp).1⟩
theorem bl_extract (b:ByteArray) (a e:Nat):bl (b.extract a e)=seg (bl b) a e:=by
 unfold bl seg
 rw[ByteArray.data_extract,Array.toList_extract,List.drop_take]
theorem num_nil:num []=none:=rfl
theorem stA_le {b:ByteArray}{s:Sta} (h:okSta (bl b) s):stA b.size s≤stE b.size s∧stE b.size s≤b.size:=by
 have hL:=bl_length b
 rcases s with ⟨x,y⟩ | ⟨x,y⟩
 ·exact⟨Nat.le_refl _,Nat.le_refl _⟩
 ·obtain⟨h1,h2⟩:=h
  exact⟨h1,by simp only[stE];omega⟩
theorem number_any {w:World}{r:Nat}{b:ByteArray}{s:Sta} (h:RdS w r b s) (hs:b.size≤40000) :
  Calls Tryz.prog 172 #[.pointer (some ⟨r,0,none⟩)] w fun ee w'=>ee=.returned (.int .i64 (outR numU (bl b) 0 s:Nat))∧RdS w' r b (nextR numU (bl b) s)∧Fr [r] w w':=by
 have hm:Tryz.prog.follows Departure.mixedOrders=true:=by kernel_rfl
 have hL:=bl_length b
 obtain⟨l1,l2⟩:=stA_le h.ok
 have hfail:=fun (W:World) (hW:RdS W r b s)=>failU_any (place:=stA b.size s) (no:=6) rfl hW hs (by omega) (by omega) (by omega)
 have hseg:(bl (b.extract (stA b.size s) (stE b.size s))).length=stE b.size s-stA b.size s:=by rw[bl_extract,seg_length (by omega)]
 have hx:(b.extract (stA b.size s) (stE b.size s)).size=stE b.size s-stA b.size s:=by rw[← bl_length];exact hseg
 have hread:=fun (W:World)=>numRead_any (b.extract (stA b.size s) (stE b.size s)) (by omega) W
 have K:=h
 obtain⟨⟨c0,c1,c2,c3,c4,f1,f2,f3,f4⟩,hok⟩:=h
 have g1:(0:Int)≤(stA b.size s:Int):=by omega
 have g2:(stA b.size s:Int)≤(stE b.size s:Int):=by omega
 have g3:(stE b.size s:Int)≤(b.size:Int):=by omega
 cases hn:num (bl (b.extract (stA b.size s) (stE b.size s))) with
 | none=>
  have hnext:nextR numU (bl b) s=failS 6 (stA b.size s) s:=by
   rcases s with ⟨x,y⟩ | ⟨x,y⟩
   ·rfl
   ·rw[bl_extract] at hn hseg
    simp only[stA,stE] at hn hseg l1
    simp only[nextR,failS,numU,hn,stA,hseg]
    congr 2
    omega
  have hout:outR numU (bl b) 0 s=0:=by
   rcases s with ⟨x,y⟩ | ⟨x,y⟩
   ·rfl
   ·rw[bl_extract] at hn
    simp only[stA,stE] at hn
    simp only[outR,numU,hn]
  rw[hnext,hout]
  have hV:numV (bl (b.extract (stA b.size s) (stE b.size s)))=0:=by simp only[numV,hn]
  have hK:numK (bl (b.extract (stA b.size s) (stE b.size s)))=0:=by simp only[numK,hn]
  simp only[hV,hK] at hread
  have HF:Hid _:=hfail
  have HR:Hid _:=hread
  generalize stA b.size s=a at *
  generalize stE b.size s=e at *
  clear hfail hread hnext hout hV hK hn hseg hx hok
  go_enter Tryz.func172,Tryz.ntmps172
  go_wp2
  go_quiet (first | (go_at_call 178;refine Calls.quiet_of_same (HR.out _)))
  go_wp2_with fail
  refine (HF.out _ ?hk).mono ?_
  case hk=>exact K.heap rfl
  rintro ee w1 ⟨rfl,K1,F1⟩
  go_wp2
  go_ret
  exact⟨rfl,K1,⟨F1.os,F1.tape,F1.output,F1.size,F1.block⟩⟩
 | some p=>
  obtain⟨n,q⟩:=p
  obtain⟨e1,hlt⟩:=num_some hn
  rcases s with ⟨x,y⟩ | ⟨a,e⟩
  ·exfalso
   rw[bl_extract] at hn
   simp only[stA,stE,seg_nil,num_nil] at hn
   cases hn
  ·simp only[stA,stE] at *
   have hdn:0<(digs n).length:=by
    cases hd:digs n with
    | nil=>exact absurd hd (digs_ne _ (by omega))
    | cons a r=>simp
   have hlen:=congrArg List.length e1
   rw[hseg,List.length_append] at hlen
   have hn2:=hn
   rw[bl_extract] at hn2
   have hnext:nextR numU (bl b) (.inr (a,e))=.inr (e-q.length,e):=by simp only[nextR,numU,hn2]
   have hout:outR numU (bl b) 0 (.inr (a,e))=n:=by simp only[outR,numU,hn2]
   have hV:numV (bl (b.extract a e))=n:=by simp only[numV,hn]
   have hK:numK (bl (b.extract a e))=(digs n).length:=by simp only[numK,hn,hseg];omega
   simp only[hV,hK] at hread
   rw[hnext,hout]
   have HR:Hid _:=hread
   have ea:e-q.length=a+(digs n).length:=by omega
   rw[ea]
   have hb10:=digs_len n
   obtain⟨k,hk⟩:∃ k,(digs n).length=k:=⟨_,rfl⟩
   rw[hk] at hdn HR hlen hb10 ⊢
   have K1:RdS (w.setCell ⟨r,1,none⟩ (.int .i64 ((a+k:Nat):Int))) r b (.inr (a+k,e)):=⟨K.c.set1 (a+k),by show a+k≤e∧_;exact⟨by omega,hok.2⟩⟩
   rw[Int.natCast_add] at K1
   have g4:((k:Int)==0)=false:=by simp;omega
   clear hfail hread hnext hout hV hK hn hn2 hseg hx hok K ea hk e1 hlen
   go_enter Tryz.func172,Tryz.ntmps172
   go_wp2
   go_quiet (first | (go_at_call 178;refine Calls.quiet_of_same (HR.out _)))
   go_wp2
   go_ret
   exact⟨rfl,K1.heap rfl,((Fr.refl [r] w).setCell (p:=⟨r,1,none⟩) (.inl (by simp)) _).drewN _⟩
theorem numberR_next (lo hi:Nat) (b:ByteArray) (s:Sta) (hok:okSta (bl b) s) :
  nextR (numberR lo hi) (bl b) s=(if outR numU (bl b) 0 s<lo∨hi<outR numU (bl b) 0 s then failS 4 (stA b.size s) (nextR numU (bl b) s) else nextR numU (bl b) s) ∧
  outR (numberR lo hi) (bl b) 0 s=(if outR numU (bl b) 0 s<lo∨hi<outR numU (bl b) 0 s then 0 else outR numU (bl b) 0 s):=by
 have hL:=bl_length b
 rcases s with ⟨x,y⟩ | ⟨a,e⟩
 ·refine⟨?_,?_⟩
  ·exact (ite_self (Sum.inl (x,y))).symm
  ·exact (ite_self 0).symm
 ·obtain⟨o1,o2⟩:=hok
  cases hn:num (seg (bl b) a e) with
  | none=>
   refine⟨?_,?_⟩
   ·simp only[nextR,outR,numU,numberR,hn,failS];rw[ite_self]
   ·simp only[nextR,outR,numU,numberR,hn,failS];rw[ite_self]
  | some p=>
   obtain⟨n,q⟩:=p
   simp only[nextR,outR,numU,numberR,hn,stA]
   by_cases hc:n<lo∨hi<n
   ·simp only[if_pos hc,failS,seg_length o2]
    exact⟨by congr 2;omega,trivial⟩
   ·simp only[if_neg hc]
    exact⟨trivial,trivial⟩
theorem numU_small (b:ByteArray) (s:Sta):outR numU (bl b) 0 s<34359738368:=by
 rcases s with ⟨x,y⟩ | ⟨a,e⟩
 ·simp[outR]
 ·simp only[outR,numU]
  cases hn:num (seg (bl b) a e) with
  | none=>simp
  | some p=>exact (num_some hn).2
theorem limited_any {w:World}{r:Nat}{b:ByteArray}{s:Sta}{lo hi:Nat}{loI hiI:Int} (hlo:loI=(lo:Int)) (hhi:hiI=(hi:Int)) (h:RdS w r b s) (hs:b.size≤40000) (h1:lo≤1000) (h2:hi≤100000) :
  Calls Tryz.prog 104 #[.pointer (some ⟨r,0,none⟩),.int .i64 loI,.int .i64 hiI] w fun ee w'=>ee=.returned (.int .i64 (outR (numberR lo hi) (bl b) 0 s:Nat))∧RdS w' r b (nextR (numberR lo hi) (bl b) s)∧Fr [r] w w':=by
 subst hlo hhi
 obtain⟨e1,e2⟩:=numberR_next lo hi b s h.ok
 rw[e1,e2]
 obtain⟨l1,l2⟩:=stA_le h.ok
 have hsm:=numU_small b s
 have hnum:=number_any h hs
 have hfail:=fun (W:World) (hW:RdS W r b (nextR numU (bl b) s))=>failU_any (place:=stA b.size s) (no:=4) rfl hW hs (by omega) (by omega) (by omega)
 have c1:=h.c.c1
 obtain⟨x,hx⟩:∃ x,outR numU (bl b) 0 s=x:=⟨_,rfl⟩
 obtain⟨s',hs'⟩:∃ s',nextR numU (bl b) s=s':=⟨_,rfl⟩
 rw[hx] at hsm hnum ⊢
 rw[hs'] at hnum hfail ⊢
 have HF:Hid _:=hfail
 generalize stA b.size s=a at *
 clear hfail e1 e2 hx hs' h
 by_cases q1:x<lo
 ·rw[if_pos (.inl q1),if_pos (.inl q1)]
  have g1:(x:Int)<lo:=by omega
  go_enter Tryz.func104,Tryz.ntmps104
  go_wp2_with fail
  refine hnum.mono ?_
  rintro ee w1 ⟨rfl,K1,F1⟩
  go_wp2_with fail
  refine (HF.out _ K1).mono ?_
  rintro ee w2 ⟨rfl,K2,F2⟩
  go_wp2
  go_ret
  exact⟨rfl,K2,F1.trans F2⟩
 ·have g1:¬ (x:Int)<lo:=by omega
  by_cases q2:hi<x
  ·rw[if_pos (.inr q2),if_pos (.inr q2)]
   have g2:(hi:Int)<x:=by omega
   go_enter Tryz.func104,Tryz.ntmps104
   go_wp2_with fail
   refine hnum.mono ?_
   rintro ee w1 ⟨rfl,K1,F1⟩
   go_wp2_with fail
   refine (HF.out _ K1).mono ?_
   rintro ee w2 ⟨rfl,K2,F2⟩
   go_wp2
   go_ret
   exact⟨rfl,K2,F1.trans F2⟩
  ·have q3:¬ (x<lo∨hi<x):=by omega
   rw[if_neg q3,if_neg q3]
   have g2:¬ (hi:Int)<x:=by omega
   go_enter Tryz.func104,Tryz.ntmps104
   go_wp2_with fail
   refine hnum.mono ?_
   rintro ee w1 ⟨rfl,K1,F1⟩
   go_wp2
   go_ret
   exact⟨rfl,K1,F1⟩
end Go.Proofs.YtclkgoigmgkffaaGreatDoor
namespace Go.Proofs
open Go.Shelf
def Tryz.lays169_ren:Go.Shelf.Ren:=⟨fun | 169=>197 | n=>n,fun | 70=>295 | 9=>9 | 0=>0 | 72=>297 | 37=>129 | 127=>331 | 3=>3 | 5=>5 | n=>n,fun | n=>n⟩
theorem Tryz.lays169:Go.Proofs.Lays.n169 Tryz.prog Tryz.lays169_ren:={
 mixed:=by kernel_rfl
 f169:=Tryz.func197.trans (congrArg some (by kernel_rfl))
 t0:=Tryz.underlying0
 a0:=Tryz.isAgg0
 z0:=Tryz.sizeOf0
 v0:=Tryz.zeroValue0
 t3:=Tryz.underlying3
 a3:=Tryz.isAgg3
 z3:=Tryz.sizeOf3
 v3:=Tryz.zeroValue3
 t9:=Tryz.underlying9
 a9:=Tryz.isAgg9
 z9:=Tryz.sizeOf9
 v9:=Tryz.zeroValue9
 t37:=Tryz.underlying129
 a37:=Tryz.isAgg129
 z37:=Tryz.sizeOf129
 v37:=Tryz.zeroValue129
 t70:=Tryz.underlying295
 a70:=Tryz.isAgg295
 z70:=Tryz.sizeOf295
 v70:=Tryz.zeroValue295
 t72:=Tryz.underlying297
 a72:=Tryz.isAgg297
 z72:=Tryz.sizeOf297
 v72:=Tryz.zeroValue297
 t127:=Tryz.underlying331
 a127:=Tryz.isAgg331
 z127:=Tryz.sizeOf331
 v127:=Tryz.zeroValue331 }
theorem Tryz.Builder_Extra_169:Builder.Extra Tryz.prog Tryz.lays169_ren:={
 sizeBuilder:=by kernel_rfl
 liesBuilder:=by kernel_rfl
 t5:=Tryz.underlying5
 a5:=Tryz.isAgg5
 z5:=Tryz.sizeOf5
 v5:=Tryz.zeroValue5
 infoByte:=by kernel_rfl
 cellsByte:=by kernel_rfl
 sizeByte:=by kernel_rfl
 neB5:=by decide }
open Go.RowKit in
open Go.RowKit in
open Go.RowKit in
open Go.RowKit in
open Go.RowKit in
open Go.RowKit in
open Go.RowKit in
open Go.RowKit in
open Go.RowKit in
theorem Tryz.Builder_String_any_k (B b:Nat) (l:List UInt8) (w:World) (h:Lib.IsBuilderF 297 5 B b (Lib.byteCells l) w) (hBw:B≤w.heap.size) :
  Calls Tryz.prog 197 #[.pointer (some ⟨b,0,none⟩)] w fun e w'=>e=.returned (.string ⟨l.toArray⟩)∧(Lib.IsBuilderF 297 5 B b (Lib.byteCells l) w'∧Below B w w'∧Lib.OthersKept 5 (some b) w w'):=Any.Builder_String_any_k Tryz.lays169 Tryz.Builder_Extra_169 B b l w h hBw
def Tryz.laysM316_ren:Go.Shelf.Ren:=⟨fun | 316=>227 | n=>n,fun | 9=>9 | 3=>3 | 4=>4 | 37=>129 | 0=>0 | 127=>331 | 5=>5 | n=>n,fun | n=>n⟩
theorem Tryz.laysM316:Go.Proofs.LaysM.n316 Tryz.prog Tryz.laysM316_ren:={
 mixed:=by kernel_rfl
 f316:=Tryz.func227.trans (congrArg some (by kernel_rfl))
 t0:=Tryz.underlying0
 a0:=Tryz.isAgg0
 z0:=Tryz.sizeOf0
 v0:=Tryz.zeroValue0
 t3:=Tryz.underlying3
 a3:=Tryz.isAgg3
 z3:=Tryz.sizeOf3
 v3:=Tryz.zeroValue3
 t4:=Tryz.underlying4
 a4:=Tryz.isAgg4
 z4:=Tryz.sizeOf4
 v4:=Tryz.zeroValue4
 t9:=Tryz.underlying9
 a9:=Tryz.isAgg9
 z9:=Tryz.sizeOf9
 v9:=Tryz.zeroValue9
 t37:=Tryz.underlying129
 a37:=Tryz.isAgg129
 z37:=Tryz.sizeOf129
 v37:=Tryz.zeroValue129
 t127:=Tryz.underlying331
 a127:=Tryz.isAgg331
 z127:=Tryz.sizeOf331
 v127:=Tryz.zeroValue331
 t5:=Tryz.underlying5
 a5:=Tryz.isAgg5
 z5:=Tryz.sizeOf5
 v5:=Tryz.zeroValue5
 i0:=by kernel_rfl
 i3:=by kernel_rfl
 i4:=by kernel_rfl
 i5:=by kernel_rfl
 i9:=by kernel_rfl
 i37:=by kernel_rfl
 i127:=by kernel_rfl }
open Go.RowKit in
theorem Tryz.stringslite_Clone (s:ByteArray) (w:World) (hlim:s.size≤281474976710656) :
  Calls Tryz.prog 227 #[.string s] w fun e w'=>e=.returned (.string s)∧Below w.heap.size w w':=Any.stringslite_Clone Tryz.laysM316 s w hlim
end Go.Proofs
