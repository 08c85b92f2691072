/-
  Texts Ik Iq.
-/
import Derived.Laws.OwnMore
import Derived.Deep.LoopGhost
import Derived.Test.YtgpamchpeamnfaaGreatDoorMA
import Derived.Test.YtgpamchpeamnfaaGreatDoorM17
import Derived.Test.YtgpamchpeamnfaaGreatDoorM12
import Derived.Test.YtgpamchpeamnfaaGreatDoorM16
set_option linter.unusedSimpArgs false
set_option linter.unusedVariables false
set_option maxRecDepth 100000
set_option maxHeartbeats 40000000
open _root_.Go.Proofs.Tryz
namespace Go.Proofs.YtgpamchpeamnfaaGreatDoor
open Go.RowKit
open Wire Flow Mach
theorem aVg:(prog.info? 4).map (fun i=>(i.zero,i.size,i.bytes))=some (some (.bool false),1,1):=by kernel_rfl
theorem aNy (n:Nat)(hn:n≤100000)(W:World):(Instr.makeSlice 108 (.int .i64 (n:Int)) (.int .i64 (n:Int))).run prog W=.ok (.slice (some ⟨W.heap.size,0,none⟩) n n) (W.alloc (.cells (madeCells #[.bool false] n) 4)):=by
 obtain⟨i0,hi,hz0,hz1,hz2⟩:=info_parts aVg
 have:=run_make (P:=prog) W 108 4 i0 (.bool false) underlying108 hi hz0 .i64 .i64 n n (by omega) (by omega) (by rw[hz2];omega) (by omega)
 simp only[Int.toNat_natCast,hz1,Nat.mul_one] at this
 exact this
theorem bBp (n:Nat)(hn:n≤100000)(W:World):(Instr.makeSlice 22 (.int .i64 (n:Int)) (.int .i64 (n:Int))).run prog W=.ok (.slice (some ⟨W.heap.size,0,none⟩) n n) (W.alloc (.cells (madeCells #[.string ⟨#[]⟩] n) 9)):=by
 obtain⟨i0,hi,hz0,hz1,hz2⟩:=info_parts Q8
 have:=run_make (P:=prog) W 22 9 i0 (.string ⟨#[]⟩) underlying22 hi hz0 .i64 .i64 n n (by omega) (by omega) (by rw[hz2];omega) (by omega)
 simp only[Int.toNat_natCast,hz1,Nat.mul_one] at this
 exact this
theorem D2 (W:World)(z:Value)(n:Nat)(t:TypeId)(k:Nat)(hk:k<n):(W.alloc (.cells (madeCells #[z] n) t)).cell? ⟨W.heap.size,k,none⟩=some z:=by
 unfold World.cell?
 rw[wan]
 show (madeCells #[z] n)[k]?=some z
 rw[← Array.getElem?_toList,toList_madeCells_one,List.getElem?_replicate,if_pos hk]
theorem oM (W:World)(o:Array Value)(t:TypeId)(k:Nat):(W.alloc (.cells o t)).frozen? ⟨W.heap.size,k,none⟩=false:=by
 unfold World.frozen?
 rw[wan]
 simp
def aWv (par:Nat→Nat) (l:List Stp) (W4:World) (gb hb sb:Nat) (gk:Nat) (b:Bool) (W:World):Prop:=
 Fr [gb,hb,sb] W4 W∧(b=false→¬ Flow.Safe par l)∧(b=true→∃ G c,kK W gb hb sb G c∧Low par l G∧G[0]?=some (some [])∧(c=false→∀ i,i<l.length→oH par l G i)∧2*left G+c.toNat≤gk)
def yO (par:Nat→Nat) (l:List Stp) (W4:World) (gb hb sb:Nat) (G0:List (Option (List UInt8))) (i:Nat) (b:Bool) (W:World):Prop:=
 Fr [gb,hb,sb] W4 W∧(b=false→¬ Flow.Safe par l)∧(b=true→∃ G c,kK W gb hb sb G c∧Low par l G∧G[0]?=some (some [])∧((c=false∧G=G0∧∀ j,j<i→oH par l G0 j)∨(c=true∧left G<left G0)))
theorem yO.stop {par:Nat→Nat}{l:List Stp}{W4 W:World}{gb hb sb i gk:Nat}{G0:List (Option (List UInt8))}{b:Bool} (h:yO par l W4 gb hb sb G0 i b W) (he:b=true→i=l.length) (hg:2*left G0+1≤gk):∃ gk',gk'<gk∧aWv par l W4 gb hb sb gk' b W:=by
 obtain⟨h1,h2,h3⟩:=h
 cases b with
 | false=>exact⟨0,by omega,h1,h2,fun h=>(by cases h)⟩
 | true=>
  obtain⟨G,c,K,L,Z,h4⟩:=h3 rfl
  have he:=he rfl
  rcases h4 with ⟨rfl,rfl,hd⟩ | ⟨rfl,hl⟩
  ·exact⟨2*left G,by omega,h1,h2,fun _=>⟨G,false,K,L,Z,fun _ j hj=>hd j (by omega),by simp⟩⟩
  ·exact⟨2*left G+1,by omega,h1,h2,fun _=>⟨G,true,K,L,Z,fun h=>(by cases h),by simp⟩⟩
theorem yO.pass {par:Nat→Nat}{l:List Stp}{W4 W W':World}{gb hb sb i:Nat}{G0 G1:List (Option (List UInt8))}{c:Bool}{e:Ending} (F:Fr [gb,hb,sb] W4 W)
  (hD:(c=false∧G1=G0∧∀ j,j<i→oH par l G0 j)∨(c=true∧left G1<left G0)) (hP:jG par l W gb hb sb G1 c i e W'):∃ b,e=.returned (.bool b)∧yO par l W4 gb hb sb G0 (i+1) b W':=by
 unfold jG at hP
 obtain⟨F6,hP⟩:=hP
 rcases hP with ⟨rfl,hS⟩ | ⟨rfl,G',c',K,L,Z,h⟩
 ·exact⟨false,rfl,F.trans F6,fun _=>hS,fun h=>(by cases h)⟩
 ·refine⟨true,rfl,F.trans F6,fun h=>(by cases h),fun _=>⟨G',c',K,L,Z,?_⟩⟩
  rcases h with ⟨rfl,rfl,hd⟩ | ⟨rfl,hl⟩
  ·rcases hD with ⟨rfl,rfl,hd0⟩ | ⟨rfl,hl0⟩
   ·left
    refine⟨rfl,rfl,fun j hj=>?_⟩
    by_cases ej:j=i
    ·subst ej;exact hd
    ·exact hd0 j (by omega)
   ·exact .inr ⟨rfl,hl0⟩
  ·right
   refine⟨rfl,?_⟩
   rcases hD with ⟨-,rfl,-⟩ | ⟨-,hl0⟩
   ·exact hl
   ·omega
theorem yO.skip {par:Nat→Nat}{l:List Stp}{W4 W:World}{gb hb sb i:Nat}{G0 G1:List (Option (List UInt8))}{c:Bool} (F:Fr [gb,hb,sb] W4 W) (K:kK W gb hb sb G1 c) (L:Low par l G1) (Z:G1[0]?=some (some []))
  (hD:(c=false∧G1=G0∧∀ j,j<i→oH par l G0 j)∨(c=true∧left G1<left G0)) (hx:G1[i]?=some none):yO par l W4 gb hb sb G0 (i+1) true W:=by
 refine⟨F,fun h=>(by cases h),fun _=>⟨G1,c,K,L,Z,?_⟩⟩
 rcases hD with ⟨rfl,rfl,hd0⟩ | ⟨rfl,hl0⟩
 ·left
  refine⟨rfl,rfl,fun j hj=>?_⟩
  by_cases ej:j=i
  ·subst ej;exact oH.of_none hx
  ·exact hd0 j (by omega)
 ·exact .inr ⟨rfl,hl0⟩
theorem kK.reset {W:World}{gb hb sb:Nat}{G:List (Option (List UInt8))}{c:Bool} (h:kK W gb hb sb G c):kK (W.setCell ⟨gb,2,none⟩ (.bool false)) gb hb sb G false:=
 ⟨(aA (by decide)).trans h.c0,(aA (by decide)).trans h.c1,World.cell?_setCell_same' _ _ _ (by rw[h.c2];rfl),fun i x hi=>(aQ h.n1).trans (h.ch i x hi),fun i x hi=>by
  obtain⟨s,hs,hx⟩:=h.cs i x hi
  exact⟨s,(aQ h.n2).trans hs,hx⟩,fun i=>by rw[wfz];exact h.zg i,fun i=>by rw[wfz];exact h.zh i,fun i=>by rw[wfz];exact h.zs i,h.n1,h.n2,h.n3,h.le,h.hi⟩
theorem S9 {W:World}{gb hb sb n:Nat} (c0:W.cell? ⟨gb,0,none⟩=some (.slice (some ⟨hb,0,none⟩) n n)) (c1:W.cell? ⟨gb,1,none⟩=some (.slice (some ⟨sb,0,none⟩) n n)) (c2:W.cell? ⟨gb,2,none⟩=some (.bool false))
  (ch:∀ i,i<n→W.cell? ⟨hb,i,none⟩=some (.bool false)) (cs:∀ i,i<n→W.cell? ⟨sb,i,none⟩=some (.string ⟨#[]⟩)) (zg:∀ i,W.frozen? ⟨gb,i,none⟩=false) (zh:∀ i,W.frozen? ⟨hb,i,none⟩=false) (zs:∀ i,W.frozen? ⟨sb,i,none⟩=false)
  (n1:gb≠hb) (n2:gb≠sb) (n3:hb≠sb) (hn:n≤1000000):kK W gb hb sb (List.replicate n none) false:=by
 have hg:∀ (i:Nat) (x:Option (List UInt8)),(List.replicate n (none:Option (List UInt8)))[i]?=some x→x=none∧i<n:=fun i x h=>by
  rw[List.getElem?_replicate] at h
  split at h
  ·cases h;exact⟨rfl,by assumption⟩
  ·cases h
 refine⟨by simpa using c0,by simpa using c1,c2,fun i x h=>?_,fun i x h=>?_,zg,zh,zs,n1,n2,n3,by simpa using hn,fun i t h=>?_⟩
 ·obtain⟨rfl,h2⟩:=hg i x h;exact ch i h2
 ·obtain⟨rfl,h2⟩:=hg i x h;exact⟨_,cs i h2,fun t ht=>(by cases ht)⟩
 ·obtain⟨h1,h2⟩:=hg i _ h;cases h1
theorem aBb {n:Nat}(h:0<n):laid (List.replicate n (none:Option (List UInt8))) 0 []≠List.replicate n none:=fun e=>by
 have h0:(List.replicate n (none:Option (List UInt8)))[0]?=some none:=by rw[List.getElem?_replicate,if_pos h]
 rw[Q0 h0] at e
 have e2:=congrArg (fun l=>l[0]?) e
 simp only[List.getElem?_set,if_true,List.length_replicate,h,h0] at e2
 cases e2
theorem tF {n:Nat}(h:0<n):(laid (List.replicate n (none:Option (List UInt8))) 0 [])[0]?=some (some []):=by
 have h0:(List.replicate n (none:Option (List UInt8)))[0]?=some none:=by rw[List.getElem?_replicate,if_pos h]
 rw[Q0 h0]
 simp[h]
theorem aKp (w:World)(mv lv:Value)(m:Mo)(l:List Stp)(hT:nQ w)(hM:eR w mv m)(hF:aOs m)(hL:sN w lv l)(hn:l.length≤100000)(hok:∀ s ∈ l,uA m s) :
  Calls prog 36 #[mv,lv] w fun e w'=>∃ b,e=.returned (.bool b)∧(b=true↔Flow.Safe (bD m) l)∧Fr [] w w':=by
 have hm:prog.follows Departure.mixedOrders=true:=by kernel_rfl
 have hM0:=hM
 have hL0:=hL
 obtain⟨tv,pv,fv,rfl,h1,h2,h3⟩:=hM.is
 obtain⟨a0,cap,g,off,rfl,hc,hx0,hx⟩:=hL
 obtain⟨n,hln⟩:=eX (l.length)
 have HH:Hid _:=AI hT (AI hM0 (AI hL0 (AI hF hok)))
 clear hT hM0 hL0 hF hok h1 h2 h3 hx hx0 hM
 rw[hln] at hn hc ⊢
 have gn:(n:Int)≤100000:=by omega
 have HL:Hid _:=hln
 clear hln
 have hmk1:=aNy n hn
 have hmk2:=bBp n hn
 go_enter func36,ntmps36
 go_wp2
 go_region
 ·clear hmk1 hmk2
  obtain⟨w1,hw1⟩:=eX (w.alloc (.cells #[tv,pv,.int .i64 m.globs,.int .i64 m.arrs,fv] 25))
  obtain⟨w2,hw2⟩:=eX (w1.alloc (.cells (madeCells #[.bool false] n) 4))
  obtain⟨w3,hw3⟩:=eX (w2.alloc (.cells (madeCells #[.string ⟨#[]⟩] n) 9))
  obtain⟨W4,hW4⟩:=eX ((w3.alloc (.cells #[.slice (some ⟨w.heap.size+1,0,none⟩) n n,.slice (some ⟨w.heap.size+1+1,0,none⟩) n n,.bool false] 110)).drew)
  have s1:w1.heap.size=w.heap.size+1:=by rw[← hw1];simp
  have s2:w2.heap.size=w.heap.size+1+1:=by rw[← hw2];simp[s1]
  have s3:w3.heap.size=w.heap.size+1+1+1:=by rw[← hw3];simp[s2]
  have f01:Fr [] w w1:=by rw[← hw1];exact (Fr.refl [] w).alloc _
  have f12:Fr [] w1 w2:=by rw[← hw2];exact (Fr.refl [] w1).alloc _
  have f23:Fr [] w2 w3:=by rw[← hw3];exact (Fr.refl [] w2).alloc _
  have f34:Fr [] w3 W4:=by rw[← hW4];exact ((Fr.refl [] w3).alloc _).drew
  have F04:Fr [] w W4:=((f01.trans f12).trans f23).trans f34
  have s4:W4.heap.size=w.heap.size+1+1+1+1:=by rw[← hW4];simp[s3]
  have mB:∀ i v,(#[tv,pv,.int .i64 m.globs,.int .i64 m.arrs,fv]:Array Value)[i]?=some v→W4.cell? ⟨w.heap.size,i,none⟩=some v:=fun i v hv=>by
   refine (((f12.trans f23).trans f34).cell (p:=⟨w.heap.size,i,none⟩) (by simp only;omega) (by simp)).trans ?_
   rw[← hw1]
   unfold World.cell?
   rw[wan]
   exact hv
  have gB:∀ i v,(#[.slice (some ⟨w.heap.size+1,0,none⟩) n n,.slice (some ⟨w.heap.size+1+1,0,none⟩) n n,.bool false]:Array Value)[i]?=some v→W4.cell? ⟨w.heap.size+1+1+1,i,none⟩=some v:=fun i v hv=>by
   rw[← hW4,← s3]
   show (w3.alloc _).cell? _=_
   unfold World.cell?
   rw[wan]
   exact hv
  have ch:∀ i,i<n→W4.cell? ⟨w.heap.size+1,i,none⟩=some (.bool false):=fun i hi=>by
   refine ((f23.trans f34).cell (p:=⟨w.heap.size+1,i,none⟩) (by simp only;omega) (by simp)).trans ?_
   rw[← hw2,← s1]
   exact D2 w1 _ n _ i hi
  have zh:∀ i,W4.frozen? ⟨w.heap.size+1,i,none⟩=false:=fun i=>by
   refine ((f23.trans f34).frozen (p:=⟨w.heap.size+1,i,none⟩) (by simp only;omega) (by simp)).trans ?_
   rw[← hw2,← s1]
   exact oM w1 _ _ i
  have cs:∀ i,i<n→W4.cell? ⟨w.heap.size+1+1,i,none⟩=some (.string ⟨#[]⟩):=fun i hi=>by
   refine (f34.cell (p:=⟨w.heap.size+1+1,i,none⟩) (by simp only;omega) (by simp)).trans ?_
   rw[← hw3,← s2]
   exact D2 w2 _ n _ i hi
  have zs:∀ i,W4.frozen? ⟨w.heap.size+1+1,i,none⟩=false:=fun i=>by
   refine (f34.frozen (p:=⟨w.heap.size+1+1,i,none⟩) (by simp only;omega) (by simp)).trans ?_
   rw[← hw3,← s2]
   exact oM w2 _ _ i
  have zg:∀ i,W4.frozen? ⟨w.heap.size+1+1+1,i,none⟩=false:=fun i=>by
   rw[← hW4,← s3]
   exact oM w3 _ _ i
  have K4:=S9 (gB 0 _ rfl) (gB 1 _ rfl) (gB 2 _ rfl) ch cs zg zh zs (by omega) (by omega) (by omega) (by omega)
  rw[hw1,hw2,hw3,hW4]
  clear hw1 hw2 hw3 hW4 s1 s2 s3 f01 f12 f23 f34 ch cs zg zh zs gB
  generalize hgb:w.heap.size+1+1+1=gb at K4 ⊢
  generalize h22:w.heap.size+1+1=sb at K4 ⊢
  generalize h11:w.heap.size+1=hb at K4 ⊢
  have HB:Hid _:=AI (show w.heap.size≤gb by omega) (AI (show w.heap.size≤hb by omega) (AI (show w.heap.size≤sb by omega) (show w.heap.size≠gb∧w.heap.size≠hb∧w.heap.size≠sb∧gb<W4.heap.size∧hb<W4.heap.size∧sb<W4.heap.size by omega)))
  clear hgb h22 h11 s4
  have HMod:Hid (∀ W:World,Fr [gb,hb,sb] W4 W→(W.cell? ⟨w.heap.size,0,none⟩=some tv∧W.cell? ⟨w.heap.size,1,none⟩=some pv∧W.cell? ⟨w.heap.size,2,none⟩=some (.int .i64 m.globs)∧W.cell? ⟨w.heap.size,3,none⟩=some (.int .i64 m.arrs)∧W.cell? ⟨w.heap.size,4,none⟩=some fv)):=fun W hW=>by
   obtain⟨-,-,-,q1,q2,q3,-⟩:=HB.out
   have e:∀ i v,W4.cell? ⟨w.heap.size,i,none⟩=some v→W.cell? ⟨w.heap.size,i,none⟩=some v:=fun i v hv=>(hW.cell (p:=⟨w.heap.size,i,none⟩) (aC hv) (by simp only[List.mem_cons,List.not_mem_nil,or_false,not_or];exact⟨q1,q2,q3⟩)).trans hv
   exact⟨e 0 _ (mB 0 _ rfl),e 1 _ (mB 1 _ rfl),e 2 _ (mB 2 _ rfl),e 3 _ (mB 3 _ rfl),e 4 _ (mB 4 _ rfl)⟩
  have HFin:Hid (∀ W:World,Fr [gb,hb,sb] W4 W→Fr [] w W):=fun W hW=>by
   obtain⟨q1,q2,q3,-⟩:=HB.out
   exact F04.trans' hW (fun x hx=>by simp only[List.mem_cons,List.not_mem_nil,or_false] at hx;rcases hx with rfl | rfl | rfl <;> exact .inr (by assumption))
  have HPass:Hid (∀ (W:World) (G:List (Option (List UInt8))) (c:Bool) (i:Nat) (s:Stp) (st:List UInt8),l[i]?=some s→Fr [gb,hb,sb] W4 W→kK W gb hb sb G c→G[i]?=some (some st)→Low (bD m) l G→G[0]?=some (some []) →
    Calls prog 51 #[.pointer (some ⟨gb,0,none⟩),.agg #[tv,pv,.int .i64 m.globs,.int .i64 m.arrs,fv],.slice a0 n cap,.int .i64 i] W fun e w'=>jG (bD m) l W gb hb sb G c i e w'):=fun W G c i s st hs hW K hi L Z=>by
   obtain⟨q1,q2,q3,-⟩:=HB.out
   obtain⟨hT,hM,hL,hF,hok⟩:=HH.out
   rw[HL.out] at hL
   exact aBk w W gb hb sb G c _ _ m l i s st hT hM hF hL (by rw[HL.out];omega) hs (hok s (List.mem_of_getElem? hs)) (HFin.out W hW) q1 q2 q3 K hi L Z
  have hLy:=P8 W4 gb hb sb (List.replicate n none) false 0 [] K4 (by omega) (by simp)
  rw[show wdK []=⟨#[]⟩ from rfl] at hLy
  have HLy:Hid _:=fun (_:Unit)=>hLy
  clear hLy mB K4 F04
  go_wp2_with fail
  refine (HLy.out ()).mono ?_
  rintro e W5 ⟨F5,hLP⟩
  have hO:∃ b gk,e=.returned (.bool b)∧aWv (bD m) l W4 gb hb sb gk b W5:=by
   rcases hLP with ⟨rfl,hno⟩ | ⟨rfl,k,hk,hkl,hkh,K5⟩
   ·refine⟨false,0,rfl,F5,fun _=>?_,fun h=>(by cases h)⟩
    have hl0:l=[]:=by
     rcases hno with hno | ⟨k,hk,t,ht,-⟩
     ·rw[List.length_replicate] at hno
      exact List.length_eq_zero_iff.1 (by rw[HL.out];omega)
     ·rw[List.getElem?_replicate] at ht
      split at ht
      ·cases ht
      ·cases ht
    subst hl0
    exact sE _
   ·obtain rfl:k=0:=by omega
    rw[List.length_replicate] at hkl
    rw[decide_eq_true (aBb hkl),Bool.or_true] at K5
    have hlo:=Low.start (bD m) l
    rw[HL.out] at hlo
    exact⟨true,_,rfl,F5,fun h=>(by cases h),fun _=>⟨_,true,K5,hlo,tF hkl,fun h=>(by cases h),Nat.le_refl _⟩⟩
  obtain⟨b,gk0,rfl,hO⟩:=hO
  have HO:Hid _:=fun (_:Unit)=>hO
  clear hO hLP F5 HLy
  go_wp2
  go_loopg [6] gk0 (fun gk ov wr=>∃ b,ov=.bool b∧aWv (bD m) l W4 gb hb sb gk b wr)
  case atStart=>exact⟨b,rfl,HO.out ()⟩
  case round=>
   clear HO
   obtain⟨b1,rfl,hR⟩:=hrel
   obtain⟨F,hR1,hR2⟩:=hR
   have FE:=HFin.out _ F
   have HF0:Hid _:=F
   cases b1 with
   | false=>
    have HP:Hid _:=hR1 rfl
    clear hR1 hR2 F
    go_wp2
    go_ret
    exact⟨false,rfl,⟨fun h=>(by cases h),fun h=>absurd h HP.out⟩,FE⟩
   | true=>
    obtain⟨G,c,K,L,Z,hD,hgk⟩:=hR2 rfl
    have c2:=K.c2
    have z2:=K.zg 2
    cases c with
    | false=>
     have HP:Hid _:=rZ L.size Z (hD rfl)
     clear hR1 hR2 K L Z hD hgk F
     go_wp2
     go_ret
     exact⟨true,rfl,⟨fun _=>HP.out,fun _=>rfl⟩,FE⟩
    | true=>
     have hstart:yO (bD m) l W4 gb hb sb G 0 true (wr.setCell ⟨gb,2,none⟩ (.bool false)):=⟨F.setCell (p:=⟨gb,2,none⟩) (.inl (by simp)) _,fun h=>(by cases h),fun _=>⟨G,false,K.reset,L,Z,.inl ⟨rfl,rfl,fun j hj=>absurd hj (by omega)⟩⟩⟩
     have HS0:Hid _:=fun (_:Unit)=>hstart
     have HG:Hid (2*left G+1≤gk):=hgk
     clear hR1 hR2 K L Z hD hgk hstart F FE HF0
     go_wp2
     go_loopg [6,7] n (fun q ov iv wr=>∃ b i,ov=.bool b∧iv=.int .i64 (i:Nat)∧i≤n∧q=n-i∧yO (bD m) l W4 gb hb sb G i b wr)
     case atStart=>exact⟨true,0,rfl,rfl,by omega,by omega,HS0.out ()⟩
     case round=>
      clear HS0 c2 z2
      obtain⟨b2,i,rfl,rfl,hi,hq,hR⟩:=hrel
      by_cases hlt:i<n
      ·have g1:(i:Int)<n:=by omega
       cases b2 with
       | false=>
        obtain⟨k',hk',hO'⟩:=hR.stop (fun h=>(by cases h)) HG.out
        have HO':Hid _:=fun (_:Unit)=>AI hk' hO'
        clear hR hk' hO'
        go_wp2
        go_roundg k'
        case measure=>exact (HO'.out ()).1
        case rel=>exact⟨false,rfl,(HO'.out ()).2⟩
       | true=>
        obtain⟨F,-,hT⟩:=hR
        obtain⟨G1,c,K,L,Z,hD⟩:=hT rfl
        have hGl:G1.length=n:=by rw[L.size,HL.out]
        obtain⟨x,hx⟩:∃ x,G1[i]?=some x:=⟨_,Lge (by omega)⟩
        have c0:=K.c0
        rw[hGl] at c0
        have ci:=K.ch i x hx
        obtain⟨m0,m1,m2,m3,m4⟩:=HMod.out _ F
        cases x with
        | none=>
         simp only[Option.isSome_none] at ci
         have HN:Hid _:=fun (_:Unit)=>yO.skip F K L Z hD hx
         clear K L Z hD hx hT F m0 m1 m2 m3 m4 hGl
         go_wp2
         go_roundg (n-(i+1))
         case measure=>omega
         case rel=>exact⟨true,i+1,rfl,by go_num,by omega,rfl,HN.out ()⟩
        | some st=>
         simp only[Option.isSome_some] at ci
         obtain⟨s,hs⟩:∃ s,l[i]?=some s:=⟨_,Lge (by rw[HL.out];omega)⟩
         have HC:Hid _:=fun (_:Unit)=>HPass.out _ G1 c i s st hs F K hx L Z
         have HX:Hid _:=AI F hD
         clear K L Z hD hx hT F hs hGl
         go_wp2_with fail
         refine (HC.out ()).mono ?_
         intro e W6 hP
         obtain⟨b3,rfl,hR'⟩:=yO.pass HX.out.1 HX.out.2 hP
         have HN:Hid _:=fun (_:Unit)=>hR'
         clear hR' hP HC HX c0 ci m0 m1 m2 m3 m4
         go_wp2
         go_roundg (n-(i+1))
         case measure=>omega
         case rel=>exact⟨b3,i+1,rfl,by go_num,by omega,rfl,HN.out ()⟩
      ·obtain rfl:i=n:=by omega
       have g1:¬ (i:Int)<i:=by omega
       obtain⟨k',hk',hO'⟩:=hR.stop (fun _=>HL.out.symm) HG.out
       have HO':Hid _:=fun (_:Unit)=>AI hk' hO'
       clear hR hk' hO'
       go_wp2
       go_roundg k'
       case measure=>exact (HO'.out ()).1
       case rel=>exact⟨b2,rfl,(HO'.out ()).2⟩
 ·clear hmk1 hmk2
  obtain⟨w1,hw1⟩:=eX (w.alloc (.cells #[tv,pv,.int .i64 m.globs,.int .i64 m.arrs,fv] 25))
  obtain⟨w2,hw2⟩:=eX (w1.alloc (.cells (madeCells #[.string ⟨#[]⟩] n) 9))
  obtain⟨w3,hw3⟩:=eX (w2.alloc (.cells (madeCells #[.bool false] n) 4))
  obtain⟨W4,hW4⟩:=eX ((w3.alloc (.cells #[.slice (some ⟨w.heap.size+1+1,0,none⟩) n n,.slice (some ⟨w.heap.size+1,0,none⟩) n n,.bool false] 110)).drew)
  have s1:w1.heap.size=w.heap.size+1:=by rw[← hw1];simp
  have s2:w2.heap.size=w.heap.size+1+1:=by rw[← hw2];simp[s1]
  have s3:w3.heap.size=w.heap.size+1+1+1:=by rw[← hw3];simp[s2]
  have f01:Fr [] w w1:=by rw[← hw1];exact (Fr.refl [] w).alloc _
  have f12:Fr [] w1 w2:=by rw[← hw2];exact (Fr.refl [] w1).alloc _
  have f23:Fr [] w2 w3:=by rw[← hw3];exact (Fr.refl [] w2).alloc _
  have f34:Fr [] w3 W4:=by rw[← hW4];exact ((Fr.refl [] w3).alloc _).drew
  have F04:Fr [] w W4:=((f01.trans f12).trans f23).trans f34
  have s4:W4.heap.size=w.heap.size+1+1+1+1:=by rw[← hW4];simp[s3]
  have mB:∀ i v,(#[tv,pv,.int .i64 m.globs,.int .i64 m.arrs,fv]:Array Value)[i]?=some v→W4.cell? ⟨w.heap.size,i,none⟩=some v:=fun i v hv=>by
   refine (((f12.trans f23).trans f34).cell (p:=⟨w.heap.size,i,none⟩) (by simp only;omega) (by simp)).trans ?_
   rw[← hw1]
   unfold World.cell?
   rw[wan]
   exact hv
  have gB:∀ i v,(#[.slice (some ⟨w.heap.size+1+1,0,none⟩) n n,.slice (some ⟨w.heap.size+1,0,none⟩) n n,.bool false]:Array Value)[i]?=some v→W4.cell? ⟨w.heap.size+1+1+1,i,none⟩=some v:=fun i v hv=>by
   rw[← hW4,← s3]
   show (w3.alloc _).cell? _=_
   unfold World.cell?
   rw[wan]
   exact hv
  have cs:∀ i,i<n→W4.cell? ⟨w.heap.size+1,i,none⟩=some (.string ⟨#[]⟩):=fun i hi=>by
   refine ((f23.trans f34).cell (p:=⟨w.heap.size+1,i,none⟩) (by simp only;omega) (by simp)).trans ?_
   rw[← hw2,← s1]
   exact D2 w1 _ n _ i hi
  have zs:∀ i,W4.frozen? ⟨w.heap.size+1,i,none⟩=false:=fun i=>by
   refine ((f23.trans f34).frozen (p:=⟨w.heap.size+1,i,none⟩) (by simp only;omega) (by simp)).trans ?_
   rw[← hw2,← s1]
   exact oM w1 _ _ i
  have ch:∀ i,i<n→W4.cell? ⟨w.heap.size+1+1,i,none⟩=some (.bool false):=fun i hi=>by
   refine (f34.cell (p:=⟨w.heap.size+1+1,i,none⟩) (by simp only;omega) (by simp)).trans ?_
   rw[← hw3,← s2]
   exact D2 w2 _ n _ i hi
  have zh:∀ i,W4.frozen? ⟨w.heap.size+1+1,i,none⟩=false:=fun i=>by
   refine (f34.frozen (p:=⟨w.heap.size+1+1,i,none⟩) (by simp only;omega) (by simp)).trans ?_
   rw[← hw3,← s2]
   exact oM w2 _ _ i
  have zg:∀ i,W4.frozen? ⟨w.heap.size+1+1+1,i,none⟩=false:=fun i=>by
   rw[← hW4,← s3]
   exact oM w3 _ _ i
  have K4:=S9 (gB 0 _ rfl) (gB 1 _ rfl) (gB 2 _ rfl) ch cs zg zh zs (by omega) (by omega) (by omega) (by omega)
  rw[hw1,hw2,hw3,hW4]
  clear hw1 hw2 hw3 hW4 s1 s2 s3 f01 f12 f23 f34 ch cs zg zh zs gB
  generalize hgb:w.heap.size+1+1+1=gb at K4 ⊢
  generalize h22:w.heap.size+1+1=hb at K4 ⊢
  generalize h11:w.heap.size+1=sb at K4 ⊢
  have HB:Hid _:=AI (show w.heap.size≤gb by omega) (AI (show w.heap.size≤hb by omega) (AI (show w.heap.size≤sb by omega) (show w.heap.size≠gb∧w.heap.size≠hb∧w.heap.size≠sb∧gb<W4.heap.size∧hb<W4.heap.size∧sb<W4.heap.size by omega)))
  clear hgb h22 h11 s4
  have HMod:Hid (∀ W:World,Fr [gb,hb,sb] W4 W→(W.cell? ⟨w.heap.size,0,none⟩=some tv∧W.cell? ⟨w.heap.size,1,none⟩=some pv∧W.cell? ⟨w.heap.size,2,none⟩=some (.int .i64 m.globs)∧W.cell? ⟨w.heap.size,3,none⟩=some (.int .i64 m.arrs)∧W.cell? ⟨w.heap.size,4,none⟩=some fv)):=fun W hW=>by
   obtain⟨-,-,-,q1,q2,q3,-⟩:=HB.out
   have e:∀ i v,W4.cell? ⟨w.heap.size,i,none⟩=some v→W.cell? ⟨w.heap.size,i,none⟩=some v:=fun i v hv=>(hW.cell (p:=⟨w.heap.size,i,none⟩) (aC hv) (by simp only[List.mem_cons,List.not_mem_nil,or_false,not_or];exact⟨q1,q2,q3⟩)).trans hv
   exact⟨e 0 _ (mB 0 _ rfl),e 1 _ (mB 1 _ rfl),e 2 _ (mB 2 _ rfl),e 3 _ (mB 3 _ rfl),e 4 _ (mB 4 _ rfl)⟩
  have HFin:Hid (∀ W:World,Fr [gb,hb,sb] W4 W→Fr [] w W):=fun W hW=>by
   obtain⟨q1,q2,q3,-⟩:=HB.out
   exact F04.trans' hW (fun x hx=>by simp only[List.mem_cons,List.not_mem_nil,or_false] at hx;rcases hx with rfl | rfl | rfl <;> exact .inr (by assumption))
  have HPass:Hid (∀ (W:World) (G:List (Option (List UInt8))) (c:Bool) (i:Nat) (s:Stp) (st:List UInt8),l[i]?=some s→Fr [gb,hb,sb] W4 W→kK W gb hb sb G c→G[i]?=some (some st)→Low (bD m) l G→G[0]?=some (some []) →
    Calls prog 51 #[.pointer (some ⟨gb,0,none⟩),.agg #[tv,pv,.int .i64 m.globs,.int .i64 m.arrs,fv],.slice a0 n cap,.int .i64 i] W fun e w'=>jG (bD m) l W gb hb sb G c i e w'):=fun W G c i s st hs hW K hi L Z=>by
   obtain⟨q1,q2,q3,-⟩:=HB.out
   obtain⟨hT,hM,hL,hF,hok⟩:=HH.out
   rw[HL.out] at hL
   exact aBk w W gb hb sb G c _ _ m l i s st hT hM hF hL (by rw[HL.out];omega) hs (hok s (List.mem_of_getElem? hs)) (HFin.out W hW) q1 q2 q3 K hi L Z
  have hLy:=P8 W4 gb hb sb (List.replicate n none) false 0 [] K4 (by omega) (by simp)
  rw[show wdK []=⟨#[]⟩ from rfl] at hLy
  have HLy:Hid _:=fun (_:Unit)=>hLy
  clear hLy mB K4 F04
  go_wp2_with fail
  refine (HLy.out ()).mono ?_
  rintro e W5 ⟨F5,hLP⟩
  have hO:∃ b gk,e=.returned (.bool b)∧aWv (bD m) l W4 gb hb sb gk b W5:=by
   rcases hLP with ⟨rfl,hno⟩ | ⟨rfl,k,hk,hkl,hkh,K5⟩
   ·refine⟨false,0,rfl,F5,fun _=>?_,fun h=>(by cases h)⟩
    have hl0:l=[]:=by
     rcases hno with hno | ⟨k,hk,t,ht,-⟩
     ·rw[List.length_replicate] at hno
      exact List.length_eq_zero_iff.1 (by rw[HL.out];omega)
     ·rw[List.getElem?_replicate] at ht
      split at ht
      ·cases ht
      ·cases ht
    subst hl0
    exact sE _
   ·obtain rfl:k=0:=by omega
    rw[List.length_replicate] at hkl
    rw[decide_eq_true (aBb hkl),Bool.or_true] at K5
    have hlo:=Low.start (bD m) l
    rw[HL.out] at hlo
    exact⟨true,_,rfl,F5,fun h=>(by cases h),fun _=>⟨_,true,K5,hlo,tF hkl,fun h=>(by cases h),Nat.le_refl _⟩⟩
  obtain⟨b,gk0,rfl,hO⟩:=hO
  have HO:Hid _:=fun (_:Unit)=>hO
  clear hO hLP F5 HLy
  go_wp2
  go_loopg [6] gk0 (fun gk ov wr=>∃ b,ov=.bool b∧aWv (bD m) l W4 gb hb sb gk b wr)
  case atStart=>exact⟨b,rfl,HO.out ()⟩
  case round=>
   clear HO
   obtain⟨b1,rfl,hR⟩:=hrel
   obtain⟨F,hR1,hR2⟩:=hR
   have FE:=HFin.out _ F
   have HF0:Hid _:=F
   cases b1 with
   | false=>
    have HP:Hid _:=hR1 rfl
    clear hR1 hR2 F
    go_wp2
    go_ret
    exact⟨false,rfl,⟨fun h=>(by cases h),fun h=>absurd h HP.out⟩,FE⟩
   | true=>
    obtain⟨G,c,K,L,Z,hD,hgk⟩:=hR2 rfl
    have c2:=K.c2
    have z2:=K.zg 2
    cases c with
    | false=>
     have HP:Hid _:=rZ L.size Z (hD rfl)
     clear hR1 hR2 K L Z hD hgk F
     go_wp2
     go_ret
     exact⟨true,rfl,⟨fun _=>HP.out,fun _=>rfl⟩,FE⟩
    | true=>
     have hstart:yO (bD m) l W4 gb hb sb G 0 true (wr.setCell ⟨gb,2,none⟩ (.bool false)):=⟨F.setCell (p:=⟨gb,2,none⟩) (.inl (by simp)) _,fun h=>(by cases h),fun _=>⟨G,false,K.reset,L,Z,.inl ⟨rfl,rfl,fun j hj=>absurd hj (by omega)⟩⟩⟩
     have HS0:Hid _:=fun (_:Unit)=>hstart
     have HG:Hid (2*left G+1≤gk):=hgk
     clear hR1 hR2 K L Z hD hgk hstart F FE HF0
     go_wp2
     go_loopg [6,7] n (fun q ov iv wr=>∃ b i,ov=.bool b∧iv=.int .i64 (i:Nat)∧i≤n∧q=n-i∧yO (bD m) l W4 gb hb sb G i b wr)
     case atStart=>exact⟨true,0,rfl,rfl,by omega,by omega,HS0.out ()⟩
     case round=>
      clear HS0 c2 z2
      obtain⟨b2,i,rfl,rfl,hi,hq,hR⟩:=hrel
      by_cases hlt:i<n
      ·have g1:(i:Int)<n:=by omega
       cases b2 with
       | false=>
        obtain⟨k',hk',hO'⟩:=hR.stop (fun h=>(by cases h)) HG.out
        have HO':Hid _:=fun (_:Unit)=>AI hk' hO'
        clear hR hk' hO'
        go_wp2
        go_roundg k'
        case measure=>exact (HO'.out ()).1
        case rel=>exact⟨false,rfl,(HO'.out ()).2⟩
       | true=>
        obtain⟨F,-,hT⟩:=hR
        obtain⟨G1,c,K,L,Z,hD⟩:=hT rfl
        have hGl:G1.length=n:=by rw[L.size,HL.out]
        obtain⟨x,hx⟩:∃ x,G1[i]?=some x:=⟨_,Lge (by omega)⟩
        have c0:=K.c0
        rw[hGl] at c0
        have ci:=K.ch i x hx
        obtain⟨m0,m1,m2,m3,m4⟩:=HMod.out _ F
        cases x with
        | none=>
         simp only[Option.isSome_none] at ci
         have HN:Hid _:=fun (_:Unit)=>yO.skip F K L Z hD hx
         clear K L Z hD hx hT F m0 m1 m2 m3 m4 hGl
         go_wp2
         go_roundg (n-(i+1))
         case measure=>omega
         case rel=>exact⟨true,i+1,rfl,by go_num,by omega,rfl,HN.out ()⟩
        | some st=>
         simp only[Option.isSome_some] at ci
         obtain⟨s,hs⟩:∃ s,l[i]?=some s:=⟨_,Lge (by rw[HL.out];omega)⟩
         have HC:Hid _:=fun (_:Unit)=>HPass.out _ G1 c i s st hs F K hx L Z
         have HX:Hid _:=AI F hD
         clear K L Z hD hx hT F hs hGl
         go_wp2_with fail
         refine (HC.out ()).mono ?_
         intro e W6 hP
         obtain⟨b3,rfl,hR'⟩:=yO.pass HX.out.1 HX.out.2 hP
         have HN:Hid _:=fun (_:Unit)=>hR'
         clear hR' hP HC HX c0 ci m0 m1 m2 m3 m4
         go_wp2
         go_roundg (n-(i+1))
         case measure=>omega
         case rel=>exact⟨b3,i+1,rfl,by go_num,by omega,rfl,HN.out ()⟩
      ·obtain rfl:i=n:=by omega
       have g1:¬ (i:Int)<i:=by omega
       obtain⟨k',hk',hO'⟩:=hR.stop (fun _=>HL.out.symm) HG.out
       have HO':Hid _:=fun (_:Unit)=>AI hk' hO'
       clear hR hk' hO'
       go_wp2
       go_roundg k'
       case measure=>exact (HO'.out ()).1
       case rel=>exact⟨b2,rfl,(HO'.out ()).2⟩
theorem aDm {m:Mo}{locs:Nat}{c:List UInt8}{sort i n j:Nat} (h:Flow.eX m locs c sort i=some (n,j)):n<34359738368:=by
 unfold Flow.eX at h
 split at h
 ·cases h
 ·rename_i n' r hn
  split at h
  ·simp only[Option.some.injEq,Prod.mk.injEq] at h
   obtain⟨rfl,rfl⟩:=h
   exact (iG hn).2
  ·cases h
theorem aMc {m:Mo}{f locs:Nat}{c:List UInt8}{i:Nat}{s:Stp} (h:bH m f locs c i=.inr s):uA m s:=by
 unfold bH at h
 split at h
 ·rename_i hm
  have h54:=pG hm
  split at h
  ·rename_i hz
   simp only[Sum.inr.injEq] at h
   subst h
   refine⟨h54,fun e=>?_,fun e=>?_,by simp⟩
   ·simp only at e;rw[e] at hz;exact absurd hz (by decide)
   ·simp only at e;rw[e] at hz;exact absurd hz (by decide)
  ·split at h
   ·cases h
   ·rename_i n j hop
    have h1:=kC hop
    have h2:=aDm hop
    have key:∀ k b,uA m ⟨i,k,(c.getD i 0).toNat,n,b⟩:=fun k b=>by
     refine⟨h54,fun e=>?_,fun e=>?_,by simp only;omega⟩
     ·simp only at e
      rw[e] at h1
      have h3:=h1.2.2
      unfold nF at h3
      simp only[Bool.and_eq_true,decide_eq_true_eq] at h3
      have h4:=h3.2
      rw[show dH.getD 44 0=8 from rfl] at h4
      simp only[eZ] at h4
      simp only[Nat.reduceEqDiff,if_true,if_false] at h4
      simp only
      omega
     ·simp only at e
      rw[e] at h1
      have h3:=h1.2.2
      unfold nF at h3
      simp only[Bool.and_eq_true,decide_eq_true_eq] at h3
      have h4:=h3.2
      rw[show dH.getD 50 0=9 from rfl] at h4
      simp only[eZ] at h4
      simp only[Nat.reduceEqDiff,if_true,if_false] at h4
      exact h4
    split at h
    ·split at h
     ·cases h
     ·simp only[Sum.inr.injEq] at h
      subst h
      exact key _ _
    ·simp only[Sum.inr.injEq] at h
     subst h
     exact key _ _
 ·cases h
theorem dT.ok {m:Mo}{f locs:Nat}{c:List UInt8}{i j:Nat}{l:List Stp} (h:dT m f locs c i l j):∀ s ∈ l,uA m s:=by
 induction l generalizing i with
 | nil=>intro s hs;cases hs
 | cons a l ih=>
  intro s hs
  rcases List.mem_cons.1 hs with rfl | hs
  ·exact aMc h.2.1
  ·exact ih h.2.2 s hs
theorem dT.pls {m:Mo}{f locs:Nat}{c:List UInt8}{i j:Nat}{l:List Stp} (h:dT m f locs c i l j):∀ s ∈ l,s.pl<c.length:=by
 induction l generalizing i with
 | nil=>intro s hs;cases hs
 | cons a l ih=>
  intro s hs
  rcases List.mem_cons.1 hs with rfl | hs
  ·have:=(cW h.1 h.2.1).1
   have:=h.1
   omega
  ·exact ih h.2.2 s hs
def bIr (m:Mo) (f L:Nat) (c:ByteArray) (w:World) (e:Ending) (w':World):Prop:=
 Fr [] w w'∧∃ p x:Nat,e=.returned (.tuple #[.int .i64 p,.int .i64 x])∧sO (bD m) m f L (bl c) p x∧p≤20000∧x≤20
theorem yI (mv:Value)(m:Mo)(w:World)(f:Nat)(x:Wire.Fn)(hT:nQ w)(hT2:pY w)(hM:eR w mv m)(hMo:A9 m)(hx:m.fns[f]?=some x) :
  Calls prog 15 #[mv,.int .i64 f] w (bIr m f x.locs.toNat x.code w):=by
 have hst:=fun (W:World) (hW:Fr [] w W)=>aKm mv m W f x (hT2.fr hW) (hM.fr hW) hMo hx
 have hsnd:=fun (W:World) (hW:Fr [] w W) (lv:Value) (l:List Stp) (hL:sN W lv l) (hn:l.length≤100000) (hok:∀ s ∈ l,uA m s)=>aKp W mv lv m l (hT.fr hW) (hM.fr hW) hMo.f hL hn hok
 obtain⟨tv,pv,fv,rfl,h1,h2,h3⟩:=hM.is
 have hp:=hMo.f.p x (List.mem_of_getElem? hx)
 have hs:x.code.size≤20000:=hp.2.2.2.2
 generalize x.code=c at *
 generalize x.locs.toNat=L at *
 obtain⟨W1,hW1⟩:=eX (w.alloc (.cells #[tv,pv,.int .i64 m.globs,.int .i64 m.arrs,fv] 25))
 have FA:Fr [] w W1:=by rw[← hW1];exact (Fr.refl [] w).alloc _
 have k1:=wan w (.cells #[tv,pv,.int .i64 m.globs,.int .i64 m.arrs,fv] 25)
 rw[hW1] at k1
 have kl:=(Age.1 k1).1
 have hcs:∀ W,Fr [] W1 W→(W.cell? ⟨w.heap.size,0,none⟩=some tv∧W.cell? ⟨w.heap.size,1,none⟩=some pv∧W.cell? ⟨w.heap.size,2,none⟩=some (.int .i64 m.globs)∧W.cell? ⟨w.heap.size,3,none⟩=some (.int .i64 m.arrs)∧W.cell? ⟨w.heap.size,4,none⟩=some fv):=fun W hW=>by
  have e1:∀ j v,(#[tv,pv,.int .i64 m.globs,.int .i64 m.arrs,fv]:Array Value)[j]?=some v→W.cell? ⟨w.heap.size,j,none⟩=some v:=fun j v hv=>by
   unfold World.cell?
   rw[hW.block _ kl (by simp),k1]
   exact hv
  exact⟨e1 0 _ rfl,e1 1 _ rfl,e1 2 _ rfl,e1 3 _ rfl,e1 4 _ rfl⟩
 obtain⟨m0,m1,m2,m3,m4⟩:=hcs W1 (Fr.refl [] W1)
 have HSt:Hid _:=fun (_:Unit)=>hst
 have HSn:Hid _:=fun (_:Unit)=>hsnd
 have HCs:Hid _:=hcs
 have HFA:Hid _:=FA
 clear hst hsnd hcs hT hT2 hM hMo hx h1 h2 h3 hp k1 kl FA
 go_enter func15,ntmps15
 go_wp2_with fail
 refine (HSt.out () W1 HFA.out).mono ?_
 rintro e w2 ⟨F2,(⟨j,y,rfl,hF,y0,y20,hj⟩ | ⟨v,l,rfl,hL,hR⟩)⟩
 ·have q1:((y:Int)==0)=false:=by simp;omega
  have q2:((y:Int)!=0)=true:=by simp;omega
  clear m0 m1 m2 m3 m4
  go_wp2
  go_ret2
  exact⟨HFA.out.trans F2,j,y,rfl,.inl hF,hj,y20⟩
 ·obtain⟨m0',m1',m2',m3',m4'⟩:=HCs.out w2 F2
  clear m0 m1 m2 m3 m4 hW1
  have hle:=dT.le hR (by omega)
  rw[aD] at hle
  have hpl:=dT.pls hR
  rw[aD] at hpl
  have hok:=dT.ok hR
  have HOK:Hid _:=AI hpl hok
  have HNu:Hid _:=fun (a:Nat)=>b9 v l a w2 hL (by omega)
  have hsn:=HSn.out () w2 (HFA.out.trans F2) v l hL (by omega) hok
  have HSd:Hid _:=fun (_:Unit)=>hsn
  have HGo:Hid _:=fun (op:Nat)=>aBw op w2
  have HR:Hid _:=hR
  have HL:=hL
  obtain⟨a0,cap,g,off,rfl,hc,hx0,hx⟩:=HL
  obtain⟨n,hln⟩:=eX (l.length)
  have HX:Hid _:=AI hx (AI hx0 (AI hln F2))
  rw[hln] at hle hc HNu HSd ⊢
  clear hpl hok hsn hR hL hx hx0 hln F2 HSn HCs HSt
  go_wp2
  go_loop [9] (fun i=>∃ k:Nat,i=.int .i64 (k:Nat)∧k≤n∧Hid (dE l l=dE l (l.drop k))) (fun i=>n-(intOf i).toNat)
  case atStart=>exact⟨0,rfl,by omega,rfl⟩
  case round=>
   obtain⟨k,rfl,hk,hB⟩:=hrel
   by_cases hlt:k<n
   ·have g1:(k:Int)<(n:Int):=by omega
    obtain⟨rfl,hgl⟩:=HX.out.2.1 (by rw[HX.out.2.2.1];omega)
    obtain⟨s,hs1⟩:∃ s,l[k]?=some s:=⟨_,Lge (by rw[HX.out.2.2.1];exact hlt)⟩
    have hmem:=List.mem_of_getElem? hs1
    obtain⟨x0,-,x2,x3,-⟩:=HX.out.1 k s hs1
    have hpl:=HOK.out.1 s hmem
    have haa:=(HOK.out.2 s hmem).aa
    have ho54:=(HOK.out.2 s hmem).op
    have hdrop:l.drop k=s :: l.drop (k+1):=by
     rw[List.drop_eq_getElem_cons (by rw[HX.out.2.2.1];exact hlt)]
     congr 1
     exact (Lgs.1 hs1).2
    have hbj:dE l l=if far s.op=true∧dY l s.a=none then some s.pl else dE l (l.drop (k+1)):=by rw[hB.out,hdrop];rfl
    have HBJ:Hid _:=hbj
    clear hdrop hbj hB hs1 hmem HSd m0' m1' m2' m3' m4' HOK hgl
    go_wp2_with fail
    refine (HGo.out s.op).mono ?_
    rintro e w3 ⟨rfl,hw⟩
    replace hw:=hw.symm
    subst hw
    go_wp2_with fail
    refine (HNu.out s.a).mono ?_
    rintro e w3 ⟨rfl,hw⟩
    replace hw:=hw.symm
    subst hw
    clear HGo HNu x2 x3
    cases hf:far s.op with
    | false=>
     have hb2:dE l l=dE l (l.drop (k+1)):=by rw[HBJ.out,if_neg (fun h=>by rw[hf] at h;exact absurd h.1 (by decide))]
     have HB2:Hid _:=hb2
     clear hb2 HBJ hf
     generalize qG (dY l s.a)=q
     go_wp2
     refine⟨⟨k+1,by go_num,by omega,HB2⟩,?_⟩
     simp[intOf]
     omega
    | true=>
     cases hq:dY l s.a with
     | none=>
      have hb2:dE l l=some s.pl:=by rw[HBJ.out,if_pos ⟨hf,hq⟩]
      have HB2:Hid _:=hb2
      simp only[qG]
      clear hb2 HBJ hf hq
      go_wp2
      go_ret2
      exact⟨HFA.out.trans HX.out.2.2.2,s.pl,11,rfl,.inr ⟨l,HR.out,.inl ⟨_,HB2.out,rfl,rfl⟩⟩,by omega,by omega⟩
     | some q=>
      have hb2:dE l l=dE l (l.drop (k+1)):=by rw[HBJ.out,if_neg (fun h=>by rw[hq] at h;cases h.2)]
      have HB2:Hid _:=hb2
      have hq2:=uN hq
      rw[HX.out.2.2.1] at hq2
      simp only[qG]
      have g5:¬ (q:Int)<0:=by omega
      clear hb2 HBJ hf hq
      go_wp2
      refine⟨⟨k+1,by go_num,by omega,HB2⟩,?_⟩
      simp[intOf]
      omega
   ·have g1:¬ (k:Int)<(n:Int):=by omega
    have hb2:dE l l=none:=by
     rw[hB.out,List.drop_eq_nil_of_le (by rw[HX.out.2.2.1];omega)]
     rfl
    have HB2:Hid _:=hb2
    clear hb2 hB HGo HNu
    go_wp2_with fail
    refine (HSd.out ()).mono ?_
    rintro e w3 ⟨b,rfl,hb,F3⟩
    clear m0' m1' m2' m3' m4'
    cases b with
    | false=>
     go_wp2
     go_ret2
     exact⟨(HFA.out.trans HX.out.2.2.2).trans F3,0,12,rfl,.inr ⟨l,HR.out,.inr ⟨HB2.out,rfl,.inr ⟨fun h=>absurd (hb.2 h) (by decide),rfl⟩⟩⟩,by omega,by omega⟩
    | true=>
     go_wp2
     go_ret2
     exact⟨(HFA.out.trans HX.out.2.2.2).trans F3,0,0,rfl,.inr ⟨l,HR.out,.inr ⟨HB2.out,rfl,.inl ⟨hb.1 trivial,rfl⟩⟩⟩,by omega,by omega⟩
end Go.Proofs.YtgpamchpeamnfaaGreatDoor
