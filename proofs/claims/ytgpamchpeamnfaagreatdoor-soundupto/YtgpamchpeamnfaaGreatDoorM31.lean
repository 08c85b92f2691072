/-
  Texts Ed Ee.
-/
import Derived.Deep.RegionHeld
import Derived.Deep.OwnRows
import Derived.Test.YtgpamchpeamnfaaGreatDoorMA
import Derived.Test.YtgpamchpeamnfaaGreatDoorM00
import Derived.Test.YtgpamchpeamnfaaGreatDoorM30
import Derived.Test.YtgpamchpeamnfaaGreatDoorM05
set_option linter.unusedSimpArgs false
set_option linter.unusedVariables false
set_option maxRecDepth 100000
set_option maxHeartbeats 40000000
open _root_.Go.Proofs.Tryz
namespace Go.Proofs.YtgpamchpeamnfaaGreatDoor
open Go.RowKit
open Wire Flow Mach
theorem ML.met {E:Ev}{ks:List UInt8}{T0:Nat→Nat}{W0 W:World}{bs:List (Nat × Obj)}{k:UInt8} (h:ML E (ks++[k]) T0 W0 bs W):Flow.Met k:=by
 obtain⟨C,s,K,tag,hs,⟨R,sv,h⟩,kp,hb⟩:=h
 obtain⟨-,-,xs,-,h4⟩:=h.top.s
 obtain⟨ys,c,-,-,h5⟩:=h4.pop
 exact h5.1
theorem bBo (E:Ev)(ks o r:List UInt8)(par:Nat→Nat)(op a:Nat)(pl nx b:Int)(tag:Nat→Nat)(W:World)(h:MT E ks tag W)(hst:0≤E.st∧E.st≤9)(h0:op=0→a<2000000001)(h1:op=1→a<E.m.texts.length)(h3:op=3∨op=4→∀ fn,E.m.fns[E.x.f]?=some fn→(a:Int)<fn.locs)(h5:op=5∨op=6→(a:Int)<E.m.globs)(hT:∀ t ∈ E.m.texts,t.size≤1048576)(hop:op=0∨op=1∨op=2∨op=3∨op=4∨op=5∨op=6∨op=45∨op=46∨op=47)(ha:after par op a ks=some (o,r)) :
  Calls prog 38 #[ptr E.X,spV pl nx op a b] W (OpP E o tag W):=by
 obtain⟨top,rfl,hw,rfl,hl⟩:=gU ha
 clear ha
 have hm:prog.follows Departure.mixedOrders=true:=by kernel_rfl
 obtain⟨g,c,g',c',nl,F⟩:=h.fm
 obtain⟨gg,gc,ng,hng,FG⟩:=h.gl
 obtain⟨j,hj⟩:=eX (E.fs.length)
 have hj20:j≤20:=by have:=F.n21;omega
 have hcj:j+1≤c:=by have:=F.le;omega
 rcases hop with rfl | rfl | rfl | rfl | rfl | rfl | rfl | rfl | rfl | rfl
 ·obtain rfl:=jL (show leS top [] from hw)
  rw[List.append_nil] at h
  replace h0:=h0 rfl
  clear h1 h3 h5
  have hl:r.length<1024:=by have:(r++[110]).length≤1024:=hl;simp at this;omega
  have M:=(ML.start h hst).new (spO pl nx 0 a b)
  have f8:=(M.fm F).2
  rw[hj] at f8
  clear hw
  go_enter func38,ntmps38
  go_wp2
  go_region
  replace M:=M.frm ((Fr.refl [] _).drew)
  generalize World.drew _=W1 at *
  clear f8
  have q2:=M.cell (List.mem_cons_self ..) 2
  have q3:=M.cell (List.mem_cons_self ..) 3
  simp at q2 q3
  go_wp2_with fail
  refine (zX a W1 (by omega)).mono ?_
  rintro e W2 ⟨rfl,hw⟩
  replace hw:=hw.symm
  subst hw
  have hb:-9223372036854775808≤vH a∧vH a≤9223372036854775807:=by unfold vH;split <;> omega
  go_wp2_with fail
  refine (M.whole _).mono ?_
  rintro e W2 ⟨rfl,M2⟩
  clear M
  go_wp2_with fail
  refine (M2.put 110 nE (iT (hb)) hl).mono ?_
  rintro e W3 ⟨rfl,M3⟩
  clear M2
  go_wp2
  go_end0
  exact⟨rfl,M3.drop⟩
 ·obtain rfl:=jL (show leS top [] from hw)
  rw[List.append_nil] at h
  have hl:r.length<1024:=by have:(r++[116]).length≤1024:=hl;simp at this;omega
  replace h1:=h1 rfl
  clear h0 h3 h5
  obtain⟨tg,to_,tc,T⟩:=h.tx 0 (by decide) (by simp;omega)
  simp only[if_true] at T
  have tl:=T.le
  have tv:=T.v
  have hTa:=hT E.m.texts[a] (List.getElem_mem h1)
  have M:=(ML.start h hst).new (spO pl nx 1 a b)
  have f8:=(M.fm F).2
  rw[hj] at f8
  clear hw
  go_enter func38,ntmps38
  go_wp2
  go_region
  replace M:=M.frm ((Fr.refl [] _).drew)
  generalize World.drew _=W1 at *
  clear f8
  have q2:=M.cell (List.mem_cons_self ..) 2
  have q3:=M.cell (List.mem_cons_self ..) 3
  simp at q2 q3
  have x0:=M.low (i:=0) (by decide)
  rw[tv] at x0
  have HP:Hid (∀ (ks:List UInt8) (V:World),ML E ks tag W [(W.heap.size,spO pl nx 1 a b)] V→(fun w1:World=>w1.cell? ⟨E.X,0,none⟩=some (.slice (some ⟨tg,to_,none⟩) E.m.texts.length tc)∧w1.cell? ⟨W.heap.size,3,none⟩=some (.int .i64 a)∧w1.cell? ⟨tg,to_+a,none⟩=some (.string E.m.texts[a])) V):=fun ks V h=>⟨(h.low (i:=0) (by decide)).trans (by rw[tv]),by have:=h.cell (List.mem_cons_self ..) 3;simpa using this,T.at h.fr h1⟩
  generalize E.m.texts[a]=tx at *
  generalize E.m.texts.length=tn at *
  go_wp2
  replace M:=M.frm ((Fr.refl [] _).drew)
  refine aE (fun w1:World=>w1.cell? ⟨E.X,0,none⟩=some (.slice (some ⟨tg,to_,none⟩) tn tc)∧w1.cell? ⟨W.heap.size,3,none⟩=some (.int .i64 a)∧w1.cell? ⟨tg,to_+a,none⟩=some (.string tx)) hm ?_
  generalize World.drew _=W2 at *
  clear q2 q3
  have q3:=M.cell (List.mem_cons_self ..) 3
  simp at q3
  skip
  have hS:(fun w1:World=>w1.cell? ⟨E.X,0,none⟩=some (.slice (some ⟨tg,to_,none⟩) tn tc)∧w1.cell? ⟨W.heap.size,3,none⟩=some (.int .i64 a)∧w1.cell? ⟨tg,to_+a,none⟩=some (.string tx)) W2:=HP.out _ _ M
  refine aH (fun _ _ _ _ _ h=>h) hS [0,1,2,3,4,5,6,7,8,9] (by kernel_rfl) ?_
  iterate 10
   refine Yls.cons (v:=?_) rfl (.inl ⟨rfl,fun w1 hS1=>?_⟩) ?_
   rotate_left
   ·obtain⟨s0,s1,s2⟩:=hS1
    go_simp
    first | rfl | (refine (if_neg (by omega)).trans ?_;rfl)
   simp only[Act.put,Z1,Z2,Z3,Z4,Z5,Z6]
  refine Yls.nil ?_
  refine rd1 (r:=10) (by kernel_rfl) rfl fun K hK=>?_
  go_simp
  refine (M.words _).mono ?_
  rintro e V10 ⟨rfl,M3⟩
  refine hK _ _ (HP.out _ _ M3) ?_
  clear hK K
  intro _
  try simp only[Act.put,Z1,Z2,Z3,Z4,Z5,Z6]
  refine rd1 (r:=11) (by kernel_rfl) rfl fun K hK=>?_
  go_simp
  refine (M3.put 116 O3 (vB hTa) hl).mono ?_
  rintro e V11 ⟨rfl,M4⟩
  refine hK _ _ (HP.out _ _ M4) ?_
  clear hK K
  intro _
  try simp only[Act.put,Z1,Z2,Z3,Z4,Z5,Z6]
  refine wpAnyH_done (by kernel_rfl) ?_ _
  go_wp2
  go_end0
  exact⟨rfl,M4.drop⟩
 ·obtain rfl:=jL (show leS top [] from hw)
  rw[List.append_nil] at h
  clear h0 h1 h3 h5
  have hl:r.length<1024:=by have:(r++[97]).length≤1024:=hl;simp at this;omega
  have M:=(ML.start h hst).new (spO pl nx 2 a b)
  have f8:=(M.fm F).2
  rw[hj] at f8
  clear hw
  go_enter func38,ntmps38
  go_wp2
  go_region
  replace M:=M.frm ((Fr.refl [] _).drew)
  generalize World.drew _=W1 at *
  clear f8
  have q2:=M.cell (List.mem_cons_self ..) 2
  have q3:=M.cell (List.mem_cons_self ..) 3
  simp at q2 q3
  go_wp2_with fail
  refine (M.put 97 aBo (yQ ⟨by decide,by decide,by decide⟩) hl).mono ?_
  rintro e W2 ⟨rfl,M2⟩
  clear M
  go_wp2
  go_end0
  exact⟨rfl,M2.drop⟩
 ·obtain rfl:=jL (show leS top [] from hw)
  rw[List.append_nil] at h
  have hl:r.length<1024:=by have:(r++[97]).length≤1024:=hl;simp at this;omega
  obtain⟨fn,fn1,fn2⟩:=F.fn
  have ha:a<nl:=by have:=h3 (.inl rfl) fn fn1;omega
  clear h0 h1 h3 h5
  have M:=(ML.start h hst).new (spO pl nx 3 a b)
  have f8:=(M.fm F).2
  rw[hj] at f8
  clear hw
  go_enter func38,ntmps38
  go_wp2
  go_region
  replace M:=M.frm ((Fr.refl [] _).drew)
  generalize World.drew _=W1 at *
  clear f8
  have q2:=M.cell (List.mem_cons_self ..) 2
  have q3:=M.cell (List.mem_cons_self ..) 3
  simp at q2 q3
  have HP:Hid (∀ (ks:List UInt8) (V:World),ML E ks tag W [(W.heap.size,spO pl nx 3 a b)] V→(fun w1:World=>w1.cell? ⟨g,j*4+2,none⟩=some (.slice (some ⟨g',0,none⟩) nl c')∧w1.cell? ⟨W.heap.size,3,none⟩=some (.int .i64 a)) V):=fun ks V h=>⟨by have:=(h.fm F).1.lv;rwa [hj] at this,by have:=h.cell (List.mem_cons_self ..) 3;simpa using this⟩
  go_wp2
  replace M:=M.frm ((Fr.refl [] _).drew)
  refine aE (fun w1:World=>w1.cell? ⟨g,j*4+2,none⟩=some (.slice (some ⟨g',0,none⟩) nl c')∧w1.cell? ⟨W.heap.size,3,none⟩=some (.int .i64 a)) hm ?_
  generalize World.drew _=W2 at *
  clear q2 q3
  have q3:=M.cell (List.mem_cons_self ..) 3
  simp at q3
  obtain⟨⟨d,n,s,hs,v0,v1,v2⟩,-⟩:=(M.fm F).1.v a ha
  have hS:(fun w1:World=>w1.cell? ⟨g,j*4+2,none⟩=some (.slice (some ⟨g',0,none⟩) nl c')∧w1.cell? ⟨W.heap.size,3,none⟩=some (.int .i64 a)) W2:=HP.out _ _ M
  refine aH (fun _ _ _ _ _ h=>h) hS [0,1,2,3,4,5,6,7] (by kernel_rfl) ?_
  iterate 8
   refine Yls.cons (v:=?_) rfl (.inl ⟨rfl,fun w1 hS1=>?_⟩) ?_
   rotate_left
   ·obtain⟨s0,s1⟩:=hS1
    go_simp
    first | rfl | (refine (if_neg (by omega)).trans ?_;rfl)
   simp only[Act.put,Z1,Z2,Z3,Z4,Z5,Z6]
  refine Yls.nil ?_
  refine rd1 (r:=8) (by kernel_rfl) rfl fun K hK=>?_
  go_simp
  refine hK _ _ hS ?_
  clear hK K
  intro _
  try simp only[Act.put,Z1,Z2,Z3,Z4,Z5,Z6]
  refine rd1 (r:=9) (by kernel_rfl) rfl fun K hK=>?_
  go_simp
  refine (M.put 97 aBo (yQ hs) hl).mono ?_
  rintro e V9 ⟨rfl,M3⟩
  refine hK _ _ (HP.out _ _ M3) ?_
  clear hK K
  intro _
  try simp only[Act.put,Z1,Z2,Z3,Z4,Z5,Z6]
  refine wpAnyH_done (by kernel_rfl) ?_ _
  go_wp2
  go_end0
  exact⟨rfl,M3.drop⟩
 ·obtain⟨x,rfl,hx⟩:=dU (show leS top [97] from hw)
  replace hx:=lP hx
  obtain⟨fn,fn1,fn2⟩:=F.fn
  have ha:a<nl:=by have:=h3 (.inr rfl) fn fn1;omega
  clear h0 h1 h3 h5
  have M:=(ML.start h hst).new (spO pl nx 4 a b)
  have f8:=(M.fm F).2
  rw[hj] at f8
  clear hw
  go_enter func38,ntmps38
  go_wp2
  go_region
  replace M:=M.frm ((Fr.refl [] _).drew)
  generalize World.drew _=W1 at *
  clear f8
  have q2:=M.cell (List.mem_cons_self ..) 2
  have q3:=M.cell (List.mem_cons_self ..) 3
  simp at q2 q3
  have HP:Hid (∀ (ks:List UInt8) (V:World),ML E ks tag W [(W.heap.size,spO pl nx 4 a b)] V→(fun w1:World=>w1.cell? ⟨g,j*4+2,none⟩=some (.slice (some ⟨g',0,none⟩) nl c')∧w1.cell? ⟨W.heap.size,3,none⟩=some (.int .i64 a)) V):=fun ks V h=>⟨by have:=(h.fm F).1.lv;rwa [hj] at this,by have:=h.cell (List.mem_cons_self ..) 3;simpa using this⟩
  go_wp2
  replace M:=M.frm ((Fr.refl [] _).drew)
  refine aE (fun w1:World=>w1.cell? ⟨g,j*4+2,none⟩=some (.slice (some ⟨g',0,none⟩) nl c')∧w1.cell? ⟨W.heap.size,3,none⟩=some (.int .i64 a)) hm ?_
  generalize World.drew _=W2 at *
  clear q2 q3
  have q3:=M.cell (List.mem_cons_self ..) 3
  simp at q3
  skip
  have hS:(fun w1:World=>w1.cell? ⟨g,j*4+2,none⟩=some (.slice (some ⟨g',0,none⟩) nl c')∧w1.cell? ⟨W.heap.size,3,none⟩=some (.int .i64 a)) W2:=HP.out _ _ M
  refine aH (fun _ _ _ _ _ h=>h) hS [0,1,2,3,4,5,6] (by kernel_rfl) ?_
  iterate 7
   refine Yls.cons (v:=?_) rfl (.inl ⟨rfl,fun w1 hS1=>?_⟩) ?_
   rotate_left
   ·obtain⟨s0,s1⟩:=hS1
    go_simp
    first | rfl | (refine (if_neg (by omega)).trans ?_;rfl)
   simp only[Act.put,Z1,Z2,Z3,Z4,Z5,Z6]
  refine Yls.nil ?_
  refine rd1 (r:=7) (by kernel_rfl) rfl fun K hK=>?_
  go_simp
  refine (M.value hx).mono ?_
  rintro e V7 ⟨d,n,s,rfl,hv,M3⟩
  refine hK _ _ (HP.out _ _ M3) ?_
  clear hK K
  intro _
  try simp only[Act.put,Z1,Z2,Z3,Z4,Z5,Z6]
  replace hS:=HP.out _ _ M3
  refine wpAnyH_take (i:=8) (v:=?_) rfl (by kernel_rfl) (by kernel_rfl) (by kernel_rfl) (fun _ _ _ h=>h) (.inl ⟨rfl,fun w1 hS1=>?_⟩) hS ?_
  rotate_left
  ·obtain⟨s0,s1⟩:=hS1
   go_simp
   first | rfl | (refine (if_neg (by omega)).trans ?_;rfl)
  simp only[Act.put,Z1,Z2,Z3,Z4,Z5,Z6]
  refine rd1 (r:=9) (by kernel_rfl) rfl fun K hK=>?_
  obtain⟨⟨d2,n2,s2,-,v0,v1,v2⟩,vz⟩:=(M3.fm F).1.v a ha
  have z0:=vz 0
  have z1:=vz 1
  have z2:=vz 2
  simp only[Nat.add_zero] at z0
  have M4:=M3.setLoc F ha hv.1 (d:=d)
  clear vz
  go_simp
  refine hK _ _ (HP.out _ _ M4) ?_
  clear hK K
  intro _
  try simp only[Act.put,Z1,Z2,Z3,Z4,Z5,Z6]
  refine wpAnyH_done (by kernel_rfl) ?_ _
  go_wp2
  go_end0
  exact⟨rfl,show ML E (r++[]) tag W [] _ by have:=M4.drop;simpa using this⟩
 ·obtain rfl:=jL (show leS top [] from hw)
  rw[List.append_nil] at h
  have hl:r.length<1024:=by have:(r++[97]).length≤1024:=hl;simp at this;omega
  have ha:a<ng:=by have:=h5 (.inl rfl);omega
  clear h0 h1 h3 h5
  have M:=(ML.start h hst).new (spO pl nx 5 a b)
  have f8:=(M.fm F).2
  rw[hj] at f8
  clear hw
  go_enter func38,ntmps38
  go_wp2
  go_region
  replace M:=M.frm ((Fr.refl [] _).drew)
  generalize World.drew _=W1 at *
  clear f8
  have q2:=M.cell (List.mem_cons_self ..) 2
  have q3:=M.cell (List.mem_cons_self ..) 3
  simp at q2 q3
  have HP:Hid (∀ (ks:List UInt8) (V:World),ML E ks tag W [(W.heap.size,spO pl nx 5 a b)] V→(fun w1:World=>w1.cell? ⟨E.X,6,none⟩=some (.slice (some ⟨gg,0,none⟩) ng gc)∧w1.cell? ⟨W.heap.size,3,none⟩=some (.int .i64 a)) V):=fun ks V h=>⟨(h.gl FG).1,by have:=h.cell (List.mem_cons_self ..) 3;simpa using this⟩
  go_wp2
  replace M:=M.frm ((Fr.refl [] _).drew)
  refine aE (fun w1:World=>w1.cell? ⟨E.X,6,none⟩=some (.slice (some ⟨gg,0,none⟩) ng gc)∧w1.cell? ⟨W.heap.size,3,none⟩=some (.int .i64 a)) hm ?_
  generalize World.drew _=W2 at *
  clear q2 q3
  have q3:=M.cell (List.mem_cons_self ..) 3
  simp at q3
  obtain⟨⟨d,n,s,hs,v0,v1,v2⟩,-⟩:=(M.gl FG).2 a ha
  have hS:(fun w1:World=>w1.cell? ⟨E.X,6,none⟩=some (.slice (some ⟨gg,0,none⟩) ng gc)∧w1.cell? ⟨W.heap.size,3,none⟩=some (.int .i64 a)) W2:=HP.out _ _ M
  refine aH (fun _ _ _ _ _ h=>h) hS [0,1,2,3,4,5,6,7] (by kernel_rfl) ?_
  iterate 8
   refine Yls.cons (v:=?_) rfl (.inl ⟨rfl,fun w1 hS1=>?_⟩) ?_
   rotate_left
   ·obtain⟨s0,s1⟩:=hS1
    go_simp
    first | rfl | (refine (if_neg (by omega)).trans ?_;rfl)
   simp only[Act.put,Z1,Z2,Z3,Z4,Z5,Z6]
  refine Yls.nil ?_
  refine rd1 (r:=8) (by kernel_rfl) rfl fun K hK=>?_
  go_simp
  refine hK _ _ hS ?_
  clear hK K
  intro _
  try simp only[Act.put,Z1,Z2,Z3,Z4,Z5,Z6]
  refine rd1 (r:=9) (by kernel_rfl) rfl fun K hK=>?_
  go_simp
  refine (M.put 97 aBo (yQ hs) hl).mono ?_
  rintro e V9 ⟨rfl,M3⟩
  refine hK _ _ (HP.out _ _ M3) ?_
  clear hK K
  intro _
  try simp only[Act.put,Z1,Z2,Z3,Z4,Z5,Z6]
  refine wpAnyH_done (by kernel_rfl) ?_ _
  go_wp2
  go_end0
  exact⟨rfl,M3.drop⟩
 ·obtain⟨x,rfl,hx⟩:=dU (show leS top [97] from hw)
  replace hx:=lP hx
  have ha:a<ng:=by have:=h5 (.inr rfl);omega
  clear h0 h1 h3 h5
  have M:=(ML.start h hst).new (spO pl nx 6 a b)
  have f8:=(M.fm F).2
  rw[hj] at f8
  clear hw
  go_enter func38,ntmps38
  go_wp2
  go_region
  replace M:=M.frm ((Fr.refl [] _).drew)
  generalize World.drew _=W1 at *
  clear f8
  have q2:=M.cell (List.mem_cons_self ..) 2
  have q3:=M.cell (List.mem_cons_self ..) 3
  simp at q2 q3
  have HP:Hid (∀ (ks:List UInt8) (V:World),ML E ks tag W [(W.heap.size,spO pl nx 6 a b)] V→(fun w1:World=>w1.cell? ⟨E.X,6,none⟩=some (.slice (some ⟨gg,0,none⟩) ng gc)∧w1.cell? ⟨W.heap.size,3,none⟩=some (.int .i64 a)) V):=fun ks V h=>⟨(h.gl FG).1,by have:=h.cell (List.mem_cons_self ..) 3;simpa using this⟩
  go_wp2
  replace M:=M.frm ((Fr.refl [] _).drew)
  refine aE (fun w1:World=>w1.cell? ⟨E.X,6,none⟩=some (.slice (some ⟨gg,0,none⟩) ng gc)∧w1.cell? ⟨W.heap.size,3,none⟩=some (.int .i64 a)) hm ?_
  generalize World.drew _=W2 at *
  clear q2 q3
  have q3:=M.cell (List.mem_cons_self ..) 3
  simp at q3
  skip
  have hS:(fun w1:World=>w1.cell? ⟨E.X,6,none⟩=some (.slice (some ⟨gg,0,none⟩) ng gc)∧w1.cell? ⟨W.heap.size,3,none⟩=some (.int .i64 a)) W2:=HP.out _ _ M
  refine aH (fun _ _ _ _ _ h=>h) hS [0,1,2,3,4,5,6] (by kernel_rfl) ?_
  iterate 7
   refine Yls.cons (v:=?_) rfl (.inl ⟨rfl,fun w1 hS1=>?_⟩) ?_
   rotate_left
   ·obtain⟨s0,s1⟩:=hS1
    go_simp
    first | rfl | (refine (if_neg (by omega)).trans ?_;rfl)
   simp only[Act.put,Z1,Z2,Z3,Z4,Z5,Z6]
  refine Yls.nil ?_
  refine rd1 (r:=7) (by kernel_rfl) rfl fun K hK=>?_
  go_simp
  refine (M.value hx).mono ?_
  rintro e V7 ⟨d,n,s,rfl,hv,M3⟩
  refine hK _ _ (HP.out _ _ M3) ?_
  clear hK K
  intro _
  try simp only[Act.put,Z1,Z2,Z3,Z4,Z5,Z6]
  replace hS:=HP.out _ _ M3
  refine wpAnyH_take (i:=8) (v:=?_) rfl (by kernel_rfl) (by kernel_rfl) (by kernel_rfl) (fun _ _ _ h=>h) (.inl ⟨rfl,fun w1 hS1=>?_⟩) hS ?_
  rotate_left
  ·obtain⟨s0,s1⟩:=hS1
   go_simp
   first | rfl | (refine (if_neg (by omega)).trans ?_;rfl)
  simp only[Act.put,Z1,Z2,Z3,Z4,Z5,Z6]
  refine rd1 (r:=9) (by kernel_rfl) rfl fun K hK=>?_
  obtain⟨⟨d2,n2,s2,-,v0,v1,v2⟩,vz⟩:=(M3.gl FG).2 a ha
  have z0:=vz 0
  have z1:=vz 1
  have z2:=vz 2
  simp only[Nat.add_zero] at z0
  have M4:=M3.setGl FG ha hv.1 (d:=d)
  clear vz
  go_simp
  refine hK _ _ (HP.out _ _ M4) ?_
  clear hK K
  intro _
  try simp only[Act.put,Z1,Z2,Z3,Z4,Z5,Z6]
  refine wpAnyH_done (by kernel_rfl) ?_ _
  go_wp2
  go_end0
  exact⟨rfl,show ML E (r++[]) tag W [] _ by have:=M4.drop;simpa using this⟩
 ·obtain⟨x,rfl,hx⟩:=dU (show leS top [97] from hw)
  replace hx:=lP hx
  clear h0 h1 h3 h5
  have hl2:r.length+2≤1024:=by have:(r++[x,x]).length≤1024:=hl;simp at this;omega
  have M:=(ML.start h hst).new (spO pl nx 45 a b)
  have f8:=(M.fm F).2
  rw[hj] at f8
  clear hw
  go_enter func38,ntmps38
  go_wp2
  go_region
  replace M:=M.frm ((Fr.refl [] _).drew)
  generalize World.drew _=W1 at *
  clear f8
  have q2:=M.cell (List.mem_cons_self ..) 2
  have q3:=M.cell (List.mem_cons_self ..) 3
  simp at q2 q3
  have hmx:=M.met
  clear q3
  go_wp2_with fail
  refine (M.value hx).mono ?_
  rintro e W2 ⟨d,n,s,rfl,hv,M2⟩
  clear M
  replace M2:=M2.new (.cells #[.int .i64 d,.int .i64 n,.string s] 118)
  go_wp2_with fail
  refine (M2.put x hmx hv (by omega)).mono ?_
  rintro e W3 ⟨rfl,M3⟩
  clear M2
  have p0:=M3.cell (List.mem_cons_self ..) 0
  have p1:=M3.cell (List.mem_cons_self ..) 1
  have p2:=M3.cell (List.mem_cons_self ..) 2
  simp at p0 p1 p2
  go_wp2_with fail
  refine (M3.put x hmx hv (by simp;omega)).mono ?_
  rintro e W4 ⟨rfl,M4⟩
  clear M3
  go_wp2
  go_end0
  refine⟨rfl,show ML E (r++[x,x]) tag W [] _ from ?_⟩
  have:=M4.drop
  simpa using this
 ·obtain⟨x,y,rfl,hx,hy⟩:=oC (show leS top [97,97] from hw)
  replace hx:=lP hx
  replace hy:=lP hy
  rw[show r++[x,y]=(r++[x])++[y] by simp] at h
  clear h0 h1 h3 h5
  have hl2:r.length+3≤1024:=by have:(r++[y,x,y]).length≤1024:=hl;simp at this;omega
  have M:=(ML.start h hst).new (spO pl nx 46 a b)
  have f8:=(M.fm F).2
  rw[hj] at f8
  clear hw
  go_enter func38,ntmps38
  go_wp2
  go_region
  replace M:=M.frm ((Fr.refl [] _).drew)
  generalize World.drew _=W1 at *
  clear f8
  have q2:=M.cell (List.mem_cons_self ..) 2
  have q3:=M.cell (List.mem_cons_self ..) 3
  simp at q2 q3
  have hmy:=M.met
  clear q3
  go_wp2_with fail
  refine (M.value hy).mono ?_
  rintro e W2 ⟨d,n,s,rfl,hv,M2⟩
  clear M
  replace M2:=M2.new (.cells #[.int .i64 d,.int .i64 n,.string s] 118)
  have hmx:=M2.met
  go_wp2_with fail
  refine (M2.value hx).mono ?_
  rintro e W3 ⟨d',n',s',rfl,hv',M3⟩
  clear M2
  replace M3:=M3.new (.cells #[.int .i64 d',.int .i64 n',.string s'] 118)
  have p0:=M3.cell (List.mem_cons_of_mem _ (List.mem_cons_self ..)) 0
  have p1:=M3.cell (List.mem_cons_of_mem _ (List.mem_cons_self ..)) 1
  have p2:=M3.cell (List.mem_cons_of_mem _ (List.mem_cons_self ..)) 2
  simp at p0 p1 p2
  have u0:=M3.cell (List.mem_cons_self ..) 0
  have u1:=M3.cell (List.mem_cons_self ..) 1
  have u2:=M3.cell (List.mem_cons_self ..) 2
  simp at u0 u1 u2
  go_wp2_with fail
  refine (M3.put y hmy hv (by omega)).mono ?_
  rintro e W4 ⟨rfl,M4⟩
  clear M3
  clear p0 p1 p2 u0 u1 u2
  have p0:=M4.cell (List.mem_cons_of_mem _ (List.mem_cons_self ..)) 0
  have p1:=M4.cell (List.mem_cons_of_mem _ (List.mem_cons_self ..)) 1
  have p2:=M4.cell (List.mem_cons_of_mem _ (List.mem_cons_self ..)) 2
  simp at p0 p1 p2
  have u0:=M4.cell (List.mem_cons_self ..) 0
  have u1:=M4.cell (List.mem_cons_self ..) 1
  have u2:=M4.cell (List.mem_cons_self ..) 2
  simp at u0 u1 u2
  go_wp2_with fail
  refine (M4.put x hmx hv' (by simp;omega)).mono ?_
  rintro e W5 ⟨rfl,M5⟩
  clear M4
  clear p0 p1 p2 u0 u1 u2
  have p0:=M5.cell (List.mem_cons_of_mem _ (List.mem_cons_self ..)) 0
  have p1:=M5.cell (List.mem_cons_of_mem _ (List.mem_cons_self ..)) 1
  have p2:=M5.cell (List.mem_cons_of_mem _ (List.mem_cons_self ..)) 2
  simp at p0 p1 p2
  go_wp2_with fail
  refine (M5.put y hmy hv (by simp;omega)).mono ?_
  rintro e W6 ⟨rfl,M6⟩
  clear M5
  go_wp2
  go_end0
  refine⟨rfl,show ML E (r++[y,x,y]) tag W [] _ from ?_⟩
  have:=M6.drop
  simpa using this
 ·obtain⟨x,rfl,hx⟩:=dU (show leS top [106] from hw)
  clear h0 h1 h3 h5
  have M:=(ML.start h hst).new (spO pl nx 47 a b)
  have f8:=(M.fm F).2
  rw[hj] at f8
  clear hw
  go_enter func38,ntmps38
  go_wp2
  go_region
  replace M:=M.frm ((Fr.refl [] _).drew)
  generalize World.drew _=W1 at *
  clear f8
  have q2:=M.cell (List.mem_cons_self ..) 2
  have q3:=M.cell (List.mem_cons_self ..) 3
  simp at q2 q3
  go_wp2_with fail
  refine (M.pop).mono ?_
  rintro e W2 ⟨⟨v,rfl⟩,M2⟩
  clear M
  go_wp2
  go_end0
  exact⟨rfl,show ML E (r++[]) tag W [] _ by have:=M2.drop;simpa using this⟩
theorem bBy:(prog.info? 9).map (fun i=>(i.zero,i.size,i.bytes))=some (some (.string ⟨#[]⟩),1,16):=by kernel_rfl
theorem ML.wd {E:Ev}{ks:List UInt8}{T0:Nat→Nat}{W0 W:World}{bs:List (Nat × Obj)} (h:ML E ks T0 W0 bs W):(∃ (o:Option Addr) (n c:Nat),W.cell? ⟨E.O 1,3,none⟩=some (.slice o n c)∧n≤1048577)∧∃ k:Nat,W.cell? ⟨E.O 1,4,none⟩=some (.int .i64 k)∧k≤1048576:=by
 obtain⟨C,s,K,tag,hs,hM,kp,hb⟩:=h
 have c3:=(hM.wc (j:=3) (by decide)).1
 have c4:=(hM.wc (j:=4) (by decide)).1
 obtain⟨R,sv,h⟩:=hM
 obtain⟨l5,L,hL,-,r5⟩:=h.B.fd
 obtain⟨o,c,e⟩:=cN (h.S.row l5 r5).own
 obtain⟨nr,nd,k,q,sc,e4,hk,-,-⟩:=h.B.rd
 obtain⟨-,-,-,-,hn,-⟩:=sc.r
 exact⟨⟨o,L.length,c,c3.trans (congrArg some e),hL⟩,k,c4.trans (congrArg some e4),by omega⟩
def TxF (W:World) (B n:Nat):Prop:=(∀ i,i<n→(∃ s:ByteArray,s.size≤1048576∧W.cell? ⟨B,i,none⟩=some (.string s))∧W.frozen? ⟨B,i,none⟩=false)
def MP (E:Ev) (ks:List UInt8) (T0:Nat→Nat) (W0:World) (B n:Nat) (W:World):Prop:=∃ o,ML E ks T0 W0 [(B,o)] W∧TxF W B n∧W0.heap.size≤B
theorem TxF.keep {W W':World}{B n:Nat} (h:TxF W B n) (e:W'.heap[B]?=W.heap[B]?):TxF W' B n:=fun i hi=>by
 obtain⟨⟨s,hs,hc⟩,hz⟩:=h i hi
 refine⟨⟨s,hs,?_⟩,?_⟩
 ·unfold World.cell? at hc ⊢;rw[e];exact hc
 ·unfold World.frozen? at hz ⊢;rw[e];exact hz
theorem MP.text {E:Ev}{ks:List UInt8}{T0:Nat→Nat}{W0 W:World}{B n:Nat} (h:MP E (ks++[116]) T0 W0 B n W):Calls prog 66 #[ptr E.X] W fun e W'=>∃ s:ByteArray,e=.returned (.string s)∧s.size≤1048576∧MP E ks T0 W0 B n W':=by
 obtain⟨o,M,tx,hB⟩:=h
 have e1:W.heap[B]?=some o:=by
  obtain⟨C,s,K,tag,hs,hM,kp,hb⟩:=M
  exact (hb (B,o) (by simp)).2.2
 refine M.text.mono fun e W' ⟨s,he,hs,M'⟩=>⟨s,he,hs,o,M',tx.keep ?_,hB⟩
 obtain⟨C,s,K,tag,hs,hM,kp,hb⟩:=M'
 rw[e1]
 exact (hb (B,o) (by simp)).2.2
theorem MP.set {E:Ev}{ks:List UInt8}{T0:Nat→Nat}{W0 W:World}{B n:Nat} (h:MP E ks T0 W0 B n W) {i:Nat} (hi:i<n) {s:ByteArray} (hs:s.size≤1048576):MP E ks T0 W0 B n (W.setCell ⟨B,i,none⟩ (.string s)):=by
 obtain⟨o,⟨C,st,K,tag,hs',hM,kp,hb⟩,tx,hB⟩:=h
 have ff:Fr [B] W (W.setCell ⟨B,i,none⟩ (.string s)):=(Fr.refl _ _).setCell (p:=⟨B,i,none⟩) (.inl (by simp)) _
 obtain⟨b1,b2,b3⟩:=hb (B,o) (by simp)
 have hl:B<(W.setCell ⟨B,i,none⟩ (.string s)).heap.size:=Nll b1 ff.size
 refine⟨(W.setCell ⟨B,i,none⟩ (.string s)).heap[B],⟨C,st,K,tag,hs',hM.w6 b2 ff,kp.w6 ff hB,fun x hx=>?_⟩,fun k hk=>?_,hB⟩
 ·simp at hx
  subst hx
  exact⟨hl,b2,Array.getElem?_eq_getElem hl⟩
 ·obtain⟨⟨u,hu,hc⟩,hz⟩:=tx k hk
  refine⟨?_,by rw[wfz];exact hz⟩
  by_cases e:i=k
  ·subst e
   exact⟨s,hs,aP hc⟩
  ·exact⟨u,hu,by rw[aA e];exact hc⟩
theorem aYf (w:World)(n:Nat):TxF (w.alloc (.cells (madeCells #[.string ⟨#[]⟩] n) 9)) w.heap.size n:=fun k hk=>by
 have hm:=wan w (.cells (madeCells #[.string ⟨#[]⟩] n) 9)
 exact⟨⟨⟨#[]⟩,by decide,by unfold World.cell?;rw[hm];simp[madeCells,hk,Nat.mod_one]⟩,by unfold World.frozen?;rw[hm];simp⟩
theorem bBn (E:Ev)(ks o r:List UInt8)(par:Nat→Nat)(op a:Nat)(pl nx b:Int)(tag:Nat→Nat)(W:World)(h:MT E ks tag W)(hst:0≤E.st∧E.st≤9)(hp:iM E.w0)(h44:op=44→1≤a∧a≤1000)(hop:op=7∨op=8∨op=9∨op=10∨op=42∨op=43∨op=44)(ha:after par op a ks=some (o,r)) :
  Calls prog 39 #[ptr E.X,spV pl nx op a b] W (OpP E o tag W):=by
 obtain⟨top,rfl,hw,rfl,hl⟩:=gU ha
 clear ha
 have hm:prog.follows Departure.mixedOrders=true:=by kernel_rfl
 rcases hop with rfl | rfl | rfl | rfl | rfl | rfl | rfl
 ·obtain⟨x,rfl,hx⟩:=dU (show leS top [110] from hw)
  obtain rfl:=qT hx
  clear h44
  have hl:r.length<1024:=by have:(r++[97]).length≤1024:=hl;simp at this;omega
  have M:=(ML.start h hst).new (spO pl nx 7 a b)
  clear h hw
  go_enter func39,ntmps39
  go_wp2_with fail
  refine (M.number).mono ?_
  rintro e W2 ⟨x,rfl,hx,M2⟩
  clear M
  have xw:=M2.mc.1
  go_wp2_with fail
  refine (M2.field _).mono ?_
  rintro e W3 ⟨⟨d,n,s,st,rfl,hv,hs0,hs1⟩,M3⟩
  clear M2
  clear xw
  replace M3:=M3.new (.cells #[.int .i64 d,.int .i64 n,.string s] 118)
  go_wp2_with fail
  refine (M3.ends (by omega)).mono ?_
  rintro e W4 ⟨rfl,M4⟩
  clear M3
  have p0:=M4.cell (List.mem_cons_self ..) 0
  have p1:=M4.cell (List.mem_cons_self ..) 1
  have p2:=M4.cell (List.mem_cons_self ..) 2
  simp at p0 p1 p2
  go_wp2_with fail
  refine (M4.put 97 aBo (yQ hv) hl).mono ?_
  rintro e W5 ⟨rfl,M5⟩
  clear M4
  go_wp2
  go_end0
  exact⟨rfl,M5.drop⟩
 ·obtain⟨x,y,rfl,hx,hy⟩:=oC (show leS top [110,97] from hw)
  obtain rfl:=qT hx
  replace hy:=lP hy
  rw[show r++[110,y]=(r++[110])++[y] by simp] at h
  clear h44
  have M:=(ML.start h hst).new (spO pl nx 8 a b)
  clear h hw
  go_enter func39,ntmps39
  go_wp2_with fail
  refine (M.value hy).mono ?_
  rintro e W2 ⟨d,n,s,rfl,hv,M2⟩
  clear M
  replace M2:=M2.new (.cells #[.int .i64 d,.int .i64 n,.string s] 118)
  go_wp2_with fail
  refine (M2.number).mono ?_
  rintro e W3 ⟨q,rfl,hq,M3⟩
  clear M2
  have xk:=M3.mc.2.1
  have xw:=M3.mc.1
  have p0:=M3.cell (List.mem_cons_self ..) 0
  have p1:=M3.cell (List.mem_cons_self ..) 1
  have p2:=M3.cell (List.mem_cons_self ..) 2
  simp at p0 p1 p2
  go_wp2
  have D:=M3.frm ((Fr.refl [] _).drew)
  clear p0 p1 p2 xk xw
  have HP:Hid (∀ (ks:List UInt8) (V:World),ML E ks tag W [(W2.heap.size,.cells #[.int .i64 d,.int .i64 n,.string s] 118),(W.heap.size,spO pl nx 8 a b)] V→(fun w1:World=>w1.cell? ⟨E.X,5,none⟩=some (ptr (E.O 1))∧w1.cell? ⟨W2.heap.size,0,none⟩=some (.int .i64 d)∧w1.cell? ⟨W2.heap.size,1,none⟩=some (.int .i64 n)∧w1.cell? ⟨W2.heap.size,2,none⟩=some (.string s)) V):=fun ks V h=>⟨h.mc.1,by have:=h.cell (List.mem_cons_self ..) 0;simpa using this,by have:=h.cell (List.mem_cons_self ..) 1;simpa using this,by have:=h.cell (List.mem_cons_self ..) 2;simpa using this⟩
  refine aE (fun w1:World=>w1.cell? ⟨E.X,5,none⟩=some (ptr (E.O 1))∧w1.cell? ⟨W2.heap.size,0,none⟩=some (.int .i64 d)∧w1.cell? ⟨W2.heap.size,1,none⟩=some (.int .i64 n)∧w1.cell? ⟨W2.heap.size,2,none⟩=some (.string s)) hm ?_
  generalize World.drew _=WD at *
  have hS:(fun w1:World=>w1.cell? ⟨E.X,5,none⟩=some (ptr (E.O 1))∧w1.cell? ⟨W2.heap.size,0,none⟩=some (.int .i64 d)∧w1.cell? ⟨W2.heap.size,1,none⟩=some (.int .i64 n)∧w1.cell? ⟨W2.heap.size,2,none⟩=some (.string s)) WD:=HP.out _ _ D
  refine aH (fun _ _ _ _ _ h=>h) hS [0,1,2,3,4,5] (by kernel_rfl) ?_
  iterate 6
   refine Yls.cons (v:=?_) rfl (.inl ⟨rfl,fun w1 hS1=>?_⟩) ?_
   rotate_left
   ·obtain⟨s0,s1,s2,s3⟩:=hS1
    go_simp
    first | rfl | (refine (if_neg (by omega)).trans ?_;rfl)
   simp only[Act.put,Z1,Z2,Z3,Z4,Z5,Z6]
  refine Yls.nil ?_
  refine rd1 (r:=6) (by kernel_rfl) rfl fun K hK=>?_
  go_simp
  refine (D.setField hp _ hv.1).mono ?_
  rintro e V6 ⟨⟨st,rfl,hs0,hs1⟩,M5⟩
  refine hK _ _ (HP.out _ _ M5) ?_
  clear hK K
  intro _
  try simp only[Act.put,Z1,Z2,Z3,Z4,Z5,Z6]
  replace hS:=HP.out _ _ M5
  refine rd1 (r:=7) (by kernel_rfl) rfl fun K hK=>?_
  go_simp
  refine hK _ _ hS ?_
  clear hK K
  intro _
  try simp only[Act.put,Z1,Z2,Z3,Z4,Z5,Z6]
  refine wpAnyH_done (by kernel_rfl) ?_ _
  clear D hS HP M3
  go_wp2_with fail
  refine (M5.ends (by omega)).mono ?_
  rintro e W7 ⟨rfl,M7⟩
  clear M5
  go_wp2
  go_end0
  exact⟨rfl,show ML E (r++[]) tag W [] _ by have:=M7.drop;simpa using this⟩
 ·obtain rfl:=jL (show leS top [] from hw)
  rw[List.append_nil] at h
  clear h44
  have hl:r.length<1024:=by have:(r++[110]).length≤1024:=hl;simp at this;omega
  have M:=(ML.start h hst).new (spO pl nx 9 a b)
  clear h hw
  go_enter func39,ntmps39
  have xw:=M.mc.1
  obtain⟨⟨fo,fn,fc,f3,hfn⟩,-⟩:=M.wd
  go_wp2_with fail
  refine (M.whole _).mono ?_
  rintro e W2 ⟨rfl,M2⟩
  clear M
  clear xw f3
  go_wp2_with fail
  refine (M2.put 110 nE (iT (by omega)) hl).mono ?_
  rintro e W3 ⟨rfl,M3⟩
  clear M2
  go_wp2
  go_end0
  exact⟨rfl,M3.drop⟩
 ·obtain rfl:=jL (show leS top [] from hw)
  rw[List.append_nil] at h
  clear h44
  have hl:r.length<1024:=by have:(r++[110]).length≤1024:=hl;simp at this;omega
  have M:=(ML.start h hst).new (spO pl nx 10 a b)
  clear h hw
  go_enter func39,ntmps39
  have xw:=M.mc.1
  obtain⟨-,k,f4,hk⟩:=M.wd
  go_wp2_with fail
  refine (M.whole _).mono ?_
  rintro e W2 ⟨rfl,M2⟩
  clear M
  clear xw f4
  go_wp2_with fail
  refine (M2.put 110 nE (iT (by omega)) hl).mono ?_
  rintro e W3 ⟨rfl,M3⟩
  clear M2
  go_wp2
  go_end0
  exact⟨rfl,M3.drop⟩
 ·obtain rfl:=jL (show leS top [] from hw)
  rw[List.append_nil] at h
  clear h44
  have hl:r.length<1024:=by have:(r++[110]).length≤1024:=hl;simp at this;omega
  have M:=(ML.start h hst).new (spO pl nx 42 a b)
  clear h hw
  go_enter func39,ntmps39
  have xw:=M.mc.1
  go_wp2_with fail
  refine (M.next).mono ?_
  rintro e W2 ⟨⟨bv,rfl⟩,M2⟩
  clear M
  clear xw
  go_wp2_with fail
  refine (M2.truth _).mono ?_
  rintro e W3 ⟨⟨tv,rfl,ht0,ht1⟩,M3⟩
  clear M2
  go_wp2_with fail
  refine (M3.whole _).mono ?_
  rintro e W4 ⟨rfl,M4⟩
  clear M3
  go_wp2_with fail
  refine (M4.put 110 nE (iT (by omega)) hl).mono ?_
  rintro e W5 ⟨rfl,M5⟩
  clear M4
  go_wp2
  go_end0
  exact⟨rfl,M5.drop⟩
 ·obtain rfl:=jL (show leS top [] from hw)
  rw[List.append_nil] at h
  clear h44
  have hl:r.length<1024:=by have:(r++[110]).length≤1024:=hl;simp at this;omega
  have M:=(ML.start h hst).new (spO pl nx 43 a b)
  clear h hw
  go_enter func39,ntmps39
  have xw:=M.mc.1
  go_wp2_with fail
  refine (M.draw).mono ?_
  rintro e W2 ⟨⟨n,rfl,hn0,hn1⟩,M2⟩
  clear M
  clear xw
  go_wp2_with fail
  refine (M2.whole _).mono ?_
  rintro e W3 ⟨rfl,M3⟩
  clear M2
  go_wp2_with fail
  refine (M3.put 110 nE (iT (⟨hn0,hn1⟩)) hl).mono ?_
  rintro e W4 ⟨rfl,M4⟩
  clear M3
  go_wp2
  go_end0
  exact⟨rfl,M4.drop⟩
 ·obtain⟨h1a,h1b⟩:=h44 rfl
  clear h44
  obtain⟨tl,tk⟩:=aIb (show leS top (List.replicate a 116) from hw)
  have e116:top=List.replicate a 116:=List.eq_replicate_iff.2 ⟨tl,fun y hy=>jU (tk y hy)⟩
  subst e116
  clear tl tk
  have hmk:=fun w=>run_make_row' (P:=prog) 22 9 (.string ⟨#[]⟩) 16 underlying22 bBy rfl .i64 .i64 a (by omega) (by omega) w
  have M0:=(ML.start h hst).new (spO pl nx 44 a b)
  have MP0:MP E (r++List.replicate a 116) tag W (W.heap.size+1) a ((W.alloc (spO pl nx 44 a b)).alloc (.cells (madeCells #[.string ⟨#[]⟩] a) 9)):=by
   have:=M0.new (.cells (madeCells #[.string ⟨#[]⟩] a) 9)
   rw[World.size_alloc] at this
   have t2:=aYf (W.alloc (spO pl nx 44 a b)) a
   rw[World.size_alloc] at t2
   exact⟨_,this.sub (bs':=[(W.heap.size+1,.cells (madeCells #[.string ⟨#[]⟩] a) 9)]) (by simp),t2,by omega⟩
  clear h hw M0
  show Calls prog 39 #[ptr E.X,spV pl nx 44 a b] W _
  go_enter func39,ntmps39
  go_wp2
  generalize (W.alloc _).alloc _=W1 at *
  go_loopw [14] (fun iv wr=>∃ k:Nat,k≤a∧iv=.int .i64 ((k:Int)-1)∧MP E (r++List.replicate k 116) tag W (W.heap.size+1) a wr) (fun iv _=>(intOf iv+1).toNat)
  case atStart=>exact⟨a,by omega,rfl,MP0⟩
  case round=>
   clear MP0 hmk
   obtain⟨k,hk,rfl,MP1⟩:=hrel
   by_cases h0:k=0
   ·subst h0
    have g1:¬ ((0:Int)≤((0:Nat):Int)-1):=by omega
    obtain⟨ob,M,tx,-⟩:=MP1
    have xk:=M.mc.2.1
    have xw:=M.mc.1
    have htl:TxL wr (some ⟨W.heap.size+1,0,none⟩) a:=fun _=>⟨W.heap.size+1,0,rfl,fun i hi=>by simpa using (tx i hi).1⟩
    go_wp2_with fail
    refine (M.print (by omega) htl).mono ?_
    rintro e W2 ⟨⟨st,rfl,hs0,hs1⟩,M2⟩
    clear M xk xw htl tx
    go_wp2_with fail
    refine (M2.ends (by omega)).mono ?_
    rintro e W3 ⟨rfl,M3⟩
    clear M2
    go_wp2
    go_end0
    exact⟨rfl,M3.drop⟩
   ·obtain⟨q,rfl⟩:∃ q,k=q+1:=⟨k-1,by omega⟩
    have g1:(0:Int)≤(q:Int):=by omega
    rw[show List.replicate (q+1) (116:UInt8)=List.replicate q 116++[116] from List.replicate_succ',← List.append_assoc] at MP1
    rw[show ((q+1:Nat):Int)-1=q by omega]
    go_wp2_with fail
    refine MP1.text.mono ?_
    rintro e W2 ⟨t,rfl,ht,MP2⟩
    have MP3:=MP2.set (i:=q) (by omega) ht
    obtain⟨-,-,tx,-⟩:=MP2
    obtain⟨⟨u,-,c0⟩,z0⟩:=tx q (by omega)
    have g2:(q:Int)<a:=by omega
    clear MP1 tx
    go_wp2
    go_roundw
    case rel=>exact⟨q,by omega,rfl,MP3⟩
    case measure=>simp[intOf] <;> omega
end Go.Proofs.YtgpamchpeamnfaaGreatDoor
