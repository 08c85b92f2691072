/-
  Texts Ch Ci Cj Ck Cl Cm Cn.
-/
import Derived.Test.YtgpamchpeamnfaaGreatDoorMA
import Derived.Test.YtgpamchpeamnfaaGreatDoorM27
import Derived.Test.YtgpamchpeamnfaaGreatDoorM25
set_option linter.unusedSimpArgs false
set_option linter.unusedVariables false
set_option maxRecDepth 100000
set_option maxHeartbeats 40000000
open _root_.Go.Proofs.Tryz
namespace Go.Proofs.YtgpamchpeamnfaaGreatDoor
open Go.RowKit
open Wire Flow Mach
def aMv (e:Ending):Prop:=∃ n:Int,e=.returned (.int .i64 n)∧-9223372036854775808≤n∧n≤9223372036854775807
def bFy (e:Ending):Prop:=∃ s:ByteArray,e=.returned (.string s)∧s.size≤1048576
theorem uF (d n:Int)(s:ByteArray)(h:SzN n s)(W:World)(hp:iM W):Calls prog 78 #[vlV d n s] W fun e W'=>bFy e∧Fr [] W W':=by
 obtain⟨W1,hW1⟩:=eX (W.alloc (.cells #[.int .i64 d,.int .i64 n,.string s] 118))
 have F1:Fr [] W W1:=by rw[← hW1];exact (Fr.refl [] W).alloc _
 have k1:=wan W (.cells #[.int .i64 d,.int .i64 n,.string s] 118)
 rw[hW1] at k1
 have c0:W1.cell? ⟨W.heap.size,0,none⟩=some (.int .i64 d):=cof k1 rfl
 have c1:W1.cell? ⟨W.heap.size,1,none⟩=some (.int .i64 n):=cof k1 rfl
 have c2:W1.cell? ⟨W.heap.size,2,none⟩=some (.string s):=cof k1 rfl
 have HI:Hid _:=fun (_:Unit)=>aIi n W1 h.2.1 h.2.2 (hp.fr F1)
 have HF:Hid _:=AI F1 h.1
 clear F1 k1 hp h
 by_cases h0:d=0
 ·subst h0
  go_enter func78,ntmps78
  go_wp2
  go_ret
  exact⟨⟨_,rfl,by decide⟩,HF.out.1⟩
 ·by_cases h1:d=1
  ·subst h1
   go_enter func78,ntmps78
   go_wp2_with fail
   refine (HI.out ()).mono ?_
   rintro e W2 ⟨t,ht,rfl,f2⟩
   go_wp2
   go_ret
   exact⟨⟨t,rfl,by omega⟩,HF.out.1.trans f2⟩
  ·have g0:(d==0)=false:=by simpa using h0
   have g1:(d==1)=false:=by simpa using h1
   clear h0 h1
   go_enter func78,ntmps78
   go_wp2
   go_ret
   exact⟨⟨s,rfl,HF.out.2⟩,HF.out.1⟩
theorem xA (d n:Int)(s:ByteArray)(h:SzN n s)(W:World):Calls prog 77 #[vlV d n s] W fun e W'=>aMv e∧Fr [] W W':=by
 obtain⟨W1,hW1⟩:=eX (W.alloc (.cells #[.int .i64 d,.int .i64 n,.string s] 118))
 have F1:Fr [] W W1:=by rw[← hW1];exact (Fr.refl [] W).alloc _
 have k1:=wan W (.cells #[.int .i64 d,.int .i64 n,.string s] 118)
 rw[hW1] at k1
 have c0:W1.cell? ⟨W.heap.size,0,none⟩=some (.int .i64 d):=cof k1 rfl
 have c1:W1.cell? ⟨W.heap.size,1,none⟩=some (.int .i64 n):=cof k1 rfl
 have c2:W1.cell? ⟨W.heap.size,2,none⟩=some (.string s):=cof k1 rfl
 have HI:Hid _:=fun (_:Unit)=>zZ s h.1 W1
 have HF:Hid _:=AI F1 h.2
 clear F1 k1 h
 by_cases h0:d=0
 ·subst h0
  go_enter func77,ntmps77
  go_wp2
  go_ret
  exact⟨⟨_,rfl,by decide,by decide⟩,HF.out.1⟩
 ·by_cases h1:d=1
  ·subst h1
   go_enter func77,ntmps77
   go_wp2
   go_ret
   exact⟨⟨n,rfl,HF.out.2.1,HF.out.2.2⟩,HF.out.1⟩
  ·have g0:(d==0)=false:=by simpa using h0
   have g1:(d==1)=false:=by simpa using h1
   clear h0 h1
   go_enter func77,ntmps77
   go_wp2_with fail
   refine (HI.out ()).mono ?_
   rintro e W2 ⟨⟨x,q,r,rfl,-,hx0,hx1⟩,f2⟩
   go_wp2
   all_goals
    go_ret
    exact⟨⟨_,rfl,by omega,by omega⟩,HF.out.1.trans f2⟩
theorem aKe (d n:Int)(s:ByteArray)(h:SzN n s)(W:World):Calls prog 79 #[vlV d n s] W fun e W'=>s8 e∧Fr [] W W':=by
 obtain⟨W1,hW1⟩:=eX (W.alloc (.cells #[.int .i64 d,.int .i64 n,.string s] 118))
 have F1:Fr [] W W1:=by rw[← hW1];exact (Fr.refl [] W).alloc _
 have k1:=wan W (.cells #[.int .i64 d,.int .i64 n,.string s] 118)
 rw[hW1] at k1
 have c0:W1.cell? ⟨W.heap.size,0,none⟩=some (.int .i64 d):=cof k1 rfl
 have c1:W1.cell? ⟨W.heap.size,1,none⟩=some (.int .i64 n):=cof k1 rfl
 have c2:W1.cell? ⟨W.heap.size,2,none⟩=some (.string s):=cof k1 rfl
 have HI:Hid _:=fun (_:Unit)=>xA d n s h W1
 have HF:Hid _:=F1
 clear F1 k1 h
 by_cases h0:d=2
 ·subst h0
  go_enter func79,ntmps79
  go_wp2
  go_ret
  exact⟨⟨_,rfl⟩,HF.out⟩
 ·have g0:(d==2)=false:=by simpa using h0
  clear h0
  go_enter func79,ntmps79
  go_wp2_with fail
  refine (HI.out ()).mono ?_
  rintro e W2 ⟨⟨x,rfl,hx⟩,f2⟩
  go_wp2
  go_ret
  exact⟨⟨_,rfl⟩,HF.out.trans f2⟩
def bHw (e:Ending):Prop:=∃ (n st:Int),e=.returned (.tuple #[.int .i64 n,.int .i64 st])∧-1000000000≤n∧n≤1000000000∧(st=0∨st=3∨st=4)
theorem aSv (k x y:Int)(hk:0≤k∧k≤4)(W:World):Calls prog 75 #[.int .i64 k,.int .i64 x,.int .i64 y] W fun e W'=>bHw e∧W'=W:=by
 have:k=0∨k=1∨k=2∨k=3∨k=4:=by omega
 rcases this with rfl | rfl | rfl | rfl | rfl
 ·go_enter func75,ntmps75
  go_wp2
  all_goals
   go_ret2
   exact⟨⟨_,_,rfl,by omega,by omega,by omega⟩,rfl⟩
 ·go_enter func75,ntmps75
  go_wp2
  all_goals
   go_ret2
   exact⟨⟨_,_,rfl,by omega,by omega,by omega⟩,rfl⟩
 ·go_enter func75,ntmps75
  go_wp2
  all_goals
   go_ret2
   exact⟨⟨_,_,rfl,by omega,by omega,by omega⟩,rfl⟩
 ·by_cases hy:y=0
  ·subst hy
   go_enter func75,ntmps75
   go_wp2
   all_goals
    go_ret2
    exact⟨⟨_,_,rfl,by omega,by omega,by omega⟩,rfl⟩
  ·have gy:(y==0)=false:=by simpa using hy
   go_enter func75,ntmps75
   go_wp2
   all_goals
    go_ret2
    exact⟨⟨_,_,rfl,by omega,by omega,by omega⟩,rfl⟩
 ·by_cases hy:y=0
  ·subst hy
   go_enter func75,ntmps75
   go_wp2
   all_goals
    go_ret2
    exact⟨⟨_,_,rfl,by omega,by omega,by omega⟩,rfl⟩
  ·have gy:(y==0)=false:=by simpa using hy
   go_enter func75,ntmps75
   go_wp2
   all_goals
    go_ret2
    exact⟨⟨_,_,rfl,by omega,by omega,by omega⟩,rfl⟩
theorem aFp (s t:ByteArray)(hs:s.size≤1048576)(ht:t.size≤1048576)(W:World):Calls prog 76 #[.string s,.string t] W fun e W'=>(∃ (u:ByteArray) (st:Int),e=.returned (.tuple #[.string u,.int .i64 st])∧u.size≤100∧(st=0∨st=6))∧W'=W:=by
 by_cases h:100<s.size+t.size
 ·have g:(100:Int)<(s.size:Int)+t.size:=by omega
  go_enter func76,ntmps76
  go_wp2
  go_ret2
  exact⟨⟨_,6,rfl,by decide,.inr rfl⟩,rfl⟩
 ·have g:¬ (100:Int)<(s.size:Int)+t.size:=by omega
  go_enter func76,ntmps76
  go_wp2
  go_ret2
  exact⟨⟨_,0,rfl,by rw[ByteArray.size_append];omega,.inl rfl⟩,rfl⟩
theorem aCs (d n:Int)(s:ByteArray)(d' n':Int)(s':ByteArray)(h:SzN n s)(h':SzN n' s')(W:World)(hp:iM W):Calls prog 115 #[vlV d n s,vlV d' n' s'] W fun e W'=>aMv e∧Fr [] W W':=by
 obtain⟨W1,hW1⟩:=eX (W.alloc (.cells #[.int .i64 d,.int .i64 n,.string s] 118))
 have F1:Fr [] W W1:=by rw[← hW1];exact (Fr.refl [] W).alloc _
 have k1:=wan W (.cells #[.int .i64 d,.int .i64 n,.string s] 118)
 rw[hW1] at k1
 obtain⟨W2,hW2⟩:=eX (W1.alloc (.cells #[.int .i64 d',.int .i64 n',.string s'] 118))
 have F2:Fr [] W1 W2:=by rw[← hW2];exact (Fr.refl [] W1).alloc _
 have k2:=wan W1 (.cells #[.int .i64 d',.int .i64 n',.string s'] 118)
 rw[hW2] at k2
 have hl1:=(Age.1 k1).1
 have hl2:=(Age.1 k2).1
 have k12:=(F2.block _ hl1 (by simp)).trans k1
 have C1:∀ w,Fr [] W2 w→∀ t,w.cell? ⟨W.heap.size,t,none⟩=(#[.int .i64 d,.int .i64 n,.string s]:Array Value)[t]?:=fun w hw t=>(hw.cell (p:=⟨W.heap.size,t,none⟩) (Age.1 k12).1 (by simp)).trans (by unfold World.cell?;rw[k12];rfl)
 have C2:∀ w,Fr [] W2 w→∀ t,w.cell? ⟨W1.heap.size,t,none⟩=(#[.int .i64 d',.int .i64 n',.string s']:Array Value)[t]?:=fun w hw t=>(hw.cell (p:=⟨W1.heap.size,t,none⟩) hl2 (by simp)).trans (by unfold World.cell?;rw[k2];rfl)
 have a0:=C1 W2 (Fr.refl _ _) 0
 have a1:=C1 W2 (Fr.refl _ _) 1
 have a2:=C1 W2 (Fr.refl _ _) 2
 have b0:=C2 W2 (Fr.refl _ _) 0
 simp at a0 a1 a2 b0
 have F02:=F1.trans F2
 have HN:Hid _:=fun (w:World)=>xA d n s h w
 have HN':Hid _:=fun (w:World)=>xA d' n' s' h' w
 have HT:Hid _:=fun (w:World) (hw:Fr [] W w)=>uF d n s h w (hp.fr hw)
 have HT':Hid _:=fun (w:World) (hw:Fr [] W w)=>uF d' n' s' h' w (hp.fr hw)
 have HC:Hid _:=AI C2 F02
 clear C1 C2 k1 k2 k12 hl1 hl2 F1 F2 F02 hp h h'
 have two:∀ w,Fr [] W2 w→w.cell? ⟨W1.heap.size,0,none⟩=some (.int .i64 d')∧w.cell? ⟨W1.heap.size,1,none⟩=some (.int .i64 n')∧w.cell? ⟨W1.heap.size,2,none⟩=some (.string s'):=fun w hw=>⟨by rw[HC.out.1 w hw];rfl,by rw[HC.out.1 w hw];rfl,by rw[HC.out.1 w hw];rfl⟩
 have Two:Hid _:=two
 clear two
 by_cases hd:d≠2∧d'≠2
 ·have g1:(d==2)=false:=by simpa using hd.1
  have g2:(d'==2)=false:=by simpa using hd.2
  have g3:(d != 2)=true:=by simpa using hd.1
  have g4:(d' != 2)=true:=by simpa using hd.2
  clear hd
  go_enter func115,ntmps115
  go_wp2_with fail
  refine (HN.out _).mono ?_
  rintro e W3 ⟨⟨x,rfl,hx⟩,f3⟩
  obtain⟨e0,e1,e2⟩:=Two.out W3 f3
  clear a0 a1 a2 b0
  go_wp2_with fail
  refine (HN'.out _).mono ?_
  rintro e W4 ⟨⟨y,rfl,hy⟩,f4⟩
  clear e0 e1 e2
  go_wp2
  all_goals
   go_ret
   exact⟨⟨_,rfl,by decide,by decide⟩,HC.out.2.trans (f3.trans f4)⟩
 ·by_cases h2:d=2
  ·subst h2
   clear hd
   go_enter func115,ntmps115
   go_wp2_with fail
   refine (HT.out _ HC.out.2).mono ?_
   rintro e W3 ⟨⟨x,rfl,hx⟩,f3⟩
   obtain⟨e0,e1,e2⟩:=Two.out W3 f3
   clear a0 a1 a2 b0 HN HN'
   go_wp2_with fail
   refine (HT'.out _ (HC.out.2.trans f3)).mono ?_
   rintro e W4 ⟨⟨y,rfl,hy⟩,f4⟩
   have HF:Hid _:=HC.out.2.trans (f3.trans f4)
   clear e0 e1 e2 f3 f4 HC HT HT' Two
   go_wp2
   all_goals
    go_ret
    exact⟨⟨_,rfl,by decide,by decide⟩,HF.out⟩
  ·obtain rfl:d'=2:=by
    rcases Classical.em (d'=2) with h | h
    ·exact h
    ·exact absurd ⟨h2,h⟩ hd
   have g1:(d==2)=false:=by simpa using h2
   have g3:(d != 2)=true:=by simpa using h2
   clear hd h2
   go_enter func115,ntmps115
   go_wp2_with fail
   refine (HT.out _ HC.out.2).mono ?_
   rintro e W3 ⟨⟨x,rfl,hx⟩,f3⟩
   obtain⟨e0,e1,e2⟩:=Two.out W3 f3
   clear a0 a1 a2 b0 HN HN'
   go_wp2_with fail
   refine (HT'.out _ (HC.out.2.trans f3)).mono ?_
   rintro e W4 ⟨⟨y,rfl,hy⟩,f4⟩
   have HF:Hid _:=HC.out.2.trans (f3.trans f4)
   clear e0 e1 e2 f3 f4 HC HT HT' Two
   go_wp2
   all_goals
    go_ret
    exact⟨⟨_,rfl,by decide,by decide⟩,HF.out⟩
theorem Zo3 (k:Int)(hk:0≤k∧k≤5)(d n:Int)(s:ByteArray)(d' n':Int)(s':ByteArray)(h:SzN n s)(h':SzN n' s')(W:World)(hp:iM W):Calls prog 80 #[.int .i64 k,vlV d n s,vlV d' n' s'] W fun e W'=>aMv e∧Fr [] W W':=by
 have HC:Hid _:=fun (w:World) (hw:Fr [] W w)=>aCs d n s d' n' s' h h' w (hp.fr hw)
 have HT:Hid _:=fun (b:Bool) (w:World)=>aAx b w
 have HF:Hid _:=fun o1 o2=>((Fr.refl [] W).alloc o1).alloc o2
 clear hp h h'
 have:k=0∨k=1∨k=2∨k=3∨k=4∨k=5:=by omega
 clear hk
 rcases this with rfl | rfl | rfl | rfl | rfl | rfl
 all_goals
  go_enter func80,ntmps80
  go_wp2_with fail
  refine (HC.out _ (HF.out _ _)).mono ?_
  rintro e W2 ⟨⟨x,rfl,hx⟩,f2⟩
  go_wp2_with fail
  refine (HT.out _ _).mono ?_
  rintro e W3 ⟨⟨y,rfl,hy0,hy1⟩,hw⟩
  replace hw:=hw.symm
  subst hw
  go_wp2
  go_ret
  exact⟨⟨y,rfl,by omega,by omega⟩,(HF.out _ _).trans f2⟩
theorem aKd (s t:ByteArray)(hs:s.size≤1048576)(ht:t.size≤1048576)(W:World):Calls prog 86 #[.string s,.string t] W fun e W'=>aMv e∧W'=W:=by
 go_enter func86,ntmps86
 go_wp2
 go_loop [5] (fun i=>∃ k:Nat,k≤s.size+1∧i=.int .i64 k) (fun i=>s.size+1-(intOf i).toNat)
 case atStart=>exact⟨0,by omega,rfl⟩
 case round=>
  obtain⟨k,hk,rfl⟩:=hrel
  by_cases hlt:k+t.size≤s.size
  ·have g1:(k:Int)+t.size≤s.size:=by omega
   obtain⟨j,hj⟩:∃ j:Nat,(k:Int)+t.size=j:=⟨k+t.size,by omega⟩
   have hj1:j≤s.size:=by omega
   have hj2:k≤j:=by omega
   go_wp2
   ·go_ret
    exact⟨⟨_,rfl,by omega,by omega⟩,rfl⟩
   ·exact⟨⟨k+1,by omega,by go_num⟩,by simp[intOf];omega⟩
  ·have g1:¬ ((k:Int)+t.size≤s.size):=by omega
   go_wp2
   go_ret
   exact⟨⟨_,rfl,by decide,by decide⟩,rfl⟩
theorem aOv (s:ByteArray)(m n:Int)(hs:s.size≤1048576)(W:World):Calls prog 85 #[.string s,.int .i64 m,.int .i64 n] W fun e W'=>bFy e∧W'=W:=by
 go_enter func85,ntmps85
 go_wp2
 go_loop [7,8] (fun o i=>∃ (k:Nat) (u:ByteArray),k≤s.size∧u.size≤k∧o=.string u∧i=.int .i64 k) (fun _ i=>s.size-(intOf i).toNat)
 case atStart=>exact⟨0,⟨#[]⟩,by omega,by decide,rfl,rfl⟩
 case round=>
  obtain⟨k,u,hk,hu,rfl,rfl⟩:=hrel
  by_cases hlt:k<s.size
  ·have g1:(k:Int)<s.size:=by omega
   go_wp2
   all_goals
    first
     | exact⟨⟨k+1,_,by omega,by rw[ByteArray.size_append,ByteArray.size_extract];omega,rfl,by go_num⟩,by simp[intOf];omega⟩
     | exact⟨⟨k+1,u,by omega,by omega,rfl,by go_num⟩,by simp[intOf];omega⟩
  ·have g1:¬ ((k:Int)<s.size):=by omega
   go_wp2
   go_ret
   exact⟨⟨u,rfl,by omega⟩,rfl⟩
structure OwS (w0:World) (L:List ByteArray) (v:Value) (W:World):Prop where
 own:W.ownsRow w0.heap.size 9 1 v L.length (L.map .string)
 fr:Fr [] w0 W
theorem OwS.start (w:World):OwS w [] (.slice none 0 0) w:=⟨World.ownsRow_nil _ _ _ _,Fr.refl _ _⟩
theorem OwS.grown {w0 W W':World}{L:List ByteArray}{v v':Value}{s:ByteArray}{o:Obj} (h:OwS w0 L v W) (hown:W'.ownsRow w0.heap.size 9 1 v' (L.length+1) (L.map .string++[.string s])) (hg:(W.alloc o).grownBy W' v.ownBlock):OwS w0 (L++[s]) v' W':=by
 refine⟨by simpa using hown,⟨hg.os.trans h.fr.os,hg.tape.trans h.fr.tape,hg.output.trans h.fr.output,?_,fun k hk hn=>?_⟩⟩
 ·have:=hg.size
  have:=h.fr.size
  simp at *
  omega
 ·have hkW:k<W.heap.size:=Nll hk h.fr.size
  refine (hg.block k (by simp;omega) (fun e=>?_)).trans ((((Fr.refl [] W).alloc o).block k hkW (by simp)).trans (h.fr.block k hk hn))
  have:=(h.own.lt k e.symm).1
  omega
def bGi (s:ByteArray) (W:World) (e:Ending) (W':World):Prop:=∃ (v:Value) (L:List ByteArray),e=.returned v∧OwS W L v W'∧L.length≤s.size+1∧∀ x ∈ L,x.size≤s.size
theorem qX (s:ByteArray)(hs:s.size≤1048576)(W:World):Calls prog 112 #[.string s] W (bGi s W):=by
 obtain⟨i0,hi,hz0,hz1,hz2⟩:=info_parts Q7
 have HB:Hid _:=fun (c:Nat) (hc:c<256) (W:World)=>zJ c hc W
 go_enter func112,ntmps112
 go_wp2
 go_loopw [3,4,5] (fun l f i wr=>∃ (k:Nat) (L:List ByteArray) (b:Int),k≤s.size+1∧i=.int .i64 k∧f=.int .i64 b∧-1≤b∧b<k∧L.length≤k∧Hid (∀ x ∈ L,x.size≤s.size)∧OwS W L l wr) (fun _ _ i _=>s.size+1-(intOf i).toNat)
 case atStart=>exact⟨0,[],-1,by omega,rfl,rfl,by omega,by omega,by simp,(by intro x hx;cases hx),OwS.start W⟩
 case round=>
  obtain⟨k,L,b,hk,rfl,rfl,hb0,hb1,hL,hx,J⟩:=hrel
  by_cases hle:k≤s.size
  ·have g1:(k:Int)≤s.size:=by omega
   go_upto_region 6 with fail
   go_cut[6] from 7 to 41 (fun c wx=>(∃ g:Bool,c=.bool g)∧wx=wr)
   case first=>
    by_cases hlt:k<s.size
    ·have g2:((k:Int)==s.size)=false:=by simp;omega
     have hb:=s[k].toNat_lt
     go_wp2_with fail
     refine (HB.out s[k].toNat hb _).mono ?_
     rintro e W1 ⟨⟨g,rfl⟩,hw⟩
     replace hw:=hw.symm
     subst hw
     go_wp2_with fail
     go_meet
     exact⟨⟨g,rfl⟩,rfl⟩
    ·have g2:((k:Int)==s.size)=true:=by simp;omega
     go_wp2_with fail
     go_meet
     exact⟨⟨true,rfl⟩,rfl⟩
   case rest=>
    obtain⟨⟨g,rfl⟩,rfl⟩:=hcut
    have hsz:=J.fr.size
    cases g
    ·by_cases hb:b<0
     ·go_wp2
      exact⟨⟨k+1,L,k,by omega,by go_num,rfl,by omega,by omega,by omega,hx,J⟩,by simp[intOf];omega⟩
     ·go_wp2
      exact⟨⟨k+1,L,b,by omega,by go_num,rfl,by omega,by omega,by omega,hx,J⟩,by simp[intOf];omega⟩
    ·by_cases hb:0≤b
     ·obtain⟨q,hq⟩:∃ q:Nat,b=q:=⟨b.toNat,by omega⟩
      subst hq
      have hown:=J.own
      have g3:(q:Int)≤k:=by omega
      go_wp2_with (at_builtin;refine wpList_append_own _ rfl _ _ 22 rfl W.heap.size 9 i0 (.string ⟨#[]⟩) 1 16 underlying22 hi hz0 hz1 hz2 rfl (by decide) _ _ _ rfl (hown.alloc _) ⟨wc.heap.size,0,none⟩ 1 1 [.string (s.extract q k)] rfl rfl ?c1 ?c2 ?c3 ?c4 ?c5 ?_)
      case c2=>
       intro u hu
       simp at hu
       subst hu
       rfl
      case c3=>unfold maxLen;omega
      case c4=>omega
      case c5=>simp;omega
      case c1=>exact jE wc _ 9
      intro v' w3 hown' hgrow _
      have J3:=J.grown hown' hgrow
      have hx3:Hid (∀ x ∈ L++[s.extract q k],x.size≤s.size):=by
       intro x hm
       rcases List.mem_append.1 hm with h | h
       ·exact hx.out x h
       ·simp at h
        subst h
        rw[ByteArray.size_extract]
        omega
      clear hown hown' hgrow J hx
      go_wp2
      exact⟨⟨k+1,L++[s.extract q k],-1,by omega,by go_num,rfl,by omega,by omega,by simp;omega,hx3,J3⟩,by simp[intOf];omega⟩
     ·go_wp2
      exact⟨⟨k+1,L,b,by omega,by go_num,rfl,by omega,by omega,by omega,hx,J⟩,by simp[intOf];omega⟩
  ·have g1:¬ ((k:Int)≤s.size):=by omega
   go_wp2
   go_ret
   exact⟨_,L,rfl,J,by omega,hx.out⟩
theorem cN {w:World}{B:Nat}{e:TypeId}{z n:Nat}{v:Value}{xs:List Value} (h:w.ownsRow B e z v n xs):∃ o c,v=.slice o n c:=by
 rcases h.2 with ⟨h',h0⟩ | ⟨g,cap,cur,h',_⟩
 ·exact⟨none,0,by rw[h',h0]⟩
 ·exact⟨_,_,h'⟩
theorem bEj (W W2:World)(f2:Fr [] (W.alloc (.cells #[.int .i64 0,.int .i64 0,.string ⟨#[]⟩] 118)) W2)(d n:Int)(s:ByteArray):(∀ t,W2.cell? ⟨W.heap.size,t,none⟩=(#[.int .i64 0,.int .i64 0,.string ⟨#[]⟩]:Array Value)[t]?)∧(∀ t,W2.frozen? ⟨W.heap.size,t,none⟩=false)∧Fr [] W (oA W.heap.size 0 [.int .i64 d,.int .i64 n,.string s] W2)∧∀ t v,[.int .i64 d,.int .i64 n,.string s][t]?=some v→(oA W.heap.size 0 [.int .i64 d,.int .i64 n,.string s] W2).cell? ⟨W.heap.size,t,none⟩=some v:=by
 have k1:=wan W (.cells #[.int .i64 0,.int .i64 0,.string ⟨#[]⟩] 118)
 have hl1:=(Age.1 k1).1
 have F1:Fr [] W (W.alloc (.cells #[.int .i64 0,.int .i64 0,.string ⟨#[]⟩] 118)):=(Fr.refl [] W).alloc _
 have k2:=(f2.block _ hl1 (by simp)).trans k1
 have e2:∀ t,W2.cell? ⟨W.heap.size,t,none⟩=(#[.int .i64 0,.int .i64 0,.string ⟨#[]⟩]:Array Value)[t]?:=fun t=>by unfold World.cell?;rw[k2];rfl
 refine⟨e2,fun t=>by unfold World.frozen?;rw[k2];simp,(F1.trans f2).trans' (uK _ _ _ _) (fun x hx=>.inr (by simp at hx;omega)),fun t v hv=>?_⟩
 have:=rI W.heap.size 0 [.int .i64 d,.int .i64 n,.string s] W2 (fun t ht=>⟨_,by rw[Nat.zero_add,e2];exact Array.getElem?_eq_getElem (by simpa using ht)⟩) t v hv
 rwa [Nat.zero_add] at this
theorem MT.wc {E:Ev}{ks:List UInt8}{tag:Nat→Nat}{W:World} (h:MT E ks tag W) {j:Nat} (hj:j<7):W.cell? ⟨E.O 1,j,none⟩=some (E.C 1 j)∧W.frozen? ⟨E.O 1,j,none⟩=false:=by
 obtain⟨R,sv,h⟩:=h
 have hX:=h.B.x.2.2
 exact⟨h.S.oc (by omega),h.S.oz (by omega)⟩
theorem MT.wt {E:Ev}{ks:List UInt8}{tag:Nat→Nat}{W:World} (h:MT E ks tag W):tag (E.O 1)=1∧E.O 1<W.heap.size:=by
 obtain⟨R,sv,h⟩:=h
 have hX:=h.B.x.2.2
 have:=h.S.objs 1 (by omega)
 exact⟨this.2.2.1,this.2.1⟩
def bIm (e:Ending):Prop:=∃ (d n:Int) (s:ByteArray) (st:Int),e=.returned (.tuple #[vlV d n s,.int .i64 st])∧SzN n s∧(st=0∨st=5)
theorem bCs (E:Ev)(ks:List UInt8)(tag:Nat→Nat)(W:World)(h:MT E ks tag W)(n:Int):Calls prog 60 #[ptr (E.O 1),.int .i64 n] W fun e W'=>bIm e∧Fr [] W W':=by
 obtain⟨W1,hW1⟩:=eX (W.alloc (.cells #[.int .i64 0,.int .i64 0,.string ⟨#[]⟩] 118))
 have F1:Fr [] W W1:=by rw[← hW1];exact (Fr.refl [] W).alloc _
 have h1:=h.frm F1
 have c2:=(h1.wc (j:=2) (by decide)).1
 have c3:=(h1.wc (j:=3) (by decide)).1
 obtain⟨R,sv,h2⟩:=h1
 obtain⟨⟨s2,e2,hs2⟩,-⟩:=h2.B.rc
 obtain⟨l5,L,hL,hLs,r5⟩:=h2.B.fd
 have own:=(h2.S.row l5 r5).own
 obtain⟨o,c,e3⟩:=cN own
 rw[e2] at c2
 rw[e3] at c3 own
 have cl:∀ k,k<L.length→∃ (g:Nat) (s:ByteArray),o=some ⟨g,0,none⟩∧s.size≤1048576∧W1.cell? ⟨g,k,none⟩=some (.string s):=fun k hk=>by
  obtain⟨g,cap,eg,-,-⟩:=fG own (by omega)
  simp only[Value.slice.injEq,true_and] at eg
  obtain⟨rfl,rfl⟩:=eg
  exact⟨g,L[k],rfl,hLs _ (List.getElem_mem hk),bV own (by rw[List.getElem?_map,Lge hk];rfl)⟩
 have Fin:Hid _:=fun (W2:World) (f2:Fr [] W1 W2) (d n:Int) (s:ByteArray)=>bEj W W2 (by rw[hW1];exact f2) d n s
 have Cl:Hid _:=cl
 have HR:Hid _:=fun (s:ByteArray) (hs:s.size≤1048576)=>aAw s hs W1
 clear h h2 own cl F1 hLs r5 l5 e2 e3
 by_cases h0:n<0
 ·obtain⟨a,z,f,c⟩:=Fin.out W1 (Fr.refl _ _) 0 0 ⟨#[]⟩
  have a0:=a 0
  have a1:=a 1
  have a2:=a 2
  simp at a0 a1 a2
  have z0:=z 0
  have z1:=z 1
  have z2:=z 2
  have q0:=c 0 _ rfl
  have q1:=c 1 _ rfl
  have q2:=c 2 _ rfl
  simp only[oA,Nat.zero_add] at q0 q1 q2 f
  clear a z c Fin Cl HR
  go_enter func60,ntmps60
  go_wp2
  refine bodyPost_ret (v:=.tuple #[vlV 0 0 ⟨#[]⟩,.int .i64 5]) (by simp[results,results60,go_sem,q0,q1,q2]) rfl ?_
  exact⟨⟨0,0,⟨#[]⟩,5,rfl,⟨by decide,by decide,by decide⟩,.inr rfl⟩,f⟩
 ·by_cases h1:n=0
  ·subst h1
   go_enter func60,ntmps60
   go_wp2_with fail
   refine (HR.out s2 hs2).mono ?_
   rintro e W3 ⟨⟨d,rfl⟩,f3⟩
   obtain⟨a,z,f,c⟩:=Fin.out W3 f3 d 0 s2
   have a0:=a 0
   have a1:=a 1
   have a2:=a 2
   simp at a0 a1 a2
   have z0:=z 0
   have z1:=z 1
   have z2:=z 2
   have q0:=c 0 _ rfl
   have q1:=c 1 _ rfl
   have q2:=c 2 _ rfl
   simp only[oA,Nat.zero_add] at q0 q1 q2 f
   clear a z c Fin Cl HR
   go_wp2
   refine bodyPost_ret (v:=.tuple #[vlV d 0 s2,.int .i64 0]) (by simp[results,results60,go_sem,q0,q1,q2]) rfl ?_
   exact⟨⟨d,0,s2,0,rfl,⟨hs2,by decide,by decide⟩,.inl rfl⟩,f⟩
  ·by_cases h2:n≤L.length
   ·obtain⟨k,hk⟩:∃ k:Nat,n=(k:Int)+1:=⟨(n-1).toNat,by omega⟩
    subst hk
    obtain⟨g,s,rfl,hs,hc⟩:=Cl.out k (by omega)
    have g1:((k:Int)+1==0)=false:=by simp;omega
    have g3:(k:Int)<L.length:=by omega
    generalize L.length=len at *
    go_enter func60,ntmps60
    go_wp2_with fail
    refine (HR.out s hs).mono ?_
    rintro e W3 ⟨⟨d,rfl⟩,f3⟩
    obtain⟨a,z,f,c⟩:=Fin.out W3 f3 d 0 s
    have a0:=a 0
    have a1:=a 1
    have a2:=a 2
    simp at a0 a1 a2
    have z0:=z 0
    have z1:=z 1
    have z2:=z 2
    have q0:=c 0 _ rfl
    have q1:=c 1 _ rfl
    have q2:=c 2 _ rfl
    simp only[oA,Nat.zero_add] at q0 q1 q2 f
    clear a z c Fin Cl HR
    go_wp2
    refine bodyPost_ret (v:=.tuple #[vlV d 0 s,.int .i64 0]) (by simp[results,results60,go_sem,q0,q1,q2]) rfl ?_
    exact⟨⟨d,0,s,0,rfl,⟨hs,by decide,by decide⟩,.inl rfl⟩,f⟩
   ·obtain⟨a,z,f,c⟩:=Fin.out W1 (Fr.refl _ _) 0 0 ⟨#[]⟩
    have g1:(n==0)=false:=by simpa using h1
    have a0:=a 0
    have a1:=a 1
    have a2:=a 2
    simp at a0 a1 a2
    have z0:=z 0
    have z1:=z 1
    have z2:=z 2
    have q0:=c 0 _ rfl
    have q1:=c 1 _ rfl
    have q2:=c 2 _ rfl
    simp only[oA,Nat.zero_add] at q0 q1 q2 f
    clear a z c Fin Cl HR
    go_enter func60,ntmps60
    go_wp2
    refine bodyPost_ret (v:=.tuple #[vlV 0 0 ⟨#[]⟩,.int .i64 0]) (by simp[results,results60,go_sem,q0,q1,q2]) rfl ?_
    exact⟨⟨0,0,⟨#[]⟩,0,rfl,⟨by decide,by decide,by decide⟩,.inl rfl⟩,f⟩
theorem MB.world {w0:World}{X:Nat}{m:Mo}{lv:Nat→Bool}{R R':Nat→Rw}{sz O:Nat→Nat}{C C':Nat→Nat→Value}{st:Int}{us:Nat} (B:MB w0 X m lv R sz O C st us) (hC:∀ i j,i≠1→C' i j=C i j) (hR:∀ i,i≠5→R' i=R i)
  (rd:∃ nr nd k q:Nat,aAq w0 (C' 1 0) (C' 1 1) nr nd∧C' 1 4=.int .i64 k∧k≤nr∧C' 1 5=.int .i64 q∧q≤nd)
  (rc:(∃ s:ByteArray,C' 1 2=.string s∧s.size≤1048576)∧∃ s:ByteArray,C' 1 6=.string s∧s.size≤1000)
  (fd:∃ (L:List ByteArray),L.length≤1048577∧(∀ s ∈ L,s.size≤1048576)∧R' 5=⟨C' 1 3,9,1,L.length,L.map .string⟩):MB w0 X m lv R' sz O C' st us:=by
 have e0:∀ j,C' 0 j=C 0 j:=fun j=>hC 0 j (by decide)
 refine⟨B.x,?_,?_,?_,?_,fun j hj=>?_,rd,rc,⟨B.fd.1,fd⟩,?_,?_,?_,?_,B.ah⟩
 ·rw[e0,e0,e0,e0,e0];exact B.md
 ·rw[e0];exact B.w
 ·rw[e0,hR 2 (by decide)];exact B.gl
 ·rw[e0,hR 3 (by decide)];exact B.ar
 ·rw[hC _ 0 (by omega),hR _ (by omega)];exact B.ae j hj
 ·rw[e0];exact B.st
 ·rw[e0];exact B.cd
 ·rw[e0];exact B.us
 ·rw[e0];exact B.sk
theorem MS.world {w0 W W':World}{X:Nat}{m:Mo}{tag tag':Nat→Nat}{lv:Nat→Bool}{R R':Nat→Rw}{sz O:Nat→Nat}{C C':Nat→Nat→Value}{K:Value→Prop}{st:Int}{us:Nat}{fs:List FrV}{kk:List (List UInt8)} (h:MS w0 W X m tag lv R sz O C K st us fs kk) (S:Sto w0 W' tag' lv R' sz O C' K) (hC:∀ i j,i≠1→C' i j=C i j) (hR:∀ i,i≠5→R' i=R i)
  (rd:∃ nr nd k q:Nat,aAq w0 (C' 1 0) (C' 1 1) nr nd∧C' 1 4=.int .i64 k∧k≤nr∧C' 1 5=.int .i64 q∧q≤nd)
  (rc:(∃ s:ByteArray,C' 1 2=.string s∧s.size≤1048576)∧∃ s:ByteArray,C' 1 6=.string s∧s.size≤1000)
  (fd:∃ (L:List ByteArray),L.length≤1048577∧(∀ s ∈ L,s.size≤1048576)∧R' 5=⟨C' 1 3,9,1,L.length,L.map .string⟩):MS w0 W' X m tag' lv R' sz O C' K st us fs kk:=by
 refine⟨S,h.B.world hC hR rd rc fd,⟨h.fr.1,by rw[hR 4 (by decide),hC 0 8 (by decide)];exact h.fr.2⟩,h.ln,fun i x ks hi hk=>?_⟩
 have o:=h.each i x ks hi hk
 exact⟨by rw[hR _ (by omega)];exact o.f,by rw[hR _ (by omega)];exact o.s⟩
def MW (E:Ev) (ks:List UInt8) (tag:Nat→Nat) (W W':World):Prop:=∃ C',(∀ j,C' 0 j=E.C 0 j)∧MK { E with C:=C' } ks tag W W'
theorem MW.of {E:Ev}{ks:List UInt8}{tag:Nat→Nat}{W W':World} (h:MK E ks tag W W'):MW E ks tag W W':=⟨E.C,fun _=>rfl,h⟩
theorem MT.mk {E:Ev}{ks:List UInt8}{tag:Nat→Nat}{W W':World} (h:MT E ks tag W) (hf:Fr [] W W'):MK E ks tag W W':=⟨_,h.frm hf,(Kp.refl tag W).frm hf⟩
def bIq (E:Ev) (ks:List UInt8) (tag:Nat→Nat) (W:World) (e:Ending) (W':World):Prop:=(∃ n:Int,e=.returned (.int .i64 n)∧-9223372036854775808≤n∧n≤9223372036854775807)∧MW E ks tag W W'
theorem bFs (E:Ev)(ks:List UInt8)(tag:Nat→Nat)(W:World)(h:MT E ks tag W):Calls prog 65 #[ptr (E.O 1)] W (bIq E ks tag W):=by
 have c5:=h.wc (j:=5) (by decide)
 have c1:=(h.wc (j:=1) (by decide)).1
 have ht:=h.wt
 have fr:=h.fr
 obtain⟨R,sv,h2⟩:=id h
 obtain⟨nr,nd,k,q,sc,e4,hk,e5,hq⟩:=h2.B.rd
 obtain⟨o,c,ed,hc,hn,hcell⟩:=sc.d
 have hX:=h2.B.x.2.2
 rw[e5] at c5
 rw[ed] at c1
 have HZ:Hid _:=fun (_:Unit)=>h.mk ((Fr.refl [] W).drew)
 by_cases hd:nd≤q
 ·have g1:(nd:Int)≤q:=by omega
  clear h h2 hcell sc ed fr e4
  obtain⟨c5,z5⟩:=c5
  go_enter func65,ntmps65
  go_wp2
  go_region
  go_wp2
  go_ret
  exact⟨⟨0,rfl,by decide,by decide⟩,MW.of (HZ.out ())⟩
 ·have g1:¬ ((nd:Int)≤q):=by omega
  obtain⟨g,off,rfl,hg,hx⟩:=hcell (by omega)
  obtain⟨n,hn1,hx⟩:=hx q (by omega)
  have S1:=(h2.S.re (tag':=aM tag W.heap.size 6) (fun k hk=>aI hk)).frm ((Fr.refl [] W).drew)
  obtain⟨WD,hWD⟩:=eX (W.drew)
  rw[hWD] at S1
  have FD:Fr [] W WD:=by rw[← hWD];exact (Fr.refl [] W).drew
  have S2:=S1.set (i:=1) (j:=5) (by omega) (.int .i64 ((q:Int)+1))
  have MM:=h2.world S2 (fun i j hi=>bJ _ _ (by omega)) (fun _ _=>rfl) (by
   rw[bJ _ _ (by decide),bJ _ _ (by decide),bJ _ _ (by decide),fS]
   exact⟨nr,nd,k,q+1,sc,e4,hk,by simp,by omega⟩) (by
   rw[bJ _ _ (by decide),bJ _ _ (by decide)]
   exact h2.B.rc) (by
   rw[bJ _ _ (by decide)]
   exact h2.B.fd.2)
  have tO:aM tag W.heap.size 6 (E.O 1)≠6:=by rw[aI ht.2,ht.1];decide
  have hne:g≠E.O 1:=by
   have:=(S1.objs 1 (by omega)).1
   omega
  have K2:Kp tag (aM tag W.heap.size 6) W (WD.setCell ⟨E.O 1,5,none⟩ (.int .i64 ((q:Int)+1))):=((Kp.refl tag W).frm FD).trans (Kp.set tO)
  obtain⟨W3,hW3⟩:=eX (WD.setCell ⟨E.O 1,5,none⟩ (.int .i64 ((q:Int)+1)))
  rw[hW3] at MM K2
  have F3:Fr [] W3 W3.drew:=(Fr.refl [] W3).drew
  have Z:MW E ks tag W W3.drew:=⟨upC E.C 1 5 (.int .i64 ((q:Int)+1)),fun j=>bJ _ _ (by simp),aM (aM tag W.heap.size 6) W3.heap.size 6,MT.frm (E:={ E with C:=upC E.C 1 5 (.int .i64 ((q:Int)+1)) }) ⟨R,sv,MM⟩ F3,K2.frm F3⟩
  have ux:WD.cell? ⟨g,off+q,none⟩=some (.int .i64 n):=(FD.cell (p:=⟨g,off+q,none⟩) (Nll hg fr.size) (by simp)).trans ((fr.cell (p:=⟨g,off+q,none⟩) hg (by simp)).trans hx)
  have d5:WD.cell? ⟨E.O 1,5,none⟩=some (.int .i64 q):=by rw[← hWD];exact c5.1
  have d5z:WD.frozen? ⟨E.O 1,5,none⟩=false:=by rw[← hWD];exact c5.2
  have d1:WD.cell? ⟨E.O 1,1,none⟩=some (.slice (some ⟨g,off,none⟩) nd c):=by rw[← hWD];exact c1
  have x3:W3.cell? ⟨g,off+q,none⟩=some (.int .i64 n):=by rw[← hW3,World.cell?_setCell_other _ _ _ _ (by simp <;> omega)];exact ux
  have x5:W3.cell? ⟨E.O 1,5,none⟩=some (.int .i64 ((q:Int)+1)):=by rw[← hW3];exact aP d5
  have x1:W3.cell? ⟨E.O 1,1,none⟩=some (.slice (some ⟨g,off,none⟩) nd c):=by rw[← hW3,aA (by decide)];exact d1
  have g2:(q:Int)<nd:=by omega
  have g4:(q:Int)+1≤1048576:=by omega
  have HZ2:Hid _:=Z
  clear h h2 sc ed fr e4 S1 S2 MM tO K2 F3 Z FD hx ux ht HZ hX hc
  obtain⟨c5,z5⟩:=c5
  go_enter func65,ntmps65
  go_wp2
  go_region
  go_wp2
  go_region
  go_wp2
  go_ret
  exact⟨⟨n,rfl,hn1.1,hn1.2⟩,HZ2.out⟩
theorem Sto.refield {w0 W W':World}{tag:Nat→Nat}{lv:Nat→Bool}{R:Nat→Rw}{sz O:Nat→Nat}{C:Nat→Nat→Value}{K:Value→Prop} (S:Sto w0 W tag lv R sz O C K) {L:List ByteArray}{v:Value} (h:OwS W L v W') (hl:lv 5=true) :
  Sto w0 W' (aM tag W.heap.size 5) lv (up R 5 ⟨v,9,1,L.length,L.map .string⟩) sz O C K:=by
 have S1:=S.new (i:=5) (by
  rcases Nat.eq_zero_or_pos (sz 5) with h0 | h0
  ·exact h0
  ·exact (S.far 5 hl h0).elim) (by decide) h.fr (D1 h.own S.fr.size) (fun g hg=>(h.own.lt g hg).1)
 rwa [show up lv 5 true=lv from funext fun i=>by
  by_cases e:i=5
  ·subst e;rw[bG,hl]
  ·rw[aJ _ _ e]] at S1
def bIg (E:Ev) (ks:List UInt8) (tag:Nat→Nat) (W:World) (e:Ending) (W':World):Prop:=(∃ b:Bool,e=.returned (.bool b))∧MW E ks tag W W'
theorem bFc (E:Ev)(ks:List UInt8)(tag:Nat→Nat)(W:World)(h:MT E ks tag W):Calls prog 63 #[ptr (E.O 1)] W (bIg E ks tag W):=by
 have c4:=(h.wc (j:=4) (by decide)).1
 have c0:=(h.wc (j:=0) (by decide)).1
 have ht:=h.wt
 have fr:=h.fr
 obtain⟨R,sv,h2⟩:=id h
 obtain⟨nr,nd,k,q,sc,e4,hk,e5,hq⟩:=h2.B.rd
 obtain⟨o,c,ed,hc,hn,hcell⟩:=sc.r
 have hX:=h2.B.x.2.2
 rw[e4] at c4
 rw[ed] at c0
 have HZ:Hid _:=fun (_:Unit)=>h.mk ((Fr.refl [] W).drew)
 by_cases hd:nr≤k
 ·have g1:(nr:Int)≤k:=by omega
  clear h h2 hcell sc ed fr e4
  go_enter func63,ntmps63
  go_wp2
  go_region
  go_wp2
  go_ret
  exact⟨⟨false,rfl⟩,MW.of (HZ.out ())⟩
 ·have g1:¬ ((nr:Int)≤k):=by omega
  obtain⟨g,off,rfl,hg,hx⟩:=hcell (by omega)
  obtain⟨s,hs,hx⟩:=hx k (by omega)
  obtain⟨WD,hWD⟩:=eX (W.drew)
  obtain⟨W2,hW2⟩:=eX (WD.drew)
  have FD:Fr [] W WD:=by rw[← hWD];exact (Fr.refl [] W).drew
  have F2:Fr [] W W2:=by rw[← hW2];exact FD.drew
  have T2:=h.frm F2
  obtain⟨R2,sv2,h3⟩:=id T2
  have tO:aM tag W.heap.size 6 (E.O 1)=1:=by rw[aI ht.2,ht.1]
  obtain⟨W3,hW3⟩:=eX (W2.setCell ⟨E.O 1,2,none⟩ (.string s))
  have S3:=h3.S.set (i:=1) (j:=2) (by omega) (.string s)
  rw[hW3] at S3
  have K3:Kp tag (aM tag W.heap.size 6) W W3:=((Kp.refl tag W).frm F2).trans (by rw[← hW3];exact Kp.set (by rw[tO];decide))
  have Fin:Hid _:=fun (L:List ByteArray) (v:Value) (W4:World) (hL:OwS W3 L v W4) (hl:L.length≤s.size+1) (hb:∀ x ∈ L,x.size≤s.size)=>(show
    (W4.cell? ⟨E.O 1,3,none⟩=some (E.C 1 3)∧W4.frozen? ⟨E.O 1,3,none⟩=false)∧((W4.setCell ⟨E.O 1,3,none⟩ v).cell? ⟨E.O 1,4,none⟩=some (.int .i64 k)∧(W4.setCell ⟨E.O 1,3,none⟩ v).frozen? ⟨E.O 1,4,none⟩=false)∧MW E ks tag W ((W4.setCell ⟨E.O 1,3,none⟩ v).setCell ⟨E.O 1,4,none⟩ (.int .i64 ((k:Int)+1))) from by
   have S4:=S3.refield hL h3.B.fd.1
   have S5:=(S4.set (i:=1) (j:=3) (by omega) v).set (i:=1) (j:=4) (by omega) (.int .i64 ((k:Int)+1))
   have y4:=(S4.set (i:=1) (j:=3) (by omega) v).oc (i:=1) (j:=4) (by omega)
   have y3:=S4.oc (i:=1) (j:=3) (by omega)
   refine⟨⟨y3,S4.oz (i:=1) (j:=3) (by omega)⟩,⟨y4.trans (by rw[← e4];rfl),(S4.set (i:=1) (j:=3) (by omega) v).oz (i:=1) (j:=4) (by omega)⟩,?_⟩
   have MM:=h3.world S5 (fun i j hi=>by rw[bJ _ _ (by omega),bJ _ _ (by omega),bJ _ _ (by omega)]) (fun i hi=>aJ _ _ hi) ⟨nr,nd,k+1,q,sc,rfl,by omega,e5,hq⟩ ⟨⟨s,rfl,hs⟩,h3.B.rc.2⟩ ⟨L,by omega,fun x hx=>Nat.le_trans (hb x hx) hs,rfl⟩
   refine⟨upC (upC (upC E.C 1 2 (.string s)) 1 3 v) 1 4 (.int .i64 ((k:Int)+1)),fun j=>rfl,aM (aM tag W.heap.size 6) W3.heap.size 5,⟨_,sv2,MM⟩,?_⟩
   have t5:aM (aM tag W.heap.size 6) W3.heap.size 5 (E.O 1)≠6:=by rw[aI (Nll ht.2 K3.size),tO];decide
   exact ((K3.trans (Kp.of_fr hL.fr (fun k hk=>aI hk))).trans (Kp.set t5)).trans (Kp.set t5))
  have HC:Hid _:=fun (_:Unit)=>qX s hs W3
  have w2:=T2.wc (j:=2) (by decide)
  have w0:=(T2.wc (j:=0) (by decide)).1
  have w4:=(T2.wc (j:=4) (by decide)).1
  rw[ed] at w0
  rw[e4] at w4
  obtain⟨⟨s2,e2,-⟩,-⟩:=h2.B.rc
  rw[e2] at w2
  have x2:W2.cell? ⟨g,off+k,none⟩=some (.string s):=(F2.cell (p:=⟨g,off+k,none⟩) (Nll hg fr.size) (by simp)).trans ((fr.cell (p:=⟨g,off+k,none⟩) hg (by simp)).trans hx)
  obtain⟨w2,z2⟩:=w2
  have y2:W3.cell? ⟨E.O 1,2,none⟩=some (.string s):=by rw[← hW3];exact aP w2
  have g2:(k:Int)<nr:=by omega
  have g4:(k:Int)+1≤1048576:=by omega
  obtain⟨-,L0,-,-,r5⟩:=h2.B.fd
  have own5:=(h2.S.row h2.B.fd.1 r5).own
  obtain⟨o3,c3,e3⟩:=cN own5
  rw[e3] at Fin
  clear h h2 h3 sc ed fr e4 S3 K3 tO ht FD F2 T2 HZ hX hc hx own5 e3 r5 e2 e5 hs
  have dcell:∀ a,WD.cell? a=W2.cell? a:=fun a=>by rw[← hW2];rfl
  have dfro:∀ a,WD.frozen? a=W2.frozen? a:=fun a=>by rw[← hW2];rfl
  have d2:=(dcell _).trans w2
  have dz2:=(dfro _).trans z2
  have d0:=(dcell _).trans w0
  have d4:=(dcell _).trans w4
  have dx:=(dcell _).trans x2
  clear dcell dfro
  go_enter func63,ntmps63
  go_wp2
  go_region
  go_wp2
  go_region
  go_wp2_with fail
  refine (HC.out ()).mono ?_
  rintro e W4 ⟨v,L,rfl,hL,hl,hb⟩
  obtain⟨o6,c6,e6⟩:=cN hL.own
  generalize hln:L.length=ln at e6
  subst e6
  obtain⟨⟨p3,pz3⟩,⟨p4,pz4⟩,Z⟩:=Fin.out L _ W4 hL hl hb
  have HZ:Hid _:=Z
  clear Fin HC hL hl hb Z hln
  obtain⟨W5,hW5⟩:=eX (W4.setCell ⟨E.O 1,3,none⟩ (.slice o6 ln c6))
  rw[hW5] at p4 pz4 HZ
  clear d2 dz2 d0 d4 dx x2 w0 w4 w2 z2 y2 hWD hW2 hW3
  go_wp2
  go_ret
  exact⟨⟨true,rfl⟩,HZ.out⟩
def TxL (W:World) (o:Option Addr) (n:Nat):Prop:=0<n→∃ (g off:Nat),o=some ⟨g,off,none⟩∧∀ i,i<n→∃ s:ByteArray,s.size≤1048576∧W.cell? ⟨g,off+i,none⟩=some (.string s)
def bDq (E:Ev) (ks:List UInt8) (tag:Nat→Nat) (W:World) (e:Ending) (W':World):Prop:=(∃ st:Int,e=.returned (.int .i64 st)∧0≤st∧st≤9)∧MW E ks tag W W'
theorem bBh (E:Ev)(ks:List UInt8)(tag:Nat→Nat)(W:World)(h:MT E ks tag W)(o:Option Addr)(n c:Nat)(hn:n≤1024)(hl:TxL W o n):Calls prog 67 #[ptr (E.O 1),.slice o n c] W (bDq E ks tag W):=by
 obtain⟨c6,z6⟩:=h.wc (j:=6) (by decide)
 have ht:=h.wt
 obtain⟨R,sv,h2⟩:=id h
 obtain⟨rc,s6,e6,hs6⟩:=h2.B.rc
 have hX:=h2.B.x.2.2
 rw[e6] at c6
 have HZ:Hid _:=MW.of (MK.then_ (Kp.refl tag W) (show MK E ks tag W W from ⟨tag,h,Kp.refl _ _⟩))
 have Fin:Hid _:=fun (u:ByteArray) (hu:u.size≤1000)=>(show MW E ks tag W (W.setCell ⟨E.O 1,6,none⟩ (.string u)) from
  ⟨upC E.C 1 6 (.string u),fun j=>rfl,tag,⟨R,sv,h2.world (h2.S.set (i:=1) (j:=6) (by omega) (.string u)) (fun i j hi=>bJ _ _ (by omega)) (fun _ _=>rfl) h2.B.rd ⟨rc,u,rfl,hu⟩ h2.B.fd.2⟩,Kp.set (by rw[ht.1];decide)⟩)
 have HL:Hid _:=hl
 clear h h2 rc ht hX hl e6
 go_enter func67,ntmps67
 go_wp2
 go_loop [5,6] (fun t i=>∃ (k:Nat) (u:ByteArray),k≤n∧u.size≤k*1048577∧t=.string u∧i=.int .i64 k) (fun _ i=>n-(intOf i).toNat)
 case atStart=>exact⟨0,⟨#[]⟩,by omega,by decide,rfl,rfl⟩
 case round=>
  obtain⟨k,u,hk,hu,rfl,rfl⟩:=hrel
  by_cases hlt:k<n
  ·have g1:(k:Int)<n:=by omega
   obtain⟨g,off,rfl,hc⟩:=HL.out (by omega)
   obtain⟨s,hs,hc⟩:=hc k hlt
   by_cases h0:0<k
   ·have g2:(0:Int)<k:=by omega
    go_wp2
    exact⟨⟨k+1,_,by omega,by rw[ByteArray.size_append,ByteArray.size_append,show (ByteArray.mk #[32]).size=1 from rfl];omega,rfl,by go_num⟩,by simp[intOf];omega⟩
   ·have g2:¬ ((0:Int)<k):=by omega
    go_wp2
    exact⟨⟨k+1,_,by omega,by rw[ByteArray.size_append];omega,rfl,by go_num⟩,by simp[intOf];omega⟩
  ·have g1:¬ ((k:Int)<n):=by omega
   obtain⟨v,hv⟩:=eX (u++ByteArray.mk #[10])
   have hvs:v.size≤1048577*1024+1:=by rw[← hv,ByteArray.size_append,show (ByteArray.mk #[10]).size=1 from rfl];have:=Nat.mul_le_mul_right 1048577 hk;have:=Nat.mul_le_mul_right 1048577 hn;omega
   have hu2:u.size≤1048577*1024:=by have:=Nat.mul_le_mul_right 1048577 hk;have:=Nat.mul_le_mul_right 1048577 hn;omega
   clear hu
   by_cases hb:s6.size+v.size≤1000
   ·have g2:(s6.size:Int)+v.size≤1000:=by omega
    have HF:=Fin.out (s6++v) (by rw[ByteArray.size_append];omega)
    go_wp2
    go_ret
    exact⟨⟨0,rfl,by decide,by decide⟩,HF⟩
   ·have g2:¬ ((s6.size:Int)+v.size≤1000):=by omega
    go_wp2
    go_ret
    exact⟨⟨8,rfl,by decide,by decide⟩,HZ.out⟩
end Go.Proofs.YtgpamchpeamnfaaGreatDoor
