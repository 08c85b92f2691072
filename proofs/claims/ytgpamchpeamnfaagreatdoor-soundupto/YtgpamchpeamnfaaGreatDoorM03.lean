/-
  Texts Ia Ib Ic Mc Md Me Mf.
-/
import Derived.ArgAppend
import Derived.Deep.Onto
import Derived.Test.YtgpamchpeamnfaaGreatDoorMA
import Derived.Test.YtgpamchpeamnfaaGreatDoorM00
import Derived.Test.YtgpamchpeamnfaaGreatDoorM01
set_option linter.unusedSimpArgs false
set_option linter.unusedVariables false
set_option maxRecDepth 100000
set_option maxHeartbeats 40000000
open _root_.Go.Proofs.Tryz
namespace Go.Proofs.YtgpamchpeamnfaaGreatDoor
open Go.RowKit
open Wire Flow
theorem aZy {a b:UInt8}(h:a≠b):((a.toNat:Int)==(b.toNat:Int))=false:=by
 simp only[beq_eq_false_iff_ne,ne_eq]
 intro e
 exact h (UInt8.toNat_inj.1 (by omega))
theorem O9 (a b:UInt8)(w:World):Calls prog 109 #[.int .u8 a.toNat,.int .u8 b.toNat] w fun e w'=>e=.returned (.int .u8 (lst a b).toNat)∧w'=w:=by
 have h1:=a.toNat_lt
 have h2:=b.toNat_lt
 by_cases hab:a=b
 ·subst hab
  have hr:lst a a=a:=by unfold lst;rw[if_pos rfl]
  rw[hr]
  go_enter func109,ntmps109
  go_wp2
  go_ret
  exact⟨rfl,rfl⟩
 ·have g0:=aZy hab
  have fact:∀ (x:UInt8) (k:Nat) (hk:k<256),x=UInt8.ofNat k∨((x.toNat:Int)==(k:Int))=false:=fun x k hk=>by
   by_cases e:x=UInt8.ofNat k
   ·exact .inl e
   ·right
    simp only[beq_eq_false_iff_ne,ne_eq]
    intro e2
    exact e (UInt8.toNat_inj.1 (by simp[UInt8.toNat_ofNat];omega))
  by_cases hk:a=107∨b=107∨a=106∨b=106
  ·have hr:lst a b=106:=by unfold lst;rw[if_neg hab,if_pos hk]
   rw[hr]
   rcases fact a 107 (by omega) with ea | ea
   ·have ea':(a.toNat:Int)=107:=by rw[ea];rfl
    rw[ea'] at g0 ⊢
    clear fact hk hr hab ea h1
    go_enter func109,ntmps109
    go_wp2
    go_ret
    exact⟨rfl,rfl⟩
   ·change ((a.toNat:Int)==107)=false at ea
    rcases fact b 107 (by omega) with eb | eb
    ·have eb':(b.toNat:Int)=107:=by rw[eb];rfl
     rw[eb'] at g0 ⊢
     clear fact hk hr hab eb h2
     go_enter func109,ntmps109
     go_wp2
     go_ret
     exact⟨rfl,rfl⟩
    ·change ((b.toNat:Int)==107)=false at eb
     rcases fact a 106 (by omega) with ec | ec
     ·have ec':(a.toNat:Int)=106:=by rw[ec];rfl
      rw[ec'] at g0 ⊢
      clear fact hk hr hab ec h1 ea
      go_enter func109,ntmps109
      go_wp2
      go_ret
      exact⟨rfl,rfl⟩
     ·change ((a.toNat:Int)==106)=false at ec
      rcases fact b 106 (by omega) with ed | ed
      ·have ed':(b.toNat:Int)=106:=by rw[ed];rfl
       rw[ed'] at g0 ⊢
       clear fact hk hr hab ed h2 eb
       go_enter func109,ntmps109
       go_wp2
       go_ret
       exact⟨rfl,rfl⟩
      ·change ((b.toNat:Int)==106)=false at ed
       exfalso
       rcases hk with e | e | e | e <;> subst e
       ·exact absurd ea (by decide)
       ·exact absurd eb (by decide)
       ·exact absurd ec (by decide)
       ·exact absurd ed (by decide)
  ·have hr:lst a b=97:=by unfold lst;rw[if_neg hab,if_neg hk]
   rw[hr]
   have q1:((a.toNat:Int)==107)=false:=(fact a 107 (by omega)).resolve_left fun e=>hk (.inl e)
   have q2:((b.toNat:Int)==107)=false:=(fact b 107 (by omega)).resolve_left fun e=>hk (.inr (.inl e))
   have q3:((a.toNat:Int)==106)=false:=(fact a 106 (by omega)).resolve_left fun e=>hk (.inr (.inr (.inl e)))
   have q4:((b.toNat:Int)==106)=false:=(fact b 106 (by omega)).resolve_left fun e=>hk (.inr (.inr (.inr e)))
   clear fact hk hr hab
   go_enter func109,ntmps109
   go_wp2
   go_ret
   exact⟨rfl,rfl⟩
theorem aKl (a b:UInt8)(w:World):Calls prog 145 #[.int .u8 a.toNat,.int .u8 b.toNat] w fun e w'=>e=.returned (.bool (decide (lst a b=b)))∧w'=w:=by
 have hl:=O9 a b w
 have he:(((lst a b).toNat:Int)==(b.toNat:Int))=decide (lst a b=b):=by
  by_cases h:lst a b=b
  ·rw[h];simp
  ·rw[aZy h];simp[h]
 have h1:=(lst a b).toNat_lt
 have h2:=b.toNat_lt
 go_enter func145,ntmps145
 go_wp2_with fail
 refine hl.mono ?_
 rintro e w1 ⟨rfl,rfl⟩
 go_wp2
 go_ret
 rw[← he]
 exact⟨rfl,rfl⟩
theorem aYi {s t:List UInt8}(hl:s.length=t.length):leS s t↔∀ i (h1:i<s.length) (h2:i<t.length),le s[i] t[i]:=by
 induction s generalizing t with
 | nil=>cases t with
  | nil=>exact⟨fun _ i h1=>absurd h1 (by simp),fun _=>trivial⟩
  | cons=>simp at hl
 | cons a s ih=>cases t with
  | nil=>simp at hl
  | cons b t=>
   have ih':=ih (t:=t) (by simpa using hl)
   constructor
   ·rintro ⟨h1,h2⟩ i h3 h4
    cases i with
    | zero=>exact h1
    | succ i=>exact ih'.1 h2 i (by simpa using h3) (by simpa using h4)
   ·intro h
    exact⟨h 0 (by simp) (by simp),ih'.2 fun i h3 h4=>by
     have q:=h (i+1) (by simpa using h3) (by simpa using h4)
     simp only[List.getElem_cons_succ] at q
     exact q⟩
def wdK (l:List UInt8):ByteArray:=⟨l.toArray⟩
theorem bE (l:List UInt8):(wdK l).size=l.length:=by simp[wdK,ByteArray.size]
theorem pR (l:List UInt8):bl (wdK l)=l:=X2 l
theorem aBp (c:UInt8)(n:Nat)(w:World)(hn:n≤100000):Calls prog 131 #[.string ⟨#[c]⟩,.int .i64 n] w fun e w'=>e=.returned (.string (wdK (List.replicate n c)))∧w'=w:=by
 go_enter func131,ntmps131
 go_wp2
 go_loop [5,6] (fun s i=>∃ (k:Nat) (S:ByteArray),k≤n∧s=.string S∧i=.int .i64 k∧S.size=k∧Hid (S=wdK (List.replicate k c))) (fun _ i=>n-(intOf i).toNat)
 case atStart=>exact⟨0,⟨#[]⟩,by omega,rfl,rfl,rfl,rfl⟩
 case round=>
  obtain⟨k,S,hk,rfl,rfl,hz,HS⟩:=hrel
  by_cases hlt:k<n
  ·have g1:(k:Int)<n:=by omega
   have hz1:(⟨#[c]⟩:ByteArray).size=1:=rfl
   have hz2:(S++⟨#[c]⟩).size=k+1:=by rw[ByteArray.size_append,hz,hz1]
   have hnew:S++⟨#[c]⟩=wdK (List.replicate (k+1) c):=by
    rw[HS.out]
    apply mO
    rw[pR,List.replicate_succ']
    unfold bl wdK
    rw[ByteArray.data_append,Array.toList_append]
   have HN:Hid _:=hnew
   clear hnew HS
   go_wp2
   exact⟨⟨k+1,S++⟨#[c]⟩,by omega,rfl,by go_num,hz2,HN⟩,by simp[intOf];omega⟩
  ·obtain rfl:k=n:=by omega
   have g1:¬ (k:Int)<k:=by omega
   go_wp2
   go_ret
   exact⟨by rw[HS.out];rfl,rfl⟩
def jT (S W:List UInt8):Option (List UInt8):=if S.length<W.length then none else if pI (S.drop (S.length-W.length)) W=true then some (S.take (S.length-W.length)) else none
theorem oU (st wt:ByteArray)(w:World)(h1:st.size≤1000000)(h2:wt.size≤1000000) :
  Calls prog 132 #[.string st,.string wt] w fun e w'=>e=.returned (match jT (bl st) (bl wt) with | none=>.tuple #[.string ⟨#[]⟩,.bool false] | some r=>.tuple #[.string (wdK r),.bool true])∧Fr [] w w':=by
 have hm:prog.follows Departure.mixedOrders=true:=by kernel_rfl
 have hS:=aD st
 have hW:=aD wt
 by_cases hlt:st.size<wt.size
 ·have e0:jT (bl st) (bl wt)=none:=by unfold jT;rw[if_pos (by omega)]
  rw[e0]
  have g1:(st.size:Int)-(wt.size:Int)<0:=by omega
  go_enter func132,ntmps132
  go_wp2
  go_ret2
  exact⟨rfl,Fr.refl [] w⟩
 ·obtain⟨n,hn⟩:=eX (st.size-wt.size)
  have hnI:(st.size:Int)-(wt.size:Int)=(n:Int):=by omega
  have hsz:n+wt.size=st.size:=by omega
  have e0:jT (bl st) (bl wt)=if pI ((bl st).drop n) (bl wt)=true then some ((bl st).take n) else none:=by unfold jT;rw[if_neg (by omega),hS,hW,hn]
  rw[e0]
  have hall:pI ((bl st).drop n) (bl wt)=true↔∀ i (h3:i<wt.size),lst (st[n+i]'(by omega)) wt[i]=wt[i]:=by
   rw[rO,aYi (by rw[List.length_drop];omega)]
   have eg:∀ i (h3:i<wt.size),((bl st).drop n)[i]'(by rw[List.length_drop];omega)=st[n+i]'(by omega)∧(bl wt)[i]'(by omega)=wt[i]:=fun i h3=>by
    refine⟨?_,?_⟩
    ·simp only[List.getElem_drop,bl,Array.getElem_toList];rfl
    ·simp only[bl,Array.getElem_toList];rfl
   constructor
   ·intro h i h3
    have:=h i (by rw[List.length_drop];omega) (by omega)
    rw[(eg i h3).1,(eg i h3).2] at this
    exact this
   ·intro h i h3 h4
    rw[(eg i (by omega)).1,(eg i (by omega)).2]
    exact h i (by omega)
  have hex:wdK ((bl st).take n)=st.extract 0 n:=by
   apply mO
   rw[pR]
   unfold bl
   rw[ByteArray.data_extract,Array.toList_extract]
   simp
  have HA:Hid _:=hall
  have hsu:=fun (a b:UInt8) (W:World)=>aKl a b W
  have HU:Hid _:=hsu
  generalize hB:pI ((bl st).drop n) (bl wt)=B at *
  have hres:(match (if B=true then some ((bl st).take n) else none:Option (List UInt8)) with | none=>Value.tuple #[.string ⟨#[]⟩,.bool false] | some r=>Value.tuple #[.string (wdK r),.bool true])=if B=true then Value.tuple #[.string (st.extract 0 n),.bool true] else Value.tuple #[.string ⟨#[]⟩,.bool false]:=by
   cases B with
   | false=>rfl
   | true=>simp only[if_true,hex]
  rw[hres]
  clear e0 hall hex hsu hn hB hres
  have gn:¬ ((n:Int)<0):=by omega
  go_enter func132,ntmps132
  go_wp2
  go_loopw [7] (fun i W=>∃ k:Nat,k≤wt.size∧i=.int .i64 k∧Hid (∀ i (h3:i<wt.size),i<k→lst (st[n+i]'(by omega)) wt[i]=wt[i])∧Fr [] w W) (fun i _=>wt.size-(intOf i).toNat)
  case atStart=>exact⟨0,by omega,rfl,fun i _ h=>absurd h (by omega),Fr.refl [] w⟩
  case round=>
   obtain⟨k,hk,rfl,Hk,F⟩:=hrel
   by_cases hlt2:k<wt.size
   ·have g1:(k:Int)<wt.size:=by omega
    obtain⟨j,hj⟩:=eX (n+k)
    have hjI:(n:Int)+(k:Int)=(j:Int):=by omega
    have hjs:j<st.size:=by omega
    have g2:(j:Int)<st.size:=by omega
    have hu:=fun (W:World)=>HU.out st[j] wt[k] W
    have hkk:lst (st[n+k]'(by omega)) wt[k]=wt[k]↔lst st[j] wt[k]=wt[k]:=by simp only[hj]
    by_cases hs:lst st[j] wt[k]=wt[k]
    ·rw[decide_eq_true hs] at hu
     have hnew:∀ i (h3:i<wt.size),i<k+1→lst (st[n+i]'(by omega)) wt[i]=wt[i]:=fun i h3 h4=>by
      by_cases e:i=k
      ·subst e;exact hkk.2 hs
      ·exact Hk.out i h3 (by omega)
     have HN:Hid _:=hnew
     have HV:Hid _:=hu
     clear hnew hu hkk hs Hk HA HU hj
     go_wp2
     go_quiet (first | (go_at_call 145;refine Calls.quiet_of_same (HV.out _)))
     go_wp2
     exact⟨⟨k+1,by omega,by go_num,HN,F.drewN _⟩,by simp[intOf];omega⟩
    ·rw[decide_eq_false hs] at hu
     have hB:B=false:=by
      cases B with
      | false=>rfl
      | true=>exact absurd (hkk.1 (HA.out.1 rfl k hlt2)) hs
     subst hB
     have HV:Hid _:=hu
     clear hu hkk hs Hk HA HU hj
     go_wp2
     go_quiet (first | (go_at_call 145;refine Calls.quiet_of_same (HV.out _)))
     go_wp2
     go_ret2
     exact⟨rfl,F.drewN _⟩
   ·obtain rfl:k=wt.size:=by omega
    have g1:¬ (wt.size:Int)<wt.size:=by omega
    have hB:B=true:=HA.out.2 fun i h3=>Hk.out i h3 h3
    subst hB
    have g3:(0:Int)≤(n:Int):=by omega
    have g4:(n:Int)≤(st.size:Int):=by omega
    clear Hk HA HU
    go_wp2
    go_ret2
    exact⟨rfl,F⟩
structure nQ (w:World):Prop where
 tk:∀ i,i<54→w.cell? ⟨1,i,none⟩=some (.string (wdK (lY.getD i [])))
 gv:∀ i,i<54→w.cell? ⟨2,i,none⟩=some (.string (wdK (jV.getD i [])))
theorem nQ.lt {w:World}(h:nQ w):2<w.heap.size:=aC (h.gv 0 (by decide))
theorem nQ.fr {w w':World}(h:nQ w)(hf:Fr [] w w'):nQ w':=by
 have hl:=h.lt
 exact⟨fun i hi=>(hf.cell (p:=⟨1,i,none⟩) (by simp only;omega) (by simp)).trans (h.tk i hi),fun i hi=>(hf.cell (p:=⟨2,i,none⟩) (by simp only;omega) (by simp)).trans (h.gv i hi)⟩
def t8 (pl nx op a b:Nat):Value:=.agg #[.int .i64 pl,.int .i64 nx,.int .i64 op,.int .i64 a,.int .i64 b]
theorem aKh:∀ i,i<54→(lY.getD i []).length≤3:=by decide
theorem pJ:∀ i,i<54→(jV.getD i []).length≤2:=by decide
def kS (par:Nat→Nat) (op a:Nat) (st:List UInt8) (e:Ending):Prop:=
 match after par op a st with
 | none=>∃ x y:ByteArray,e=.returned (.tuple #[.string x,.string y,.bool false])
 | some (o,r)=>e=.returned (.tuple #[.string (wdK o),.string (wdK r),.bool true])
theorem tZ {par:Nat→Nat}{op a:Nat}{st:List UInt8} (h:jT st (iD par op a)=none):after par op a st=none:=by
 unfold jT at h
 unfold after
 split
 ·rfl
 ·rename_i h1
  rw[if_neg h1] at h
  split
  ·rename_i h2
   rw[if_pos h2] at h
   cases h
  ·rfl
theorem rR {par:Nat→Nat}{op a:Nat}{st r:List UInt8} (h:jT st (iD par op a)=some r) :
  after par op a st=if (r++pW op (st.drop r.length)).length≤1024 then some (r++pW op (st.drop r.length),r) else none:=by
 unfold jT at h
 unfold after
 split at h
 ·cases h
 ·rename_i h1
  rw[if_neg h1]
  split at h
  ·rename_i h2
   rw[if_pos h2]
   simp only[Option.some.injEq] at h
   subst h
   have e:(st.take (st.length-(iD par op a).length)).length=st.length-(iD par op a).length:=by rw[List.length_take];omega
   rw[e]
  ·cases h
theorem rA {S W r:List UInt8}(h:jT S W=some r):r.length≤S.length∧r.length+W.length=S.length:=by
 unfold jT at h
 split at h
 ·cases h
 ·split at h
  ·simp only[Option.some.injEq] at h
   subst h
   rw[List.length_take]
   omega
  ·cases h
theorem pZ (s t:List UInt8):wdK s++wdK t=wdK (s++t):=by
 apply mO
 rw[pR]
 unfold bl wdK
 rw[ByteArray.data_append,Array.toList_append]
theorem aCq (s:List UInt8)(i:Nat):(wdK s).extract i s.length=wdK (s.drop i):=by
 apply mO
 rw[pR]
 unfold bl wdK
 rw[ByteArray.data_extract,Array.toList_extract]
 rw[List.extract_eq_take_drop]
 exact List.take_of_length_le (by rw[List.length_drop];exact Nat.le_refl _)
theorem yN (tv pv gv av fv:Value){w:World}(pl nx op a b:Nat)(hT:nQ w)(hop:op<54):∃ W2,(w.alloc (.cells #[tv,pv,gv,av,fv] 25)).alloc (.cells #[.int .i64 pl,.int .i64 nx,.int .i64 (op:Nat),.int .i64 a,.int .i64 b] 84)=W2∧Fr [] w W2∧W2.cell? ⟨1,op,none⟩=some (.string (wdK (lY.getD op [])))∧W2.cell? ⟨2,op,none⟩=some (.string (wdK (jV.getD op []))) ∧
  W2.cell? ⟨w.heap.size+1,2,none⟩=some (.int .i64 (op:Nat))∧W2.cell? ⟨w.heap.size+1,3,none⟩=some (.int .i64 a)∧W2.cell? ⟨w.heap.size,4,none⟩=some fv:=by
 obtain⟨W2,hW2⟩:=eX ((w.alloc (.cells #[tv,pv,gv,av,fv] 25)).alloc (.cells #[.int .i64 pl,.int .i64 nx,.int .i64 (op:Nat),.int .i64 a,.int .i64 b] 84))
 have F0:Fr [] w W2:=by rw[← hW2];exact ((Fr.refl [] w).alloc _).alloc _
 have T0:=hT.fr F0
 have e1:=T0.tk op (by omega)
 have e2:=T0.gv op (by omega)
 have dd:∀ i v,(#[.int .i64 pl,.int .i64 nx,.int .i64 (op:Nat),.int .i64 a,.int .i64 b]:Array Value)[i]?=some v→W2.cell? ⟨w.heap.size+1,i,none⟩=some v:=fun i v h=>by
  rw[← hW2]
  unfold World.cell?
  have hq:=wan (w.alloc (.cells #[tv,pv,gv,av,fv] 25)) (.cells #[.int .i64 pl,.int .i64 nx,.int .i64 (op:Nat),.int .i64 a,.int .i64 b] 84)
  rw[show (w.alloc (.cells #[tv,pv,gv,av,fv] 25)).heap.size=w.heap.size+1 by simp] at hq
  rw[hq]
  exact h
 have dF:W2.cell? ⟨w.heap.size,4,none⟩=some fv:=by
  rw[← hW2]
  refine (((Fr.refl [] _).alloc _).cell (p:=⟨w.heap.size,4,none⟩) (by simp) (by simp)).trans ?_
  unfold World.cell?
  rw[wan w (.cells #[tv,pv,gv,av,fv] 25)]
  rfl
 exact⟨W2,hW2,F0,e1,e2,dd 2 _ rfl,dd 3 _ rfl,dF⟩
theorem aEz (tv pv gv av fv:Value)(w:World)(pl nx op a b:Nat)(par:Nat→Nat)(st:List UInt8)(hT:nQ w)(hs:st.length≤1024)(hop:op<54)(h44:op≠44)(h45:op≠45)(h46:op≠46)(h50:op≠50) :
  Calls prog 110 #[.agg #[tv,pv,gv,av,fv],t8 pl nx op a b,.string (wdK st)] w fun e w'=>kS par op a st e∧Fr [] w w':=by
 have hlt:=hT.lt
 obtain⟨W2,hW2,F0,e1,e2,d0,dA,dF⟩:=yN tv pv gv av fv pl nx op a b hT (by omega)
 have hw:iD par op a=lY.getD op []:=by unfold iD;rw[if_neg h44,if_neg h50]
 have hg:∀ t,pW op t=jV.getD op []:=fun t=>by unfold pW;rw[if_neg h45,if_neg h46]
 have hwl:=aKh op hop
 have hgl:=pJ op hop
 have q44:((op:Int)==44)=false:=by simp only[beq_eq_false_iff_ne,ne_eq];omega
 have q45:((op:Int)==45)=false:=by simp only[beq_eq_false_iff_ne,ne_eq];omega
 have q46:((op:Int)==46)=false:=by simp only[beq_eq_false_iff_ne,ne_eq];omega
 have q50:((op:Int)==50)=false:=by simp only[beq_eq_false_iff_ne,ne_eq];omega
 have gA:(op:Int)<54:=by omega
 rw[← hw] at e1 hwl
 clear hw h44 h45 h46 h50
 have hno:=tZ (par:=par) (op:=op) (a:=a) (st:=st)
 have hyes:=fun r=>rR (par:=par) (op:=op) (a:=a) (st:=st) (r:=r)
 simp only[hg] at hyes
 clear hg
 unfold kS
 generalize after par op a st=R at *
 generalize jV.getD op []=gk at *
 generalize iD par op a=wk at *
 have HTk:Hid _:=fun (W:World)=>oU (wdK st) (wdK wk) W (by rw[bE];omega) (by rw[bE];omega)
 simp only[pR] at HTk
 have z1:(wdK st).size=st.length:=bE _
 have z3:(wdK gk).size=gk.length:=bE _
 have HN:Hid _:=hno
 have HY:Hid _:=hyes
 clear hno hyes hT
 unfold t8
 go_enter func110,ntmps110
 go_wp2_with fail
 refine (HTk.out _).mono ?_
 rintro e w3 ⟨rfl,F1⟩
 have F2:=F0.trans F1
 have d1:=(F1.cell (p:=⟨w.heap.size+1,2,none⟩) (aC d0) (by simp)).trans d0
 clear e1 e2 hW2 HTk F1 F0 d0 dA dF
 cases ht:jT st wk with
 | none=>
  have hR:=HN.out ht
  subst hR
  clear HN HY ht
  go_wp2
  go_ret3
  exact⟨⟨_,_,rfl⟩,F2⟩
 | some r=>
  have hr:=rA ht
  have hR:=HY.out r ht
  have z2:(wdK r).size=r.length:=bE _
  clear HN HY ht
  obtain⟨hr1,hr2⟩:=hr
  have hap:=pZ r gk
  have z4:(wdK r++wdK gk).size=r.length+gk.length:=by rw[hap,bE,Lla]
  rw[Lla] at hR
  have HA:Hid _:=hap
  clear hap
  by_cases hle:r.length+gk.length≤1024
  ·rw[if_pos hle] at hR
   subst hR
   have g1:decide ((r.length:Int)+(gk.length:Int)≤1024)=true:=decide_eq_true (by omega)
   go_wp2
   go_ret3
   (try rw[HA.out])
   exact⟨rfl,F2⟩
  ·rw[if_neg hle] at hR
   subst hR
   have g1:decide ((r.length:Int)+(gk.length:Int)≤1024)=false:=decide_eq_false (by omega)
   go_wp2
   go_ret3
   exact⟨⟨_,_,rfl⟩,F2⟩
theorem aFa (tv pv gv av fv:Value)(w:World)(pl nx op a b:Nat)(par:Nat→Nat)(st:List UInt8)(hT:nQ w)(hs:st.length≤1024)(ho:op=44)(ha:a≤100000) :
  Calls prog 110 #[.agg #[tv,pv,gv,av,fv],t8 pl nx op a b,.string (wdK st)] w fun e w'=>kS par op a st e∧Fr [] w w':=by
 have hlt:=hT.lt
 obtain⟨W2,hW2,F0,e1,e2,d0,dA,dF⟩:=yN tv pv gv av fv pl nx op a b hT (by omega)
 have hop:op<54:=by omega
 have q44:((op:Int)==44)=decide (44=44):=by subst ho;rfl
 have q45:((op:Int)==45)=decide (44=45):=by subst ho;rfl
 have q46:((op:Int)==46)=decide (44=46):=by subst ho;rfl
 have q50:((op:Int)==50)=decide (44=50):=by subst ho;rfl
 have gA':(op:Int)<54:=by omega
 simp only[Nat.reduceEqDiff,decide_true,decide_false] at q44 q45 q46 q50
 have hw:iD par op a=List.replicate a 116:=by subst ho;rfl
 have hg:∀ t,pW op t=jV.getD op []:=fun t=>by subst ho;rfl
 have hgl:=pJ op hop
 have HM:Hid _:=fun (W:World)=>aBp 116 a W ha
 rw[← hw] at HM
 have hwl:(iD par op a).length≤100000:=by rw[hw,List.length_replicate];exact ha
 clear hw ho
 have hno:=tZ (par:=par) (op:=op) (a:=a) (st:=st)
 have hyes:=fun r=>rR (par:=par) (op:=op) (a:=a) (st:=st) (r:=r)
 simp only[hg] at hyes
 clear hg
 unfold kS
 generalize after par op a st=R at *
 generalize jV.getD op []=gk at *
 generalize lY.getD op []=tk at *
 generalize iD par op a=wk at *
 have HTk:Hid _:=fun (W:World)=>oU (wdK st) (wdK wk) W (by rw[bE];omega) (by rw[bE];omega)
 simp only[pR] at HTk
 have z1:(wdK st).size=st.length:=bE _
 have z3:(wdK gk).size=gk.length:=bE _
 have HN:Hid _:=hno
 have HY:Hid _:=hyes
 clear hno hyes hT
 unfold t8
 go_enter func110,ntmps110
 go_wp2_with fail
 refine (HM.out _).mono ?_
 rintro e w2 ⟨rfl,rfl⟩
 go_wp2_with fail
 refine (HTk.out _).mono ?_
 rintro e w3 ⟨rfl,F1⟩
 have F2:=F0.trans F1
 have d1:=(F1.cell (p:=⟨w.heap.size+1,2,none⟩) (aC d0) (by simp)).trans d0
 clear e1 e2 hW2 HTk F1 F0 d0 dA dF
 cases ht:jT st wk with
 | none=>
  have hR:=HN.out ht
  subst hR
  clear HN HY ht
  go_wp2
  go_ret3
  exact⟨⟨_,_,rfl⟩,F2⟩
 | some r=>
  have hr:=rA ht
  have hR:=HY.out r ht
  have z2:(wdK r).size=r.length:=bE _
  clear HN HY ht
  obtain⟨hr1,hr2⟩:=hr
  have hap:=pZ r gk
  have z4:(wdK r++wdK gk).size=r.length+gk.length:=by rw[hap,bE,Lla]
  rw[Lla] at hR
  have HA:Hid _:=hap
  clear hap
  by_cases hle:r.length+gk.length≤1024
  ·rw[if_pos hle] at hR
   subst hR
   have g1:decide ((r.length:Int)+(gk.length:Int)≤1024)=true:=decide_eq_true (by omega)
   go_wp2
   go_ret3
   (try rw[HA.out])
   exact⟨rfl,F2⟩
  ·rw[if_neg hle] at hR
   subst hR
   have g1:decide ((r.length:Int)+(gk.length:Int)≤1024)=false:=decide_eq_false (by omega)
   go_wp2
   go_ret3
   exact⟨⟨_,_,rfl⟩,F2⟩
theorem aJs (tv pv gv av fv:Value)(w:World)(pl nx op a b:Nat)(par:Nat→Nat)(st:List UInt8)(hT:nQ w)(hs:st.length≤1024)(ho:op=50)(g off n cap:Nat)(hf:fv=.slice (some ⟨g,off,none⟩) n cap)(ha:a<n)(hp:w.cell? ⟨g,off+a*3,none⟩=some (.int .i64 (par a:Nat)))(hp8:par a≤100000) :
  Calls prog 110 #[.agg #[tv,pv,gv,av,fv],t8 pl nx op a b,.string (wdK st)] w fun e w'=>kS par op a st e∧Fr [] w w':=by
 have hlt:=hT.lt
 obtain⟨W2,hW2,F0,e1,e2,d0,dA,dF⟩:=yN tv pv gv av fv pl nx op a b hT (by omega)
 have hop:op<54:=by omega
 have q44:((op:Int)==44)=decide (50=44):=by subst ho;rfl
 have q45:((op:Int)==45)=decide (50=45):=by subst ho;rfl
 have q46:((op:Int)==46)=decide (50=46):=by subst ho;rfl
 have q50:((op:Int)==50)=decide (50=50):=by subst ho;rfl
 have gA':(op:Int)<54:=by omega
 simp only[Nat.reduceEqDiff,decide_true,decide_false] at q44 q45 q46 q50
 have hw:iD par op a=List.replicate (par a) 97:=by subst ho;rfl
 have hg:∀ t,pW op t=jV.getD op []:=fun t=>by subst ho;rfl
 have hgl:=pJ op hop
 have HM:Hid _:=fun (W:World)=>aBp 97 (par a) W hp8
 rw[← hw] at HM
 have hwl:(iD par op a).length≤100000:=by rw[hw,List.length_replicate];exact hp8
 have dP:=(F0.cell (p:=⟨g,off+a*3,none⟩) (aC hp) (by simp)).trans hp
 have gA:(a:Int)<(n:Int):=by omega
 subst hf
 clear hw hp ho
 have hno:=tZ (par:=par) (op:=op) (a:=a) (st:=st)
 have hyes:=fun r=>rR (par:=par) (op:=op) (a:=a) (st:=st) (r:=r)
 simp only[hg] at hyes
 clear hg
 unfold kS
 generalize after par op a st=R at *
 generalize par a=pa at *
 generalize jV.getD op []=gk at *
 generalize lY.getD op []=tk at *
 generalize iD par op a=wk at *
 have HTk:Hid _:=fun (W:World)=>oU (wdK st) (wdK wk) W (by rw[bE];omega) (by rw[bE];omega)
 simp only[pR] at HTk
 have z1:(wdK st).size=st.length:=bE _
 have z3:(wdK gk).size=gk.length:=bE _
 have HN:Hid _:=hno
 have HY:Hid _:=hyes
 clear hno hyes hT
 unfold t8
 go_enter func110,ntmps110
 go_wp2_with fail
 refine (HM.out _).mono ?_
 rintro e w2 ⟨rfl,rfl⟩
 go_wp2_with fail
 refine (HTk.out _).mono ?_
 rintro e w3 ⟨rfl,F1⟩
 have F2:=F0.trans F1
 have d1:=(F1.cell (p:=⟨w.heap.size+1,2,none⟩) (aC d0) (by simp)).trans d0
 clear e1 e2 hW2 HTk F1 F0 d0 dA dF
 cases ht:jT st wk with
 | none=>
  have hR:=HN.out ht
  subst hR
  clear HN HY ht
  go_wp2
  go_ret3
  exact⟨⟨_,_,rfl⟩,F2⟩
 | some r=>
  have hr:=rA ht
  have hR:=HY.out r ht
  have z2:(wdK r).size=r.length:=bE _
  clear HN HY ht
  obtain⟨hr1,hr2⟩:=hr
  have hap:=pZ r gk
  have z4:(wdK r++wdK gk).size=r.length+gk.length:=by rw[hap,bE,Lla]
  rw[Lla] at hR
  have HA:Hid _:=hap
  clear hap
  by_cases hle:r.length+gk.length≤1024
  ·rw[if_pos hle] at hR
   subst hR
   have g1:decide ((r.length:Int)+(gk.length:Int)≤1024)=true:=decide_eq_true (by omega)
   go_wp2
   go_ret3
   (try rw[HA.out])
   exact⟨rfl,F2⟩
  ·rw[if_neg hle] at hR
   subst hR
   have g1:decide ((r.length:Int)+(gk.length:Int)≤1024)=false:=decide_eq_false (by omega)
   go_wp2
   go_ret3
   exact⟨⟨_,_,rfl⟩,F2⟩
theorem aMt (tv pv gv av fv:Value)(w:World)(pl nx op a b:Nat)(par:Nat→Nat)(st:List UInt8)(hT:nQ w)(hs:st.length≤1024)(ho:op=45) :
  Calls prog 110 #[.agg #[tv,pv,gv,av,fv],t8 pl nx op a b,.string (wdK st)] w fun e w'=>kS par op a st e∧Fr [] w w':=by
 have hlt:=hT.lt
 obtain⟨W2,hW2,F0,e1,e2,d0,dA,dF⟩:=yN tv pv gv av fv pl nx op a b hT (by omega)
 have hop:op<54:=by omega
 have q44:((op:Int)==44)=decide (45=44):=by subst ho;rfl
 have q45:((op:Int)==45)=decide (45=45):=by subst ho;rfl
 have q46:((op:Int)==46)=decide (45=46):=by subst ho;rfl
 have q50:((op:Int)==50)=decide (45=50):=by subst ho;rfl
 have gA':(op:Int)<54:=by omega
 simp only[Nat.reduceEqDiff,decide_true,decide_false] at q44 q45 q46 q50
 have hw:iD par op a=lY.getD op []:=by subst ho;rfl
 have hg:∀ tp,pW op tp=tp++tp:=fun tp=>by subst ho;rfl
 have hwl:(iD par op a).length=1:=by subst ho;rfl
 rw[← hw] at e1
 have hgl:=pJ op hop
 clear hw ho
 have hno:=tZ (par:=par) (op:=op) (a:=a) (st:=st)
 have hyes:=fun r=>rR (par:=par) (op:=op) (a:=a) (st:=st) (r:=r)
 simp only[hg] at hyes
 clear hg
 unfold kS
 generalize after par op a st=R at *
 generalize jV.getD op []=gk at *
 generalize iD par op a=wk at *
 have HTk:Hid _:=fun (W:World)=>oU (wdK st) (wdK wk) W (by rw[bE];omega) (by rw[bE];omega)
 simp only[pR] at HTk
 have z1:(wdK st).size=st.length:=bE _
 have z3:(wdK gk).size=gk.length:=bE _
 have HN:Hid _:=hno
 have HY:Hid _:=hyes
 clear hno hyes hT
 unfold t8
 go_enter func110,ntmps110
 go_wp2_with fail
 refine (HTk.out _).mono ?_
 rintro e w3 ⟨rfl,F1⟩
 have F2:=F0.trans F1
 have d1:=(F1.cell (p:=⟨w.heap.size+1,2,none⟩) (aC d0) (by simp)).trans d0
 clear e1 e2 hW2 HTk F1 F0 d0 dA dF
 cases ht:jT st wk with
 | none=>
  have hR:=HN.out ht
  subst hR
  clear HN HY ht
  go_wp2
  go_ret3
  exact⟨⟨_,_,rfl⟩,F2⟩
 | some r=>
  have hr:=rA ht
  have hR:=HY.out r ht
  have z2:(wdK r).size=r.length:=bE _
  clear HN HY ht
  obtain⟨hr1,hr2⟩:=hr
  have hx:=aCq st r.length
  have htp:(st.drop r.length).length=wk.length:=by rw[List.length_drop];omega
  generalize st.drop r.length=tp at *
  have z5:(wdK tp).size=wk.length:=by rw[bE,htp]
  rw[hwl] at z5 htp
  have hdd:=pZ tp tp
  have z7:(wdK tp++wdK tp).size=2:=by rw[hdd,bE,Lla,htp]
  have hap:=pZ r (tp++tp)
  have z4:(wdK r++wdK (tp++tp)).size=r.length+2:=by rw[hap,bE,Lla];simp only[Lla,List.length_drop,htp]
  have z6:(wdK (tp++tp)).size=2:=by rw[bE];simp only[Lla,List.length_drop,htp]
  rw[Lla,show (tp++tp).length=2 by simp only[Lla,List.length_drop,htp]] at hR
  have HA:Hid _:=hap
  clear hap
  by_cases hle:r.length+2≤1024
  ·rw[if_pos hle] at hR
   subst hR
   have g1:decide ((r.length:Int)+2≤1024)=true:=decide_eq_true (by omega)
   go_wp2
   go_ret3
   (try rw[HA.out])
   exact⟨rfl,F2⟩
  ·rw[if_neg hle] at hR
   subst hR
   have g1:decide ((r.length:Int)+2≤1024)=false:=decide_eq_false (by omega)
   go_wp2
   go_ret3
   exact⟨⟨_,_,rfl⟩,F2⟩
theorem aEy (tv pv gv av fv:Value)(w:World)(pl nx op a b:Nat)(par:Nat→Nat)(st:List UInt8)(hT:nQ w)(hs:st.length≤1024)(ho:op=46) :
  Calls prog 110 #[.agg #[tv,pv,gv,av,fv],t8 pl nx op a b,.string (wdK st)] w fun e w'=>kS par op a st e∧Fr [] w w':=by
 have hlt:=hT.lt
 obtain⟨W2,hW2,F0,e1,e2,d0,dA,dF⟩:=yN tv pv gv av fv pl nx op a b hT (by omega)
 have hop:op<54:=by omega
 have q44:((op:Int)==44)=decide (46=44):=by subst ho;rfl
 have q45:((op:Int)==45)=decide (46=45):=by subst ho;rfl
 have q46:((op:Int)==46)=decide (46=46):=by subst ho;rfl
 have q50:((op:Int)==50)=decide (46=50):=by subst ho;rfl
 have gA':(op:Int)<54:=by omega
 simp only[Nat.reduceEqDiff,decide_true,decide_false] at q44 q45 q46 q50
 have hw:iD par op a=lY.getD op []:=by subst ho;rfl
 have hg:∀ tp,pW op tp=tp.drop 1++tp:=fun tp=>by subst ho;rfl
 have hwl:(iD par op a).length=2:=by subst ho;rfl
 rw[← hw] at e1
 have hgl:=pJ op hop
 clear hw ho
 have hno:=tZ (par:=par) (op:=op) (a:=a) (st:=st)
 have hyes:=fun r=>rR (par:=par) (op:=op) (a:=a) (st:=st) (r:=r)
 simp only[hg] at hyes
 clear hg
 unfold kS
 generalize after par op a st=R at *
 generalize jV.getD op []=gk at *
 generalize iD par op a=wk at *
 have HTk:Hid _:=fun (W:World)=>oU (wdK st) (wdK wk) W (by rw[bE];omega) (by rw[bE];omega)
 simp only[pR] at HTk
 have z1:(wdK st).size=st.length:=bE _
 have z3:(wdK gk).size=gk.length:=bE _
 have HN:Hid _:=hno
 have HY:Hid _:=hyes
 clear hno hyes hT
 unfold t8
 go_enter func110,ntmps110
 go_wp2_with fail
 refine (HTk.out _).mono ?_
 rintro e w3 ⟨rfl,F1⟩
 have F2:=F0.trans F1
 have d1:=(F1.cell (p:=⟨w.heap.size+1,2,none⟩) (aC d0) (by simp)).trans d0
 clear e1 e2 hW2 HTk F1 F0 d0 dA dF
 cases ht:jT st wk with
 | none=>
  have hR:=HN.out ht
  subst hR
  clear HN HY ht
  go_wp2
  go_ret3
  exact⟨⟨_,_,rfl⟩,F2⟩
 | some r=>
  have hr:=rA ht
  have hR:=HY.out r ht
  have z2:(wdK r).size=r.length:=bE _
  clear HN HY ht
  obtain⟨hr1,hr2⟩:=hr
  have hx:=aCq st r.length
  have htp:(st.drop r.length).length=wk.length:=by rw[List.length_drop];omega
  generalize st.drop r.length=tp at *
  have z5:(wdK tp).size=wk.length:=by rw[bE,htp]
  rw[hwl] at z5 htp
  have hd1:=aCq tp 1
  rw[htp] at hd1
  have ht1:(tp.drop 1).length=1:=by rw[List.length_drop,htp]
  generalize tp.drop 1=t1 at *
  have z8:(wdK t1).size=1:=by rw[bE,ht1]
  have hdd:=pZ t1 tp
  have z7:(wdK t1++wdK tp).size=3:=by rw[hdd,bE,Lla,ht1,htp]
  have hap:=pZ r (t1++tp)
  have z4:(wdK r++wdK (t1++tp)).size=r.length+3:=by rw[hap,bE,Lla];simp only[Lla,ht1,htp]
  have z6:(wdK (t1++tp)).size=3:=by rw[bE];simp only[Lla,ht1,htp]
  rw[Lla,show (t1++tp).length=3 by simp only[Lla,ht1,htp]] at hR
  have HA:Hid _:=hap
  clear hap
  by_cases hle:r.length+3≤1024
  ·rw[if_pos hle] at hR
   subst hR
   have g1:decide ((r.length:Int)+3≤1024)=true:=decide_eq_true (by omega)
   go_wp2
   go_ret3
   (try rw[HA.out])
   exact⟨rfl,F2⟩
  ·rw[if_neg hle] at hR
   subst hR
   have g1:decide ((r.length:Int)+3≤1024)=false:=decide_eq_false (by omega)
   go_wp2
   go_ret3
   exact⟨⟨_,_,rfl⟩,F2⟩
open Wire
def nO (W:World) (v:Value) (L:List ByteArray):Prop:=
 ∃ (a0:Option Addr) (cap g off:Nat),v=.slice a0 L.length cap∧L.length≤cap∧(0<L.length→a0=some ⟨g,off,none⟩∧g<W.heap.size) ∧
  ∀ (i:Nat) (x:ByteArray),L[i]?=some x→W.cell? ⟨g,off+i,none⟩=some (.string x)
def r9 (W:World) (v:Value) (L:List Wire.Fn):Prop:=
 ∃ (a0:Option Addr) (cap g off:Nat),v=.slice a0 L.length cap∧L.length≤cap∧(0<L.length→a0=some ⟨g,off,none⟩∧g<W.heap.size) ∧
  ∀ (i:Nat) (x:Wire.Fn),L[i]?=some x→W.cell? ⟨g,off+i*3,none⟩=some (.int .i64 x.params)∧W.cell? ⟨g,off+i*3+1,none⟩=some (.int .i64 x.locs)∧W.cell? ⟨g,off+i*3+2,none⟩=some (.string x.code)
theorem nO.fr {W W':World}{v:Value}{L:List ByteArray} (h:nO W v L) (hf:Fr [] W W'):nO W' v L:=by
 obtain⟨a0,cap,g,off,hv,hc,ha,hx⟩:=h
 refine⟨a0,cap,g,off,hv,hc,fun h0=>⟨(ha h0).1,Nll (ha h0).2 hf.size⟩,fun i x hi=>?_⟩
 have h0:0<L.length:=by have:=(Lgs.1 hi).1;omega
 exact (hf.cell (p:=⟨g,off+i,none⟩) (ha h0).2 (by simp)).trans (hx i x hi)
theorem r9.fr {W W':World}{v:Value}{L:List Wire.Fn} (h:r9 W v L) (hf:Fr [] W W'):r9 W' v L:=by
 obtain⟨a0,cap,g,off,hv,hc,ha,hx⟩:=h
 refine⟨a0,cap,g,off,hv,hc,fun h0=>⟨(ha h0).1,Nll (ha h0).2 hf.size⟩,fun i x hi=>?_⟩
 have h0:0<L.length:=by have:=(Lgs.1 hi).1;omega
 obtain⟨x0,x1,x2⟩:=hx i x hi
 exact⟨(hf.cell (p:=⟨g,off+i*3,none⟩) (ha h0).2 (by simp)).trans x0,(hf.cell (p:=⟨g,off+i*3+1,none⟩) (ha h0).2 (by simp)).trans x1,(hf.cell (p:=⟨g,off+i*3+2,none⟩) (ha h0).2 (by simp)).trans x2⟩
theorem aAz (s:ByteArray):(fP s).length≤10+s.size:=by
 have:=cQ s.size
 rw[fP,Lla,aD];omega
theorem F8 (L:List ByteArray)(n:Nat)(h:∀ s ∈ L,s.size≤n):(cB L).length≤L.length*(10+n):=by
 induction L with
 | nil=>simp[cB]
 | cons s L ih=>
  have h1:=ih (fun x hx=>h x (by simp[hx]))
  have h2:=aAz s
  have h3:=h s (by simp)
  have e:cB (s :: L)=fP s++cB L:=by simp[cB]
  rw[e,Lla,List.length_cons,Nat.add_mul]
  omega
theorem aZa (f:Wire.Fn)(h:f.code.size≤20000):(fnB f).length≤20030:=by
 have h1:=cQ f.params.toNat
 have h2:=cQ f.locs.toNat
 have h3:=aAz f.code
 rw[fnB,Lla,Lla];omega
theorem aIs (L:List Wire.Fn)(h:∀ s ∈ L,s.code.size≤20000):(gL L).length≤L.length*20030:=by
 induction L with
 | nil=>simp[gL]
 | cons s L ih=>
  have h1:=ih (fun x hx=>h x (by simp[hx]))
  have h2:=aZa s (h s (by simp))
  have e:gL (s :: L)=fnB s++gL L:=by simp[gL]
  rw[e,Lla,List.length_cons,Nat.add_mul]
  omega
structure eR (W:World) (v:Value) (m:Mo):Prop where
 is:∃ tv pv fv,v=.agg #[tv,pv,.int .i64 m.globs,.int .i64 m.arrs,fv]∧nO W tv m.texts∧nO W pv m.pats∧r9 W fv m.fns
theorem eR.fr {W W':World}{v:Value}{m:Mo} (h:eR W v m) (hf:Fr [] W W'):eR W' v m:=by
 obtain⟨tv,pv,fv,h1,h2,h3,h4⟩:=h.is
 exact⟨tv,pv,fv,h1,h2.fr hf,h3.fr hf,h4.fr hf⟩
theorem uU (n:Nat)(h:n<9223372036854775808):aY n≠[]:=by
 by_cases hl:n<128
 ·rw[yF hl];simp
 ·rw[aEk (by omega) (by have:=bBi;omega)];simp
theorem kZ (L:List ByteArray)(h:∀ s ∈ L,s.size≤100)(hn:L.length≤1000):(aZ L).length≤200000∧aZ L≠[]:=by
 have h1:=cQ L.length
 have h2:=F8 L 100 h
 exact⟨by rw[aZ,Lla];omega,List.append_ne_nil_of_left_ne_nil (uU _ (by omega)) _⟩
theorem T5 (L:List Wire.Fn)(h:∀ s ∈ L,s.code.size≤20000)(hn:L.length≤1000):(gZ L).length≤30000000∧gZ L≠[]:=by
 have h1:=cQ L.length
 have h2:=aIs L h
 exact⟨by rw[gZ,Lla];omega,List.append_ne_nil_of_left_ne_nil (uU _ (by omega)) _⟩
theorem qU (L:List Wire.Fn)(i:Nat)(h:bC L i=true):∀ s ∈ L,s.code.size≤20000∧0≤s.params∧s.params≤100∧0≤s.locs∧s.locs≤100:=by
 induction L generalizing i with
 | nil=>simp
 | cons f L ih=>
  simp only[bC,Bool.and_eq_true] at h
  intro s hs
  cases List.mem_cons.1 hs with
  | inl e=>
   subst e
   have:=sH.1 h.1
   omega
  | inr e=>exact ih _ h.2 s e
theorem fU (k:Nat)(c:List UInt8):(bR k c).length≤c.length+11:=by
 have:=cQ c.length
 rw[kV];omega
theorem jD (W:World)(g cap n:Nat)(l:List UInt8)(hl:l.length=n)(hc:∀ j (hj:j<l.length),W.cell? ⟨g,j,none⟩=some (.int .u8 (l[j].toNat:Int))) :
  (convert 105 9 (.slice (some ⟨g,0,none⟩) n cap)).run prog W=.ok (.string ⟨l.toArray⟩) W:=by
 subst hl
 exact run_convert_bytes_back (P:=prog) W 105 9 5 ⟨g,0,none⟩ cap l underlying105 underlying5 underlying9 (fun j hj=>by rcases j with _ | j <;> simpa [Addr.add] using hc _ hj)
theorem aGb (m:Nat)(c:UInt8):kO m c=(m*257+c.toNat+1) % 1000003:=by
 unfold kO;rw[Nat.mul_comm]
theorem aCz (b:ByteArray)(w:World)(hb:b.size≤1000000000):Calls prog 101 #[.string b] w fun e w'=>e=.returned (.string ⟨(dG (bl b)).toArray⟩)∧Fr [] w w':=by
 have hL:=aD b
 obtain⟨S,hS⟩:=eX (dG (bl b))
 rw[hS]
 have HS:Hid _:=hS
 clear hS
 go_enter func101,ntmps101
 go_wp2
 go_loop [3,7] (fun s i=>∃ (k m:Nat),k≤b.size∧m<1000003∧s=.int .u32 m∧i=.int .i64 k∧Hid (m=mR 1 ((bl b).take k))) (fun _ i=>b.size-(intOf i).toNat)
 case atStart=>exact⟨0,1,by omega,by omega,rfl,rfl,rfl⟩
 case round=>
  obtain⟨k,m,hk,hm,rfl,rfl,hM⟩:=hrel
  by_cases hlt:k<b.size
  ·have g1:(k:Int)<b.size:=by omega
   have hu:=b[k].toNat_lt
   have ht:=xG 1 (bl b) k (by omega)
   rw[← hM.out,aGb] at ht
   have hk2:(bl b)[k]'(by omega)=b[k]:=by simp[bl];rfl
   rw[hk2] at ht
   have Ht:Hid _:=ht
   clear ht hk2
   go_wp2
   refine⟨⟨k+1,(m*257+b[k].toNat+1) % 1000003,by omega,by omega,by go_num,by go_num,Ht.out.symm⟩,by simp[intOf];omega⟩
  ·obtain rfl:k=b.size:=by omega
   have g1:¬ ((b.size:Int)<b.size):=by omega
   have hN:yS (bl b)=m:=by
    rw[hM.out,← hL,List.take_length];rfl
   have hSS:S=[UInt8.ofNat (m % 256),UInt8.ofNat (m / 256 % 256),UInt8.ofNat (m / 65536)]:=by
    rw[← HS.out,dG,hN]
   have H:Hid _:=hSS
   clear hSS hN HS
   go_wp2
   rw[jD _ _ _ 3 [UInt8.ofNat (m % 256),UInt8.ofNat (m / 256 % 256),UInt8.ofNat (m / 65536)] rfl (by
    intro j hj
    have hj3:j<3:=by simpa using hj
    obtain rfl | rfl | rfl:j=0∨j=1∨j=2:=by omega
    ·simp
    ·simp
    ·simp;omega)]
   simp only[Result.andThen]
   rw[Oper.upon_value]
   go_wp2
   go_ret
   rw[← H.out]
   exact⟨rfl,(Fr.refl [] w).alloc _⟩
end Go.Proofs.YtgpamchpeamnfaaGreatDoor
