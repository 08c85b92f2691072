/-
  Texts Jk Hc Sr Hd He Hf.
-/
import Derived.Shelf.Strings.Repeat
import Derived.Test.YtgpamchpeamnfaaGreatDoorProg
import Derived.Deep.RegionHeld
import Derived.Test.YtgpamchpeamnfaaGreatDoorMA
import Derived.Test.YtgpamchpeamnfaaGreatDoorM19
import Derived.Test.YtgpamchpeamnfaaGreatDoorM16
import Derived.Test.YtgpamchpeamnfaaGreatDoorM02
import Derived.Test.YtgpamchpeamnfaaGreatDoorM03
import Derived.Test.YtgpamchpeamnfaaGreatDoorM00
import Derived.Test.YtgpamchpeamnfaaGreatDoorM04
set_option linter.unusedSimpArgs false
set_option linter.unusedVariables false
set_option maxRecDepth 100000
set_option maxHeartbeats 40000000
open _root_.Go.Proofs.Tryz
namespace Go.Proofs.YtgpamchpeamnfaaGreatDoor
open Go.RowKit
open Wire Flow Mach
def bDx (G:List (Option (List Nat))) (Q:List Bool) (more:Bool) (k:Nat) (s:List Nat) (G':List (Option (List Nat))) (Q':List Bool) (more':Bool):Prop:=
 k<G.length∧(∀ t,G[k]?=some (some t)→t.length=s.length)∧((G[k]?=some none∧G'=G.set k (some s)∧Q'=Q.set k true∧more'=true) ∨
  ∃ t,G[k]?=some (some t)∧((orL t s=t∧G'=G∧Q'=Q∧more'=more)∨(orL t s≠t∧G'=G.set k (some (orL t s))∧Q'=Q.set k true∧more'=true)))
structure aCi (G:List (Option (List Nat))) (Q:List Bool) (more:Bool) (k:Nat) (s:List Nat) (G':List (Option (List Nat))) (Q':List Bool) (more':Bool):Prop where
 lay:abG G'=laid (abG G) k (abL s)
 bits:aCj G'
 gl:G'.length=G.length
 ql:Q'.length=Q.length
 no:∀ j:Nat,Q'[j]?=some false→Q[j]?=some false∧G'[j]?=G[j]?
 same:(G'=G∧Q'=Q∧more'=more)∨(more'=true∧lA G'<lA G)
 known:(∀ j:Nat,Q[j]?=some true→∃ u,G[j]?=some (some u))→∀ j:Nat,Q'[j]?=some true→∃ u,G'[j]?=some (some u)
 hk:k<G.length
 hh:∀ t,(abG G)[k]?=some (some t)→t.length=(abL s).length
theorem bDx.all {G:List (Option (List Nat))}{Q:List Bool}{more:Bool}{k:Nat}{s:List Nat}{G':List (Option (List Nat))}{Q':List Bool}{more':Bool} (h:bDx G Q more k s G' Q' more') (hb:aCj G) (hs:bU s) (hl:s.length≤1024) (hq:Q.length=G.length):aCi G Q more k s G' Q' more':=by
 obtain⟨hk,hh,h⟩:=h
 have hh2:∀ t,(abG G)[k]?=some (some t)→t.length=(abL s).length:=fun t ht=>by
  obtain⟨u,hu,rfl⟩:=aJt ht
  rw[cR,cR]
  exact hh u hu
 have noSet:∀ x:Option (List Nat),∀ j:Nat,(Q.set k true)[j]?=some false→Q[j]?=some false∧(G.set k x)[j]?=G[j]?:=fun x j hj=>by
  by_cases e:j=k
  ·subst e
   rw[List.getElem?_set_self (by omega)] at hj
   cases hj
  ·rw[List.getElem?_set_ne (fun e2=>e e2.symm)] at hj
   exact⟨hj,List.getElem?_set_ne (fun e2=>e e2.symm)⟩
 have knownSet:∀ x:List Nat,(∀ j:Nat,Q[j]?=some true→∃ u,G[j]?=some (some u))→∀ j:Nat,(Q.set k true)[j]?=some true→∃ u,(G.set k (some x))[j]?=some (some u):=fun x hq j hj=>by
  by_cases e:j=k
  ·subst e
   exact⟨x,List.getElem?_set_self hk⟩
  ·rw[List.getElem?_set_ne (fun e2=>e e2.symm)] at hj
   obtain⟨u,hu⟩:=hq j hj
   exact⟨u,by rw[List.getElem?_set_ne (fun e2=>e e2.symm)];exact hu⟩
 rcases h with ⟨h0,rfl,rfl,rfl⟩ | ⟨t,ht,⟨e,rfl,rfl,rfl⟩ | ⟨e,rfl,rfl,rfl⟩⟩
 ·exact⟨aSp h0,hb.set hs,by simp,by simp,noSet _,.inr ⟨rfl,aHy h0 hl⟩,knownSet _,hk,hh2⟩
 ·refine⟨?_,hb,rfl,rfl,fun j hj=>⟨hj,rfl⟩,.inl ⟨rfl,rfl,rfl⟩,fun hq j hj=>hq j hj,hk,hh2⟩
  have hx:=aIm ht (hb k t ht) hs (hh t ht) e
  rw[yZ hx]
 ·exact⟨aWt ht (hb k t ht) hs,hb.set (aHe (hb k t ht) hs),by simp,by simp,noSet _,.inr ⟨rfl,aLh ht (hb k t ht) hs (hh t ht) e⟩,knownSet _,hk,hh2⟩
structure FSt (par:Nat→Nat) (l:List Stp) (G:List (Option (List Nat))) (Q:List Bool):Prop where
 low:Low par l (abG G)
 z:(abG G)[0]?=some (some [])
 done:∀ j:Nat,Q[j]?=some false→oH par l (abG G) j
 known:∀ j:Nat,Q[j]?=some true→∃ u,G[j]?=some (some u)
structure FSi (par:Nat→Nat) (l:List Stp) (G:List (Option (List Nat))) (Q:List Bool) (i:Nat):Prop where
 low:Low par l (abG G)
 z:(abG G)[0]?=some (some [])
 done:∀ j:Nat,j≠i→Q[j]?=some false→oH par l (abG G) j
 known:∀ j:Nat,Q[j]?=some true→∃ u,G[j]?=some (some u)
def PsR (par:Nat→Nat) (l:List Stp) (G:List (Option (List Nat))) (Q:List Bool) (more wrong:Bool) (G':List (Option (List Nat))) (Q':List Bool) (more' wrong':Bool):Prop:=
 (wrong'=true∧¬ Flow.Safe par l)∨(wrong'=wrong∧FSt par l G' Q'∧((G'=G∧Q'=Q∧more'=more)∨(more'=true∧lA G'<lA G)))
theorem E8 {G:List (Option (List Nat))}{Q:List Bool}{more:Bool}{k:Nat}{s:List Nat}{G':List (Option (List Nat))}{Q':List Bool}{more':Bool} (h:aCi G Q more k s G' Q' more'):qM (abG G) (abG G'):=by
 rw[h.lay]
 exact Z7 h.hh
theorem aDi {par:Nat→Nat}{l:List Stp}{G:List (Option (List Nat))}{Q:List Bool}{more wrong:Bool}{i:Nat} (h:FSi par l G Q i) {st o r:List Nat}{s:Stp} (hi:G[i]?=some (some st)) (hs:l[i]?=some s)
  (ha:after par s.op s.a (abL st)=some (abL o,abL r)) (hf:far s.op=false) (hh:cS s.op=true):PsR par l G Q more wrong G Q more wrong:=by
 refine .inr ⟨rfl,⟨h.low,h.z,fun j hj=>?_,h.known⟩,.inl ⟨rfl,rfl,rfl⟩⟩
 by_cases e:j=i
 ·subst e
  exact oH.passed (eM hi) hs ha (fun hx=>by rw[hf] at hx;cases hx) (fun hx=>by rw[hh] at hx;cases hx)
 ·exact h.done j e hj
theorem aTz {par:Nat→Nat}{l:List Stp}{G:List (Option (List Nat))}{Q:List Bool}{more wrong:Bool}{i k:Nat} (h:FSi par l G Q i) {st o r u:List Nat}{s:Stp} (hi:G[i]?=some (some st)) (hs:l[i]?=some s)
  (ha:after par s.op s.a (abL st)=some (abL o,abL r)) {G1:List (Option (List Nat))}{Q1:List Bool}{more1:Bool} (g:aCi G Q more k u G1 Q1 more1)
  (hc:(far s.op=false∧cS s.op=false∧k=i+1∧u=o)∨(far s.op=true∧cS s.op=true∧dY l s.a=some k∧u=r)):PsR par l G Q more wrong G1 Q1 more1 wrong:=by
 have hu:=E8 g
 have hhas:Has (abG G1) k (abL u):=by
  rw[g.lay]
  exact tU (by rw[mP];exact g.hk) g.hh
 have hlow:Low par l (abG G1):=by
  rw[g.lay]
  rcases hc with ⟨h1,h2,rfl,rfl⟩ | ⟨h1,h2,h3,rfl⟩
  ·exact h.low.next h.low (eM hi) hs ha h2
  ·exact h.low.farLow (eM hi) hs ha h1 h3
 refine .inr ⟨rfl,⟨hlow,?_,fun j hj=>?_,g.known h.known⟩,g.same⟩
 ·rw[g.lay]
  exact mM h.z g.hh
 ·obtain⟨q1,q2⟩:=g.no j hj
  by_cases e:j=i
  ·subst e
   rw[hi] at q2
   refine oH.passed (eM q2) hs ha (fun hx=>?_) (fun hx=>?_)
   ·rcases hc with ⟨h1,-⟩ | ⟨-,-,h3,rfl⟩
    ·rw[h1] at hx;cases hx
    ·exact⟨k,h3,hhas⟩
   ·rcases hc with ⟨-,-,rfl,rfl⟩ | ⟨-,h2,-⟩
    ·exact hhas
    ·rw[h2] at hx;cases hx
  ·exact (h.done j e q1).mono (by rw[qL,qL,q2]) hu
theorem aTy {par:Nat→Nat}{l:List Stp}{G:List (Option (List Nat))}{Q:List Bool}{more wrong:Bool}{i k:Nat} (h:FSi par l G Q i) {st o r:List Nat}{s:Stp} (hi:G[i]?=some (some st)) (hs:l[i]?=some s)
  (ha:after par s.op s.a (abL st)=some (abL o,abL r)) {G1 G2:List (Option (List Nat))}{Q1 Q2:List Bool}{more1 more2:Bool} (g:aCi G Q more k r G1 Q1 more1) (g2:aCi G1 Q1 more1 (i+1) o G2 Q2 more2)
  (h1:far s.op=true) (h2:cS s.op=false) (h3:dY l s.a=some k):PsR par l G Q more wrong G2 Q2 more2 wrong:=by
 have hu:=E8 g
 have hu2:=E8 g2
 have hhas:Has (abG G1) k (abL r):=by
  rw[g.lay]
  exact tU (by rw[mP];exact g.hk) g.hh
 have hhas2:Has (abG G2) (i+1) (abL o):=by
  rw[g2.lay]
  exact tU (by rw[mP];exact g2.hk) g2.hh
 have hlow1:Low par l (abG G1):=by
  rw[g.lay]
  exact h.low.farLow (eM hi) hs ha h1 h3
 have hlow:Low par l (abG G2):=by
  rw[g2.lay]
  exact h.low.next hlow1 (eM hi) hs ha h2
 refine .inr ⟨rfl,⟨hlow,?_,fun j hj=>?_,g2.known (g.known h.known)⟩,?_⟩
 ·rw[g2.lay]
  refine mM ?_ g2.hh
  rw[g.lay]
  exact mM h.z g.hh
 ·obtain⟨q3,q4⟩:=g2.no j hj
  obtain⟨q1,q2⟩:=g.no j q3
  by_cases e:j=i
  ·subst e
   rw[q2,hi] at q4
   exact oH.passed (eM q4) hs ha (fun _=>⟨k,h3,Has.mono hhas hu2⟩) (fun _=>hhas2)
  ·exact (h.done j e q1).mono (by rw[qL,qL,q4,q2]) (hu.trans hu2)
 ·rcases g.same with ⟨rfl,rfl,rfl⟩ | ⟨e1,e2⟩
  ·exact g2.same
  ·rcases g2.same with ⟨rfl,rfl,rfl⟩ | ⟨e3,e4⟩
   ·exact .inr ⟨e1,e2⟩
   ·exact .inr ⟨e3,by omega⟩
open Wire Flow
def mkK (l:List Nat):ByteArray:=⟨(l.map UInt8.ofNat).toArray⟩
theorem aHq (l:List Nat):(mkK l).size=l.length:=by simp[mkK,ByteArray.size]
theorem aVc {l:List Nat}(h:∀ x,x ∈ l→x<256):kL (mkK l)=l:=by
 unfold kL mkK
 rw[X2,List.map_map]
 conv=>rhs;rw[← List.map_id l]
 apply List.map_congr_left
 intro x hx
 simp only[Function.comp,id]
 simp[UInt8.toNat_ofNat]
 exact h x hx
def oB (op:Nat):List Nat:=if op=17 then [] else pK.getD op []
theorem aMa (op:Nat)(w:World)(h:op<54)(h1:op≠44)(h2:op≠45)(h3:op≠46)(h4:op≠50) :
  Calls prog 156 #[.int .u8 op] w fun e w'=>e=.returned (.tuple #[.string (mkK (oT.getD op [])),.string (mkK (oB op))])∧w'=w:=by
 obtain rfl | rfl | rfl | rfl | rfl | rfl | rfl | rfl | rfl | rfl | rfl | rfl | rfl | rfl | rfl | rfl | rfl | rfl | rfl | rfl | rfl | rfl | rfl | rfl | rfl | rfl | rfl | rfl | rfl | rfl | rfl | rfl | rfl | rfl | rfl | rfl | rfl | rfl | rfl | rfl | rfl | rfl | rfl | rfl | rfl | rfl | rfl | rfl | rfl | rfl:op=0∨op=1∨op=2∨op=3∨op=4∨op=5∨op=6∨op=7∨op=8∨op=9∨op=10∨op=11∨op=12∨op=13∨op=14∨op=15∨op=16∨op=17∨op=18∨op=19∨op=20∨op=21∨op=22∨op=23∨op=24∨op=25∨op=26∨op=27∨op=28∨op=29∨op=30∨op=31∨op=32∨op=33∨op=34∨op=35∨op=36∨op=37∨op=38∨op=39∨op=40∨op=41∨op=42∨op=43∨op=47∨op=48∨op=49∨op=51∨op=52∨op=53:=by omega
 all_goals
  go_enter func156,ntmps156
  go_wp2
  go_ret2
  exact⟨rfl,rfl⟩
end Go.Proofs.YtgpamchpeamnfaaGreatDoor
namespace Go.Proofs
open Go.Shelf
def lays105_ren:Go.Shelf.Ren:=⟨fun | 105=>155 | 212=>168 | 99=>169 | 165=>170 | 166=>171 | 170=>172 | 169=>173 | 263=>187 | 264=>188 | 206=>189 | 240=>190 | 241=>191 | 276=>200 | 277=>201 | n=>n,fun | 9=>9 | 3=>3 | 4=>4 | 20=>20 | 0=>0 | 46=>182 | 109=>242 | 5=>5 | 72=>247 | 76=>250 | 51=>181 | 146=>256 | 53=>162 | 148=>258 | 70=>245 | 37=>105 | 75=>249 | 127=>238 | 164=>265 | 80=>27 | n=>n,fun | n=>n⟩
theorem lays105:Go.Proofs.Lays.n105 prog lays105_ren:={
 mixed:=by kernel_rfl
 f99:=func169.trans (congrArg some (by kernel_rfl))
 f105:=func155.trans (congrArg some (by kernel_rfl))
 f165:=func170.trans (congrArg some (by kernel_rfl))
 f166:=func171.trans (congrArg some (by kernel_rfl))
 f169:=func173.trans (congrArg some (by kernel_rfl))
 f170:=func172.trans (congrArg some (by kernel_rfl))
 f206:=func189.trans (congrArg some (by kernel_rfl))
 f212:=func168.trans (congrArg some (by kernel_rfl))
 f240:=func190.trans (congrArg some (by kernel_rfl))
 f241:=func191.trans (congrArg some (by kernel_rfl))
 f263:=func187.trans (congrArg some (by kernel_rfl))
 f264:=func188.trans (congrArg some (by kernel_rfl))
 f276:=func200.trans (congrArg some (by kernel_rfl))
 f277:=func201.trans (congrArg some (by kernel_rfl))
 t0:=underlying0
 a0:=isAgg0
 z0:=sizeOf0
 v0:=zeroValue0
 t3:=underlying3
 a3:=isAgg3
 z3:=sizeOf3
 v3:=zeroValue3
 t4:=underlying4
 a4:=isAgg4
 z4:=sizeOf4
 v4:=zeroValue4
 t5:=underlying5
 a5:=isAgg5
 z5:=sizeOf5
 v5:=zeroValue5
 t9:=underlying9
 a9:=isAgg9
 z9:=sizeOf9
 v9:=zeroValue9
 t20:=underlying20
 a20:=isAgg20
 z20:=sizeOf20
 v20:=zeroValue20
 t37:=underlying105
 a37:=isAgg105
 z37:=sizeOf105
 v37:=zeroValue105
 t46:=underlying182
 a46:=isAgg182
 z46:=sizeOf182
 v46:=zeroValue182
 t51:=underlying181
 a51:=isAgg181
 z51:=sizeOf181
 v51:=zeroValue181
 t53:=underlying162
 a53:=isAgg162
 z53:=sizeOf162
 v53:=zeroValue162
 t70:=underlying245
 a70:=isAgg245
 z70:=sizeOf245
 v70:=zeroValue245
 t72:=underlying247
 a72:=isAgg247
 z72:=sizeOf247
 v72:=zeroValue247
 t75:=underlying249
 a75:=isAgg249
 z75:=sizeOf249
 v75:=zeroValue249
 t76:=underlying250
 a76:=isAgg250
 z76:=sizeOf250
 v76:=zeroValue250
 t109:=underlying242
 a109:=isAgg242
 z109:=sizeOf242
 v109:=zeroValue242
 t127:=underlying238
 a127:=isAgg238
 z127:=sizeOf238
 v127:=zeroValue238
 t146:=underlying256
 a146:=isAgg256
 z146:=sizeOf256
 v146:=zeroValue256
 t148:=underlying258
 a148:=isAgg258
 z148:=sizeOf258
 v148:=zeroValue258
 t164:=underlying265
 a164:=isAgg265
 z164:=sizeOf265
 v164:=zeroValue265 }
theorem Builder_Extra_105:Builder.Extra prog lays105_ren:={
 sizeBuilder:=by kernel_rfl
 liesBuilder:=by kernel_rfl
 t5:=underlying5
 a5:=isAgg5
 z5:=sizeOf5
 v5:=zeroValue5
 infoByte:=by kernel_rfl
 cellsByte:=by kernel_rfl
 sizeByte:=by kernel_rfl
 neB5:=by decide }
open Go.RowKit Go.Lib in
theorem strings_Repeat (s:ByteArray)(c:Nat)(w:World)(hc:c≤9223372036854775807)(hlen:s.size*c≤140737488355328) :
  Calls prog 155 #[.string s,.int .i64 c] w fun e w'=>e=.returned (.string ⟨(Lib.repeatL s.data.toList c).toArray⟩)∧Below w.heap.size w w':=Any.strings_Repeat lays105 Builder_Extra_105 s c w hc hlen
end Go.Proofs
namespace Go.Proofs.YtgpamchpeamnfaaGreatDoor
open Go.RowKit
open Wire Flow
def chB (par:Nat→Nat) (op a:Nat) (o:Option (List Nat)):Option (List Nat):=
 if op=17 then o.bind (eD [4]) else o.bind fun st=>(iA par op a st).map Prod.fst
theorem U7 {par:Nat→Nat}{op a:Nat}{o:Option (List Nat)} (hl:∀ st,o=some st→st.length≤1024) (h17:op≠17) (h45:op≠45) (h46:op≠46) :
  (o.bind (eD (kT par op a).reverse)).bind (eU (pK.getD op []))=chB par op a o:=by
 unfold chB
 rw[if_neg h17]
 cases o with
 | none=>rfl
 | some st=>
  have hst:=hl st rfl
  simp only[Option.bind_some,iA]
  cases ht:eD (kT par op a).reverse st with
  | none=>rfl
  | some rest=>
   have hr:rest.length≤1024:=by
    have:=congrArg List.length (tB _ _ _ ht)
    rw[List.length_take] at this
    omega
   have hg:pM op (st.drop rest.length)=pK.getD op []:=by unfold pM;rw[if_neg h45,if_neg h46]
   simp only[Option.bind_some,uP hr,hg,Lla]
   split <;> rfl
theorem aZg {par:Nat→Nat}{a:Nat}{o:Option (List Nat)}:(o.bind (eD (kT par 17 a).reverse)).bind (eU [])=chB par 17 a o:=by
 unfold chB
 rw[if_pos rfl]
 have:(kT par 17 a).reverse=[4]:=rfl
 rw[this]
 cases o with
 | none=>rfl
 | some st=>simp only[Option.bind_some];cases eD [4] st <;> rfl
theorem bCx {par:Nat→Nat}{a:Nat}{o:Option (List Nat)} (hl:∀ st,o=some st→st.length≤1024) {y:Nat} (hy:∀ s x,o=some (s++[x])→y=x) :
  ((o.bind (xQ 3)).bind (fQ y)).bind (fQ y)=chB par 45 a o:=by
 unfold chB
 rw[if_neg (by decide)]
 cases o with
 | none=>rfl
 | some st=>
  by_cases h0:st=[]
  ·subst h0;rfl
  ·obtain⟨s,x,rfl⟩:=rY h0
   obtain rfl:=hy s x rfl
   have hst:=hl _ rfl
   simp only[Lla,List.length_cons,List.length_nil] at hst
   simp only[Option.bind_some,kW,iA]
   have hw:(kT par 45 a).reverse=[3]:=rfl
   rw[hw]
   simp only[eD,kW]
   split
   ·simp only[Option.bind_some,Option.map_some]
    have hg:pM 45 ((s++[y]).drop s.length)=[y,y]:=by simp[pM]
    rw[hg]
    have:=uP (l:=[y,y]) (st:=s) (by omega)
    simp only[eU] at this
    have e1:(fQ y s).bind (fQ y)=(fQ y s).bind fun s=>(fQ y s).bind some:=by
     cases fQ y s with
     | none=>rfl
     | some q=>simp only[Option.bind_some];cases fQ y q <;> rfl
    rw[e1,this]
    simp only[Lla]
    split <;> rfl
   ·rfl
theorem aWh {par:Nat→Nat}{a:Nat}{o:Option (List Nat)} (hl:∀ st,o=some st→st.length≤1024) {y x:Nat} (hy:∀ s z,o=some (s++[z])→y=z) (hx:∀ s z,o.bind (xQ 3)=some (s++[z])→x=z) :
  ((((o.bind (xQ 3)).bind (xQ 3)).bind (fQ y)).bind (fQ x)).bind (fQ y)=chB par 46 a o:=by
 unfold chB
 rw[if_neg (by decide)]
 cases o with
 | none=>rfl
 | some st=>
  by_cases h0:st=[]
  ·subst h0;rfl
  ·obtain⟨s,z,rfl⟩:=rY h0
   obtain rfl:=hy s z rfl
   have hst:=hl _ rfl
   simp only[Lla,List.length_cons,List.length_nil] at hst
   simp only[Option.bind_some,kW,iA] at hx ⊢
   have hw:(kT par 46 a).reverse=[3,3]:=rfl
   rw[hw]
   simp only[eD,kW]
   split
   ·rename_i hz
    rw[if_pos hz] at hx
    simp only[Option.bind_some]
    by_cases h1:s=[]
    ·subst h1;rfl
    ·obtain⟨t,u,rfl⟩:=rY h1
     obtain rfl:=hx t u rfl
     simp only[kW]
     split
     ·simp only[Option.bind_some,Option.map_some]
      have hg:pM 46 ((t++[x]++[y]).drop t.length)=[y,x,y]:=by
       have:(t++[x]++[y]).drop t.length=[x,y]:=by simp
       rw[this];rfl
      rw[hg]
      simp only[Lla,List.length_cons,List.length_nil] at hst
      have:=uP (l:=[y,x,y]) (st:=t) (by omega)
      simp only[eU] at this
      have e1:((fQ y t).bind (fQ x)).bind (fQ y)=(fQ y t).bind fun s=>(fQ x s).bind fun s=>(fQ y s).bind some:=by
       cases fQ y t with
       | none=>rfl
       | some q=>
        simp only[Option.bind_some]
        cases fQ x q with
        | none=>rfl
        | some p=>simp only[Option.bind_some];cases fQ y p <;> rfl
      rw[e1,this]
      simp only[Lla]
      split <;> rfl
     ·rfl
   ·rfl
theorem cY.len {w:World}{sb:Nat}{o:Option (List Nat)} (h:cY w sb o):∀ st,o=some st→st.length≤1024:=by
 intro st hst
 subst hst
 exact eP.hi h
theorem bBv (k c:Nat)(hk:k<256):kL ⟨(Lib.repeatL [UInt8.ofNat k] c).toArray⟩=List.replicate c k∧(⟨(Lib.repeatL [UInt8.ofNat k] c).toArray⟩:ByteArray).size=c:=by
 have e:Lib.repeatL [UInt8.ofNat k] c=List.replicate c (UInt8.ofNat k):=by
  induction c with
  | zero=>rfl
  | succ c ih=>rw[Lib.repeatL,ih];rfl
 rw[e]
 refine⟨?_,by simp[ByteArray.size]⟩
 unfold kL
 rw[X2,List.map_replicate]
 congr 1
 simp[UInt8.toNat_ofNat]
 omega
def A0 (op pl a b tt:Nat):Value:=.agg #[.int .u8 op,.int .i64 pl,.int .i64 a,.int .i64 b,.int .i64 tt]
theorem zY (k c:Nat)(w:World)(hk:k<256)(hc:c≤100000) :
  Calls prog 155 #[.string ⟨#[UInt8.ofNat k]⟩,.int .i64 c] w fun e w'=>∃ l:ByteArray,e=.returned (.string l)∧l.size=c∧kL l=List.replicate c k∧Fr [] w w':=by
 refine (strings_Repeat ⟨#[UInt8.ofNat k]⟩ c w (by omega) (by show 1*c≤_;omega)).mono ?_
 rintro e w' ⟨rfl,lo⟩
 obtain⟨h1,h2⟩:=bBv k c hk
 exact⟨_,rfl,h2,h1,Fr.of_below lo⟩
theorem aMh (w:World)(fb sb:Nat)(o:Option (List Nat))(pl a b tt:Nat)(par:Nat→Nat)(h:cY w sb o) :
  Calls prog 143 #[.pointer (some ⟨fb,0,none⟩),.pointer (some ⟨sb,0,none⟩),A0 45 pl a b tt] w fun e w'=>e=.returned (.tuple #[])∧cY w' sb (chB par 45 a o)∧Fr [sb] w w':=by
 have K0:=h.fr ((Fr.refl [] w).alloc (.cells #[.int .u8 45,.int .i64 pl,.int .i64 a,.int .i64 b,.int .i64 tt] 152)) (by simp)
 have F0:Fr [sb] w (w.alloc (.cells #[.int .u8 45,.int .i64 pl,.int .i64 a,.int .i64 b,.int .i64 tt] 152)):=(Fr.refl [sb] w).alloc _
 have HL:Hid _:=h.len
 have HP:Hid _:=fun (W:World) (q:Option (List Nat)) (hW:cY W sb q)=>xP W sb q 3 hW (by omega)
 have HQ:Hid _:=fun (W:World) (q:Option (List Nat)) (x:Nat) (hW:cY W sb q) (hx:x<16)=>tJ W sb q x hW hx
 have HT:Hid _:=fun (W:World) (q:Option (List Nat)) (l:ByteArray) (hW:cY W sb q) (hl:l.size≤100000) (hk:∀ x,x ∈ kL l→x<16)=>rB W sb q l hW hl hk
 have HV:Hid _:=fun (W:World) (q:Option (List Nat)) (l:ByteArray) (hW:cY W sb q) (hl:l.size≤100000) (hk:∀ x,x ∈ kL l→x<16)=>oN W sb q l hW hl hk
 clear h
 unfold A0
 go_enter func143,ntmps143
 go_wp2_with fail
 refine (HP.out _ _ K0).mono ?_
 rintro e w1 ⟨y,rfl,hy,hy2,K1,F1⟩
 go_wp2_with fail
 refine (HQ.out _ _ _ K1 hy).mono ?_
 rintro e w2 ⟨rfl,K2,F2⟩
 go_wp2_with fail
 refine (HQ.out _ _ _ K2 hy).mono ?_
 rintro e w3 ⟨rfl,K3,F3⟩
 rw[bCx (par:=par) (a:=a) HL.out hy2] at K3
 go_wp2
 go_end0
 exact⟨rfl,K3,((F0.trans F1).trans F2).trans F3⟩
theorem aEn (w:World)(fb sb:Nat)(o:Option (List Nat))(pl a b tt:Nat)(par:Nat→Nat)(h:cY w sb o) :
  Calls prog 143 #[.pointer (some ⟨fb,0,none⟩),.pointer (some ⟨sb,0,none⟩),A0 46 pl a b tt] w fun e w'=>e=.returned (.tuple #[])∧cY w' sb (chB par 46 a o)∧Fr [sb] w w':=by
 have K0:=h.fr ((Fr.refl [] w).alloc (.cells #[.int .u8 46,.int .i64 pl,.int .i64 a,.int .i64 b,.int .i64 tt] 152)) (by simp)
 have F0:Fr [sb] w (w.alloc (.cells #[.int .u8 46,.int .i64 pl,.int .i64 a,.int .i64 b,.int .i64 tt] 152)):=(Fr.refl [sb] w).alloc _
 have HL:Hid _:=h.len
 have HP:Hid _:=fun (W:World) (q:Option (List Nat)) (hW:cY W sb q)=>xP W sb q 3 hW (by omega)
 have HQ:Hid _:=fun (W:World) (q:Option (List Nat)) (x:Nat) (hW:cY W sb q) (hx:x<16)=>tJ W sb q x hW hx
 have HT:Hid _:=fun (W:World) (q:Option (List Nat)) (l:ByteArray) (hW:cY W sb q) (hl:l.size≤100000) (hk:∀ x,x ∈ kL l→x<16)=>rB W sb q l hW hl hk
 have HV:Hid _:=fun (W:World) (q:Option (List Nat)) (l:ByteArray) (hW:cY W sb q) (hl:l.size≤100000) (hk:∀ x,x ∈ kL l→x<16)=>oN W sb q l hW hl hk
 clear h
 unfold A0
 go_enter func143,ntmps143
 go_wp2_with fail
 refine (HP.out _ _ K0).mono ?_
 rintro e w1 ⟨y,rfl,hy,hy2,K1,F1⟩
 go_wp2_with fail
 refine (HP.out _ _ K1).mono ?_
 rintro e w2 ⟨x,rfl,hx,hx2,K2,F2⟩
 go_wp2_with fail
 refine (HQ.out _ _ _ K2 hy).mono ?_
 rintro e w3 ⟨rfl,K3,F3⟩
 go_wp2_with fail
 refine (HQ.out _ _ _ K3 hx).mono ?_
 rintro e w4 ⟨rfl,K4,F4⟩
 go_wp2_with fail
 refine (HQ.out _ _ _ K4 hy).mono ?_
 rintro e w5 ⟨rfl,K5,F5⟩
 rw[aWh (par:=par) (a:=a) HL.out hy2 hx2] at K5
 go_wp2
 go_end0
 exact⟨rfl,K5,((((F0.trans F1).trans F2).trans F3).trans F4).trans F5⟩
theorem aEp (w:World)(fb sb:Nat)(o:Option (List Nat))(pl a b tt:Nat)(par:Nat→Nat)(h:cY w sb o)(ha:a≤1000) :
  Calls prog 143 #[.pointer (some ⟨fb,0,none⟩),.pointer (some ⟨sb,0,none⟩),A0 44 pl a b tt] w fun e w'=>e=.returned (.tuple #[])∧cY w' sb (chB par 44 a o)∧Fr [sb] w w':=by
 have K0:=h.fr ((Fr.refl [] w).alloc (.cells #[.int .u8 44,.int .i64 pl,.int .i64 a,.int .i64 b,.int .i64 tt] 152)) (by simp)
 have F0:Fr [sb] w (w.alloc (.cells #[.int .u8 44,.int .i64 pl,.int .i64 a,.int .i64 b,.int .i64 tt] 152)):=(Fr.refl [sb] w).alloc _
 have HL:Hid _:=h.len
 have HP:Hid _:=fun (W:World) (q:Option (List Nat)) (hW:cY W sb q)=>xP W sb q 3 hW (by omega)
 have HQ:Hid _:=fun (W:World) (q:Option (List Nat)) (x:Nat) (hW:cY W sb q) (hx:x<16)=>tJ W sb q x hW hx
 have HT:Hid _:=fun (W:World) (q:Option (List Nat)) (l:ByteArray) (hW:cY W sb q) (hl:l.size≤100000) (hk:∀ x,x ∈ kL l→x<16)=>rB W sb q l hW hl hk
 have HV:Hid _:=fun (W:World) (q:Option (List Nat)) (l:ByteArray) (hW:cY W sb q) (hl:l.size≤100000) (hk:∀ x,x ∈ kL l→x<16)=>oN W sb q l hW hl hk
 have HR:Hid _:=fun (W:World)=>zY 2 a W (by omega) (by omega)
 clear h
 unfold A0
 go_enter func143,ntmps143
 go_wp2_with fail
 refine (HR.out _).mono ?_
 rintro e w1 ⟨l,rfl,hl,hkl,F1⟩
 have K1:=K0.fr F1 (by simp)
 go_wp2_with fail
 refine (HT.out _ _ _ K1 (by omega) (by rw[hkl];intro x hx;rw[List.mem_replicate] at hx;omega)).mono ?_
 rintro e w2 ⟨rfl,K2,F2⟩
 have hw:kL l=kT par 44 a:=by rw[hkl];rfl
 rw[hw] at K2
 have K3:cY w2 sb (chB par 44 a o):=by
  rw[← U7 (par:=par) (op:=44) (a:=a) HL.out (by decide) (by decide) (by decide)]
  have e0:∀ q:Option (List Nat),q.bind (eU (pK.getD 44 []))=q:=fun q=>by cases q <;> rfl
  rw[e0]
  exact K2
 go_wp2
 go_end0
 exact⟨rfl,K3,(F0.trans (F1.mono (by simp))).trans F2⟩
theorem aEo (w:World)(fb sb:Nat)(o:Option (List Nat))(op pl a b tt:Nat)(par:Nat→Nat)(h:cY w sb o)(hop:op<54)(h44:op≠44)(h45:op≠45)(h46:op≠46)(h50:op≠50) :
  Calls prog 143 #[.pointer (some ⟨fb,0,none⟩),.pointer (some ⟨sb,0,none⟩),A0 op pl a b tt] w fun e w'=>e=.returned (.tuple #[])∧cY w' sb (chB par op a o)∧Fr [sb] w w':=by
 have K0:=h.fr ((Fr.refl [] w).alloc (.cells #[.int .u8 op,.int .i64 pl,.int .i64 a,.int .i64 b,.int .i64 tt] 152)) (by simp)
 have F0:Fr [sb] w (w.alloc (.cells #[.int .u8 op,.int .i64 pl,.int .i64 a,.int .i64 b,.int .i64 tt] 152)):=(Fr.refl [sb] w).alloc _
 have HL:Hid _:=h.len
 have HP:Hid _:=fun (W:World) (q:Option (List Nat)) (hW:cY W sb q)=>xP W sb q 3 hW (by omega)
 have HQ:Hid _:=fun (W:World) (q:Option (List Nat)) (x:Nat) (hW:cY W sb q) (hx:x<16)=>tJ W sb q x hW hx
 have HT:Hid _:=fun (W:World) (q:Option (List Nat)) (l:ByteArray) (hW:cY W sb q) (hl:l.size≤100000) (hk:∀ x,x ∈ kL l→x<16)=>rB W sb q l hW hl hk
 have HV:Hid _:=fun (W:World) (q:Option (List Nat)) (l:ByteArray) (hW:cY W sb q) (hl:l.size≤100000) (hk:∀ x,x ∈ kL l→x<16)=>oN W sb q l hW hl hk
 have HE:Hid _:=fun (W:World)=>aMa op W hop h44 h45 h46 h50
 have g44:((op:Int)==44)=false:=by simp;omega
 have g45:((op:Int)==45)=false:=by simp;omega
 have g46:((op:Int)==46)=false:=by simp;omega
 have g50:((op:Int)==50)=false:=by simp;omega
 have hg:op<256:=by omega
 clear h
 unfold A0
 go_enter func143,ntmps143
 go_wp2_with fail
 refine (HE.out _).mono ?_
 rintro e w1 ⟨rfl,rfl⟩
 have a1:∀ x,x ∈ oT.getD op []→x<16:=fun x hx=>by
  have:=xD op hop x hx
  omega
 have a2:∀ x,x ∈ oB op→x<16:=fun x hx=>by
  unfold oB at hx
  split at hx
  ·cases hx
  ·have:=i7 op hop x hx
   omega
 have e1:kL (mkK (oT.getD op []))=oT.getD op []:=aVc fun x hx=>by have:=a1 x hx;omega
 have e2:kL (mkK (oB op))=oB op:=aVc fun x hx=>by have:=a2 x hx;omega
 have z1:(oT.getD op []).length≤3:=by
  have:∀ op,op<54→(oT.getD op []).length≤3:=by decide
  exact this op hop
 have z2:(oB op).length≤2:=by
  have:∀ op,op<54→(oB op).length≤2:=by decide
  exact this op hop
 have hT1:=HT.out _ _ (mkK (oT.getD op [])) K0 (by rw[aHq];omega) (by rw[e1];exact a1)
 have HT1:Hid _:=hT1
 clear hT1
 go_wp2_with fail
 refine Calls.mono HT1.out ?_
 rintro e w2 ⟨rfl,K2,F2⟩
 go_wp2_with fail
 refine (HV.out _ _ _ K2 (by rw[aHq];omega) (by rw[e2];exact a2)).mono ?_
 rintro e w3 ⟨rfl,K3,F3⟩
 rw[e1,e2] at K3
 have hw:oT.getD op []=kT par op a:=by unfold kT;rw[if_neg h44,if_neg h50]
 have K4:cY w3 sb (chB par op a o):=by
  by_cases h17:op=17
  ·subst h17
   rw[hw] at K3
   rw[← aZg]
   exact K3
  ·rw[← U7 (par:=par) (op:=op) (a:=a) HL.out h17 h45 h46,← hw]
   have:oB op=pK.getD op []:=by unfold oB;rw[if_neg h17]
   rw[← this]
   exact K3
 go_wp2
 go_end0
 exact⟨rfl,K4,(F0.trans F2).trans F3⟩
theorem aJe (w:World)(fb sb g off n cap:Nat)(o:Option (List Nat))(pl a b tt:Nat)(par:Nat→Nat)(h:cY w sb o)
  (hf:w.cell? ⟨fb,4,none⟩=some (.slice (some ⟨g,off,none⟩) n cap)) (ha:a<n) (hn:n≤1000000) (hp:w.cell? ⟨g,off+a*3,none⟩=some (.int .i64 (par a:Nat))) (hp8:par a≤8) (hfs:fb≠sb) (hgs:g≠sb) :
  Calls prog 143 #[.pointer (some ⟨fb,0,none⟩),.pointer (some ⟨sb,0,none⟩),A0 50 pl a b tt] w fun e w'=>e=.returned (.tuple #[])∧cY w' sb (chB par 50 a o)∧Fr [sb] w w':=by
 have hm:prog.follows Departure.mixedOrders=true:=by kernel_rfl
 have FA:Fr [] w (w.alloc (.cells #[.int .u8 50,.int .i64 pl,.int .i64 a,.int .i64 b,.int .i64 tt] 152)):=(Fr.refl [] w).alloc _
 have K0:=h.fr FA (by simp)
 have F0:Fr [sb] w (w.alloc (.cells #[.int .u8 50,.int .i64 pl,.int .i64 a,.int .i64 b,.int .i64 tt] 152)):=(Fr.refl [sb] w).alloc _
 have d0:(w.alloc (.cells #[.int .u8 50,.int .i64 pl,.int .i64 a,.int .i64 b,.int .i64 tt] 152)).cell? ⟨fb,4,none⟩=some (.slice (some ⟨g,off,none⟩) n cap):=(FA.cell (p:=⟨fb,4,none⟩) (aC hf) (by simp)).trans hf
 have d1:(w.alloc (.cells #[.int .u8 50,.int .i64 pl,.int .i64 a,.int .i64 b,.int .i64 tt] 152)).cell? ⟨g,off+a*3,none⟩=some (.int .i64 (par a:Nat)):=(FA.cell (p:=⟨g,off+a*3,none⟩) (aC hp) (by simp)).trans hp
 have hnew:=wan w (.cells #[.int .u8 50,.int .i64 pl,.int .i64 a,.int .i64 b,.int .i64 tt] 152)
 have d2:(w.alloc (.cells #[.int .u8 50,.int .i64 pl,.int .i64 a,.int .i64 b,.int .i64 tt] 152)).cell? ⟨w.heap.size,2,none⟩=some (.int .i64 a):=cof hnew rfl
 have d3:(w.alloc (.cells #[.int .u8 50,.int .i64 pl,.int .i64 a,.int .i64 b,.int .i64 tt] 152)).cell? ⟨w.heap.size,0,none⟩=some (.int .u8 50):=cof hnew rfl
 have HL:Hid _:=h.len
 have hsb0:=h.lt
 obtain⟨p,hpp⟩:=eX (par a)
 rw[hpp] at d1 hp8
 have HT:Hid _:=fun (W:World) (q:Option (List Nat)) (l:ByteArray) (hW:cY W sb q) (hl:l.size≤100000) (hk:∀ x,x ∈ kL l→x<16)=>rB W sb q l hW hl hk
 have HV:Hid _:=fun (W:World) (q:Option (List Nat)) (l:ByteArray) (hW:cY W sb q) (hl:l.size≤100000) (hk:∀ x,x ∈ kL l→x<16)=>oN W sb q l hW hl hk
 have HR:Hid _:=fun (W:World)=>zY 3 p W (by omega) (by omega)
 have hblt:w.heap.size<(w.alloc (.cells #[.int .u8 50,.int .i64 pl,.int .i64 a,.int .i64 b,.int .i64 tt] 152)).heap.size:=by simp
 have gA:(a:Int)<(n:Int):=by omega
 clear h hf hp FA hnew
 unfold A0
 go_enter func143,ntmps143
 go_wp2_with fail
 generalize w.alloc (.cells #[.int .u8 50,.int .i64 pl,.int .i64 a,.int .i64 b,.int .i64 tt] 152)=W at *
 refine aE (fun w1:World=>w1.cell? ⟨fb,4,none⟩=some (.slice (some ⟨g,off,none⟩) n cap)∧w1.cell? ⟨w.heap.size,2,none⟩=some (.int .i64 a)∧w1.cell? ⟨g,off+a*3,none⟩=some (.int .i64 p)) hm ?_
 have hS:(fun w1:World=>w1.cell? ⟨fb,4,none⟩=some (.slice (some ⟨g,off,none⟩) n cap)∧w1.cell? ⟨w.heap.size,2,none⟩=some (.int .i64 a)∧w1.cell? ⟨g,off+a*3,none⟩=some (.int .i64 p)) W.drew:=AI d0 (AI d2 d1)
 refine aH (fun _ _ _ _ _ h=>h) hS [0,1,2,3,4,5,6,7,8,9,10,11] (by kernel_rfl) ?_
 iterate 12
  refine Yls.cons (v:=?_) rfl (.inl ⟨rfl,fun w1 hS1=>?_⟩) ?_
  rotate_left
  ·obtain⟨q0,q1,q2⟩:=hS1
   go_simp
   first | rfl | (refine (if_neg (by omega)).trans ?_;rfl)
  simp only[Act.put,Z1,Z2,Z3,Z4,Z5,Z6]
 refine Yls.nil ?_
 refine rd1 (r:=12) (by kernel_rfl) rfl fun K hK=>?_
 go_simp
 refine (HR.out _).mono ?_
 rintro e w1 ⟨l,rfl,hl,hkl,G1⟩
 have F1:Fr [] W w1:=⟨G1.os,G1.tape,G1.output,G1.size,G1.block⟩
 have K1:=K0.fr F1 (by simp)
 refine hK _ _ (AI ((F1.cell (p:=⟨fb,4,none⟩) (aC d0) (by simp)).trans d0) (AI ((F1.cell (p:=⟨w.heap.size,2,none⟩) (aC d2) (by simp)).trans d2) ((F1.cell (p:=⟨g,off+a*3,none⟩) (aC d1) (by simp)).trans d1))) ?_
 clear hK K hS
 intro _
 refine rd1 (r:=13) (by kernel_rfl) rfl fun K hK=>?_
 go_simp
 refine (HT.out _ _ _ K1 (by omega) (by rw[hkl];intro x hx;rw[List.mem_replicate] at hx;omega)).mono ?_
 rintro e w2 ⟨rfl,K2,F2⟩
 have hsb:=K0.lt
 have hsw:w.heap.size≠sb:=by have:=hsb0;omega
 have F12:=(F1.mono (S':=[sb]) (by simp)).trans F2
 refine hK _ _ (AI ((F12.cell (p:=⟨fb,4,none⟩) (aC d0) (by simpa using hfs)).trans d0) (AI ((F12.cell (p:=⟨w.heap.size,2,none⟩) (aC d2) (by simpa using hsw)).trans d2) ((F12.cell (p:=⟨g,off+a*3,none⟩) (aC d1) (by simpa using hgs)).trans d1))) ?_
 clear hK K
 intro _
 refine wpAnyH_done (by kernel_rfl) ?_ _
 have hw:(kL l).reverse=(kT par 50 a).reverse:=by rw[hkl,← hpp];rfl
 rw[hw] at K2
 clear HT HR hw hkl hl K1
 go_wp2_with fail
 refine (HV.out _ _ ⟨#[3]⟩ K2 (by decide) (by decide)).mono ?_
 rintro e w3 ⟨rfl,K3,F3⟩
 have K4:cY w3 sb (chB par 50 a o):=by
  rw[← U7 (par:=par) (op:=50) (a:=a) HL.out (by decide) (by decide) (by decide)]
  exact K3
 go_wp2
 go_end0
 exact⟨rfl,K4,(F0.trans F12).trans F3⟩
theorem aMi (w:World)(fb sb g off n cap:Nat)(o:Option (List Nat))(op pl a b tt:Nat)(par:Nat→Nat)(hop:op<54)(h:cY w sb o)(h44:op=44→a≤1000)
  (h50:op=50→w.cell? ⟨fb,4,none⟩=some (.slice (some ⟨g,off,none⟩) n cap)∧a<n∧n≤1000000∧w.cell? ⟨g,off+a*3,none⟩=some (.int .i64 (par a:Nat))∧par a≤8∧fb≠sb∧g≠sb) :
  Calls prog 143 #[.pointer (some ⟨fb,0,none⟩),.pointer (some ⟨sb,0,none⟩),A0 op pl a b tt] w fun e w'=>e=.returned (.tuple #[])∧cY w' sb (chB par op a o)∧Fr [sb] w w':=by
 by_cases e45:op=45
 ·subst e45;exact aMh w fb sb o pl a b tt par h
 ·by_cases e46:op=46
  ·subst e46;exact aEn w fb sb o pl a b tt par h
  ·by_cases e44:op=44
   ·subst e44;exact aEp w fb sb o pl a b tt par h (h44 rfl)
   ·by_cases e50:op=50
    ·subst e50
     obtain⟨q1,q2,q3,q4,q5,q6,q7⟩:=h50 rfl
     exact aJe w fb sb g off n cap o pl a b tt par h q1 q2 q3 q4 q5 q6 q7
    ·exact aEo w fb sb o op pl a b tt par h hop e44 e45 e46 e50
end Go.Proofs.YtgpamchpeamnfaaGreatDoor
