/-
  Texts Vj Vk Vl Vm Vn If Il Ge Pa Wb Wc Wd Wa We.
-/
import Derived.Lib.TrailingZeros
import Derived.RangeFuncNested
import Derived.RangeFuncBound
import Derived.RangeFuncCalls
import Derived.RangeFuncLeaves
import Derived.Shelf.Abstract
import Derived.Shelf.RegionOpen
import Derived.WalkKit
import Derived.OwnWalkIn
import Derived.TacticsInMore
import Derived.LoopNIn
import Derived.LoopIn
import Derived.WalkSpells
import Derived.WalkLawsBesides
import Derived.Shelf.Spec.TrailingZeros
import Derived.Test.YtclkgoigmgkffaaGreatDoorRows
import Derived.BigQuiet
import Derived.Deep.QuietTactic
import Derived.Deep.RegionHeld
import Derived.Test.YtclkgoigmgkffaaGreatDoorM00
import Derived.Test.YtclkgoigmgkffaaGreatDoorM01
import Derived.Test.YtclkgoigmgkffaaGreatDoorM02
set_option linter.unusedSimpArgs false
set_option linter.unusedVariables false
set_option maxRecDepth 100000
set_option maxHeartbeats 40000000
namespace Go.Proofs.YtclkgoigmgkffaaGreatDoor
namespace Flow
open Wire
def sortsT:List Nat:=[1,2,0,3,3,4,4,0,0,0,0,5,5,5,5,5,5,7,0,0,0,0,0,0,0,0,0,0,0,0,0,0,0,0,0,6,6,6,5,0,0,0,0,0,8,0,0,0,7,7,9,0,0,0]
def above (m:Mo) (locs:Nat) (sort:Nat):Nat:=
 if sort=1 then 2000000001 else if sort=2 then m.texts.length else if sort=3 then locs else if sort=4 then m.globs.toNat
 else if sort=5 then m.arrs.toNat else if sort=6 then m.pats.length else if sort=8 then 1001 else if sort=9 then m.fns.length else 34359738368
def low (sort:Nat):Nat:=if sort=8 then 1 else if sort=9 then 3 else 0
def fitN (m:Mo) (locs:Nat) (sort n:Nat):Bool:=decide (low sort≤n) && decide (n<above m locs sort)
def mayOp (f op:Nat):Bool:=decide (op<54) && !(decide (op=51) && decide (f<3)) && !(decide (op=52) && decide (3≤f))
def operandL (m:Mo) (locs:Nat) (c:List UInt8) (sort i:Nat):Option (Nat × Nat):=
 match num (c.drop i) with
 | none=>none
 | some (n,r)=>if fitN m locs sort n=true then some (n,c.length-r.length) else none
def decodeL (m:Mo) (f locs:Nat) (c:List UInt8) (i:Nat):Nat ⊕ Stp:=
 if mayOp f (c.getD i 0).toNat=true then
  if sortsT.getD (c.getD i 0).toNat 0=0 then .inr ⟨i,i+1,(c.getD i 0).toNat,0,0⟩
  else match operandL m locs c (sortsT.getD (c.getD i 0).toNat 0) (i+1) with
   | none=>.inl 10
   | some (n,j)=>
    if (c.getD i 0).toNat=38 then
     match operandL m locs c 6 j with
     | none=>.inl 10
     | some (n2,k)=>.inr ⟨i,k,(c.getD i 0).toNat,n,n2⟩
    else .inr ⟨i,j,(c.getD i 0).toNat,n,0⟩
 else .inl 9
def Chain (m:Mo) (f locs:Nat) (c:List UInt8):Nat→List Stp→Nat→Prop
 | i,[],j=>i=j
 | i,s :: l,j=>i<c.length∧decodeL m f locs c i=.inr s∧Chain m f locs c s.nx l j
def Reads (m:Mo) (f locs:Nat) (c:List UInt8) (l:List Stp):Prop:=Chain m f locs c 0 l c.length
end Flow
namespace Flow
open Wire
def Fits (l:List Stp) (G:List (Option (List UInt8))) (p:Nat) (ks:List UInt8):Prop:=
 ∃ (i:Nat) (s:Stp) (t:List UInt8),l[i]?=some s∧s.pl=p∧G[i]?=some (some t)∧leS ks t
end Flow
namespace Mach
open Wire Flow
structure Val where
 kind:Nat
 n:Int
 s:ByteArray
def none0:ByteArray:=⟨#[]⟩
def nothing:Val:=⟨0,0,none0⟩
def whole (n:Int):Val:=⟨1,n,none0⟩
def words (s:ByteArray):Val:=⟨2,0,s⟩
def blankB (c:UInt8):Bool:=c==32 || c==9 || c==10
def digB (c:UInt8):Bool:=decide (48≤c.toNat) && decide (c.toNat≤57)
def skipL:List UInt8→List UInt8
 | []=>[]
 | c :: l=>if blankB c=true then skipL l else c :: l
def more (n:Int) (c:UInt8):Int:=if 10*n+((c.toNat:Int)-48)>1000000000 then 1000000001 else 10*n+((c.toNat:Int)-48)
def digL:Int→Nat→List UInt8→Int × Nat × List UInt8
 | n,k,[]=>(n,k,[])
 | n,k,c :: l=>if digB c=true then digL (more n c) (k+1) l else (n,k,c :: l)
def signL:List UInt8→Bool × List UInt8
 | []=>(false,[])
 | c :: l=>if c=43 then (false,l) else if c=45 then (true,l) else (false,c :: l)
def readL (l:List UInt8):Int × Nat × List UInt8:=
 ((if (signL (skipL l)).1=true then -(digL 0 0 (signL (skipL l)).2).1 else (digL 0 0 (signL (skipL l)).2).1),(digL 0 0 (signL (skipL l)).2).2)
def clampN (n:Int):Int:=if n>1000000000 then 1000000000 else if n < -1000000000 then -1000000000 else n
def looks (s:ByteArray):Bool:=
 (readL (bl s)).2.2.all blankB && decide (0<(readL (bl s)).2.1) && decide (-1000000000≤(readL (bl s)).1) && decide ((readL (bl s)).1≤1000000000)
def readV (s:ByteArray):Val:=if looks s=true then ⟨3,0,s⟩ else words s
def numT (s:ByteArray):Int:=clampN (readL (bl s)).1
def numV (v:Val):Int:=if v.kind=0 then 0 else if v.kind=1 then v.n else numT v.s
def holdsV (v:Val):Bool:=if v.kind=2 then decide (v.s.size≠0) else decide (numV v≠0)
def cmpL:List UInt8→List UInt8→Int
 | [],[]=>0
 | [],_ :: _=>-1
 | _ :: _,[]=>1
 | a :: s,b :: t=>if a.toNat<b.toNat then -1 else if b.toNat<a.toNat then 1 else cmpL s t
def cmpI (x y:Int):Int:=if x<y then -1 else if x>y then 1 else 0
def truth (b:Bool):Int:=if b=true then 1 else 0
structure Env where
 mo:Mo
 fnd:ByteArray→ByteArray→Int × Int
 swp:ByteArray→ByteArray→ByteArray→ByteArray
 spl:ByteArray→ByteArray→List ByteArray
 itoa:Int→ByteArray
 wr:Int→Int
def textV (E:Env) (v:Val):ByteArray:=if v.kind=0 then none0 else if v.kind=1 then E.itoa v.n else v.s
def cmpV (E:Env) (a b:Val):Int:=
 if a.kind=2∨b.kind=2 then cmpL (bl (textV E a)) (bl (textV E b)) else cmpI (numV a) (numV b)
def cmpOp (k:Nat) (c:Int):Bool:=
 if k=29 then decide (c<0) else if k=30 then decide (c≤0) else if k=31 then decide (c=0) else if k=32 then decide (c≠0) else if k=33 then decide (c>0) else decide (c ≥ 0)
def sumOp (E:Env) (op:Nat) (x y:Int):Int × Nat:=
 if op=21∧y=0∨op=22∧y=0 then (0,3)
 else
  let n:=if op=18 then E.wr (x+y) else if op=19 then E.wr (x-y) else if op=20 then E.wr (x*y) else if op=21 then E.wr (x.tdiv y) else E.wr (x-E.wr (E.wr (x.tdiv y)*y))
  if n>1000000000∨n < -1000000000 then (0,4) else (n,0)
def signedN (a:Nat):Int:=if a % 2=0 then ((a / 2:Nat):Int) else -(((a+1) / 2:Nat):Int)
def hasK (a:List (ByteArray × Val)) (k:ByteArray):Bool:=a.any fun e=>decide (e.1=k)
def getK:List (ByteArray × Val)→ByteArray→Val
 | [],_=>nothing
 | e :: a,k=>if e.1=k then e.2 else getK a k
def setK:List (ByteArray × Val)→ByteArray→Val→List (ByteArray × Val)
 | [],k,v=>[(k,v)]
 | e :: a,k,v=>if e.1=k then (k,v) :: a else e :: setK a k v
def dropK (a:List (ByteArray × Val)) (k:ByteArray):List (ByteArray × Val):=a.filter fun e=>decide (e.1≠k)
def keysA (a:List (ByteArray × Val)):List ByteArray:=a.map Prod.fst
def fillA (E:Env):Nat→List ByteArray→List (ByteArray × Val)
 | _,[]=>[]
 | i,s :: l=>(E.itoa ((i:Int)+1),readV s) :: fillA E (i+1) l
def nextK (a:List (ByteArray × Val)):List ByteArray→Option (ByteArray × List ByteArray)
 | []=>none
 | k :: l=>if hasK a k=true then some (k,l) else nextK a l
def fieldsL:List UInt8→List UInt8→List ByteArray
 | f,[]=>if f=[] then [] else [⟨f.toArray⟩]
 | f,c :: l=>if blankB c=true then (if f=[] then fieldsL [] l else ⟨f.toArray⟩ :: fieldsL [] l) else fieldsL (f++[c]) l
def cutF (s:ByteArray):List ByteArray:=fieldsL [] (bl s)
def joinF:List ByteArray→List UInt8
 | []=>[]
 | [s]=>bl s
 | s :: t :: l=>bl s++32 :: joinF (t :: l)
def putF (l:List ByteArray) (n:Nat) (s:ByteArray):List ByteArray:=(l++List.replicate (n-l.length) none0).set (n-1) s
structure Wd where
 recs:List ByteArray
 nr:Nat
 draws:List Int
 drawn:Nat
 rcd:ByteArray
 flds:List ByteArray
 out:ByteArray
 globs:List Val
 arrs:List (List (ByteArray × Val))
def nextR (w:Wd):Wd × Bool:=
 match w.recs[w.nr]? with
 | none=>(w,false)
 | some s=>({ w with nr:=w.nr+1,rcd:=s,flds:=cutF s },true)
def fieldW (w:Wd) (n:Int):Val × Nat:=
 if n<0 then (nothing,5) else if n=0 then (readV w.rcd,0) else if n≤(w.flds.length:Int) then (readV (w.flds.getD (n.toNat-1) none0),0) else (nothing,0)
def setFieldW (w:Wd) (n:Int) (s:ByteArray):Wd × Nat:=
 if n<0∨n>50 then (w,5)
 else if n=0 then ({ w with rcd:=s,flds:=cutF s },0)
 else if (joinF (putF w.flds n.toNat s)).length>100 then (w,6)
 else ({ w with rcd:=⟨(joinF (putF w.flds n.toNat s)).toArray⟩,flds:=putF w.flds n.toNat s },0)
def printW (w:Wd) (l:List ByteArray):Wd × Nat:=
 if w.out.size+(joinF l).length+1>1000 then (w,8) else ({ w with out:=⟨w.out.data++(joinF l++[10]).toArray⟩ },0)
def partL (m e:Int):Nat→List UInt8→List UInt8
 | _,[]=>[]
 | i,c :: l=>if m≤(i:Int)+1∧(i:Int)+1<e then c :: partL m e (i+1) l else partL m e (i+1) l
def indexL (t:List UInt8):Nat→List UInt8→Nat
 | i,s=>if t.isPrefixOf s=true then i+1 else match s with
  | []=>0
  | _ :: s=>indexL t (i+1) s
structure Cell where
 list:Bool
 v:Val
 arr:Nat
 keys:List ByteArray
def cv (v:Val):Cell:=⟨false,v,0,[]⟩
def c0:Cell:=cv nothing
def kd (c:Cell):UInt8:=if c.list=true then 107 else if c.v.kind=1 then 110 else if c.v.kind=2 then 116 else 97
structure Eff where
 w:Wd
 locs:List Val
 top:List Cell
 st:Nat
 code:Int
 go:Option Nat
def Eff.put (w:Wd) (locs:List Val) (v:Val):Eff:=⟨w,locs,[cv v],0,0,none⟩
def Eff.bad (w:Wd) (locs:List Val) (st:Nat):Eff:=⟨w,locs,[],st,0,none⟩
def Eff.off (w:Wd) (locs:List Val) (st:Nat):Eff:=⟨w,locs,[],st,0,none⟩
def eff (E:Env) (w:Wd) (locs:List Val) (op a b:Nat) (top:List Cell):Eff:=
 match op with
 | 0=>.put w locs (whole (signedN a))
 | 1=>.put w locs (words (E.mo.texts.getD a none0))
 | 2=>.put w locs nothing
 | 3=>.put w locs (locs.getD a nothing)
 | 4=>.off w (locs.set a (top.getD 0 c0).v) 0
 | 5=>.put w locs (w.globs.getD a nothing)
 | 6=>.off { w with globs:=w.globs.set a (top.getD 0 c0).v } locs 0
 | 7=>⟨w,locs,[cv (fieldW w (top.getD 0 c0).v.n).1],(fieldW w (top.getD 0 c0).v.n).2,0,none⟩
 | 8=>.off (setFieldW w (top.getD 0 c0).v.n (textV E (top.getD 1 c0).v)).1 locs (setFieldW w (top.getD 0 c0).v.n (textV E (top.getD 1 c0).v)).2
 | 9=>.put w locs (whole (w.flds.length:Int))
 | 10=>.put w locs (whole (w.nr:Int))
 | 11=>if hasK (w.arrs.getD a []) (top.getD 0 c0).v.s=true then .put w locs (getK (w.arrs.getD a []) (top.getD 0 c0).v.s)
   else if 30≤(w.arrs.getD a []).length then .bad w locs 7
   else .put { w with arrs:=w.arrs.set a (setK (w.arrs.getD a []) (top.getD 0 c0).v.s nothing) } locs nothing
 | 12=>if hasK (w.arrs.getD a []) (top.getD 0 c0).v.s=false∧30≤(w.arrs.getD a []).length then .bad w locs 7
   else .off { w with arrs:=w.arrs.set a (setK (w.arrs.getD a []) (top.getD 0 c0).v.s (top.getD 1 c0).v) } locs 0
 | 13=>.put w locs (whole (truth (hasK (w.arrs.getD a []) (top.getD 0 c0).v.s)))
 | 14=>.off { w with arrs:=w.arrs.set a (dropK (w.arrs.getD a []) (top.getD 0 c0).v.s) } locs 0
 | 15=>.off { w with arrs:=w.arrs.set a [] } locs 0
 | 16=>⟨w,locs,[⟨true,nothing,a,keysA (w.arrs.getD a [])⟩],0,0,none⟩
 | 17=>match nextK (w.arrs.getD (top.getD 0 c0).arr []) (top.getD 0 c0).keys with
  | none=>⟨w,locs,[],0,0,some a⟩
  | some (k,l)=>⟨w,locs,[⟨true,(top.getD 0 c0).v,(top.getD 0 c0).arr,l⟩,cv (words k)],0,0,none⟩
 | 18 | 19 | 20 | 21 | 22=>⟨w,locs,[cv (whole (sumOp E op (top.getD 0 c0).v.n (top.getD 1 c0).v.n).1)],(sumOp E op (top.getD 0 c0).v.n (top.getD 1 c0).v.n).2,0,none⟩
 | 23=>.put w locs (whole (E.wr (-(top.getD 0 c0).v.n)))
 | 24=>.put w locs (whole (truth (decide ((top.getD 0 c0).v.n=0))))
 | 25=>if (top.getD 0 c0).v.s.size+(top.getD 1 c0).v.s.size>100 then .bad w locs 6
   else .put w locs (words ((top.getD 0 c0).v.s++(top.getD 1 c0).v.s))
 | 26=>.put w locs (whole (numV (top.getD 0 c0).v))
 | 27=>.put w locs (words (textV E (top.getD 0 c0).v))
 | 28=>.put w locs (whole (truth (holdsV (top.getD 0 c0).v)))
 | 29 | 30 | 31 | 32 | 33 | 34=>.put w locs (whole (truth (cmpOp op (cmpV E (top.getD 0 c0).v (top.getD 1 c0).v))))
 | 35=>.put w locs (whole ((E.fnd (E.mo.pats.getD a none0) (top.getD 0 c0).v.s).1+1))
 | 36=>.put w locs (whole (if (E.fnd (E.mo.pats.getD a none0) (top.getD 0 c0).v.s).1<0 then -1 else (E.fnd (E.mo.pats.getD a none0) (top.getD 0 c0).v.s).2))
 | 37=>if (E.swp (E.mo.pats.getD a none0) (top.getD 0 c0).v.s (top.getD 1 c0).v.s).size>100 then .bad w locs 6
   else .put w locs (words (E.swp (E.mo.pats.getD a none0) (top.getD 0 c0).v.s (top.getD 1 c0).v.s))
 | 38=>if (E.spl (E.mo.pats.getD b none0) (top.getD 0 c0).v.s).length>30 then .bad w locs 7
   else .put { w with arrs:=w.arrs.set a (fillA E 0 (E.spl (E.mo.pats.getD b none0) (top.getD 0 c0).v.s)) } locs (whole ((E.spl (E.mo.pats.getD b none0) (top.getD 0 c0).v.s).length:Int))
 | 39=>.put w locs (whole ((top.getD 0 c0).v.s.size:Int))
 | 40=>.put w locs (words ⟨(partL (top.getD 1 c0).v.n (E.wr ((top.getD 1 c0).v.n+(top.getD 2 c0).v.n)) 0 (bl (top.getD 0 c0).v.s)).toArray⟩)
 | 41=>.put w locs (whole (indexL (bl (top.getD 1 c0).v.s) 0 (bl (top.getD 0 c0).v.s):Int))
 | 42=>.put (nextR w).1 locs (whole (truth (nextR w).2))
 | 43=>match w.draws[w.drawn]? with
  | none=>.put w locs (whole 0)
  | some n=>.put { w with drawn:=w.drawn+1 } locs (whole n)
 | 44=>.off (printW w (top.map fun c=>c.v.s)).1 locs (printW w (top.map fun c=>c.v.s)).2
 | 45=>⟨w,locs,[top.getD 0 c0,top.getD 0 c0],0,0,none⟩
 | 46=>⟨w,locs,[top.getD 1 c0,top.getD 0 c0,top.getD 1 c0],0,0,none⟩
 | 47=>.off w locs 0
 | 48=>⟨w,locs,[],0,0,some a⟩
 | 49=>⟨w,locs,[],0,0,if (top.getD 0 c0).v.n=0 then some a else none⟩
 | 53=>⟨w,locs,[],2,(top.getD 0 c0).v.n,none⟩
 | _=>.off w locs 0
end Mach
namespace Mach
open Wire Flow
end Mach
namespace Mach
open Wire Flow
structure Frm where
 f:Nat
 at_:Nat
 locs:List Val
 stk:List Cell
structure St where
 w:Wd
 frs:List Frm
 st:Nat
 code:Int
 used:Nat
def fnOf (m:Mo) (f:Nat):Wire.Fn:=m.fns.getD f ⟨0,0,none0⟩
def codeOf (m:Mo) (f:Nat):List UInt8:=bl (fnOf m f).code
def locsOf (m:Mo) (f:Nat):Nat:=(fnOf m f).locs.toNat
def parOf (m:Mo) (f:Nat):Nat:=(fnOf m f).params.toNat
def enter (m:Mo) (f:Nat) (args:List Val):Frm:=⟨f,0,args++List.replicate (locsOf m f-args.length) nothing,[]⟩
def over (m:Mo) (s:St) (f:Nat):St:=
 if f=2 then { s with st:=1 }
 else if (nextR s.w).2=true then { s with w:=(nextR s.w).1,frs:=[enter m 1 []] }
 else { s with frs:=[enter m 2 []] }
def does (E:Env) (s:St) (low:List Frm) (fr:Frm) (i:Stp) (rest top:List Cell):St:=
 if i.op=50 then
  if 20<low.length+1 then { s with st:=9,used:=s.used+1 }
  else { s with used:=s.used+1,frs:=low++[⟨fr.f,i.nx,fr.locs,rest⟩,enter E.mo i.a (top.map Cell.v)] }
 else if i.op=51 then
  match low.getLast? with
  | none=>s
  | some g=>{ s with used:=s.used+1,frs:=low.dropLast++[⟨g.f,g.at_,g.locs,g.stk++[cv (top.getD 0 c0).v]⟩] }
 else if i.op=52 then over E.mo { s with used:=s.used+1 } fr.f
 else if (eff E s.w fr.locs i.op i.a i.b top).st≠0 then
  { s with w:=(eff E s.w fr.locs i.op i.a i.b top).w,st:=(eff E s.w fr.locs i.op i.a i.b top).st,code:=(eff E s.w fr.locs i.op i.a i.b top).code,used:=s.used+1 }
 else
  { s with w:=(eff E s.w fr.locs i.op i.a i.b top).w,used:=s.used+1,frs:=low++[⟨fr.f,((eff E s.w fr.locs i.op i.a i.b top).go).getD i.nx,(eff E s.w fr.locs i.op i.a i.b top).locs,rest++(eff E s.w fr.locs i.op i.a i.b top).top⟩] }
structure Ready (E:Env) (s:St) (low:List Frm) (fr:Frm) (i:Stp) (rest top:List Cell):Prop where
 frs:s.frs=low++[fr]
 at_:fr.at_<(codeOf E.mo fr.f).length
 dec:decodeL E.mo fr.f (locsOf E.mo fr.f) (codeOf E.mo fr.f) fr.at_=.inr i
 stk:fr.stk=rest++top
 takes:leS (top.map kd) (want (parOf E.mo) i.op i.a)
 high:rest.length+(give i.op (top.map kd)).length≤1024
def FrFit (m:Mo) (f at_:Nat) (ks:List UInt8):Prop:=∃ l G,Reads m f (locsOf m f) (codeOf m f) l∧Sol (parOf m) l G∧Fits l G at_ ks
structure Inv (m:Mo) (frs:List Frm):Prop where
 some_:frs≠[]
 kinds:∀ i g,frs[i]?=some g→(i=0↔g.f<3)
 fns:∀ g ∈ frs,g.f<m.fns.length∧g.locs.length=locsOf m g.f
 on:∀ g,frs.getLast?=some g→FrFit m g.f g.at_ (g.stk.map kd)∧g.stk.length≤1024
 low:∀ g ∈ frs.dropLast,FrFit m g.f g.at_ (g.stk.map kd++[97])∧g.stk.length+1≤1024
end Mach
open Go.RowKit
open Wire Flow Mach
open Wire
def numXi (b:ByteArray) (i e:Nat):Int:=match num (seg (bl b) i e) with
 | none=>-1
 | some p=>(p.1:Int)
def numYi (b:ByteArray) (i e:Nat):Nat:=match num (seg (bl b) i e) with
 | none=>i
 | some p=>e-p.2.length
theorem seg_get {b:ByteArray}{i e k j:Nat} (he:e≤b.size) (hj:i+k=j) (hk:j<e):(seg (bl b) i e).getD k 0=b[j]'(by omega):=by
 subst hj
 have hL:=bl_length b
 have h1:k<(seg (bl b) i e).length:=by rw[seg_length (by omega)];omega
 rw[List.getD_eq_getElem?_getD,List.getElem?_eq_getElem h1]
 simp only[seg,Option.getD_some,List.getElem_drop,List.getElem_take,bl,Array.getElem_toList]
 rfl
theorem NumberR_any (b:ByteArray) (i e:Nat) (h1:i≤e) (h2:e≤b.size) (hs:b.size≤1000000000) (w:World) :
  Calls Tryz.prog 115 #[.string b,.int .i64 i,.int .i64 e] w fun r w'=>r=.returned (.tuple #[.int .i64 (numXi b i e),.int .i64 (numYi b i e)])∧w'=w:=by
 obtain⟨X,hX⟩:∃ X,numXi b i e=X:=⟨_,rfl⟩
 obtain⟨Y,hY⟩:∃ Y,numYi b i e=Y:=⟨_,rfl⟩
 rw[hX,hY]
 have hget:=fun (k j:Nat)=>seg_get (b:=b) (i:=i) (e:=e) (k:=k) (j:=j) h2
 have hCl:(seg (bl b) i e).length=e-i:=by rw[seg_length (by rw[bl_length];omega)]
 unfold numXi at hX
 unfold numYi at hY
 generalize seg (bl b) i e=C at *
 have HX:Hid _:=hX
 have HY:Hid _:=hY
 have HG:Hid _:=hget
 clear hX hY hget
 go_enter Tryz.func115,Tryz.ntmps115
 go_wp2
 go_loop [8,9,10] (fun n u k=>∃ kk uu aa:Nat,kk≤5∧kk≤e-i∧Hid (128 ^ kk=uu)∧Hid (accN C kk=aa)∧n=.int .i64 aa∧u=.int .i64 uu∧k=.int .i64 kk∧Hid (∀ m,m<kk→128≤(C.getD m 0).toNat)) (fun _ _ k=>5-(intOf k).toNat)
 case atStart=>exact⟨0,1,0,by omega,by omega,rfl,rfl,rfl,rfl,rfl,fun m hm=>absurd hm (by omega)⟩
 case round=>
  obtain⟨k,u,a,hk5,hk,Hu,Ha,rfl,rfl,rfl,Hall⟩:=hrel
  by_cases h5:k<5
  ·have g0:(k:Int)<5:=by omega
   obtain⟨j,hj⟩:∃ j:Nat,i+k=j:=⟨_,rfl⟩
   have hjI:(i:Int)+(k:Int)=(j:Int):=by omega
   have hu5:u≤268435456:=by
    rw[← Hu.out]
    have:(128:Nat) ^ k≤128 ^ 4:=Nat.pow_le_pow_right (by omega) (by omega)
    omega
   have ha5:a≤34359738368:=by rw[← Ha.out];exact Nat.le_of_lt (accN_small C k (by omega))
   by_cases hend:j<e
   ·have g1:¬ ((j:Int) ≥ e):=by omega
    have g2:(j:Int)<b.size:=by omega
    have hjs:j<b.size:=by omega
    have hg:=HG.out k j hj hend
    have hx:=b[j].toNat_lt
    have hacc:accN C (k+1)=a+b[j].toNat % 128*u:=by simp only[accN];rw[Ha.out,hg,Hu.out]
    have hpow:128 ^ (k+1)=u*128:=by rw[Nat.pow_succ,Hu.out]
    have hst:=fun h0=>num_stop (c:=C) (i:=k) h5 (by omega) Hall.out h0
    rw[hg] at hst
    obtain⟨x,hx'⟩:∃ x,b[j].toNat=x:=⟨_,rfl⟩
    rw[hx'] at hacc hst hx
    have Hst:Hid _:=hst
    have Hacc:Hid _:=hacc
    have Hpow:Hid _:=hpow
    have Hg:Hid (C.getD k 0=b[j]):=hg
    have Hj:Hid (i+k=j):=hj
    clear hst hacc hpow hg hj Hu Ha HG
    by_cases hx1:x<128
    ·have g3:(x:Int)<128:=by omega
     have hst:=Hst.out hx1
     have hm:x % 128=x:=by omega
     rw[hm] at Hacc
     by_cases hz:0<k∧x=0
     ·rw[if_pos hz] at hst
      obtain rfl:X = -1:=by rw[← HX.out,hst]
      obtain rfl:Y=i:=by rw[← HY.out,hst]
      have g4:(k:Int)>0:=by omega
      obtain rfl:x=0:=hz.2
      clear HX HY hst Hst
      go_wp2
      go_ret2
      exact⟨rfl,rfl⟩
     ·rw[if_neg hz] at hst
      have hl:(C.drop (k+1)).length=e-i-(k+1):=by rw[List.length_drop,hCl]
      have hXe:X=((a+x*u:Nat):Int):=by rw[← HX.out,hst];simp only;rw[Hacc.out]
      have hYe:Y=j+1:=by
       rw[← HY.out,hst]
       simp only[hl]
       have:=Hj.out
       omega
      have hmul:x*u≤128*268435456:=Nat.mul_le_mul (by omega) hu5
      have hmulI:(x:Int)*(u:Int)=((x*u:Nat):Int):=by push_cast;rfl
      obtain⟨xu,hxu⟩:∃ xu:Nat,x*u=xu:=⟨_,rfl⟩
      rw[hxu] at hXe hmul hmulI
      subst hXe hYe
      have g5:((x:Int)==0)=true→¬ ((k:Int)>0):=by intro q;simp at q;omega
      clear HX HY hst Hst hxu hl
      by_cases hx0:x=0
      ·subst hx0
       have g6:¬ ((k:Int)>0):=by omega
       have hxz:xu=0:=by omega
       subst hxz
       clear g5
       go_wp2
       go_ret2
       exact⟨by go_num,rfl⟩
      ·have g6:((x:Int)==0)=false:=by simp;omega
       clear g5
       go_wp2
       go_ret2
       exact⟨by go_num,rfl⟩
    ·have g3:¬ ((x:Int)<128):=by omega
     have hmul:(x-128)*u≤128*268435456:=Nat.mul_le_mul (by omega) hu5
     obtain⟨y,hy⟩:∃ y:Nat,x-128=y:=⟨_,rfl⟩
     have hyI:(x:Int)-128=(y:Int):=by omega
     rw[hy] at hmul
     have hmulI:(y:Int)*(u:Int)=((y*u:Nat):Int):=by push_cast;rfl
     obtain⟨yu,hyu⟩:∃ yu:Nat,y*u=yu:=⟨_,rfl⟩
     rw[hyu] at hmul hmulI
     have hm:x % 128=y:=by omega
     rw[hm,hyu] at Hacc
     clear hy hyu hm Hst
     go_wp2
     refine⟨⟨k+1,u*128,a+yu,by omega,by have:=Hj.out;omega,Hpow.out,Hacc.out,by go_num,by go_num,by go_num,fun m hm=>?_⟩,by simp[intOf];omega⟩
     by_cases em:m=k
     ·subst em
      rw[Hg.out,hx']
      omega
     ·exact Hall.out m (by omega)
   ·have g1:(j:Int) ≥ e:=by omega
    have hno:num C=none:=num_end (by omega) (by omega) Hall.out (.inr (by omega))
    obtain rfl:X = -1:=by rw[← HX.out,hno]
    obtain rfl:Y=i:=by rw[← HY.out,hno]
    clear HX HY hno HG Hu Ha hj
    go_wp2
    go_ret2
    exact⟨rfl,rfl⟩
  ·have g0:¬ ((k:Int)<5):=by omega
   obtain rfl:k=5:=by omega
   have hno:num C=none:=num_end (by omega) (by omega) Hall.out (.inl rfl)
   obtain rfl:X = -1:=by rw[← HX.out,hno]
   obtain rfl:Y=i:=by rw[← HY.out,hno]
   clear HX HY hno HG Hu Ha
   go_wp2
   go_ret2
   exact⟨rfl,rfl⟩
def bitsOf (x:Nat):List Nat:=(List.range 64).filter (fun i=>x.testBit i)
theorem mem_bitsOf {x i:Nat}:i ∈ bitsOf x↔i<64∧x.testBit i=true:=by simp[bitsOf]
theorem bitsOf_zero:bitsOf 0=[]:=by simp[bitsOf]
theorem testBit_low (k m j:Nat):(2 ^ (k+1)*m+2 ^ k).testBit j=if j<k+1 then decide (k=j) else m.testBit (j-(k+1)):=by
 rw[Nat.testBit_two_pow_mul_add _ (by rw[Nat.pow_succ];have:=Nat.two_pow_pos k;omega)]
 split
 ·rw[Nat.testBit_two_pow]
 ·rfl
theorem testBit_high (k m j:Nat):(2 ^ (k+1)*m).testBit j=if j<k+1 then false else m.testBit (j-(k+1)):=by
 have:=Nat.testBit_two_pow_mul_add m (b:=0) (i:=k+1) (Nat.two_pow_pos _) j
 simpa using this
theorem and_pred (k m:Nat):(2 ^ (k+1)*m+2 ^ k) &&& (2 ^ (k+1)*m+2 ^ k-1)=2 ^ (k+1)*m:=by
 have hp:=Nat.two_pow_pos k
 have e:2 ^ (k+1)*m+2 ^ k-1=2 ^ (k+1)*m+(2 ^ k-1):=by omega
 rw[e]
 apply Nat.eq_of_testBit_eq
 intro j
 rw[Nat.testBit_and,testBit_low,testBit_high,Nat.testBit_two_pow_mul_add _ (by rw[Nat.pow_succ];omega)]
 split
 ·rw[Nat.testBit_two_pow_sub_one]
  by_cases h:k=j
  ·subst h;simp
  ·simp[h]
 ·simp
theorem ctz_form (r:Nat) (h0:r≠0) (h:r<18446744073709551616):∃ m,r=2 ^ (Lib.ctz 64 r+1)*m+2 ^ Lib.ctz 64 r∧Lib.ctz 64 r<64:=by
 obtain⟨m,hm,hk⟩:=Lib.ctzFrom_spec 64 r (by omega) (by simpa using h)
 refine⟨m,?_,?_⟩
 ·simp only[Lib.ctz,if_neg h0]
  rw[Nat.pow_succ]
  rw[Nat.mul_assoc,← Nat.mul_add_one]
  exact hm
 ·simp only[Lib.ctz,if_neg h0];exact hk
theorem filter_split (k:Nat) (hk:k<64) (p:Nat→Bool):(List.range 64).filter p=(List.range k).filter p++([k].filter p++(List.range' (k+1) (63-k)).filter p):=by
 rw[← List.filter_append,← List.filter_append]
 congr 1
 rw[List.range_eq_range',List.range_eq_range',show [k]=List.range' k 1 from rfl]
 rw[show k+1=k+1*1 from by omega,List.range'_append,show List.range' k (1+(63-k))=List.range' (0+1*k) (1+(63-k)) from by simp,List.range'_append]
 congr 1;omega
theorem bitsOf_step (r:Nat) (h0:r≠0) (h:r<18446744073709551616):bitsOf r=Lib.ctz 64 r :: bitsOf (r &&& (r-1)):=by
 obtain⟨m,hm,hk⟩:=ctz_form r h0 h
 generalize Lib.ctz 64 r=k at *
 have e2:r &&& (r-1)=2 ^ (k+1)*m:=by rw[hm];exact and_pred k m
 rw[e2]
 unfold bitsOf
 rw[filter_split k hk,filter_split k hk (fun i=>(2 ^ (k+1)*m).testBit i)]
 have a1:(List.range k).filter (fun i=>r.testBit i)=[]:=by
  rw[List.filter_eq_nil_iff];intro j hj;rw[hm,testBit_low];simp at hj;simp[show j<k+1 from by omega];omega
 have a2:(List.range k).filter (fun i=>(2 ^ (k+1)*m).testBit i)=[]:=by
  rw[List.filter_eq_nil_iff];intro j hj;rw[testBit_high];simp at hj;simp[show j<k+1 from by omega]
 have b1:[k].filter (fun i=>r.testBit i)=[k]:=by
  have:r.testBit k=true:=by rw[hm,testBit_low];simp
  simp[this]
 have b2:[k].filter (fun i=>(2 ^ (k+1)*m).testBit i)=[]:=by
  have:(2 ^ (k+1)*m).testBit k=false:=by rw[testBit_high];simp
  simp[this]
 have c:(List.range' (k+1) (63-k)).filter (fun i=>r.testBit i)=(List.range' (k+1) (63-k)).filter (fun i=>(2 ^ (k+1)*m).testBit i):=by
  apply List.filter_congr
  intro j hj
  rw[List.mem_range'_1] at hj
  rw[hm,testBit_low,testBit_high,if_neg (by omega),if_neg (by omega)]
 rw[a1,a2,b1,b2,c]
 simp
theorem and_pred_lt (r:Nat) (h:r<18446744073709551616):r &&& (r-1)<18446744073709551616:=Nat.lt_of_le_of_lt Nat.and_le_left h
open Go.RowKit Go.Shelf
attribute [local go_sem] Oper.semAt_some
theorem tz_core (x k idx:Nat) (w:World) (hx0:((x:Int)==0)=false)
  (key:IntKind.u64.wrap (bits BinOp.and IntKind.u64 (x:Int) (IntKind.u64.wrap (-(x:Int)))*285870213051353865) / 288230376151711744=(idx:Int))
  (hi:idx<64) (hk:k<64) (hcell:w.cell? ⟨6,idx,none⟩=some (.int .u8 k)) :
  Calls Tryz.prog 291 #[.int .u64 x] w fun e w'=>e=.returned (.int .i64 k)∧w'=w:=by
 go_enter Tryz.func291,Tryz.ntmps291
 go_wp2_with (simp only[key])
 go_ret
 exact⟨rfl,rfl⟩
theorem tz_any (x:Nat) (hx0:x≠0) (hx:x<18446744073709551616) (w:World) (hT:Tab w) :
  Calls Tryz.prog 291 #[.int .u64 x] w fun e w'=>e=.returned (.int .i64 (Lib.ctz 64 x))∧w'=w:=by
 obtain⟨hlow,hk⟩:=Lib.lowest_bit 64 x hx0 hx
 obtain⟨hi,htab⟩:=Lib.deBruijn64_at _ hk
 have hcell:=hT _ hi
 rw[htab] at hcell
 exact tz_core x _ _ w (by simp;omega) (tz64_key x _ hx hx0 hlow) hi hk hcell
theorem all_in (n l s:Nat) (hs:s<18446744073709551616) (J:List Nat→World→Prop) (hT:∀ pre W,J pre W→Tab W)
  (hY:∀ pre x rest W,J pre W→bitsOf s=pre++x :: rest→YieldAt Fence.wide (n-1) Tryz.prog l #[.int .i64 (x:Nat)] W fun e W'=>e=.returned (.bool true)∧J (pre++[x]) W')
  (W:World) (h0:J [] W) :
  CallsIn Fence.wide n Tryz.prog 259 #[.int .u64 s,.func (.yield l) #[] #[]] W fun e W'=>(∃ v,e=.returned v)∧J (bitsOf s) W':=by
 refine callsIn_of_wp Tryz.func259 rfl trivial ?_ rfl
 simp only[Tryz.ntmps259,List.size_toArray,List.length_cons,List.length_nil,Nat.reduceAdd,Nat.reduceSub,Array.replicate_succ,Array.replicate_zero,List.push_toArray,List.append_toArray,List.nil_append,List.cons_append]
 gi_wp2
 gi_loopw [4] (fun p wr=>∃ (pre:List Nat) (r:Nat),p=.int .u64 r∧r<18446744073709551616∧bitsOf s=pre++bitsOf r∧J pre wr)
  (fun p _=>(bitsOf (intOf p).toNat).length)
 case atStart=>
  exact⟨[],s,rfl,hs,rfl,h0⟩
 case round=>
  obtain⟨pre,r,rfl,hr,hx,hJ⟩:=hrel
  by_cases hz:r=0
  ·subst hz
   rw[bitsOf_zero,List.append_nil] at hx
   gi_wp2
   go_end0
   exact⟨⟨_,rfl⟩,by rw[hx];exact hJ⟩
  ·have hst:=bitsOf_step r hz hr
   rw[hst] at hx
   obtain⟨fn,tmps,assign,body,hy,hR⟩:=hY pre _ _ wr hJ hx
   have hne:((r:Int)==0)=false:=by simp;omega
   have hne2:((r:Int)!=0)=true:=by simp;omega
   have hTw:=hT _ _ hJ
   gi_wp2_with fail
   refine⟨trivial,fun h=>(by cases h),?_⟩
   refine (callsIn_wide.2 (tz_any r hz hr _ hTw)).mono ?_
   rintro e w' ⟨rfl,rfl⟩
   gi_wp2_with fail
   refine⟨fun h=>(by cases h),?_⟩
   refine hR.mono ?_
   rintro e W3 ⟨rfl,hJ3⟩
   gi_wp2
   have eand:bits BinOp.and IntKind.u64 (r:Int) ((r:Int)-1)=((r &&& (r-1):Nat):Int):=by
    rw[show (r:Int)-1=((r-1:Nat):Int) by omega]
    exact bits_and_u64_nat r (r-1) hr (by omega)
   go_roundw
   case rel=>exact⟨pre++[Lib.ctz 64 r],_,by rw[eand],and_pred_lt r hr,by rw[hx];simp,hJ3⟩
   case measure=>rw[eand];simp only[intOf,Int.toNat_natCast];rw[hst];simp
theorem wp_range_set {g:Operand}{p:Tmp}{assign body:Code}{Q:Exit→Act→World→Prop}{a:Act}{w:World}{n:Nat} (s:Nat) (hs:s<18446744073709551616)
  (hg:a.eval g=.func (.func 259) #[.int .u64 s] #[])
  (I:List Nat→World→Prop) (hI:OwnFrom w.heap.size I) (hT:∀ pre W,I pre W→Tab W) (h0:I [] w) (a₁:Nat→Act)
  (hassign:∀ (l x:Nat) (W:World) (K:Act→World→Prop),K (a₁ x) W →
   assign.wpIn (Fence.wide.inRound l) (n-1-1) Tryz.prog (Exit.then K (fun _ _ _=>False)) { tmps:=(#[p].zip #[Value.int .i64 x]).foldl (fun t (p,v)=>t.setIfInBounds p v) a.tmps,defers:=[] } W)
  (hbody:∀ (l:Nat) (pre:List Nat) (x:Nat) (rest:List Nat) (W:World),I pre W→bitsOf s=pre++x :: rest →
   body.wpIn (Fence.wide.inRound l) (n-1-1) Tryz.prog (ownPostG w.heap.size (fun _ _=>True) I (fun _ _ _=>False) (pre++[x]) W) (a₁ x) W)
  (hdone:∀ (D:Nat) (W:World),w.heap.size≤D→I (bitsOf s) W→W.heap[D]?=some (.deferred (some []))→Q .normal { a with defers:={ target:=.collected D,args:=#[] } :: a.defers } W) :
  (Code.rangeFunc g #[p] assign body).wpIn Fence.wide n Tryz.prog Q a w:=by
 refine wpIn_rangeFunc ?_
 intro fn hfn
 obtain⟨R,hR⟩:∃ R:LoopState→Loop,R=fun st=>{ state:=st,pending:=none,fn,tmps:=a.tmps,params:=#[p],assign,body,defers:=w.heap.size }:=⟨_,rfl⟩
 obtain⟨W1,hW1⟩:∃ W1,(w.alloc (.deferred (some []))).alloc (.loop (R .ready))=W1:=⟨_,rfl⟩
 have hsz:W1.heap.size=w.heap.size+2:=by rw[← hW1];simp
 have hl1:W1.heap[w.heap.size+1]?=some (.loop (R .ready)):=by
  rw[← hW1];have:=World.alloc_heap_new (w.alloc (.deferred (some []))) (.loop (R .ready));rwa [World.size_alloc] at this
 have hd1:W1.heap[w.heap.size]?=some (.deferred (some [])):=by
  rw[← hW1];exact (Below.heap_alloc _ _ _ (by simp)).trans (World.alloc_heap_new w _)
 have hi1:I [] W1:=by rw[← hW1];exact hI.alloc _ (hI.alloc _ h0)
 refine⟨w.heap.size+1,[{ target:=.collected w.heap.size,args:=#[] }],W1,{ target:=.fn (.func 259) #[],args:=#[.int .u64 s,.func (.yield (w.heap.size+1)) #[] #[]] },W1,259,
  #[.int .u64 s,.func (.yield (w.heap.size+1)) #[] #[]],W1,?_,?_,?_,?_,fun h=>(by cases h),?_⟩
 ·rw[← hW1,hR];exact run_enterLoop_outer _ _ _ _ _
 ·simp only[resolve,hg]
  simp[go_sem]
 ·intro f' _;exact trivial
 ·have eg:=enters_of (P:=Tryz.prog) Tryz.func259 (by kernel_rfl) rfl
  simp[invoke,go_sem,eg]
 ·refine (all_in (n-1) (w.heap.size+1) s hs (fun pre W=>I pre W∧W.heap[w.heap.size+1]?=some (.loop (R .ready))∧W.heap[w.heap.size]?=some (.deferred (some [])))
   (fun pre W h=>hT pre W h.1) ?_ W1 ⟨hi1,hl1,hd1⟩).mono ?_
  ·rintro pre x rest W ⟨hi,hl,hd⟩ hbits
   have hlt:w.heap.size+1<W.heap.size:=(Array.getElem?_eq_some_iff.1 hl).1
   have hy:=run_yield (P:=Tryz.prog) (args:=#[.int .i64 x]) hl (by rw[hR];rfl)
   rw[hR] at hy
   refine⟨fn,_,assign,body,hy,roundIn_of_wpIn hfn ?_⟩
   refine hassign _ x W _ ?_
   refine⟨_,run_beginRound hl (by rw[hR]),?_⟩
   have hl2:(W.putObj (w.heap.size+1) (.loop { R .ready with state:=.busy })).heap[w.heap.size+1]?=some (.loop { R .ready with state:=.busy }):=World.putObj_heap_same hlt
   have hd2:(W.putObj (w.heap.size+1) (.loop { R .ready with state:=.busy })).heap[w.heap.size]?=some (.deferred (some [])):=(World.putObj_heap_other (by omega)).trans hd
   refine wpIn_mono (hbody _ pre x rest _ (hI.putObj _ hi (by omega) hl rfl) hbits) ?_
   rintro e a3 W3 hp
   cases e with
   | normal=>
    obtain⟨hk3,_,hi3⟩:=hp
    have hl3:=hk3.same _ _ (by omega) hl2 rfl
    have hd3:=hk3.same _ _ (Nat.le_refl _) hd2 rfl
    have hlt3:=(Array.getElem?_eq_some_iff.1 hl3).1
    have hr:=run_endRound (P:=Tryz.prog) none hl3
    rw[hR] at hr
    refine⟨_,_,hr,rfl,hI.putObj _ hi3 (by omega) hl3 rfl,?_,(World.putObj_heap_other (by omega)).trans hd3⟩
    rw[World.putObj_heap_same hlt3,hR]
    rfl
   | ret=>exact hp.2.elim
   | exit id=>exact hp.2.elim
   | goto t=>exact hp.2.elim
   | panic ch=>exact hp.elim
   | outgrown=>exact hp.elim
  ·rintro e W2 ⟨⟨v,rfl⟩,hi,hl,hd⟩
   have he:=run_endLoop (P:=Tryz.prog) hl (by rw[hR];simp)
   rw[hR] at he
   exact⟨none,_,he,hdone _ _ (Nat.le_refl _) (hI.putObj _ hi (by omega) hl rfl) ((World.putObj_heap_other (by omega)).trans hd)⟩
attribute [local go_sem] Oper.semAt_some
def tieF (fo:Nat→Nat→Nat) (sp src dst:Nat):Nat→Nat→Nat:=fun s a=>if s=sp∧src.testBit a=true then fo s a ||| dst else fo s a
def tieL (fo:Nat→Nat→Nat) (sp dst:Nat) (pre:List Nat):Nat→Nat→Nat:=fun s a=>if s=sp∧a ∈ pre then fo s a ||| dst else fo s a
theorem bit_lt {src x k:Nat} (h:src<2 ^ k) (hb:src.testBit x=true):x<k:=by
 apply Nat.lt_of_not_le
 intro hle
 have h1:2 ^ x≤src:=Nat.ge_two_pow_of_testBit hb
 have h2:2 ^ k≤2 ^ x:=Nat.pow_le_pow_right (by decide) hle
 omega
theorem tieL_lt {fo:Nat→Nat→Nat}{sp dst:Nat}{pre:List Nat} (hfo:∀ s a,fo s a<18446744073709551616) (hdst:dst<18446744073709551616) (s a:Nat):tieL fo sp dst pre s a<18446744073709551616:=by
 unfold tieL
 split
 ·exact Nat.or_lt_two_pow (n:=64) (hfo s a) hdst
 ·exact hfo s a
theorem tieL_step (fo:Nat→Nat→Nat) (sp dst:Nat) (pre:List Nat) (x:Nat) :
  (fun s' a'=>if s'=sp∧a'=x then tieL fo sp dst pre sp x ||| dst else tieL fo sp dst pre s' a')=tieL fo sp dst (pre++[x]):=by
 funext s a
 by_cases h1:s=sp
 ·subst h1
  by_cases h2:a=x
  ·subst h2
   simp only[and_self,if_true,tieL,true_and,List.mem_append,List.mem_singleton,or_true]
   split
   ·rw[Nat.or_assoc,Nat.or_self]
   ·rfl
  ·simp[tieL,h2]
 ·simp[tieL,h1]
theorem tieL_end (fo:Nat→Nat→Nat) (sp src dst:Nat) (s a:Nat) (ha:a<50):tieL fo sp dst (bitsOf src) s a=tieF fo sp src dst s a:=by
 simp[tieL,tieF,mem_bitsOf,show a<64 by omega]
structure TieI (w:World) (pb sp dst:Nat) (wh:Nat→Value) (tk:Nat→Nat) (fo:Nat→Nat→Nat) (pre:List Nat) (W:World):Prop where
 pat:PatAt W pb wh tk (tieL fo sp dst pre)
 fr:Fr [pb] w W
 tab:Tab W
 b0:W.cell? ⟨w.heap.size,0,none⟩=some (.pointer (some ⟨pb,0,none⟩))
 b1:W.cell? ⟨w.heap.size+1,0,none⟩=some (.int .i64 sp)
 b2:W.cell? ⟨w.heap.size+1+1,0,none⟩=some (.int .u64 dst)
theorem Fr.grown {S:List Nat}{a W W':World}{row:Option Nat} (h:Fr S a W) (hg:W.grownBy W' row) (hr:∀ r,row=some r→a.heap.size≤r):Fr S a W':=
 ⟨hg.os.trans h.os,hg.tape.trans h.tape,hg.output.trans h.output,Nat.le_trans h.size hg.size,fun k hk hn=>
  (hg.block k (Nat.lt_of_lt_of_le hk h.size) (fun e=>by have:=hr k e.symm;omega)).trans (h.block k hk hn)⟩
theorem TieI.own (w:World) (pb sp dst:Nat) (wh:Nat→Value) (tk:Nat→Nat) (fo:Nat→Nat→Nat) (B:Nat) (hB:w.heap.size≤B):OwnFrom B (TieI w pb sp dst wh tk fo):=by
 rintro pre W W' row ⟨h1,h2,h3,h4,h5,h6⟩ hg hr
 have hr':=fun r e=>(hr r e).2
 exact⟨h1.of_block (block_kept (a:=⟨pb,12,none⟩) (h1.ht 0 (by decide)) hg hr'),h2.grown hg (fun r e=>Nat.le_trans hB (hr r e).1),h3.of_block (block_kept (a:=⟨6,0,none⟩) (h3 0 (by decide)) hg hr'),
  cell_kept h4 hg hr',cell_kept h5 hg hr',cell_kept h6 hg hr'⟩
theorem tie_any (pb sp src dst:Nat) (hsp:sp<4) (hsrc:src<1125899906842624) (hdst:dst<18446744073709551616) (w:World) (wh:Nat→Value) (tk:Nat→Nat) (fo:Nat→Nat→Nat)
  (hP:PatAt w pb wh tk fo) (hfo:∀ s a,fo s a<18446744073709551616) (hT:Tab w) (hpb:pb≠6) :
  Calls Tryz.prog 287 #[.pointer (some ⟨pb,0,none⟩),.int .i64 sp,.int .u64 src,.int .u64 dst] w fun e w'=>e=.returned (.tuple #[])∧PatAt w' pb wh tk (tieF fo sp src dst)∧Fr [pb] w w':=by
 refine (callsIn_wide (n:=4)).1 ?_
 refine callsIn_of_wp_marks Tryz.func287 rfl trivial ?_ rfl
 simp only[Tryz.ntmps287,List.size_toArray,List.length_cons,List.length_nil,Nat.reduceAdd,Nat.reduceSub,Array.replicate_succ,Array.replicate_zero,List.push_toArray,List.append_toArray,List.nil_append,List.cons_append]
 gi_wp2
 obtain⟨W0,hW0⟩:∃ W0,(((w.alloc (Obj.cells #[Value.pointer (some { block:=pb,off:=0 })] 226)).alloc (Obj.cells #[Value.int IntKind.i64 sp] 3)).alloc (Obj.cells #[Value.int IntKind.u64 dst] 280))=W0:=⟨_,rfl⟩
 have hI0:TieI w pb sp dst wh tk fo [] W0:=by
  have hfr:Fr [pb] w W0:=by rw[← hW0];exact (((Fr.refl _ _).alloc _).alloc _).alloc _
  have hfr':Fr [] w W0:=by rw[← hW0];exact (((Fr.refl _ _).alloc _).alloc _).alloc _
  refine⟨(hP.fr hfr' (by simp)).congr (fun _ _=>rfl) (fun s a _ _=>by simp[tieL]),hfr,hT.fr hfr' (by simp),?_,?_,?_⟩
  ·rw[← hW0,World.cell?_alloc_past _ _ _ (by simp;omega),World.cell?_alloc_past _ _ _ (by simp)];exact cell_new _ _ _
  ·rw[← hW0,World.cell?_alloc_past _ _ _ (by simp)]
   have:=cell_new (w.alloc (Obj.cells #[Value.pointer (some { block:=pb,off:=0 })] 226)) (Value.int IntKind.i64 sp) 3
   rwa [World.size_alloc] at this
  ·rw[← hW0]
   have:=cell_new ((w.alloc (Obj.cells #[Value.pointer (some { block:=pb,off:=0 })] 226)).alloc (Obj.cells #[Value.int IntKind.i64 sp] 3)) (Value.int IntKind.u64 dst) 280
   rwa [World.size_alloc,World.size_alloc] at this
 have hs0:W0.heap.size=w.heap.size+3:=by rw[← hW0];simp
 rw[hW0]
 clear hW0
 refine wp_range_set src (by omega) rfl (TieI w pb sp dst wh tk fo) (TieI.own _ _ _ _ _ _ _ _ (by omega)) (fun pre W h=>h.tab) hI0
  (fun x=>{ tmps:=#[Value.pointer (some { block:=pb,off:=0 }),Value.int IntKind.i64 sp,Value.int IntKind.u64 src,
     Value.int IntKind.u64 dst,Value.pointer (some { block:=w.heap.size,off:=0 }),
     Value.pointer (some { block:=w.heap.size+1,off:=0 }),undef,
     Value.pointer (some { block:=w.heap.size+1+1,off:=0 }),Value.int .i64 x,Value.int IntKind.u64 src,
     Value.func (Fn.func 259) #[Value.int IntKind.u64 src] #[],Value.int .i64 x,undef,undef,undef,undef,undef,undef,
     undef,undef,undef,undef,undef,undef,undef,undef],defers:=[] }) ?assign ?body ?done
 case assign=>
  intro l x W K hK
  gi_wp2
  exact hK
 case body=>
  rintro l pre x rest W hi hbits
  have hx:x<50:=bit_lt (k:=50) (by simpa using hsrc) (mem_bitsOf.1 (by rw[hbits];simp)).2
  obtain⟨h1,h2,h3,h4,h5,h6⟩:=hi
  have hc:=h1.hf sp x hsp hx
  have hz:=h1.fz (268+sp*50+x) (by omega)
  have g1:(sp:Int)<4:=by omega
  have g2:(x:Int)<50:=by omega
  have hm:Tryz.prog.follows Departure.mixedOrders=true:=by kernel_rfl
  gi_wp2
  refine wpIn_region_tail_round 14 hm (by kernel_rfl) (by kernel_rfl) (by rintro ⟨a,w,h⟩;exact h) ?_
  simp only[List.take_succ_cons,List.take_zero,List.drop_succ_cons,List.drop_zero]
  repeat still_step
  refine wpStill_nil ?_
  go_wp2
  have hlt:=tieL_lt (sp:=sp) (pre:=pre) hfo hdst sp x
  rw[bits_or_u64_nat _ _ hlt hdst]
  refine⟨KeepsFrom.trans ((KeepsOthers.setCell _ _ _).from _) ((KeepsOthers.drew _).from _),trivial,?_⟩
  have hset:=(h1.setFollow sp x hsp hx (tieL fo sp dst pre sp x ||| dst))
  rw[tieL_step] at hset
  have hlt2:=hP.lt
  exact⟨hset.of_block rfl,(h2.setCell (p:=⟨pb,268+sp*50+x,none⟩) (.inl (by simp)) _).drew,h3.of_block (Below.heap_setCell W ⟨pb,268+sp*50+x,none⟩ _ 6 (fun e=>hpb e.symm)),
   (setCell_far (by omega)).trans h4,(setCell_far (by omega)).trans h5,(setCell_far (by omega)).trans h6⟩
 case done=>
  rintro D W hD hi hK
  gi_wp2
  refine⟨by simp,.inl ⟨_,_,rfl,run_takeDeferred hK,?_⟩⟩
  obtain⟨h1,h2,h3,h4,h5,h6⟩:=hi
  have hD1:pb≠D:=by rintro rfl;have:=h1.lt;have h7:=h1.ht 0 (by decide);unfold World.cell? at h7;rw[hK] at h7;simp at h7
  refine⟨_,results_none rfl _ _ _,rfl,?_,?_⟩
  ·exact (h1.of_block (World.putObj_heap_other hD1)).congr (fun _ _=>rfl) (fun s a _ ha=>tieL_end fo sp src dst s a ha)
  ·exact h2.grown (grownBy_putObj' W D (.deferred none)) (fun r e=>by cases e;omega)
attribute [local go_sem] Oper.semAt_some
theorem wrap64_byte (b:UInt8):wrap64 (b.toNat:Int)=(b.toNat:Int):=by
 have:=b.toNat_lt
 unfold wrap64;omega
structure RdAt (w:World) (r:Nat) (text:ByteArray) (at_:Int) (fault:Bool) (atoms:Int) (pb:Nat):Prop where
 c0:w.cell? ⟨r,0,none⟩=some (.string text)
 c1:w.cell? ⟨r,1,none⟩=some (.int .i64 at_)
 c2:w.cell? ⟨r,2,none⟩=some (.bool fault)
 c3:w.cell? ⟨r,3,none⟩=some (.int .i64 atoms)
 c4:w.cell? ⟨r,4,none⟩=some (.pointer (some ⟨pb,0,none⟩))
 f1:w.frozen? ⟨r,1,none⟩=false
 f2:w.frozen? ⟨r,2,none⟩=false
 f3:w.frozen? ⟨r,3,none⟩=false
theorem fail_any (r:Nat) (text:ByteArray) (at_:Int) (fault:Bool) (atoms:Int) (pb:Nat) (w:World) (h:RdAt w r text at_ fault atoms pb) :
  Calls Tryz.prog 319 #[.pointer (some ⟨r,0,none⟩)] w fun e w'=>e=.returned (.tuple #[])∧w'=w.setCell ⟨r,2,none⟩ (.bool true):=by
 obtain⟨c0,c1,c2,c3,c4,f1,f2,f3⟩:=h
 go_enter Tryz.func319,Tryz.ntmps319
 go_wp2
 go_end0
 exact⟨rfl,rfl⟩
theorem peek_fault (r:Nat) (text:ByteArray) (at_:Int) (atoms:Int) (pb:Nat) (w:World) (h:RdAt w r text at_ true atoms pb) :
  Calls Tryz.prog 256 #[.pointer (some ⟨r,0,none⟩)] w fun e w'=>e=.returned (.int .i64 (-1))∧∃ n,w'=w.drewN n:=by
 obtain⟨c0,c1,c2,c3,c4,f1,f2,f3⟩:=h
 go_enter Tryz.func256,Tryz.ntmps256
 go_wp2
 go_quiet (fail)
 go_wp2
 go_ret
 exact⟨rfl,_,rfl⟩
theorem peek_end (r:Nat) (text:ByteArray) (at_:Int) (atoms:Int) (pb:Nat) (w:World) (h:RdAt w r text at_ false atoms pb) (hs:text.size≤1000) (ha:(text.size:Int)≤at_) :
  Calls Tryz.prog 256 #[.pointer (some ⟨r,0,none⟩)] w fun e w'=>e=.returned (.int .i64 (-1))∧∃ n,w'=w.drewN n:=by
 obtain⟨c0,c1,c2,c3,c4,f1,f2,f3⟩:=h
 go_enter Tryz.func256,Tryz.ntmps256
 go_wp2
 go_quiet (fail)
 go_wp2
 go_ret
 exact⟨rfl,_,rfl⟩
theorem peek_byte (r:Nat) (text:ByteArray) (k:Nat) (atoms:Int) (pb:Nat) (w:World) (h:RdAt w r text k false atoms pb) (hs:text.size≤1000) (ha:k<text.size) :
  Calls Tryz.prog 256 #[.pointer (some ⟨r,0,none⟩)] w fun e w'=>e=.returned (.int .i64 (text[k].toNat:Int))∧∃ n,w'=w.drewN n:=by
 obtain⟨c0,c1,c2,c3,c4,f1,f2,f3⟩:=h
 have hd:decide ((text.size:Int)≤(k:Int))=false:=by simp;omega
 have hl:(k:Int)<text.size:=by omega
 go_enter Tryz.func256,Tryz.ntmps256
 go_wp2
 go_quiet (fail)
 go_wp2
 go_quiet (fail)
 go_wp2
 go_ret
 exact⟨congrArg (fun x=>Ending.returned (Value.int .i64 x)) (wrap64_byte _),_,World.drewN_drewN _ _ _⟩
end Go.Proofs.YtclkgoigmgkffaaGreatDoor
