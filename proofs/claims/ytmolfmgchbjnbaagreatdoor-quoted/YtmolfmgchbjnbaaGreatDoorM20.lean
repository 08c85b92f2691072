import Derived.Orders
import Derived.Scope
import Derived.DeepKeys3
import Derived.StringKeys
import Derived.Test.YtmolfmgchbjnbaaGreatDoorMA
set_option linter.unusedSimpArgs false
set_option linter.unusedVariables false
set_option linter.unusedSectionVars false
set_option maxRecDepth 100000
set_option maxHeartbeats 40000000
namespace Go.Proofs.YtmolfmgchbjnbaaGreatDoor.Ev
open Go
structure N16 (α:Type) where
 (a0 a1 a2 a3 a4 a5 a6 a7 a8 a9 a10 a11 a12 a13 a14 a15:α)
def N16.all {α:Type} (x:α):N16 α:=⟨x,x,x,x,x,x,x,x,x,x,x,x,x,x,x,x⟩
def sel {α:Type}:Nat→Option (N16 α→α)
 | 0=>some N16.a0
 | 1=>some N16.a1
 | 2=>some N16.a2
 | 3=>some N16.a3
 | 4=>some N16.a4
 | 5=>some N16.a5
 | 6=>some N16.a6
 | 7=>some N16.a7
 | 8=>some N16.a8
 | 9=>some N16.a9
 | 10=>some N16.a10
 | 11=>some N16.a11
 | 12=>some N16.a12
 | 13=>some N16.a13
 | 14=>some N16.a14
 | 15=>some N16.a15
 | _=>none
def up0 {α:Type} (f:α→α):N16 α→N16 α
 | ⟨x0,x1,x2,x3,x4,x5,x6,x7,x8,x9,x10,x11,x12,x13,x14,x15⟩=>⟨f x0,x1,x2,x3,x4,x5,x6,x7,x8,x9,x10,x11,x12,x13,x14,x15⟩
def up1 {α:Type} (f:α→α):N16 α→N16 α
 | ⟨x0,x1,x2,x3,x4,x5,x6,x7,x8,x9,x10,x11,x12,x13,x14,x15⟩=>⟨x0,f x1,x2,x3,x4,x5,x6,x7,x8,x9,x10,x11,x12,x13,x14,x15⟩
def up2 {α:Type} (f:α→α):N16 α→N16 α
 | ⟨x0,x1,x2,x3,x4,x5,x6,x7,x8,x9,x10,x11,x12,x13,x14,x15⟩=>⟨x0,x1,f x2,x3,x4,x5,x6,x7,x8,x9,x10,x11,x12,x13,x14,x15⟩
def up3 {α:Type} (f:α→α):N16 α→N16 α
 | ⟨x0,x1,x2,x3,x4,x5,x6,x7,x8,x9,x10,x11,x12,x13,x14,x15⟩=>⟨x0,x1,x2,f x3,x4,x5,x6,x7,x8,x9,x10,x11,x12,x13,x14,x15⟩
def up4 {α:Type} (f:α→α):N16 α→N16 α
 | ⟨x0,x1,x2,x3,x4,x5,x6,x7,x8,x9,x10,x11,x12,x13,x14,x15⟩=>⟨x0,x1,x2,x3,f x4,x5,x6,x7,x8,x9,x10,x11,x12,x13,x14,x15⟩
def up5 {α:Type} (f:α→α):N16 α→N16 α
 | ⟨x0,x1,x2,x3,x4,x5,x6,x7,x8,x9,x10,x11,x12,x13,x14,x15⟩=>⟨x0,x1,x2,x3,x4,f x5,x6,x7,x8,x9,x10,x11,x12,x13,x14,x15⟩
def up6 {α:Type} (f:α→α):N16 α→N16 α
 | ⟨x0,x1,x2,x3,x4,x5,x6,x7,x8,x9,x10,x11,x12,x13,x14,x15⟩=>⟨x0,x1,x2,x3,x4,x5,f x6,x7,x8,x9,x10,x11,x12,x13,x14,x15⟩
def up7 {α:Type} (f:α→α):N16 α→N16 α
 | ⟨x0,x1,x2,x3,x4,x5,x6,x7,x8,x9,x10,x11,x12,x13,x14,x15⟩=>⟨x0,x1,x2,x3,x4,x5,x6,f x7,x8,x9,x10,x11,x12,x13,x14,x15⟩
def up8 {α:Type} (f:α→α):N16 α→N16 α
 | ⟨x0,x1,x2,x3,x4,x5,x6,x7,x8,x9,x10,x11,x12,x13,x14,x15⟩=>⟨x0,x1,x2,x3,x4,x5,x6,x7,f x8,x9,x10,x11,x12,x13,x14,x15⟩
def up9 {α:Type} (f:α→α):N16 α→N16 α
 | ⟨x0,x1,x2,x3,x4,x5,x6,x7,x8,x9,x10,x11,x12,x13,x14,x15⟩=>⟨x0,x1,x2,x3,x4,x5,x6,x7,x8,f x9,x10,x11,x12,x13,x14,x15⟩
def up10 {α:Type} (f:α→α):N16 α→N16 α
 | ⟨x0,x1,x2,x3,x4,x5,x6,x7,x8,x9,x10,x11,x12,x13,x14,x15⟩=>⟨x0,x1,x2,x3,x4,x5,x6,x7,x8,x9,f x10,x11,x12,x13,x14,x15⟩
def up11 {α:Type} (f:α→α):N16 α→N16 α
 | ⟨x0,x1,x2,x3,x4,x5,x6,x7,x8,x9,x10,x11,x12,x13,x14,x15⟩=>⟨x0,x1,x2,x3,x4,x5,x6,x7,x8,x9,x10,f x11,x12,x13,x14,x15⟩
def up12 {α:Type} (f:α→α):N16 α→N16 α
 | ⟨x0,x1,x2,x3,x4,x5,x6,x7,x8,x9,x10,x11,x12,x13,x14,x15⟩=>⟨x0,x1,x2,x3,x4,x5,x6,x7,x8,x9,x10,x11,f x12,x13,x14,x15⟩
def up13 {α:Type} (f:α→α):N16 α→N16 α
 | ⟨x0,x1,x2,x3,x4,x5,x6,x7,x8,x9,x10,x11,x12,x13,x14,x15⟩=>⟨x0,x1,x2,x3,x4,x5,x6,x7,x8,x9,x10,x11,x12,f x13,x14,x15⟩
def up14 {α:Type} (f:α→α):N16 α→N16 α
 | ⟨x0,x1,x2,x3,x4,x5,x6,x7,x8,x9,x10,x11,x12,x13,x14,x15⟩=>⟨x0,x1,x2,x3,x4,x5,x6,x7,x8,x9,x10,x11,x12,x13,f x14,x15⟩
def up15 {α:Type} (f:α→α):N16 α→N16 α
 | ⟨x0,x1,x2,x3,x4,x5,x6,x7,x8,x9,x10,x11,x12,x13,x14,x15⟩=>⟨x0,x1,x2,x3,x4,x5,x6,x7,x8,x9,x10,x11,x12,x13,x14,f x15⟩
def upd {α:Type}:Nat→Option ((α→α)→N16 α→N16 α)
 | 0=>some up0
 | 1=>some up1
 | 2=>some up2
 | 3=>some up3
 | 4=>some up4
 | 5=>some up5
 | 6=>some up6
 | 7=>some up7
 | 8=>some up8
 | 9=>some up9
 | 10=>some up10
 | 11=>some up11
 | 12=>some up12
 | 13=>some up13
 | 14=>some up14
 | 15=>some up15
 | _=>none
def get2 {α:Type} (f:N16 (N16 α)→N16 α) (g:N16 α→α) (s:N16 (N16 α)):α:=g (f s)
def cst {α β:Type} (v:α) (_:β):α:=v
def set2 {α:Type} (f:(N16 α→N16 α)→N16 (N16 α)→N16 (N16 α)) (g:(α→α)→N16 α→N16 α) (v:α):N16 (N16 α)→N16 (N16 α):=f (g (cst v))
def sel2 {α:Type} (i:Nat):Option (N16 (N16 α)→α):=(sel (i / 16)).bind fun f=>(sel (i % 16)).map (get2 f)
def upd2 {α:Type} (i:Nat):Option (α→N16 (N16 α)→N16 (N16 α)):=(upd (i / 16)).bind fun f=>(upd (i % 16)).map (set2 f)
def get3 {α:Type} (f:N16 (N16 (N16 α))→N16 (N16 α)) (g:N16 (N16 α)→α) (s:N16 (N16 (N16 α))):α:=g (f s)
def set3 {α:Type} (f:(N16 (N16 α)→N16 (N16 α))→N16 (N16 (N16 α))→N16 (N16 (N16 α))) (g:α→N16 (N16 α)→N16 (N16 α)) (v:α):N16 (N16 (N16 α))→N16 (N16 (N16 α)):=f (g v)
def sel3 {α:Type} (i:Nat):Option (N16 (N16 (N16 α))→α):=(sel (i / 256)).bind fun f=>(sel2 (i % 256)).map (get3 f)
def upd3 {α:Type} (i:Nat):Option (α→N16 (N16 (N16 α))→N16 (N16 (N16 α))):=(upd (i / 256)).bind fun f=>(upd2 (i % 256)).map (set3 f)
structure AO where
 k:Nat
 xs:LV
 e:TypeId
 es:List (Value × Value)
def AO.row (e:TypeId) (xs:LV):AO:=⟨1,xs,e,[]⟩
def AO.map (k:TypeId) (es:List (Value × Value)):AO:=⟨2,[],k,es⟩
def AO.dead:AO:=⟨0,[],0,[]⟩
structure AH where
 n:Nat
 t:N16 (N16 (N16 (Option AO)))
def AH.got (t:N16 (N16 (N16 (Option AO)))):Option (N16 (N16 (N16 (Option AO)))→Option AO)→Option AO
 | some f=>f t
 | none=>none
def AH.get (r:Nat):AH→Option AO
 | ⟨_,t⟩=>AH.got t (sel3 r)
def AH.puts (n:Nat) (o:AO) (t:N16 (N16 (N16 (Option AO)))):Option (Option AO→N16 (N16 (N16 (Option AO)))→N16 (N16 (N16 (Option AO))))→AH
 | some f=>⟨n,f (some o) t⟩
 | none=>⟨n,t⟩
def AH.set (r:Nat) (o:AO):AH→AH
 | ⟨n,t⟩=>AH.puts n o t (upd3 r)
def asRow:Option AO→Option (LV × TypeId)
 | some ⟨1,xs,e,_⟩=>some (xs,e)
 | _=>none
def asMap (k:TypeId):Option AO→Option (List (Value × Value))
 | some ⟨2,_,e,es⟩=>cond (Nat.beq e k) (some es) none
 | _=>none
def rowAt (r:Nat) (h:AH):Option (LV × TypeId):=asRow (h.get r)
def asCells:Option AO→Option (LV)
 | some ⟨1,xs,_,_⟩=>some xs
 | some ⟨3,xs,_,_⟩=>some xs
 | _=>none
def cellsAt (r:Nat) (h:AH):Option (LV):=asCells (h.get r)
def mapAt (k:TypeId) (r:Nat) (h:AH):Option (List (Value × Value)):=asMap k (h.get r)
def AH.setRow (r:Nat) (e:TypeId) (h:AH) (xs:LV):AH:=h.set r ⟨1,xs,e,[]⟩
def AH.new1 (o:AO) (t:N16 (N16 (N16 (Option AO)))):Nat→AH
 | 0=>AH.puts 1 o t (upd3 0)
 | n+1=>AH.puts (n+2) o t (upd3 (n+1))
def AH.new (o:AO):AH→AH
 | ⟨n,t⟩=>AH.new1 o t n
def AH.nil (n:Nat):AH:=⟨n,N16.all (N16.all (N16.all none))⟩
structure AA where
 n:Nat
 t:N16 (N16 (Option Value))
def AA.getF (f:N16 (N16 (Option Value))→Option Value):AA→Option Value
 | ⟨_,t⟩=>f t
def slotF (i:Nat):Option (AA→Option Value):=(sel2 i).map AA.getF
def AA.get (i:Nat) (a:AA):Option Value:=(slotF i).bind fun f=>f a
def AA.putF (d:Nat) (v:Value) (f:Option Value→N16 (N16 (Option Value))→N16 (N16 (Option Value))):AA→Option AA
 | ⟨n,t⟩=>cond (Nat.blt d n) (some ⟨n,f (some v) t⟩) none
def AA.putAt (v:Value) (d:Nat) (a:AA):Option AA:=(upd2 d).bind fun f=>a.putF d v f
def ilt (a b:Int):Bool:=
 match a,b with
 | .ofNat m,.ofNat n=>Nat.blt m n
 | _,_=>decide (a<b)
def flat:Value→Bool
 | .bool _=>true
 | .int .i64 n=>ilt n 9223372036854775808
 | .int _ _=>true
 | .string _=>true
 | .pointer none=>true
 | .slice none 0 0=>true
 | .map none=>true
 | .nilFunc=>true
 | .nilIface=>true
 | _=>false
def flat2:Value→Bool
 | .agg c=>c.toList.all flat
 | v=>flat v
def one0:Value→Bool
 | .agg _=>false
 | .tuple _=>false
 | .func _ _ _=>false
 | _=>true
def one1:Value→Bool
 | .agg _=>false
 | .tuple _=>false
 | _=>true
def one2:Value→Bool
 | .tuple _=>false
 | _=>true
abbrev Acc:=AA→Option Value
def constV (v:Value) (_:AA):Option Value:=some v
def opnd (G:Nat):Operand→Option Acc
 | .tmp t=>slotF t
 | .const v=>cond (flat2 v) (some (constV v)) none
 | .global g=>cond (Nat.blt g G) (some (constV (.pointer (some ⟨g,0,none⟩)))) none
 | .func f=>some (constV (.func (.func f) #[] #[]))
def nth {α:Type}:List α→Nat→Option α
 | [],_=>none
 | x :: _,0=>some x
 | _ :: l,n+1=>nth l n
def allSome {α β:Type} (f:α→Option β):List α→Option (List β)
 | []=>some []
 | x :: l=>(f x).bind fun y=>(allSome f l).bind fun r=>some (y :: r)
def cut (l:LV) (i n:Nat):Option (LV):=cond (Nat.ble (i+n) l.length) (some ((l.drop i).take n)) none
def patch (l:LV) (i:Nat) (x:LV):Option (LV):=cond (Nat.ble (i+x.length) l.length) (some (l.take i++(x++l.drop (i+x.length)))) none
def wr (k:IntKind) (n:Int):Int:=
 match k,n with
 | .i64,.ofNat m=>cond (Nat.blt m 9223372036854775808) n (k.wrap n)
 | _,_=>k.wrap n
def ieq (a b:Int):Bool:=
 match a,b with
 | .ofNat m,.ofNat n=>Nat.beq m n
 | _,_=>decide (a=b)
def lbeq:LB→LB→Bool
 | [],[]=>true
 | x :: l,y :: r=>cond (Nat.beq x.toNat y.toNat) (lbeq l r) false
 | _,_=>false
def sbeq (a b:BA):Bool:=lbeq a.data.toList b.data.toList
section
variable (P:Program)
def aggD:TypeDesc→Bool
 | .struct _=>true
 | .array _ _=>true
 | _=>false
def aggOf (t:TypeId):Option Bool:=(P.underlying t).map aggD
def sizeT (t:TypeId):Option Nat:=(P.info? t).map (·.size)
def zeroT (t:TypeId):Option Value:=(P.info? t).bind (·.zero)
def elemT (t:TypeId):Option TypeId:=(P.underlying t).bind fun | .slice e=>some e | _=>none
def isStr (t:TypeId):Bool:=match P.underlying t with | some .string=>true | _=>false
def isByte (t:TypeId):Bool:=match P.underlying t with | some (.int .u8)=>true | _=>false
def isBoolT (t:TypeId):Bool:=match P.underlying t with | some .bool=>true | _=>false
def isSliceT (t:TypeId):Bool:=match P.underlying t with | some (.slice _)=>true | _=>false
def isPtrT (t:TypeId):Bool:=match P.underlying t with | some (.pointer _)=>true | _=>false
def isMapT (t:TypeId):Bool:=match P.underlying t with | some (.map _ _)=>true | _=>false
def fieldsT (t:TypeId):Option (Array Field):=(P.underlying t).bind fun | .struct fs=>some fs | _=>none
def mapT (t:TypeId):Option (TypeId × TypeId):=(P.underlying t).bind fun | .map k e=>some (k,e) | _=>none
def intT (t:TypeId):Option IntKind:=(P.underlying t).bind fun | .int k=>some k | _=>none
def aggV (l:LV):Value:=.agg l.toArray
def loadA (xs:LV) (t:TypeId) (off:Nat):Bool→Option Value
 | true=>(sizeT P t).bind fun n=>(cut xs off n).map aggV
 | false=>nth xs off
def loadR (t:TypeId) (off:Nat):Option (LV)→Option Value
 | some xs=>(aggOf P t).bind (loadA P xs t off)
 | none=>none
def aLoad (h:AH) (t:TypeId) (b off:Nat):Option Value:=loadR P t off (cellsAt b h)
def rLoad (h:AH) (t:TypeId):Value→Option Value
 | .pointer (some ⟨b,off,none⟩)=>aLoad P h t b off
 | _=>none
def wrote (r:Nat) (e:TypeId) (h:AH) (v:Value) (xs:LV):Option (Value × AH):=some (v,h.setRow r e xs)
def storeR (h:AH) (t:TypeId) (b off:Nat) (v:LV):Option (LV × TypeId)→Option (Value × AH)
 | some (xs,e)=>(sizeT P t).bind fun n=>cond (Nat.beq v.length n && v.all one1) ((patch xs off v).bind (wrote b e h undef)) none
 | none=>none
def wStore (h:AH) (t:TypeId) (v:Value):Value→Option (Value × AH)
 | .pointer (some ⟨b,off,none⟩)=>storeR P h t b off v.cells.toList (rowAt b h)
 | _=>none
def rPick (a b:Option Value):Value→Option Value
 | .bool true=>a
 | .bool false=>b
 | _=>none
def rNil:Value→Option Value
 | .pointer (some a)=>some (.pointer (some a))
 | .func (.func f) x y=>some (.func (.func f) x y)
 | _=>none
def mkN (k:IntKind):Nat→Value
 | 0=>.int k (.ofNat 0)
 | n+1=>.int k (.ofNat (n+1))
def mkI (k:IntKind):Int→Value
 | .ofNat n=>mkN k n
 | .negSucc n=>.int k (.negSucc n)
def mkB:Bool→Value
 | true=>.bool true
 | false=>.bool false
def kin (k k':IntKind) (v:Value):Option Value:=if k=k' then some v else none
def binI (k k':IntKind) (a b:Int):BinOp→Option Value
 | .add=>kin k k' (mkI k (wr k (a+b)))
 | .sub=>kin k k' (mkI k (wr k (a-b)))
 | .mul=>kin k k' (.int k (wr k (a*b)))
 | .rem=>cond (ieq b 0) none (kin k k' (mkI k (a.tmod b)))
 | .quo=>cond (ieq b 0) none (kin k k' (mkI k (wr k (a.tdiv b))))
 | .and=>kin k k' (mkI k (k.wrap (BitVec.ofInt k.bits a &&& BitVec.ofInt k.bits b).toNat))
 | .or=>kin k k' (mkI k (k.wrap (BitVec.ofInt k.bits a ||| BitVec.ofInt k.bits b).toNat))
 | .xor=>kin k k' (mkI k (k.wrap (BitVec.ofInt k.bits a ^^^ BitVec.ofInt k.bits b).toNat))
 | .andNot=>kin k k' (mkI k (k.wrap (BitVec.ofInt k.bits a &&& ~~~(BitVec.ofInt k.bits b)).toNat))
 | .shl=>cond (ilt b 0) none (some (mkI k (k.wrap (a*2 ^ (min b.toNat k.bits)))))
 | .shr=>cond (ilt b 0) none (some (mkI k (a.fdiv (2 ^ (min b.toNat k.bits)))))
 | .eql=>kin k k' (mkB (ieq a b))
 | .neq=>kin k k' (mkB (!ieq a b))
 | .lss=>kin k k' (mkB (ilt a b))
 | .leq=>kin k k' (mkB (!ilt b a))
 | .gtr=>kin k k' (mkB (ilt b a))
 | .geq=>kin k k' (mkB (!ilt a b))
def catS (a b:LB):Option Value:=cond (Nat.ble (a.length+b.length) 1048576) (some (.string ⟨(a++b).toArray⟩)) none
def binS (a b:BA):BinOp→Option Value
 | .add=>catS a.data.toList b.data.toList
 | .eql=>some (mkB (sbeq a b))
 | .neq=>some (mkB !(sbeq a b))
 | _=>none
def binB (x:Bool):BinOp→Option Value
 | .eql=>some (mkB x)
 | .neq=>some (mkB (!x))
 | _=>none
def aBin (op:BinOp) (t:TypeId) (x y:Value):Option Value:=
 match x,y with
 | .int k a,.int k' b=>binI k k' a b op
 | .string a,.string b=>binS a b op
 | .bool a,.bool b=>cond (isBoolT P t) (binB (a==b) op) none
 | .slice b _ _,.slice none _ _=>cond (isSliceT P t) (binB b.isNone op) none
 | .map b,.map none=>cond (isMapT P t) (binB b.isNone op) none
 | .pointer b,.pointer none=>cond (isPtrT P t) (binB b.isNone op) none
 | _,_=>none
def aUn (op:UnOp) (x:Value):Option Value:=
 match op,x with
 | .not,.bool b=>some (.bool !b)
 | .neg,.int k n=>some (mkI k (wr k (0-n)))
 | _,_=>none
def bytesOf:LV→Option (LB)
 | []=>some []
 | .int .u8 n :: l=>(bytesOf l).map fun r=>UInt8.ofNat n.toNat :: r
 | _ :: _=>none
def strV (b:LB):Value:=.string ⟨b.toArray⟩
def strR (off n:Nat):Option (LV × TypeId)→Option Value
 | some (xs,_)=>(cut xs off n).bind fun l=>(bytesOf l).map strV
 | none=>none
def strOf (h:AH):Value→Option Value
 | .slice none _ _=>some (.string .empty)
 | .slice (some ⟨b,off,none⟩) n _=>strR off n (rowAt b h)
 | _=>none
def convI (n:Int) (s:IntKind) (k:IntKind):Option Value:=some (mkI k (wr k n))
def aConv (h:AH) (src dst:TypeId) (x:Value):Option Value:=
 match x with
 | .int _ n=>(intT P src).bind fun s=>(intT P dst).bind (convI n s)
 | .string s=>cond (isStr P src && isStr P dst) (some (.string s)) none
 | .slice a n c=>(elemT P src).bind fun e=>cond (isByte P e && isStr P dst) (strOf h (.slice a n c)) none
 | _=>none
def idx (y:Nat):Value→Option Nat
 | .int _ (.ofNat i)=>cond (Nat.ble i y) (some i) none
 | _=>none
def idxO (y d:Nat):Option Value→Option Nat
 | some v=>idx y v
 | none=>some d
def sliceS (s:BA) (lo hi:Option Value):Option Value:=
 (idxO s.size s.size hi).bind fun h=>(idxO h 0 lo).map fun l=>.string ⟨((s.data.toList.drop l).take (h-l)).toArray⟩
def slicePl (a:OA) (z l h m:Nat):Value:=
 .slice (cond (Nat.beq m l) a (a.map (·.add (l*z)))) (h-l) (m-l)
def rowE1 (e:TypeId):Option (LV × TypeId)→Bool
 | some (_,e')=>Nat.beq e' e
 | none=>false
def rowE (h:AH) (e:TypeId):OA→Bool
 | none=>true
 | some ⟨b,_,none⟩=>rowE1 e (rowAt b h)
 | _=>false
def sliceV (h:AH) (e:TypeId) (z:Nat) (a:OA) (n cap:Nat) (lo hi mx:Option Value):Option Value:=
 (idxO cap cap mx).bind fun m=>(idxO m n hi).bind fun h'=>(idxO h' 0 lo).bind fun l=>
  cond ((mx.isNone || hi.isSome) && rowE h e a && Nat.ble h' m && (!(Nat.beq m l) || mx.isSome || Nat.beq cap 0)) (some (slicePl a z l h' m)) none
def aSlice (h:AH) (t:TypeId) (x:Value) (lo hi mx:Option Value):Option Value:=
 match x with
 | .string s=>cond (isStr P t && mx.isNone) (sliceS s lo hi) none
 | .slice a n cap=>(elemT P t).bind fun e=>(sizeT P e).bind fun z=>sliceV h e z a n cap lo hi mx
 | _=>none
def optV (s:AA):Option Acc→Option (Option Value)
 | none=>some none
 | some x=>(x s).map some
def optF (G:Nat):Option Operand→Option (Option Acc)
 | none=>some none
 | some x=>(opnd G x).map some
def fieldOffs (s:TypeId) (i:Nat):Option Nat:=(fieldsT P s).bind fun fs=>(fs[i]?).bind fun f=>(sizeT P f.type).bind fun n=>cond (Nat.beq n 0) none (some f.offset)
def mkPtr (b:Nat):Nat→Value
 | 0=>.pointer (some ⟨b,0,none⟩)
 | n+1=>.pointer (some ⟨b,n+1,none⟩)
def aFieldAddr (k:Option Nat):Value→Option Value
 | .pointer (some ⟨b,off,none⟩)=>k.bind fun k=>some (mkPtr b (off+k))
 | _=>none
def aPart (t:TypeId) (cs:LV) (off:Nat):Bool→Option Value
 | true=>(sizeT P t).bind fun n=>(cut cs off n).map aggV
 | false=>nth cs off
def fieldV (cs:LV) (f:Field):Option Value:=(aggOf P f.type).bind (aPart P f.type cs f.offset)
def aField (t:TypeId) (i:Nat):Value→Option Value
 | .agg cs=>(fieldsT P t).bind fun fs=>(fs[i]?).bind (fieldV P cs.toList)
 | _=>none
def elemSz (t:TypeId):Option Nat:=(elemT P t).bind (sizeT P)
def arrNE (t:TypeId):Option (Nat × TypeId):=(P.underlying t).bind fun | .array n e=>some (n,e) | _=>none
def arrSz (t:TypeId):Option (Nat × Nat):=(arrNE P t).bind fun p=>(sizeT P p.2).map fun z=>(p.1,z)
def arrPtr (b off i:Nat):Nat × Nat→Option Value
 | (n,z)=>cond (Nat.blt i n) (some (mkPtr b (off+i*z))) none
def aIndexAddr (z:Option Nat) (y:Option (Nat × Nat)) (x i:Value):Option Value:=
 match x,i with
 | .pointer (some ⟨b,off,none⟩),.int _ (.ofNat i)=>y.bind (arrPtr b off i)
 | .slice (some ⟨b,off,none⟩) n _,.int _ (.ofNat i)=>z.bind fun z=>cond (Nat.blt i n) (some (mkPtr b (off+i*z))) none
 | _,_=>none
def aIndex (t:TypeId) (x i:Value):Option Value:=
 match x,i with
 | .string s,.int _ (.ofNat i)=>cond (isStr P t) ((nth s.data.toList i).map fun b=>.int .u8 b.toNat) none
 | _,_=>none
def aLen (t:TypeId):Value→Option Value
 | .string s=>cond (isStr P t && Nat.blt s.data.toList.length 9223372036854775808) (some (goInt s.data.toList.length)) none
 | .slice _ n _=>cond (isSliceT P t && Nat.blt n 9223372036854775808) (some (goInt n)) none
 | _=>none
def aMinMax (mx:Bool):LV→Option Value
 | [.int k x,.int k' y]=>kin k k' (.int k (cond mx (cond (ilt x y) y x) (cond (ilt y x) y x)))
 | _=>none
def veq0 (x y:Value):Bool:=
 match x,y with
 | .bool a,.bool b=>a==b
 | .int k a,.int k' b=>decide (k=k') && ieq a b
 | .string a,.string b=>sbeq a b
 | .pointer a,.pointer b=>decide (a=b)
 | .slice a n c,.slice b n' c'=>decide (a=b) && Nat.beq n n' && Nat.beq c c'
 | .map a,.map b=>decide (a=b)
 | .nilFunc,.nilFunc=>true
 | .nilIface,.nilIface=>true
 | .chan (some a),.chan (some b)=>Nat.beq a b
 | _,_=>false
def veqL:LV→LV→Bool
 | [],[]=>true
 | x :: l,y :: r=>cond (veq0 x y) (veqL l r) false
 | _,_=>false
def veq (x y:Value):Bool:=
 match x,y with
 | .agg a,.agg b=>veqL a.toList b.toList
 | .tuple a,.tuple b=>veqL a.toList b.toList
 | .func (.func f) a b,.func (.func f') a' b'=>Nat.beq f f' && veqL a.toList a'.toList && veqL b.toList b'.toList
 | x,y=>veq0 x y
def wideT (k:TypeId):Bool:=match P.underlying k with | some (.array _ _) | some (.struct _)=>true | _=>false
def keyT (k:TypeId):Bool:=isStr P k || (P.keyTypeAt 2 k && P.tiled 2 k && wideT P k)
def symV:Value→Bool
 | .chan (some _)=>true
 | _=>false
def symK (p:Value × Value):Bool:=symV p.1
def notK (p:Value × Value):Bool:=!symV p.1
def isKeyV (k:TypeId) (v:Value) (es:List (Value × Value)):Bool:=cond (symV v) (isStr P k && es.all symK) (flat2 v && (keyOf P k v).isSome && es.all notK)
def findK (x:Value):List (Value × Value)→Option Value
 | []=>none
 | (k,v) :: l=>cond (veq k x) (some v) (findK x l)
def setK (x v:Value):List (Value × Value)→List (Value × Value)
 | []=>[(x,v)]
 | (k,u) :: l=>cond (veq k x) ((x,v) :: l) ((k,u) :: setK x v l)
def esAt (k:TypeId) (h:AH):Option Nat→Option (List (Value × Value))
 | none=>some []
 | some r=>mapAt k r h
def found (ok:Bool) (z:Value):Option Value→Option Value
 | some v=>some (cond ok (.tuple #[v,.bool true]) v)
 | none=>cond (flat z) (some (cond ok (.tuple #[z,.bool false]) z)) none
def lookK (h:AH) (ok:Bool) (k e:TypeId) (r:Option Nat) (i:Value):Option Value:=
 cond (keyT P k) ((zeroT P e).bind fun z=>(esAt k h r).bind fun es=>cond (isKeyV P k i es) (found ok z (findK i es)) none) none
def aLookup (h:AH) (ke:Option (TypeId × TypeId)) (ok:Bool) (x i:Value):Option Value:=
 match x,ke with
 | .map r,some (k,e)=>lookK P h ok k e r i
 | _,_=>none
def fillL (place:Nat→Option (Nat × Nat)) (cells:LV):List (Nat × Value)→Option (LV)
 | []=>some cells
 | p :: rest=>(place p.1).bind fun q=>cond (Nat.beq p.2.cells.toList.length q.2 && p.2.cells.toList.all one1) ((patch cells q.1 p.2.cells.toList).bind fun cs=>fillL place cs rest) none
def placesT (fs:Array Field):Option (List (Nat × Nat)):=allSome (fun f=>(sizeT P f.type).map fun n=>(f.offset,n)) fs.toList
def flats (z:Value):Option (LV):=cond (z.cells.toList.all flat) (some z.cells.toList) none
def aBuild (t:TypeId) (parts:List (Nat × Value)):Option Value:=
 (zeroT P t).bind fun z=>(flats z).bind fun z=>(fieldsT P t).bind fun fs=>(placesT P fs).bind fun pl=>(fillL (nth pl) z parts).map aggV
def zeros (z:LV):Nat→LV
 | 0=>[]
 | n+1=>z++zeros z n
abbrev Part:=Nat × Acc
def partF (G:Nat) (p:Nat × Operand):Option Part:=(opnd G p.2).map fun f=>(p.1,f)
def partV (s:AA) (p:Part):Option (Nat × Value):=(p.2 s).map fun v=>(p.1,v)
def accV (s:AA) (f:Acc):Option Value:=f s
def rFunc (f:FuncId) (l l':LV):Option Value:=cond (l.all one0 && l'.all one0) (some (.func (.func f) l.toArray l'.toArray)) none
def rExtract (i:Nat):Value→Option Value
 | .tuple vs=>nth vs.toList i
 | _=>none
def rLen (t:TypeId):LV→Option Value
 | [x]=>aLen P t x
 | _=>none
abbrev Rd:=AA→AH→Option Value
def xMove (x:Acc):Rd:=fun s _=>x s
def xPick (c a b:Acc):Rd:=fun s _=>(c s).bind (rPick (a s) (b s))
def xLoad (t:TypeId) (a:Acc):Rd:=fun s h=>(a s).bind (rLoad P h t)
def xNil (x:Acc):Rd:=fun s _=>(x s).bind rNil
def xBin (op:BinOp) (t:TypeId) (x y:Acc):Rd:=fun s _=>(x s).bind fun x=>(y s).bind (aBin P op t x)
def xUn (op:UnOp) (x:Acc):Rd:=fun s _=>(x s).bind (aUn op)
def xConv (t d:TypeId) (x:Acc):Rd:=fun s h=>(x s).bind (aConv P h t d)
def xFunc (f:FuncId) (first cap:List Acc):Rd:=fun s _=>(allSome (accV s) first).bind fun l=>(allSome (accV s) cap).bind (rFunc f l)
def xSlice (t:TypeId) (x:Acc) (lo hi mx:Option Acc):Rd:=fun s h=>(x s).bind fun x=>(optV s lo).bind fun lo=>(optV s hi).bind fun hi=>(optV s mx).bind (aSlice P h t x lo hi)
def xFieldAddr (k:Option Nat) (x:Acc):Rd:=fun s _=>(x s).bind (aFieldAddr k)
def xField (t:TypeId) (i:Nat) (x:Acc):Rd:=fun s _=>(x s).bind (aField P t i)
def xIndexAddr (z:Option Nat) (y:Option (Nat × Nat)) (x i:Acc):Rd:=fun s _=>(x s).bind fun x=>(i s).bind (aIndexAddr z y x)
def xIndex (t:TypeId) (x i:Acc):Rd:=fun s _=>(x s).bind fun x=>(i s).bind (aIndex P t x)
def xLookup (ke:Option (TypeId × TypeId)) (ok:Bool) (x i:Acc):Rd:=fun s h=>(x s).bind fun x=>(i s).bind (aLookup P h ke ok x)
def xExtract (i:Nat) (x:Acc):Rd:=fun s _=>(x s).bind (rExtract i)
def xBuild (t:TypeId) (ps:List Part):Rd:=fun s _=>(allSome (partV s) ps).bind (aBuild P t)
def xLen (t:TypeId) (l:List Acc):Rd:=fun s _=>(allSome (accV s) l).bind (rLen P t)
def xMinMax (mx:Bool) (l:List Acc):Rd:=fun s _=>(allSome (accV s) l).bind (aMinMax mx)
def rBuilt (l:List Acc) (ts:Array TypeId):Builtin→Option Rd
 | .len=>(ts[0]?).map fun t=>xLen P t l
 | .min=>some (xMinMax false l)
 | .max=>some (xMinMax true l)
 | _=>none
def rCall (G:Nat) (c:Call):Callee→Option Rd
 | .builtin b=>(allSome (opnd G) c.args.toList).bind fun l=>rBuilt P l c.argTypes b
 | _=>none
def aRead (G:Nat):Op→Option Rd
 | .move x=>(opnd G x).map xMove
 | .assign x=>(opnd G x).map xMove
 | .pick c a b=>(opnd G c).bind fun c=>(opnd G a).bind fun a=>(opnd G b).map (xPick c a)
 | .load t a=>(opnd G a).map (xLoad P t)
 | .nilCheck x=>(opnd G x).map xNil
 | .binOp op t x y _=>(opnd G x).bind fun x=>(opnd G y).map (xBin P op t x)
 | .unOp op _ x=>(opnd G x).map (xUn op)
 | .convert s d x=>(opnd G x).map (xConv P s d)
 | .makeFunc (.func f) first cap=>(allSome (opnd G) first.toList).bind fun l=>(allSome (opnd G) cap.toList).map (xFunc f l)
 | .slice t x lo hi mx=>(opnd G x).bind fun x=>(optF G lo).bind fun lo=>(optF G hi).bind fun hi=>(optF G mx).map (xSlice P t x lo hi)
 | .fieldAddr s x i=>(opnd G x).map (xFieldAddr (fieldOffs P s i))
 | .field t x i=>(opnd G x).map (xField P t i)
 | .indexAddr t x i=>(opnd G x).bind fun x=>(opnd G i).map (xIndexAddr (elemSz P t) (arrSz P t) x)
 | .index t x i=>(opnd G x).bind fun x=>(opnd G i).map (xIndex P t x)
 | .lookup t x i ok=>(opnd G x).bind fun x=>(opnd G i).map (xLookup P (mapT P t) ok x)
 | .extract x i=>(opnd G x).map (xExtract i)
 | .build t ps=>(allSome (partF G) ps.toList).map (xBuild P t)
 | .call c=>rCall P G c c.callee
 | _=>none
def ptrTo (r:Nat):Value:=.pointer (some ⟨r,0,none⟩)
def sliceTo (l c r:Nat):Value:=.slice (some ⟨r,0,none⟩) l c
def nAlloc (e:TypeId):Option (AO × (Nat→Value)):=(zeroT P e).bind fun z=>(flats z).map fun l=>(AO.row e l,ptrTo)
def nBox (e:TypeId) (v:Value):Option (AO × (Nat→Value)):=cond (v.cells.toList.all one1 && (sizeT P e).isSome) (some (AO.row e v.cells.toList,ptrTo)) none
def zeroRow (e:TypeId) (n:Nat):Option (LV):=
 (P.info? e).bind fun i=>i.zero.bind fun zv=>(flats zv).bind fun l=>cond (Nat.beq l.length i.size && Nat.ble (n*i.size) 16777216 && Nat.ble i.bytes 1048576 && Nat.ble n 16777216) (some (zeros l n)) none
def nSlice (t:TypeId) (n:Nat) (l:List (Nat × Value)):Option (AO × (Nat→Value)):=
 (elemT P t).bind fun e=>(sizeT P e).bind fun z=>(zeroRow P e n).bind fun zs=>(fillL (fun i=>some (i*z,z)) zs l).map fun cs=>(AO.row e cs,sliceTo n n)
def nMake (t:TypeId) (l c:Value):Option (AO × (Nat→Value)):=
 match l,c with
 | .int _ (.ofNat l),.int _ (.ofNat c)=>(elemT P t).bind fun e=>(zeroRow P e c).bind fun zs=>cond (Nat.ble l c) (some (AO.row e zs,sliceTo l c)) none
 | _,_=>none
abbrev Nw:=AA→Option (AO × (Nat→Value))
def yAlloc (o:Option (AO × (Nat→Value))):Nw:=fun _=>o
def yBox (e:TypeId) (x:Acc):Nw:=fun s=>(x s).bind (nBox P e)
def ySlice (t:TypeId) (n:Nat) (ps:List Part):Nw:=fun s=>(allSome (partV s) ps).bind (nSlice P t n)
def mapTo (r:Nat):Value:=.map (some r)
def yMap (k:TypeId):Nw:=fun _=>some (AO.map k [],mapTo)
def yMake (t:TypeId) (l c:Acc):Nw:=fun s=>(l s).bind fun l=>(c s).bind (nMake P t l)
def aNew (G:Nat):Op→Option Nw
 | .alloc e=>some (yAlloc (nAlloc P e))
 | .box e x=>(opnd G x).map (yBox P e)
 | .buildSlice t n ps=>(allSome (partF G) ps.toList).map (ySlice P t n)
 | .makeMap t none=>(mapT P t).map fun ke=>yMap ke.1
 | .makeSlice t l c=>(opnd G l).bind fun l=>(opnd G c).map (yMake P t l)
 | _=>none
def tailR (z off k:Nat):Option (LV × TypeId)→Option (Nat × LV)
 | some (xs,_)=>(cut xs off (k*z)).bind fun l=>some (k,l)
 | none=>none
def aTail (h:AH) (z:Nat):Value→Option (Nat × LV)
 | .slice none k _=>cond (Nat.beq k 0) (some (0,[])) none
 | .slice (some ⟨b,off,none⟩) k _=>tailR z off k (rowAt b h)
 | .string s=>cond (Nat.beq z 1) (some (s.data.toList.length,s.data.toList.map fun b=>.int .u8 b.toNat)) none
 | _=>none
def zeroOk (i:TypeInfo):Bool:=
 match i.zero with
 | some zv=>Nat.beq zv.cells.toList.length i.size && zv.cells.toList.all flat
 | none=>false
def mkSl (b off cap:Nat):Nat→Value
 | 0=>.slice (some ⟨b,off,none⟩) 0 cap
 | n+1=>.slice (some ⟨b,off,none⟩) (n+1) cap
def appInR (h:AH) (e:TypeId) (b off z n cap k:Nat) (new:LV):Option (LV × TypeId)→Option (Value × AH)
 | some (xs,e')=>cond (Nat.beq e' e) ((patch xs (off+n*z) new).bind (wrote b e' h (mkSl b off cap (n+k)))) none
 | none=>none
def appIn (h:AH) (e:TypeId) (z n cap k:Nat) (new:LV):OA→Option (Value × AH)
 | none=>cond (Nat.beq k 0) (some (.slice none n cap,h)) none
 | some ⟨b,off,none⟩=>appInR h e b off z n cap k new (rowAt b h)
 | _=>none
def fresh (k:Nat) (h:AH) (o:AO):Option (Value × AH):=some (sliceTo k k h.n,h.new o)
def appOld (h:AH) (e:TypeId) (b n k:Nat) (new:LV) (cap:Nat) (old:LV):Option (Value × AH):=
 match cap with
 | 0=>fresh k h (AO.row e new)
 | _+1=>fresh (n+k) (h.set b AO.dead) (AO.row e (old++new))
def appToR (G:Nat) (h:AH) (e:TypeId) (b off z n cap k:Nat) (new:LV):Option (LV × TypeId)→Option (Value × AH)
 | some (xs,e')=>cond (Nat.beq e' e && Nat.ble G b && Nat.ble n cap && Nat.beq off 0) ((cut xs off (n*z)).bind (appOld h e b n k new cap)) none
 | none=>none
def appTo (G:Nat) (h:AH) (e:TypeId) (z n cap k:Nat) (new:LV):OA→Option (Value × AH)
 | none=>cond (Nat.beq n 0) (fresh k h (AO.row e new)) none
 | some ⟨b,off,none⟩=>appToR G h e b off z n cap k new (rowAt b h)
 | _=>none
def appK (G:Nat) (h:AH) (e:TypeId) (base:OA) (n cap:Nat) (i:TypeInfo):Nat × LV→Option (Value × AH)
 | (k,new)=>cond (Nat.ble (n+k) cap) (appIn h e i.size n cap k new base)
  (cond (Nat.ble (n+k) 1048576 && Nat.blt h.n 4096) (appTo G h e i.size n cap k new base) none)
def infoOk (i:TypeInfo):Bool:=Nat.ble i.bytes 1048576 && Nat.blt 0 i.size && zeroOk i
def appI (G:Nat) (h:AH) (e:TypeId) (base:OA) (n cap:Nat) (x:Value) (i:TypeInfo):Option (Value × AH):=
 cond (infoOk i) ((aTail h i.size x).bind (appK G h e base n cap i)) none
def aAppend (G:Nat) (h:AH) (t:TypeId) (s x:Value):Option (Value × AH):=
 match s with
 | .slice base n cap=>(elemT P t).bind fun e=>(P.info? e).bind (appI G h e base n cap x)
 | _=>none
def srcOk (t:TypeId):Value→Bool
 | .string _=>isStr P t
 | _=>isSliceT P t
def wAppend (G:Nat) (h:AH) (ts:List TypeId) (l:LV):Option (Value × AH):=
 match ts,l with
 | [t,t'],[s,x]=>cond (srcOk P t' x) (aAppend P G h t s x) none
 | _,_=>none
def wBytes (h:AH):Value→Option (Value × AH)
 | .slice (some a) n c=>(rowAt a.block h).map fun _=>(.slice (some a) n c,h)
 | _=>none
def wConv (h:AH) (s d:TypeId) (v:Value):Option (Value × AH):=(elemT P s).bind fun e=>cond (Nat.beq s d && isByte P e) (wBytes h v) none
def wMap (h:AH) (k:TypeId) (i v:Value):Value→Option (Value × AH)
 | .map (some r)=>cond (keyT P k && one1 v) ((mapAt k r h).bind fun es=>cond (isKeyV P k i es) (some (undef,h.set r (AO.map k (setK i v es)))) none) none
 | _=>none
def wUpdate (h:AH) (t:TypeId) (m k v:Value):Option (Value × AH):=(mapT P t).bind fun ke=>wMap P h ke.1 k v m
abbrev Wt:=AA→AH→Option (Value × AH)
def zStore (t:TypeId) (a x:Acc):Wt:=fun s h=>(a s).bind fun a=>(x s).bind fun v=>wStore P h t v a
def zUpdate (t:TypeId) (m k x:Acc):Wt:=fun s h=>(m s).bind fun m=>(k s).bind fun k=>(x s).bind (wUpdate P h t m k)
def zConv (t d:TypeId) (x:Acc):Wt:=fun s h=>(x s).bind (wConv P h t d)
def zAppend (G:Nat) (ts:List TypeId) (l:List Acc):Wt:=fun s h=>(allSome (accV s) l).bind (wAppend P G h ts)
def wBuilt (G:Nat) (l:List Acc) (ts:Array TypeId):Builtin→Option Wt
 | .append=>some (zAppend P G ts.toList l)
 | _=>none
def wCall (G:Nat) (c:Call):Callee→Option Wt
 | .builtin b=>(allSome (opnd G) c.args.toList).bind fun l=>wBuilt P G l c.argTypes b
 | _=>none
def aWrite (G:Nat):Op→Option Wt
 | .store t a x=>(opnd G a).bind fun a=>(opnd G x).map (zStore P t a)
 | .mapUpdate t m k x=>(opnd G m).bind fun m=>(opnd G k).bind fun k=>(opnd G x).map (zUpdate P t m k)
 | .convert s d x=>(opnd G x).map (zConv P s d)
 | .call c=>wCall P G c c.callee
 | _=>none
def callee (l:LV):Value→Option (FuncId × LV)
 | .func (.func f) first cap=>some (f,first.toList++(l++cap.toList))
 | _=>none
abbrev Cl:=AA→Option (FuncId × LV)
def vCall (f:Acc) (l:List Acc):Cl:=fun s=>(f s).bind fun v=>(allSome (accV s) l).bind fun l=>callee l v
def cCall (G:Nat) (c:Call):Callee→Option Cl
 | .value f=>(opnd G f).bind fun f=>(allSome (opnd G) c.args.toList).map (vCall f)
 | _=>none
def aCall (G:Nat):Op→Option Cl
 | .call c=>cCall G c c.callee
 | _=>none
def mayEnter (fn : Func) : Option Func := cond (fn.name == "runtime.NumGoroutine") none (cond fn.body.isSome (some fn) none)
def entered (f:FuncId):Option Func:=(P.funcs[f]?).bind mayEnter
end
end Go.Proofs.YtmolfmgchbjnbaaGreatDoor.Ev
namespace Go.Proofs.YtmolfmgchbjnbaaGreatDoor.Ev
open Go
def clsB:Builtin→Nat
 | .append=>2
 | _=>0
def clsC:Callee→Nat
 | .builtin b=>clsB b
 | .value _=>3
 | _=>0
def cls:Op→Nat
 | .alloc _=>1
 | .box _ _=>1
 | .buildSlice _ _ _=>1
 | .makeMap _ _=>1
 | .makeSlice _ _ _=>1
 | .store _ _ _=>2
 | .mapUpdate _ _ _ _=>2
 | .convert s d _=>cond (Nat.beq s d) 2 0
 | .call c=>clsC c.callee
 | _=>0
def dstOf (ops:Array Oper) (i:Nat):Option Tmp:=(ops[i]?).bind (·.dst)
def isB (want:Bool):Value→Option Bool
 | .bool b=>some (b==want)
 | _=>some false
abbrev Wn:=AA→Option Bool
def wnC (b:Bool):Wn:=fun _=>some b
def wnS (want:Bool) (f:Acc):Wn:=fun a=>(f a).bind (isB want)
def wantedS (want:Bool):Option Tmp→Option Wn
 | none=>some (wnC false)
 | some d=>(slotF d).map (wnS want)
def wantedG (ops:Array Oper):Option (Nat × Bool)→Option Wn
 | none=>some (wnC true)
 | some (j,want)=>wantedS want (dstOf ops j)
def tmpsOf (o:Oper):List Tmp:=o.op.operands.toList.filterMap fun | .tmp t=>some t | _=>none
section
variable (P:Program)(G:Nat)(E:FuncId→LV→AH→Option (Value × AH))
def mkNew (h:AH) (p:AO × (Nat→Value)):Option (Value × AH):=cond (Nat.blt h.n 4096) (some (p.2 h.n,h.new p.1)) none
def same (h:AH) (v:Value):Option (Value × AH):=some (v,h)
def enterE (h:AH):FuncId × LV→Option (Value × AH)
 | (f,l)=>E f l h
abbrev Exe:=(FuncId→LV→AH→Option (Value × AH))→AA→AH→Option (Value × AH)
def eRead (f:Rd):Exe:=fun _ s h=>(f s h).bind (same h)
def eNew (f:Nw):Exe:=fun _ s h=>(f s).bind (mkNew h)
def eWrite (f:Wt):Exe:=fun _ s h=>f s h
def eCall (f:Cl):Exe:=fun E s h=>(f s).bind (enterE E h)
def execN (o:Op):Nat→Option Exe
 | 0=>(aRead P G o).map eRead
 | 1=>(aNew P G o).map eNew
 | 2=>(aWrite P G o).map eWrite
 | _=>(aCall G o).map eCall
def execO (o:Op):Option Exe:=execN P G o (cls o)
abbrev Pt:=Value→AA→Option AA
def ptNone:Pt:=fun _ a=>some a
def ptAt (d:Nat) (f:Option Value→N16 (N16 (Option Value))→N16 (N16 (Option Value))):Pt:=fun v a=>a.putF d v f
def putO:Option Tmp→Option Pt
 | none=>some ptNone
 | some d=>(upd2 d).map (ptAt d)
def withH (h:AH) (a:AA):Option (AA × AH):=some (a,h)
def putR (p:Pt) (a:AA):Value × AH→Option (AA × AH)
 | (v,h)=>(p v a).bind (withH h)
abbrev St:=(FuncId→LV→AH→Option (Value × AH))→AA→AH→Option (AA × AH)
def stB (e:Exe) (p:Pt) (E:FuncId→LV→AH→Option (Value × AH)) (a:AA) (h:AH):Bool→Option (AA × AH)
 | true=>(e E a h).bind (putR p a)
 | false=>putR p a (undef,h)
def st (w:Wn) (e:Exe) (p:Pt):St:=fun E a h=>(w a).bind (stB e p E a h)
def stepO (ops:Array Oper) (o:Oper):Option St:=(wantedG ops o.guard).bind fun w=>(execO P G o.op).bind fun e=>(putO o.dst).map (st w e)
def thenO (K:AA→AH→Option (AA × AH)):AA × AH→Option (AA × AH)
 | (a,h)=>K a h
def runS (a:AA) (h:AH):Option St→Option (AA × AH)
 | some f=>f E a h
 | none=>none
def evOps (ops:Array Oper):List Oper→AA→AH→Option (AA × AH)
 | [],a,h=>some (a,h)
 | o :: l,a,h=>(runS E a h (stepO P G ops o)).bind (thenO (evOps ops l))
def readsT (ops:Array Oper) (o:Oper) (d:Tmp):Bool:=(tmpsOf o).contains d || (match o.guard with | some g=>dstOf ops g.1==some d | none=>false)
def readsAt (ops:Array Oper) (i:Nat) (d:Tmp):Bool:=match ops[i]? with | some o=>readsT ops o d | none=>false
def bt (b:Array Nat) (i j:Nat):Bool:=(b.getD i 0).testBit j
def isTail (ops:Array Oper) (b:Array Nat) (i:Nat):Bool:=
 match ops[i]? with
 | some ⟨some d,.assign (.tmp x),_,_,_,none⟩=>((List.range ops.size).all fun k=>!(readsAt ops k d) || (bt b i k && !(Nat.beq i k))) && (List.range ops.size).any fun j=>dstOf ops j==some x && bt b i j
 | _=>false
def isChain (ops:Array Oper) (i:Nat):Bool:=match ops[i]? with | some o=>Nat.ble 2 (cls o.op) | none=>false
def isRead (ops:Array Oper) (i:Nat):Bool:=match ops[i]? with | some o=>Nat.beq (cls o.op) 0 | none=>false
def apartA (ops:Array Oper) (b:Array Nat) (o:Oper) (i j:Nat):Bool:=
 match dstOf ops j with
 | none=>true
 | some d=>
  (Nat.beq i j || o.dst != some d) &&
  (!(readsT ops o d) || cond (isTail ops b j) (!(isTail ops b i) && bt b j i) (!(Nat.beq i j) && bt b i j))
def regOk1 (ops:Array Oper) (b:Array Nat) (i:Nat):Bool:=
 match ops[i]? with
 | none=>false
 | some o=>(o.after.toList.all fun e=>!Region.binds .any e || Nat.blt e.on i) && (List.range ops.size).all (apartA ops b o i)
def gapOf (ops:Array Oper) (b:Array Nat) (i:Nat):Nat:=((List.range i).filter fun j=>isChain ops j && bt b i j).length
def segIdx (ops:Array Oper) (b:Array Nat) (k:Nat):LN:=(List.range ops.size).filter fun i=>!(isChain ops i) && !(isTail ops b i) && Nat.beq (gapOf ops b i) k
def agIdx (ops:Array Oper) (b:Array Nat) (c k:Nat):LN:=(List.range ops.size).filter fun i=>isRead ops i && !(isTail ops b i) && Nat.blt (gapOf ops b i) k && !(bt b c i)
abbrev Segs:=List (Nat × LN × LN)
def planFrom (ops:Array Oper) (b:Array Nat):LN→Nat→Segs
 | [],_=>[]
 | c :: l,k=>(c,agIdx ops b c (k+1),segIdx ops b (k+1)) :: planFrom ops b l (k+1)
def noRead (ops:Array Oper) (i j:Nat):Bool:=match dstOf ops j with | none=>true | some d=>!(readsAt ops i d)
def segOk (ops:Array Oper) (b:Array Nat):LN→LN→Bool
 | _,[]=>true
 | dn,j :: r=>!(isChain ops j) && !(isTail ops b j) && dn.all (fun i=>noRead ops i j && !(Nat.beq i j)) && segOk ops b (j :: dn) r
def chainOk (ops:Array Oper) (b:Array Nat):LN→Segs→Bool
 | _,[]=>true
 | dn,(c,ag,sg) :: l=>
  isChain ops c && dn.all (fun i=>noRead ops i c && (!(isRead ops i) || bt b c i || ag.contains i)) && sg.all (fun i=>bt b i c) && l.all (fun q=>bt b q.1 c && q.2.2.all fun i=>bt b i c) &&
  segOk ops b dn sg && chainOk ops b (sg.reverse++dn) l
structure Pln where
 s:LN
 l:Segs
 t:LN
def allIn (ops:Array Oper) (b:Array Nat) (p:Pln) (i:Nat):Bool:=isTail ops b i || p.s.contains i || p.l.any fun q=>Nat.beq q.1 i || q.2.2.contains i
def planOk (ops:Array Oper) (b:Array Nat) (p:Pln):Bool:=(List.range ops.size).all (regOk1 ops b) && segOk ops b [] p.s && chainOk ops b p.s.reverse p.l && (List.range ops.size).all (allIn ops b p)
def planOf (ops:Array Oper) (b:Array Nat):Pln:=⟨segIdx ops b 0,planFrom ops b ((List.range ops.size).filter (isChain ops)) 0,(List.range ops.size).filter (isTail ops b)⟩
def planIf (ops:Array Oper) (b:Array Nat) (p:Pln):Option Pln:=cond (planOk ops b p) (some p) none
def plan (ops:Array Oper):Option Pln:=planIf ops (Region.before ops) (planOf ops (Region.before ops))
def againU (a:AA) (h:AH) (v u:Value):Option (AA × AH):=cond (veq v u) (some (a,h)) none
def againV (f:Acc) (a:AA) (h:AH) (v:Value):Option (AA × AH):=(f a).bind (againU a h v)
def agB (r:Rd) (f:Acc) (a:AA) (h:AH):Bool→Option (AA × AH)
 | true=>(r a h).bind (againV f a h)
 | false=>some (a,h)
def ag (w:Wn) (r:Rd) (f:Acc):St:=fun _ a h=>(w a).bind (agB r f a h)
def agD (w:Wn) (r:Rd):Option Tmp→Option St
 | none=>none
 | some d=>(slotF d).map (ag w r)
def againO (ops:Array Oper) (o:Oper):Option St:=(wantedG ops o.guard).bind fun w=>(aRead P G o.op).bind fun r=>agD w r o.dst
def stepI (ops:Array Oper):Bool→Nat→Option St
 | false,i=>(ops[i]?).bind (stepO P G ops)
 | true,i=>(ops[i]?).bind (againO P G ops)
def evIdx (ops:Array Oper) (again:Bool):LN→AA→AH→Option (AA × AH)
 | [],a,h=>some (a,h)
 | i :: l,a,h=>(runS E a h (stepI P G ops again i)).bind (thenO (evIdx ops again l))
def evSegs (ops:Array Oper):Segs→AA→AH→Option (AA × AH)
 | [],a,h=>some (a,h)
 | (c,ag,sg) :: l,a,h=>(runS E a h (stepI P G ops false c)).bind (thenO fun a h=>(evIdx P G E ops true ag a h).bind (thenO fun a h=>(evIdx P G E ops false sg a h).bind (thenO (evSegs ops l))))
def evTail (ops:Array Oper) (l:Segs) (t:LN) (a:AA) (h:AH):Option (AA × AH):=(evSegs P G E ops l a h).bind (thenO (evIdx P G E ops false t))
def nrm:AA × AH→Option (Exit × AA × AH)
 | (a,h)=>some (.normal,a,h)
def evDraw (ops:Array Oper) (a:AA) (h:AH):Pln→Option (Exit × AA × AH)
 | ⟨s,l,t⟩=>((evIdx P G E ops false s a h).bind (thenO (evTail P G E ops l t))).bind nrm
def evReg (ops:Array Oper) (a:AA) (h:AH):Bool→Option (Exit × AA × AH)
 | false=>(evOps P G E ops ops.toList a h).bind nrm
 | true=>(plan ops).bind (evDraw P G E ops a h)
section
variable (R:Option Code→Code→AA→AH→Option (Exit × AA × AH))
def aftSeq (y:Code):Exit × AA × AH→Option (Exit × AA × AH)
 | (.normal,a,h)=>R none y a h
 | r=>some r
def aftBlock (id:Nat):Exit × AA × AH→Option (Exit × AA × AH)
 | (.exit i,a,h)=>some (cond (Nat.beq i id) .normal (.exit i),a,h)
 | r=>some r
def aftGoto (body:Code) (l:Nat) (a:AA) (h:AH):Option Code→Option (Exit × AA × AH)
 | some rest=>R (some body) rest a h
 | none=>some (.goto l,a,h)
def aftScope (body:Code):Exit × AA × AH→Option (Exit × AA × AH)
 | (.goto l,a,h)=>aftGoto R body l a h (findLabel body l)
 | r=>some r
def onCond (x y:Code) (a:AA) (h:AH):Value→Option (Exit × AA × AH)
 | .bool true=>R none x a h
 | .bool false=>R none y a h
 | _=>none
def stepC0 (a:AA) (h:AH):Code→Option (Exit × AA × AH)
 | .skip=>some (.normal,a,h)
 | .label _=>some (.normal,a,h)
 | .region _ ops d=>evReg P G E ops a h d
 | .seq x y=>(R none x a h).bind (aftSeq R y)
 | .cond q x y=>(opnd G q).bind fun f=>(f a).bind (onCond R x y a h)
 | .block id x=>(R none x a h).bind (aftBlock id)
 | .loop x=>(R none x a h).bind (aftSeq R (.loop x))
 | .scope x=>R (some x) x a h
 | .exit id=>some (.exit id,a,h)
 | .goto l=>some (.goto l,a,h)
 | .ret=>some (.ret,a,h)
 | _=>none
def stepC (s:Option Code) (c:Code) (a:AA) (h:AH):Option (Exit × AA × AH):=
 match s with
 | none=>stepC0 P G E R a h c
 | some body=>(R none c a h).bind (aftScope R body)
end
def noC (_:Option Code) (_:Code) (_:AA) (_:AH):Option (Exit × AA × AH):=none
def evC (n:Nat):Option Code→Code→AA→AH→Option (Exit × AA × AH):=Nat.repeat (stepC P G E) n noC
def resT (f:Acc):Rd:=fun a _=>f a
def resC (t:TypeId) (f:Acc):Rd:=fun a h=>(f a).bind (rLoad P h t)
def resF:ResultVar→Option Rd
 | .tmp t=>(slotF t).map resT
 | .cell d t=>(slotF d).map (resC P t)
def resV (a:AA) (h:AH) (f:Rd):Option Value:=f a h
def tup:LV→Option Value
 | [v]=>some v
 | l=>cond (l.all one2) (some (.tuple l.toArray)) none
def resultsA (fn:Func) (a:AA) (h:AH):Option (Value × AH):=(allSome (resF P) fn.results.toList).bind fun l=>((allSome (resV a h) l).bind tup).bind (same h)
def aftBody (fn:Func):Exit × AA × AH→Option (Value × AH)
 | (.normal,a,h)=>resultsA P fn a h
 | (.ret,a,h)=>resultsA P fn a h
 | _=>none
end
def putAll:LV→Nat→AA→Option AA
 | [],_,a=>some a
 | v :: l,i,a=>(a.putAt v i).bind (putAll l (i+1))
def AA.nil (n:Nat):AA:=⟨n,N16.all (N16.all none)⟩
section
variable (P:Program)(G M:Nat)(X:FuncId→LV→AH→Option (Option (Value × AH)))
def runC (R:FuncId→LV→AH→Option (Value × AH)) (args:LV) (h:AH) (fn:Func) (c:Code):Option (Value × AH):=
 (putAll args 0 (AA.nil (max args.length fn.ntmps))).bind fun a=>(evC P G R M none c a h).bind (aftBody P fn)
def runF (R:FuncId→LV→AH→Option (Value × AH)) (args:LV) (h:AH) (fn:Func):Option (Value × AH):=fn.body.bind (runC P G M R args h fn)
def stepX (R:FuncId→LV→AH→Option (Value × AH)) (f:FuncId) (args:LV) (h:AH):Option (Option (Value × AH))→Option (Value × AH)
 | some r=>r
 | none=>(entered P f).bind (runF P G M R args h)
def stepF (R:FuncId→LV→AH→Option (Value × AH)) (f:FuncId) (args:LV) (h:AH):Option (Value × AH):=stepX P G M R f args h (X f args h)
def noF (_:FuncId) (_:LV) (_:AH):Option (Value × AH):=none
def noX (_:FuncId) (_:LV) (_:AH):Option (Option (Value × AH)):=none
def evF (n:Nat):FuncId→LV→AH→Option (Value × AH):=Nat.repeat (stepF P G M X) n noF
end
end Go.Proofs.YtmolfmgchbjnbaaGreatDoor.Ev
namespace Go.Proofs.YtmolfmgchbjnbaaGreatDoor.Ev
open Go
section
variable {α:Type}
theorem sel_upd {i j:Nat}{u:(α→α)→N16 α→N16 α}{s:N16 α→α} (hu:upd i=some u) (hs:sel j=some s) (f:α→α) (x:N16 α):s (u f x)=if j=i then f (s x) else s x:=by
 unfold upd at hu;split at hu <;> cases hu <;> (unfold sel at hs;split at hs <;> cases hs <;> rfl)
theorem sel_some {i:Nat}(h:i<16):∃ s:N16 α→α,sel i=some s:=by
 match i,h with
 | 0,_=>exact⟨_,rfl⟩
 | 1,_=>exact⟨_,rfl⟩
 | 2,_=>exact⟨_,rfl⟩
 | 3,_=>exact⟨_,rfl⟩
 | 4,_=>exact⟨_,rfl⟩
 | 5,_=>exact⟨_,rfl⟩
 | 6,_=>exact⟨_,rfl⟩
 | 7,_=>exact⟨_,rfl⟩
 | 8,_=>exact⟨_,rfl⟩
 | 9,_=>exact⟨_,rfl⟩
 | 10,_=>exact⟨_,rfl⟩
 | 11,_=>exact⟨_,rfl⟩
 | 12,_=>exact⟨_,rfl⟩
 | 13,_=>exact⟨_,rfl⟩
 | 14,_=>exact⟨_,rfl⟩
 | 15,_=>exact⟨_,rfl⟩
 | n+16,h=>omega
theorem upd_some {i:Nat}(h:i<16):∃ s:(α→α)→N16 α→N16 α,upd i=some s:=by
 match i,h with
 | 0,_=>exact⟨_,rfl⟩
 | 1,_=>exact⟨_,rfl⟩
 | 2,_=>exact⟨_,rfl⟩
 | 3,_=>exact⟨_,rfl⟩
 | 4,_=>exact⟨_,rfl⟩
 | 5,_=>exact⟨_,rfl⟩
 | 6,_=>exact⟨_,rfl⟩
 | 7,_=>exact⟨_,rfl⟩
 | 8,_=>exact⟨_,rfl⟩
 | 9,_=>exact⟨_,rfl⟩
 | 10,_=>exact⟨_,rfl⟩
 | 11,_=>exact⟨_,rfl⟩
 | 12,_=>exact⟨_,rfl⟩
 | 13,_=>exact⟨_,rfl⟩
 | 14,_=>exact⟨_,rfl⟩
 | 15,_=>exact⟨_,rfl⟩
 | n+16,h=>omega
theorem upd_lt {i:Nat}{s:(α→α)→N16 α→N16 α} (h:upd i=some s):i<16:=by
 unfold upd at h;split at h <;> first | omega | cases h
theorem sel_all {i:Nat}{s:N16 α→α} (h:sel i=some s) (x:α):s (N16.all x)=x:=by
 unfold sel at h;split at h <;> cases h <;> rfl
theorem sel2_form {i:Nat}{g:N16 (N16 α)→α} (h:sel2 i=some g):∃ f k,sel (i / 16)=some f∧sel (i % 16)=some k∧g=get2 f k:=by
 unfold sel2 at h;cases h1:(sel (i / 16):Option (N16 (N16 α)→N16 α)) with
 | none=>simp[h1] at h
 | some f=>
  cases h2:(sel (i % 16):Option (N16 α→α)) with
  | none=>simp[h1,h2] at h
  | some k=>exact⟨f,k,rfl,rfl,by simpa [h1,h2] using h.symm⟩
theorem upd2_form {i:Nat}{p:α→N16 (N16 α)→N16 (N16 α)} (h:upd2 i=some p):∃ f k,upd (i / 16)=some f∧upd (i % 16)=some k∧p=set2 f k:=by
 unfold upd2 at h;cases h1:(upd (i / 16):Option ((N16 α→N16 α)→N16 (N16 α)→N16 (N16 α))) with
 | none=>simp[h1] at h
 | some f=>
  cases h2:(upd (i % 16):Option ((α→α)→N16 α→N16 α)) with
  | none=>simp[h1,h2] at h
  | some k=>exact⟨f,k,rfl,rfl,by simpa [h1,h2] using h.symm⟩
theorem sel2_upd2 {i j:Nat}{p:α→N16 (N16 α)→N16 (N16 α)}{g:N16 (N16 α)→α} (hp:upd2 i=some p) (hg:sel2 j=some g) (v:α) (t:N16 (N16 α)):g (p v t)=if j=i then v else g t:=by
 obtain⟨F,K,h1,h2,rfl⟩:=upd2_form hp;obtain⟨f,k,h3,h4,rfl⟩:=sel2_form hg;show k (f (F (K (cst v)) t))=_;rw[sel_upd h1 h3];by_cases e1:j / 16=i / 16
 ·rw[if_pos e1,sel_upd h2 h4];by_cases e2:j % 16=i % 16
  ·rw[if_pos e2,if_pos (by omega)];rfl
  rw[if_neg e2,if_neg (by rintro rfl;exact e2 rfl)];rfl
 rw[if_neg e1,if_neg (by rintro rfl;exact e1 rfl)];rfl
theorem sel2_some {i:Nat}(h:i<256):∃ g:N16 (N16 α)→α,sel2 i=some g:=by
 obtain⟨f,hf⟩:=sel_some (α:=N16 α) (i:=i / 16) (by omega);obtain⟨k,hk⟩:=sel_some (α:=α) (i:=i % 16) (by omega);exact⟨get2 f k,by simp[sel2,hf,hk]⟩
theorem upd2_some {i:Nat}(h:i<256):∃ g:α→N16 (N16 α)→N16 (N16 α),upd2 i=some g:=by
 obtain⟨f,hf⟩:=upd_some (α:=N16 α) (i:=i / 16) (by omega);obtain⟨k,hk⟩:=upd_some (α:=α) (i:=i % 16) (by omega);exact⟨set2 f k,by simp[upd2,hf,hk]⟩
theorem sel2_all {i:Nat}{g:N16 (N16 α)→α} (h:sel2 i=some g) (x:α):g (N16.all (N16.all x))=x:=by
 obtain⟨f,k,h1,h2,rfl⟩:=sel2_form h;show k (f _)=x;rw[sel_all h1,sel_all h2]
theorem sel3_form {i:Nat}{g:N16 (N16 (N16 α))→α} (h:sel3 i=some g):∃ f k,sel (i / 256)=some f∧sel2 (i % 256)=some k∧g=get3 f k:=by
 unfold sel3 at h;cases h1:(sel (i / 256):Option (N16 (N16 (N16 α))→N16 (N16 α))) with
 | none=>simp[h1] at h
 | some f=>
  cases h2:(sel2 (i % 256):Option (N16 (N16 α)→α)) with
  | none=>simp[h1,h2] at h
  | some k=>exact⟨f,k,rfl,rfl,by simpa [h1,h2] using h.symm⟩
theorem upd3_form {i:Nat}{p:α→N16 (N16 (N16 α))→N16 (N16 (N16 α))} (h:upd3 i=some p):∃ f k,upd (i / 256)=some f∧upd2 (i % 256)=some k∧p=set3 f k:=by
 unfold upd3 at h;cases h1:(upd (i / 256):Option ((N16 (N16 α)→N16 (N16 α))→N16 (N16 (N16 α))→N16 (N16 (N16 α)))) with
 | none=>simp[h1] at h
 | some f=>
  cases h2:(upd2 (i % 256):Option (α→N16 (N16 α)→N16 (N16 α))) with
  | none=>simp[h1,h2] at h
  | some k=>exact⟨f,k,rfl,rfl,by simpa [h1,h2] using h.symm⟩
theorem sel3_upd3 {i j:Nat}{p:α→N16 (N16 (N16 α))→N16 (N16 (N16 α))}{g:N16 (N16 (N16 α))→α} (hp:upd3 i=some p) (hg:sel3 j=some g) (v:α) (t:N16 (N16 (N16 α))):g (p v t)=if j=i then v else g t:=by
 obtain⟨F,K,h1,h2,rfl⟩:=upd3_form hp;obtain⟨f,k,h3,h4,rfl⟩:=sel3_form hg;show k (f (F (K v) t))=_;rw[sel_upd h1 h3];by_cases e1:j / 256=i / 256
 ·rw[if_pos e1,sel2_upd2 h2 h4];by_cases e2:j % 256=i % 256
  ·rw[if_pos e2,if_pos (by omega)]
  rw[if_neg e2,if_neg (by rintro rfl;exact e2 rfl)];rfl
 rw[if_neg e1,if_neg (by rintro rfl;exact e1 rfl)];rfl
theorem sel3_some {i:Nat}(h:i<4096):∃ g:N16 (N16 (N16 α))→α,sel3 i=some g:=by
 obtain⟨f,hf⟩:=sel_some (α:=N16 (N16 α)) (i:=i / 256) (by omega);obtain⟨k,hk⟩:=sel2_some (α:=α) (i:=i % 256) (by omega);exact⟨get3 f k,by simp[sel3,hf,hk]⟩
theorem upd3_some {i:Nat}(h:i<4096):∃ g:α→N16 (N16 (N16 α))→N16 (N16 (N16 α)),upd3 i=some g:=by
 obtain⟨f,hf⟩:=upd_some (α:=N16 (N16 α)) (i:=i / 256) (by omega);obtain⟨k,hk⟩:=upd2_some (α:=α) (i:=i % 256) (by omega);exact⟨set3 f k,by simp[upd3,hf,hk]⟩
end
theorem AH.get_set {r:Nat}(hr:r<4096)(o:AO)(h:AH)(q:Nat):(h.set r o).get q=if q=r then some o else h.get q:=by
 obtain⟨n,t⟩:=h;obtain⟨p,hp⟩:=upd3_some (α:=Option AO) hr;simp only[AH.set,hp,AH.puts,AH.get];cases hg:(sel3 q:Option (N16 (N16 (N16 (Option AO)))→Option AO)) with
 | none=>
  have:q≠r:=by
   rintro rfl;obtain⟨g,hg'⟩:=sel3_some (α:=Option AO) hr;rw[hg] at hg';cases hg'
  simp[AH.got,this]
 | some g=>simp only[AH.got];exact sel3_upd3 hp hg (some o) t
theorem AH.set_n (r:Nat)(o:AO)(h:AH):(h.set r o).n=h.n:=by
 obtain⟨n,t⟩:=h;simp only[AH.set];cases upd3 r <;> rfl
theorem AH.new_eq (o:AO)(h:AH):h.new o=⟨h.n+1,((⟨h.n,h.t⟩:AH).set h.n o).t⟩:=by
 obtain⟨n,t⟩:=h;cases n with
 | zero=>
  show AH.puts 1 o t (upd3 0)=⟨0+1,(AH.puts 0 o t (upd3 0)).t⟩;cases (upd3 0:Option (Option AO→N16 (N16 (N16 (Option AO)))→N16 (N16 (N16 (Option AO))))) <;> rfl
 | succ n=>
  show AH.puts (n+2) o t (upd3 (n+1))=⟨n+1+1,(AH.puts (n+1) o t (upd3 (n+1))).t⟩;cases (upd3 (n+1):Option (Option AO→N16 (N16 (N16 (Option AO)))→N16 (N16 (N16 (Option AO))))) <;> rfl
theorem AH.new_n (o:AO)(h:AH):(h.new o).n=h.n+1:=by rw[AH.new_eq]
theorem AH.get_t (q:Nat)(h:AH)(n:Nat):(⟨n,h.t⟩:AH).get q=h.get q:=rfl
theorem AH.get_new {h:AH}(hn:h.n<4096)(o:AO)(q:Nat):(h.new o).get q=if q=h.n then some o else h.get q:=by
 rw[AH.new_eq,AH.get_t,AH.get_set hn]
theorem AA.get_form {i:Nat}{f:Acc} (h:slotF i=some f) (a:AA):f a=a.get i:=by simp[AA.get,h]
theorem putO_ok {d:Option Tmp}{p:Pt} (h:putO d=some p) {v:Value}{a a':AA} (hp:p v a=some a') :
  a'.n=a.n∧(∀ k,d=some k→k<a.n)∧∀ t,a'.get t=if d=some t then some v else a.get t:=by
 cases d with
 | none=>
  simp only[putO,Option.some.injEq] at h;subst h;simp only[ptNone,Option.some.injEq] at hp;subst hp;exact⟨rfl,(fun k hk=>by cases hk),fun t=>by simp⟩
 | some k=>
  simp only[putO] at h;cases hu:(upd2 k:Option (Option Value→N16 (N16 (Option Value))→N16 (N16 (Option Value)))) with
  | none=>simp[hu] at h
  | some u=>
   simp only[hu,Option.map_some,Option.some.injEq] at h;subst h;obtain⟨n,t⟩:=a;simp only[ptAt,AA.putF] at hp;cases hb:Nat.blt k n with
   | false=>simp[hb] at hp
   | true=>
    simp only[hb,cond_true,Option.some.injEq] at hp;subst hp;refine⟨rfl,fun k' hk'=>?_,fun q=>?_⟩
    ·cases hk';simpa [Nat.blt_eq] using hb
    show (slotF q).bind _=_;unfold AA.get slotF;cases hg:(sel2 q:Option (N16 (N16 (Option Value))→Option Value)) with
    | none=>
     have hne:k≠q:=by
      rintro rfl;obtain⟨F,K,h1,h2,-⟩:=upd2_form hu;have:=upd_lt h1;obtain⟨g,hg'⟩:=sel2_some (α:=Option Value) (i:=k) (by omega);rw[hg] at hg';cases hg'
     simp[hne]
    | some g=>
     simp only[Option.map_some,Option.bind_some,AA.getF,Option.some.injEq];rw[sel2_upd2 hu hg];by_cases e:q=k
     ·simp[e]
     rw[if_neg e,if_neg (by rintro rfl;exact e rfl)]
theorem AA.putAt_ok {v:Value}{d:Nat}{a a':AA} (h:a.putAt v d=some a'):a'.n=a.n∧d<a.n∧∀ t,a'.get t=if t=d then some v else a.get t:=by
 unfold AA.putAt at h;cases hu:(upd2 d:Option (Option Value→N16 (N16 (Option Value))→N16 (N16 (Option Value)))) with
 | none=>simp[hu] at h
 | some u=>
  have hp:putO (some d)=some (ptAt d u):=by simp[putO,hu]
  obtain⟨h1,h2,h3⟩:=putO_ok hp (v:=v) (a:=a) (a':=a') (by simpa [hu,ptAt] using h);refine⟨h1,h2 d rfl,fun t=>?_⟩;rw[h3 t];simp[eq_comm]
theorem AA.nil_get (n t:Nat):(AA.nil n).get t=none:=by
 unfold AA.get slotF AA.nil;cases hg:(sel2 t:Option (N16 (N16 (Option Value))→Option Value)) with
 | none=>simp
 | some g=>
  simp only[Option.map_some,Option.bind_some,AA.getF];exact sel2_all hg none
theorem putAll_ok:∀ (l:LV)(i:Nat)(a a':AA),putAll l i a=some a'→a'.n=a.n∧(l=[]∨i+l.length≤a.n)∧∀ t,a'.get t=if i≤t∧t<i+l.length then l[t-i]? else a.get t:=by
 intro l;induction l with
 | nil=>
  intro i a a' h;simp only[putAll,Option.some.injEq] at h;subst h;exact⟨rfl,.inl rfl,fun t=>by rw[if_neg (by simp)]⟩
 | cons v l ih=>
  intro i a a' h;simp only[putAll] at h;cases h1:a.putAt v i with
  | none=>simp[h1] at h
  | some b=>
   simp only[h1,Option.bind_some] at h;obtain⟨n1,l1,g1⟩:=AA.putAt_ok h1;obtain⟨n2,l2,g2⟩:=ih (i+1) b a' h;refine⟨n2.trans n1,.inr ?_,fun t=>?_⟩
   ·rcases l2 with rfl | l2
    ·simp;omega
    simp only[List.length_cons];omega
   rw[g2 t];simp only[List.length_cons];by_cases c1:i+1≤t∧t<i+1+l.length
   ·rw[if_pos c1,if_pos (by omega)];obtain⟨k,hk⟩:∃ k,t-i=k+1:=⟨t-i-1,by omega⟩;rw[hk,show t-(i+1)=k by omega];simp
   rw[if_neg c1,g1 t];by_cases c2:t=i
   ·subst c2;rw[if_pos rfl,if_pos (by omega)];simp
   rw[if_neg c2,if_neg (by omega)]
end Go.Proofs.YtmolfmgchbjnbaaGreatDoor.Ev
