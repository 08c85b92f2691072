/-
  Texts Ss.
-/
import Derived.Shelf.Strings.OnBuilder
import Derived.Shelf.Strings.Trim
import Derived.Shelf.Small.Wraps
import Derived.Shelf.Strings.BuilderK
import Derived.Shelf.Strconv.Itoa3
import Derived.Shelf.Strconv.Clone
import Derived.Shelf.Strings.Shaped
import Derived.Shelf.Unicode.Decode
import Derived.Shelf.Strings.Runes
import Derived.Shelf.Strings.AsciiSet
import Derived.Shelf.Strings.Repeat
import Derived.Shelf.Strings.FieldsFuncGrows
import Derived.Shelf.Slices.Turned
import Derived.Shelf.Slices.Clone
import Derived.Shelf.Slices.Cells
import Derived.Shelf.Slices.Empties
import Derived.Test.YtlokkgajpjafmaaGreatDoorProg
import Derived.Test.YtlokkgajpjafmaaGreatDoorMA
set_option linter.unusedSimpArgs false
set_option linter.unusedVariables false
open _root_.Go.Proofs.Tryz
namespace Go.Proofs
open Go.Shelf
def uP:Go.Shelf.Ren:=⟨fun | 169=>165 | n=>n,fun | 70=>227 | 9=>9 | 0=>0 | 72=>229 | 37=>60 | 127=>166 | 3=>3 | 5=>5 | n=>n,fun | n=>n⟩
theorem aTg:Go.Proofs.Lays.n169 prog uP:=by constructor <;> first | (intros;kernel_rfl) | (constructor <;> first | (intros;kernel_rfl) | decide) | decide
theorem tE:Builder.Extra prog uP:=by constructor <;> first | (intros;kernel_rfl) | (constructor <;> first | (intros;kernel_rfl) | decide) | decide
def uQ:Go.Shelf.Ren:=⟨fun | 156=>135 | 165=>167 | 166=>163 | 169=>165 | 240=>184 | 241=>189 | 276=>214 | 277=>217 | n=>n,fun | 31=>22 | 9=>9 | 3=>3 | 4=>4 | 0=>0 | 20=>20 | 72=>229 | 76=>232 | 70=>227 | 37=>60 | 75=>231 | 127=>166 | 164=>263 | 5=>5 | 80=>153 | n=>n,fun | n=>n⟩
theorem aTj:Go.Proofs.Lays.n156 prog uQ:=by constructor <;> first | (intros;kernel_rfl) | (constructor <;> first | (intros;kernel_rfl) | decide) | decide
theorem tH:Builder.Extra prog uQ:=by constructor <;> first | (intros;kernel_rfl) | (constructor <;> first | (intros;kernel_rfl) | decide) | decide
open Go.RowKit in
theorem strings_Join (bk o c:Nat)(xs:List ByteArray)(sep:ByteArray)(w:World)(hcells:∀ (j:Nat) x,xs[j]?=some x→w.cell? ⟨bk,o+j,none⟩=some (.string x))(hbk:bk<w.heap.size)(hN:xs.length≤140737488355328)(hcap:xs.length≤c)(hlen:(Lib.join (xs.map (·.data.toList)) sep.data.toList).length≤140737488355328) :
  Calls prog 135 #[.slice (some ⟨bk,o,none⟩) xs.length c,.string sep] w fun e w'=>e=.returned (.string ⟨(Lib.join (xs.map (·.data.toList)) sep.data.toList).toArray⟩)∧Below w.heap.size w w':=Any.strings_Join aTj tH bk o c xs sep w hcells hbk hN hcap hlen
def aBo:Go.Shelf.Ren:=⟨fun | 161=>177 | 231=>203 | 227=>205 | 233=>206 | 235=>208 | 228=>225 | 197=>226 | 151=>218 | 260=>237 | 152=>232 | 137=>244 | 119=>245 | 224=>187 | 225=>186 | 217=>185 | 266=>215 | n=>n,fun | 9=>9 | 4=>4 | 3=>3 | 5=>5 | 117=>258 | 116=>257 | 0=>0 | 124=>261 | 105=>279 | 21=>21 | 119=>294 | 46=>109 | 139=>297 | 138=>296 | n=>n,fun | 3=>3 | 4=>4 | n=>n⟩
theorem aTh:Go.Proofs.Lays.n161 prog aBo:=by constructor <;> first | (intros;kernel_rfl) | (constructor <;> first | (intros;kernel_rfl) | decide) | decide
def aBp:Go.Shelf.Ren:=⟨fun | 160=>176 | 232=>204 | 231=>203 | 227=>205 | 234=>207 | 233=>206 | 236=>209 | 235=>208 | 228=>225 | 271=>227 | 151=>218 | 197=>226 | 120=>238 | 152=>232 | 260=>237 | 137=>244 | 119=>245 | 224=>187 | 225=>186 | 217=>185 | 266=>215 | n=>n,fun | 9=>9 | 4=>4 | 3=>3 | 5=>5 | 117=>258 | 116=>257 | 0=>0 | 124=>261 | 21=>21 | 105=>279 | 46=>109 | 119=>294 | 139=>297 | 138=>296 | n=>n,fun | 3=>3 | 4=>4 | n=>n⟩
theorem aTi:Go.Proofs.Lays.n160 prog aBp:=by constructor <;> first | (intros;kernel_rfl) | (constructor <;> first | (intros;kernel_rfl) | decide) | decide
def aBu:Go.Shelf.Ren:=⟨fun | 119=>245 | n=>n,fun | 21=>21 | 4=>4 | n=>n,fun | n=>n⟩
theorem aTo:Go.Proofs.Lays.n119 prog aBu:=by constructor <;> first | (intros;kernel_rfl) | (constructor <;> first | (intros;kernel_rfl) | decide) | decide
theorem utf8_ValidRune (r:Int)(w:World) :
  Calls prog 245 #[.int .i32 r] w fun e w'=>e=.returned (.bool (Lib.validRune r))∧w'=w:=Any.utf8_ValidRune aTo r w
def aBw:Go.Shelf.Ren:=⟨fun | 106=>161 | 213=>180 | 265=>212 | n=>n,fun | 9=>9 | 3=>3 | n=>n,fun | n=>n⟩
theorem aTq:Go.Proofs.Lays.n106 prog aBw:=by constructor <;> first | (intros;kernel_rfl) | (constructor <;> first | (intros;kernel_rfl) | decide) | decide
open Go.RowKit in
theorem strings_Compare (a b:ByteArray)(w:World) :
  Calls prog 161 #[.string a,.string b] w fun e w'=>e=.returned (.int .i64 (Lib.compareBytes a.data.toList b.data.toList))∧w'=w:=Any.strings_Compare aTq a b w
def aBs:Go.Shelf.Ren:=⟨fun | 137=>244 | 217=>185 | 266=>215 | n=>n,fun | 9=>9 | 5=>5 | 3=>3 | n=>n,fun | n=>n⟩
theorem aTm:Go.Proofs.Lays.n137 prog aBs:=by constructor <;> first | (intros;kernel_rfl) | (constructor <;> first | (intros;kernel_rfl) | decide) | decide
open Go.RowKit in
theorem strings_IndexByte (s:ByteArray)(c:Int)(w:World) :
  Calls prog 244 #[.string s,.int .u8 c] w fun e w'=>e=.returned (.int .i64 (Lib.indexByte s.data.toList c.toNat.toUInt8))∧w'=w:=Any.strings_IndexByte aTm s c w
def aBt:Go.Shelf.Ren:=⟨fun | 122=>150 | 215=>175 | n=>n,fun | 3=>3 | 4=>4 | n=>n,fun | n=>n⟩
theorem aTn:Go.Proofs.Lays.n122 prog aBt:=by constructor <;> first | (intros;kernel_rfl) | (constructor <;> first | (intros;kernel_rfl) | decide) | decide
open Go.RowKit in
theorem cmp_Compare_int (x y:Int)(w:World) :
  Calls prog 150 #[.int .i64 x,.int .i64 y] w fun e w'=>e=.returned (.int .i64 (Lib.compareInt x y))∧w'=w:=Any.cmp_Compare_int aTn x y w
open Go.RowKit in
theorem Builder_String_any_k (B b:Nat)(l:List UInt8)(w:World)(h:Lib.IsBuilderF 229 5 B b (Lib.byteCells l) w)(hBw:B≤w.heap.size) :
  Calls prog 165 #[.pointer (some ⟨b,0,none⟩)] w fun e w'=>e=.returned (.string ⟨l.toArray⟩)∧(Lib.IsBuilderF 229 5 B b (Lib.byteCells l) w'∧Below B w w'∧Lib.OthersKept 5 (some b) w w'):=Any.Builder_String_any_k aTg tE B b l w h hBw
def O9:Go.Shelf.Ren:=⟨fun | 171=>160 | 243=>179 | 246=>211 | 283=>228 | 284=>229 | 285=>230 | 286=>231 | 129=>240 | 317=>239 | 318=>241 | 319=>242 | 320=>243 | 337=>246 | 338=>221 | n=>n,fun | 3=>3 | 9=>9 | 2=>2 | 4=>4 | 171=>281 | 0=>0 | 53=>115 | 37=>60 | 5=>5 | 173=>283 | 212=>291 | 51=>108 | 20=>20 | 213=>292 | 46=>109 | 232=>299 | 233=>289 | n=>n,fun | 17=>2 | 18=>5 | 19=>1 | n=>n⟩
theorem aOy:Go.Proofs.LaysM.n171 prog O9:=by constructor <;> first | (intros;kernel_rfl) | (constructor <;> first | (intros;kernel_rfl) | decide) | decide
def O8:Go.Shelf.Ren:=⟨fun | 316=>57 | n=>n,fun | 9=>9 | 3=>3 | 4=>4 | 37=>60 | 0=>0 | 127=>166 | 5=>5 | n=>n,fun | n=>n⟩
theorem aOx:Go.Proofs.LaysM.n316 prog O8:=by constructor <;> first | (intros;kernel_rfl) | (constructor <;> first | (intros;kernel_rfl) | decide) | decide
open Go.RowKit in
theorem stringslite_Clone (s:ByteArray)(w:World)(hlim:s.size≤281474976710656) :
  Calls prog 57 #[.string s] w fun e w'=>e=.returned (.string s)∧Below w.heap.size w w':=Any.stringslite_Clone aOx s w hlim
def aBr:Go.Shelf.Ren:=⟨fun | 143=>133 | 219=>166 | 217=>185 | 225=>186 | 224=>187 | 267=>188 | 266=>215 | 314=>216 | n=>n,fun | 9=>9 | 3=>3 | 4=>4 | 5=>5 | 46=>109 | 146=>265 | 51=>108 | n=>n,fun | 1=>0 | n=>n⟩
theorem aTl:Go.Proofs.Lays.n143 prog aBr:=by constructor <;> first | (intros;kernel_rfl) | (constructor <;> first | (intros;kernel_rfl) | decide) | decide
open Go.RowKit Go.Lib in
theorem strings_Index (s sub:ByteArray)(m:Int)(w:World)(hs:s.size<4294967281)(hm:w.cell? ⟨0,0,none⟩=some (.int .i64 m)) :
  Calls prog 133 #[.string s,.string sub] w fun e w'=>e=.returned (.int .i64 (Lib.index s.data.toList sub.data.toList))∧w'=w:=Any.strings_Index aTl s sub m w hs hm
def aFa:Go.Shelf.Ren:=⟨fun | 99=>178 | 206=>210 | n=>n,fun | 9=>9 | 4=>4 | 3=>3 | n=>n,fun | n=>n⟩
theorem aWy:Go.Proofs.Lays.n99 prog aFa:=by constructor <;> first | (intros;kernel_rfl) | (constructor <;> first | (intros;kernel_rfl) | decide) | decide
open Go.RowKit Go.Lib in
theorem strings_HasPrefix (s p:ByteArray)(w:World) :
  Calls prog 178 #[.string s,.string p] w fun e w'=>e=.returned (.bool (Lib.hasPrefix s.data.toList p.data.toList))∧w'=w:=Any.strings_HasPrefix aWy s p w
def aBq:Go.Shelf.Ren:=⟨fun | 151=>218 | 152=>232 | 137=>244 | 119=>245 | 224=>187 | 225=>186 | 217=>185 | 266=>215 | n=>n,fun | 9=>9 | 21=>21 | 4=>4 | 3=>3 | 5=>5 | 0=>0 | 46=>109 | n=>n,fun | n=>n⟩
theorem aTk:Go.Proofs.Lays.n151 prog aBq:=by constructor <;> first | (intros;kernel_rfl) | (constructor <;> first | (intros;kernel_rfl) | decide) | decide
open Go.RowKit Go.Lib in
theorem strings_ContainsRune_ascii (s:ByteArray)(r:Int)(w:World)(h0:0≤r)(h1:r<128) :
  Calls prog 218 #[.string s,.int .i32 r] w fun e w'=>e=.returned (.bool (decide (0≤Lib.indexByte s.data.toList r.toNat.toUInt8)))∧w'=w:=Any.strings_ContainsRune_ascii aTk s r w h0 h1
def uR:Go.Shelf.Ren:=⟨fun | 105=>195 | 212=>219 | 99=>178 | 165=>167 | 166=>163 | 170=>220 | 169=>165 | 263=>233 | 264=>234 | 206=>210 | 240=>184 | 241=>189 | 276=>214 | 277=>217 | n=>n,fun | 9=>9 | 3=>3 | 4=>4 | 20=>20 | 0=>0 | 46=>109 | 109=>273 | 5=>5 | 72=>229 | 76=>232 | 51=>108 | 146=>265 | 53=>115 | 148=>287 | 70=>227 | 37=>60 | 75=>231 | 127=>166 | 164=>263 | 80=>153 | n=>n,fun | n=>n⟩
theorem aTr:Go.Proofs.Lays.n105 prog uR:=by constructor <;> first | (intros;kernel_rfl) | (constructor <;> first | (intros;kernel_rfl) | decide) | decide
theorem tI:Builder.Extra prog uR:=by constructor <;> first | (intros;kernel_rfl) | (constructor <;> first | (intros;kernel_rfl) | decide) | decide
open Go.RowKit Go.Lib in
theorem strings_Repeat (s:ByteArray)(c:Nat)(w:World)(hc:c≤9223372036854775807)(hlen:s.size*c≤140737488355328) :
  Calls prog 195 #[.string s,.int .i64 c] w fun e w'=>e=.returned (.string ⟨(Lib.repeatL s.data.toList c).toArray⟩)∧Below w.heap.size w w':=Any.strings_Repeat aTr tI s c w hc hlen
def aBn:Go.Shelf.Ren:=⟨fun | 229=>190 | n=>n,fun | 9=>9 | 40=>247 | 31=>22 | 152=>268 | 3=>3 | 0=>0 | 4=>4 | 21=>21 | 154=>270 | n=>n,fun | n=>n⟩
theorem aTf:Go.Proofs.Lays.n229 prog aBn:=by constructor <;> first | (intros;kernel_rfl) | (constructor <;> first | (intros;kernel_rfl) | decide) | decide
open Go.RowKit Go.Lib in
theorem strings_FieldsFunc_grows (g:Nat)(lb:Array Value)(eg:∀ args w,(callFunc g args).run prog w=.ok (.enter g args) w)(p:Nat→Bool)(s:ByteArray)(w:World)(hs:s.size≤4294967296)(hp:PredGrows prog g lb p w) :
  Calls prog 190 #[.string s,.func (.func g) #[] lb] w fun e w'=>∃ A,e=.returned (.slice (some ⟨A,0,none⟩) (Lib.goFieldsP p s).length (Lib.goFieldsP p s).length)∧w.heap.size≤A ∧
   w'.ownsRow w.heap.size 9 1 (.slice (some ⟨A,0,none⟩) (Lib.goFieldsP p s).length (Lib.goFieldsP p s).length) (Lib.goFieldsP p s).length ((Lib.goFieldsP p s).map Value.string)∧Below w.heap.size w w':=Any.strings_FieldsFunc_grows aTf g lb eg p s w hs hp (by kernel_rfl) (by kernel_rfl)
def aBv:Go.Shelf.Ren:=⟨fun | 109=>156 | n=>n,fun | 31=>22 | 9=>9 | 3=>3 | 0=>0 | 4=>4 | n=>n,fun | n=>n⟩
theorem aTp:Go.Proofs.Lays.n109 prog aBv:=by constructor <;> first | (intros;kernel_rfl) | (constructor <;> first | (intros;kernel_rfl) | decide) | decide
open Go.Lib in
theorem slices_Index_string (b off n c:Nat)(zs:List ByteArray)(x:ByteArray)(w:World)(hz:n≤zs.length)(hbig:n≤9223372036854775807)(hc:∀ j,j<zs.length→w.cell? ⟨b,off+j,none⟩=some (.string (zs.getD j ByteArray.empty))) :
  Calls prog 156 #[.slice (some ⟨b,off,none⟩) n c,.string x] w fun e w'=>e=.returned (.int .i64 (Lib.idxOfS (zs.take n) x))∧w'=w:=Any.slices_Index_string aTp b off n c zs x w hz hbig hc
def f7:Go.Shelf.Ren:=⟨fun | 15=>34 | n=>n,fun | 22=>26 | 3=>3 | 4=>4 | n=>n,fun | n=>n⟩
theorem tR:Go.Proofs.Lays2.n15 prog f7:=by constructor <;> first | (intros;kernel_rfl) | (constructor <;> first | (intros;kernel_rfl) | decide) | decide
open Go.RowKit Go.Lib in
theorem slices_Clone_int (b off n c:Nat)(zs:List Int)(w:World)(hz:n≤zs.length)(hbig:n*8≤140737488355328)(hc:∀ j,j<zs.length→w.cell? ⟨b,off+j,none⟩=some (.int .i64 (zs.getD j 0))) :
  Calls prog 34 #[.slice (some ⟨b,off,none⟩) n c] w fun e w'=>∃ v',e=.returned v'∧w'.ownsRow w.heap.size 3 1 v' n ((zs.take n).map (Value.int .i64))∧v'≠.slice none 0 0∧Below w.heap.size w w':=Any.slices_Clone_int tR b off n c zs w hz hbig hc
open Go.RowKit Go.Lib in
theorem slices_Clone_int_nil (n c:Nat)(w:World) :
  Calls prog 34 #[.slice none n c] w fun e w'=>e=.returned (.slice none 0 0)∧w'=w:=Any.slices_Clone_int_nil tR n c w
def d6:Go.Shelf.Ren:=⟨fun | 16=>103 | n=>n,fun | 24=>22 | 9=>9 | 4=>4 | n=>n,fun | n=>n⟩
theorem B5:Go.Proofs.Lays2.n16 prog d6:=by constructor <;> first | (intros;kernel_rfl) | (constructor <;> first | (intros;kernel_rfl) | decide) | decide
open Go.RowKit Go.Lib in
theorem slices_Clone_string (b off n c:Nat)(zs:List ByteArray)(w:World)(hz:n≤zs.length)(hbig:n*16≤140737488355328)(hc:∀ j,j<zs.length→w.cell? ⟨b,off+j,none⟩=some (.string (zs.getD j ByteArray.empty))) :
  Calls prog 103 #[.slice (some ⟨b,off,none⟩) n c] w fun e w'=>∃ v',e=.returned v'∧w'.ownsRow w.heap.size 9 1 v' n ((zs.take n).map (Value.string))∧v'≠.slice none 0 0∧Below w.heap.size w w':=Any.slices_Clone_string B5 b off n c zs w hz hbig hc
open Go.RowKit Go.Lib in
theorem slices_Clone_string_nil (n c:Nat)(w:World) :
  Calls prog 103 #[.slice none n c] w fun e w'=>e=.returned (.slice none 0 0)∧w'=w:=Any.slices_Clone_string_nil B5 n c w
open Go.RowKit Go.Lib in
theorem slices_Clone_int_zero (a:Addr)(c:Nat)(w:World) :
  Calls prog 34 #[.slice (some a) 0 c] w fun e w'=>∃ v',e=.returned v'∧w'.ownsRow w.heap.size 3 1 v' 0 []∧v'≠.slice none 0 0∧Below w.heap.size w w':=Any.slices_Clone_int_zero tR a c w
def d5:Go.Shelf.Ren:=⟨fun | 24=>157 | n=>n,fun | 24=>22 | 9=>9 | 3=>3 | 4=>4 | 0=>0 | n=>n,fun | n=>n⟩
theorem aKj:Go.Proofs.Lays2.n24 prog d5:=by constructor <;> first | (intros;kernel_rfl) | (constructor <;> first | (intros;kernel_rfl) | decide) | decide
open Go.RowKit Go.Lib Go.Sort in
theorem slices_Delete_string_cells (b off n c i j:Nat)(Sx:Nat→ByteArray)(w:World)(hcap:n≤c)(hm:c≤9223372036854775807)(hij:i≤j)(hj:j≤n)(hc:∀ i,i<n→w.cell? ⟨b,off+i,none⟩=some (.string (Sx i)))(hf:∀ j,j<n→w.frozen? ⟨b,off+j,none⟩=false) :
  Calls prog 157 #[.slice (some ⟨b,off,none⟩) n c,.int .i64 i,.int .i64 j] w fun e w'=>e=.returned (.slice (some ⟨b,off,none⟩) (n-(j-i)) c)∧∃ q,w'=(w.drewN q).setCells b off (((Lib.strsOf Sx n).take i++(Lib.strsOf Sx n).drop j++List.replicate (j-i) []).map encStr):=Any.slices_Delete_string_cells aKj b off n c i j Sx w hcap hm hij hj hc hf
end Go.Proofs
