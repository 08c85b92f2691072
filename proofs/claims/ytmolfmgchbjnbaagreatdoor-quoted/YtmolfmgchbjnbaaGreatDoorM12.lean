import Derived.Test.YtmolfmgchbjnbaaGreatDoorM11
set_option linter.unusedSimpArgs false
set_option linter.unusedVariables false
set_option linter.unusedSectionVars false
set_option maxRecDepth 100000
set_option maxHeartbeats 40000000
open _root_.Go.Proofs.Tryz
namespace Go.Proofs.YtmolfmgchbjnbaaGreatDoor
open Go.RowKit
open Wire Flow
def envP (m:Mo):Mach.Env:=⟨m,fun _ _=>(-1,0),fun _ _ _=>Mach.none0,fun _ _=>[],itoaB,fun n=>n⟩
theorem itoa_apart:∀ i<31,∀ j<31,Lib.itoa ((i:Nat):Int)=Lib.itoa ((j:Nat):Int)→i=j:=by
 decide +kernel
theorem smE_of {m:Mo}(h:∀ s ∈ m.texts,s.size≤100):Mach.SmE (envP m) where
 texts:=h
 fnd:=fun t x hx=>by
  show (-1:Int)≤-1∧(-1:Int)≤100∧(0:Int)≤0∧(0:Int)≤100
  omega
 spl:=fun t x hx s hs=>by cases hs
 itoa:=fun n h0 h1=>by
  have:=Lib.itoa_length_le n (by omega) (by omega)
  show (Lib.itoa n).toArray.size≤100
  simp
  omega
 inj:=fun i j hi hj h=>by
  have h:itoaB (i:Int)=itoaB (j:Int):=h
  unfold itoaB at h
  refine itoa_apart i (by omega) j (by omega) ?_
  simpa using h
 wr:=fun n _ _=>rfl
theorem goE_of {m:Mo}(ho:∀ (f:Nat) (L:List Stp),f<m.fns.length→Reads m f (Mach.locsOf m f) (Mach.codeOf m f) L→∀ s ∈ L,opB s.op=true)(ht:∀ s ∈ m.texts,s.size≤100)(h1:m.texts.length≤2000000000)(h2:m.globs.toNat≤2000000000)(h3:m.pats.length≤2000000000)(h4:m.arrs.toNat≤1000)(h5:∀ f,f<m.fns.length→Mach.locsOf m f≤16)(hM:Mach.ModOk m):GoE (envP m) where
 env:=⟨rfl,fun _ _ _=>rfl⟩
 sm:=smE_of ht
 lim:=⟨ho,h1,h2,h3,h4,h5,fun t x hx=>Nat.zero_le _⟩
 mod:=hM
theorem clone_any (s:BA)(w:WL)(hs:s.size≤4096):Calls prog 58 #[.string s] w fun e w'=>e=.returned (.string s)∧Fr [] w w':=by
 have hc:=stringslite_Clone s w (by omega);go_enter func58,ntmps58;go_wp2_with fail;refine hc.mono ?_;rintro e w1 ⟨rfl,lo⟩;go_wp2;go_ret;exact⟨rfl,Fr.of_below lo⟩
end Go.Proofs.YtmolfmgchbjnbaaGreatDoor
