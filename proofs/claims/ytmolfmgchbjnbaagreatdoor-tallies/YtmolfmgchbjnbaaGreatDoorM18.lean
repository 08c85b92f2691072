import Derived.Test.YtmolfmgchbjnbaaGreatDoorRows
import Derived.Lib.LaidTab
import Derived.Lib.ItoaNum
import Derived.Test.YtmolfmgchbjnbaaGreatDoorM17
import Derived.Test.YtmolfmgchbjnbaaGreatDoorM16
set_option linter.unusedSimpArgs false
set_option linter.unusedVariables false
namespace Go.Proofs.YtmolfmgchbjnbaaGreatDoor.Ev
open Go
def sgnName : String := Rows.echoRow.named.getD 1 ""
theorem sgnLaid : (Rows.echoRow.laid.filter fun x => x.1 == sgnName) = [(sgnName, .slice (signs.map fun s => .lit (.string s.data.toList)) [])] := by kernel_rfl
theorem sgnGlob : Tryz.prog.globalNamed sgnName = some 1 := by kernel_rfl
theorem sgnType : (Tryz.prog.globals[1]?).map (·.type) = some 238 := by kernel_rfl
theorem sgnSlice : Tryz.prog.underlying 238 = some (.slice 85) := by kernel_rfl
theorem sgnElem : Tryz.prog.underlying 85 = some .string := by kernel_rfl
theorem sgnCells : Tryz.prog.cellsOf 85 = 1 := by kernel_rfl
theorem sgn_of_laid {w : World} (h0 : ∀ j s, w.cell? ⟨0, j, none⟩ ≠ some (.string s)) (h : laidMetH Tryz.prog Rows.echoRow.laid w) : TabS signs w := by
 have h1 := laidMetH.filter (fun x => x.1 == sgnName) h
 rw [sgnLaid] at h1
 exact tabS_of_laid sgnGlob sgnType sgnSlice sgnCells sgnElem (by decide) h0 h1
theorem entered58 : ∃ fn, entered Tryz.prog 58 = some fn := by
 have h : (entered Tryz.prog 58).isSome = true := by kernel_rfl
 exact Option.isSome_iff_exists.1 h
def pwName : String := Rows.echoRow.named.getD 4 ""
theorem pwLaid : (Rows.echoRow.laid.filter fun x => x.1 == pwName) = [(pwName, Lib.tabData .u64 Lib.pow10Tab)] := by kernel_rfl
theorem pwGlob : Tryz.prog.globalNamed pwName = some 0 := by kernel_rfl
theorem pwType : (Tryz.prog.globals[0]?).map (·.type) = some 233 := by kernel_rfl
theorem pwCells : Tryz.prog.cellsOf 233 = 20 := by kernel_rfl
theorem pwArr : Tryz.prog.underlying 233 = some (.array 20 156) := by kernel_rfl
theorem pwElem : Tryz.prog.underlying 156 = some (.int .u64) := by kernel_rfl
theorem pw_tab {w : World} (h : laidMetH Tryz.prog Rows.echoRow.laid w) : Lib.TabIs Tryz.prog w pwName .u64 Lib.pow10Tab := by
 have h1 := laidMetH.filter (fun x => x.1 == pwName) h
 rw [pwLaid] at h1
 exact Lib.tabIs_of_head (rest := []) (e := 156) pwGlob pwType pwArr pwElem (by kernel_rfl) pwCells h1
theorem sgn_tab {w : World} (h : laidMetH Tryz.prog Rows.echoRow.laid w) : TabS signs w := by
 refine sgn_of_laid (fun j s e => ?_) h
 have ht := pw_tab h
 unfold Lib.TabIs at ht
 rw [World.var?_cell pwGlob ht j] at e
 simp at e
end Go.Proofs.YtmolfmgchbjnbaaGreatDoor.Ev
