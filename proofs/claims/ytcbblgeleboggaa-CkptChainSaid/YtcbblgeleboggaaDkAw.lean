
/- Stage 10: awake: contract. -/
import Derived.Test.YtcbblgeleboggaaDkL
import Derived.Lib.SlBytesConst
namespace Go.Proofs.Ytcbblgeleboggaa
open Go.RowKit Go.Sort Go.Maps Go.WideMaps
set_option linter.unusedVariables false
set_option linter.unusedSimpArgs false
theorem doW_len (d : DiskV) (o : MOp) : (doW d o).done.length ≤ d.done.length + 1 := by unfold doW; split; simp; omega
theorem doW_cap (d : DiskV) (o : MOp) : (doW d o).cap = d.cap := by unfold doW; split <;> rfl
theorem doW_files (d : DiskV) (o : MOp) : (doW d o).files = d.files := by unfold doW; split <;> rfl
def aM1 : MOp := ⟨1, ⟨#[97]⟩, ⟨#[]⟩, [120, 121, 122]⟩
def aM2 : MOp := ⟨9, ⟨#[97]⟩, ⟨#[]⟩, []⟩
def aD1 : DiskV := doW ⟨[], [], 0⟩ aM1
def aD2 : DiskV := doW aD1 aM2
def aD3 : DiskV := crashW aD2 [2]
theorem a_E1 : doE aM1 = 0 := by decide +kernel
theorem a_E2 : doE aM2 = 1 := by decide +kernel
theorem a_len1 : aD1.cap + aD1.done.length ≤ 100000 := by decide +kernel
theorem a_len2 : aD2.cap + aD2.done.length ≤ 100000 := by decide +kernel
theorem a_len3 : aD3.cap + aD3.done.length ≤ 100000 := by decide +kernel
theorem a_done2 : aD2.done.length = 1 := by decide +kernel
theorem a_done3 : aD3.done.length = 0 := by decide +kernel
theorem a_look3 : aD3.look.length = 1 := by decide +kernel
theorem a_get3 : getF aD3.look ⟨#[97]⟩ = some [120] := by decide +kernel
theorem a_non3 : getF aD3.look ⟨#[98]⟩ = none := by decide +kernel
theorem a_srt3 : SortedF aD3.files := sorted_crash (show SortedF aD2.files by unfold aD2 aD1; rw [doW_files, doW_files]; exact List.Pairwise.nil) _ _
theorem a_str : ((strOfNums [120]).toList == [120]) = true := by decide +kernel
end Go.Proofs.Ytcbblgeleboggaa
