
/- The order of images: contracts. -/
import Derived.Test.YtcnjcldfbidkmaaImMath
import Derived.Test.YtcnjcldfbidkmaaShelfS
import Derived.Test.YtcnjcldfbidkmaaApp
namespace Go.Proofs.Ytcnjcldfbidkmaa
open Go.RowKit Go.Sort Go.Lib
set_option linter.unusedVariables false
set_option linter.unusedSimpArgs false
def cfI (x y : ImgV) : Int := orL [cI x.last y.last, cI y.size x.size, cS x.name y.name]
theorem cfI_eq : cfI = fun x y => orZ (cI x.last y.last) (orZ (cI y.size x.size) (cS x.name y.name)) := by
  funext x y
  show orZ _ (orZ _ (orZ _ 0)) = _
  congr 2
  unfold orZ
  split <;> simp_all
theorem ord_cfI : Ord3 cfI := cfI_eq ▸ (ordI ImgV.last).or ((ordIr ImgV.size).or (ordS ImgV.name))
theorem swo_cfI : Go.Sort.SWO (ltOf cfI) := ord_cfI.swo
theorem cfI_zero {x y : ImgV} (h : cfI x y = 0) : x.name.toList = y.name.toList ∧ x.size = y.size ∧ x.last = y.last := by
  rw [cfI_eq] at h
  simp only [orZ] at h
  by_cases h1 : cI x.last y.last = 0
  · by_cases h2 : cI y.size x.size = 0
    · rw [h1] at h; simp only [beq_self_eq_true, if_true] at h
      rw [h2] at h; simp only [beq_self_eq_true, if_true] at h
      exact ⟨cS_zero.1 h, (cI_zero.1 h2).symm, cI_zero.1 h1⟩
    · rw [h1] at h; simp only [beq_self_eq_true, if_true] at h
      rw [if_neg (by simpa using h2)] at h; exact absurd h h2
  · rw [if_neg (by simpa using h1)] at h; exact absurd h h1
theorem img_ext {x y : ImgV} (h1 : x.name.toList = y.name.toList) (h2 : x.size = y.size) (h3 : x.last = y.last) : x = y := by
  cases x; cases y
  simp only at h1 h2 h3
  rw [str_extG h1, h2, h3]
theorem tied_cfI (L : List ImgV) : Tied (ltOf cfI) L := fun x _ y _ h1 h2 => by
  obtain ⟨e1, e2, e3⟩ := cfI_zero (ord_cfI.tie h1 h2)
  exact img_ext e1 e2 e3
def ImgV.v (x : ImgV) : Value := .agg #[.string x.name, .int .i64 x.size, .int .i64 x.last]
theorem cI_inI (a b : Int) : InI (cI a b) := by unfold cI InI; omega
theorem cS_inI (a b : ByteArray) : InI (cS a b) := by unfold cS InI; split <;> (try split) <;> omega
end Go.Proofs.Ytcnjcldfbidkmaa
