
/- bilgeref23.Bars, bilgeref23.Decide: contracts. -/
import Derived.Test.YtbifmmdiekodjaaAdm2
namespace Go.Proofs.Ytbifmmdiekodjaa
open Go.RowKit
set_option linter.unusedVariables false
set_option linter.unusedSimpArgs false
def barS (O : On) (p : PodV) : Nat → Bool
  | 0 => O.a && barsB 0 p
  | 1 => O.b && barsB 1 p
  | _ => O.c && barsB 2 p
theorem barS_none {O : On} {p : PodV} (h : ∀ j, j < 3 → barS O p j = false) : barredF O p = none := by
  have h0 : (O.a && barsB 0 p) = false := h 0 (by omega)
  have h1 : (O.b && barsB 1 p) = false := h 1 (by omega)
  have h2 : (O.c && barsB 2 p) = false := h 2 (by omega)
  rw [bars_barred, h0, h1, h2]; rfl
theorem barS_some {O : On} {p : PodV} {k : Nat} (hk : k < 3) (h : ∀ j, j < k → barS O p j = false) (hb : barS O p k = true) : barredF O p = some (k : Int) := by
  have key : k = 0 ∨ k = 1 ∨ k = 2 := by omega
  rw [bars_barred]
  rcases key with rfl | rfl | rfl
  · have hb' : (O.a && barsB 0 p) = true := hb
    rw [hb']; rfl
  · have h0 : (O.a && barsB 0 p) = false := h 0 (by omega)
    have hb' : (O.b && barsB 1 p) = true := hb
    rw [h0, hb']; rfl
  · have h0 : (O.a && barsB 0 p) = false := h 0 (by omega)
    have h1 : (O.b && barsB 1 p) = false := h 1 (by omega)
    have hb' : (O.c && barsB 2 p) = true := hb
    rw [h0, h1, hb']; rfl
theorem barS_next {O : On} {p : PodV} {k : Nat} (h : ∀ j, j < k → barS O p j = false) (hb : barS O p k = false) : ∀ j, j < k + 1 → barS O p j = false := fun j hj => by
  by_cases e : j = k
  · rw [e]; exact hb
  · exact h j (by omega)
end Go.Proofs.Ytbifmmdiekodjaa
