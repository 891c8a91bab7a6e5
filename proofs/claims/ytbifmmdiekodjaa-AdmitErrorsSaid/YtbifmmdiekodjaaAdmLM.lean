
/- What decides: cases, for the laws. -/
import Derived.Test.YtbifmmdiekodjaaAwake23
namespace Go.Proofs.Ytbifmmdiekodjaa
open Go.RowKit
set_option linter.unusedVariables false
set_option linter.unusedSimpArgs false
/-- What a verdict tells. -/
theorem dec_cases {R : Room} {T : List EntV} {O : On} {p : PodV} {k g : Int} {G : List ByteArray} {er : Int} (h : decideF R T O p = (⟨k, g, G⟩, er)) :
    (er ≠ 0 ∧ refusedF T p = er ∧ k = 0 ∧ g = 0 ∧ G = []) ∨ (er = 0 ∧ refusedF T p = 0 ∧ ∃ s, barredF O p = some s ∧ k = 3 ∧ g = s ∧ G = []) ∨
    (er = 0 ∧ refusedF T p = 0 ∧ barredF O p = none ∧ g = 0 ∧ ((k = 4 ∧ G = [] ∧ chooseF R (podsOf T) p = none) ∨ (k = 1 ∧ G = [] ∧ chooseF R (podsOf T) p = some []) ∨ (k = 2 ∧ G.length ≠ 0 ∧ chooseF R (podsOf T) p = some G))) := by
  unfold decideF at h
  by_cases h0 : refusedF T p = 0
  · rw [if_pos h0] at h
    cases hb : barredF O p with
    | some s => rw [hb] at h; cases h; exact .inr (.inl ⟨rfl, h0, _, rfl, rfl, rfl, rfl⟩)
    | none =>
      rw [hb] at h
      simp only [Prod.mk.injEq] at h
      obtain ⟨h1, rfl⟩ := h
      unfold roomF at h1
      cases hc : chooseF R (podsOf T) p with
      | none => rw [hc] at h1; cases h1; exact .inr (.inr ⟨rfl, h0, rfl, rfl, .inl ⟨rfl, rfl, rfl⟩⟩)
      | some H =>
        rw [hc] at h1
        simp only at h1
        by_cases hl : H.length = 0
        · rw [if_pos hl] at h1; cases h1
          have : H = [] := List.eq_nil_of_length_eq_zero hl
          subst this
          exact .inr (.inr ⟨rfl, h0, rfl, rfl, .inr (.inl ⟨rfl, rfl, rfl⟩)⟩)
        · rw [if_neg hl] at h1; cases h1
          exact .inr (.inr ⟨rfl, h0, rfl, rfl, .inr (.inr ⟨rfl, hl, rfl⟩)⟩)
  · rw [if_neg h0] at h
    cases h
    exact .inl ⟨h0, rfl, rfl, rfl, rfl⟩
theorem ref0_fit {R : Room} {T : List EntV} {p : PodV} (hr : 0 ≤ R.a ∧ 0 ≤ R.b ∧ 0 ≤ R.c) (ht : TabOK T) (h : refusedF T p = 0) : FitOK R (podsOf T) p := by
  rcases refused_cases T p with ⟨e, _⟩ | ⟨e, _⟩ | ⟨e, _⟩ | ⟨_, h1, h2, _⟩
  · rw [e] at h; cases h
  · rw [e] at h; cases h
  · rw [e] at h; cases h
  · exact fit_of hr ht h1 h2
theorem kept_right {R : Room} {L : List PodV} {p : PodV} {G : List ByteArray} (hf : FitOK R L p) : ∀ x ∈ keptF L G p, rightB x = true := by
  intro x hx
  unfold keptF at hx
  rcases List.mem_append.1 hx with h | h
  · exact (hf.rl x (List.mem_filter.1 h).1).1
  · simp at h; subst h; exact hf.rp
def scanB (O : On) (p : PodV) : Nat → Int × Bool
  | 0 => (0, false)
  | j + 1 => if barS O p (2 - j) then (((2 - j : Nat) : Int), true) else scanB O p j
def kval : Nat → Value
  | 0 => .int .i64 2
  | 1 => .int .i64 1
  | 2 => .int .i64 0
  | _ => .int .i64 (-1)
theorem scan_all (O : On) (p : PodV) : scanB O p 3 = ((barredF O p).getD 0, (barredF O p).isSome) := by
  have e : scanB O p 3 = if barS O p 0 then (0, true) else if barS O p 1 then (1, true) else if barS O p 2 then (2, true) else (0, false) := rfl
  rw [e]
  cases h0 : barS O p 0 with
  | true => rw [barS_some (k := 0) (by omega) (fun j hj => by omega) h0]; rfl
  | false =>
    cases h1 : barS O p 1 with
    | true => rw [barS_some (k := 1) (by omega) (fun j hj => by obtain rfl : j = 0 := (by omega); exact h0) h1]; rfl
    | false =>
      cases h2 : barS O p 2 with
      | true => rw [barS_some (k := 2) (by omega) (fun j hj => by have : j = 0 ∨ j = 1 := (by omega); rcases this with rfl | rfl <;> assumption) h2]; rfl
      | false => rw [barS_none (fun j hj => by have : j = 0 ∨ j = 1 ∨ j = 2 := (by omega); rcases this with rfl | rfl | rfl <;> assumption)]; rfl
theorem scan_step {O : On} {p : PodV} {j : Nat} {wv : Int} {bv b : Bool} (h : scanB O p j = (wv, bv)) (hb : barS O p (2 - j) = b) : scanB O p (j + 1) = if b then (((2 - j : Nat) : Int), true) else (wv, bv) := by
  show (if barS O p (2 - j) then (((2 - j : Nat) : Int), true) else scanB O p j) = _
  rw [hb, h]
end Go.Proofs.Ytbifmmdiekodjaa
