
/- thresh.Read: contract. -/
import Derived.Test.YtekakalhknjdaaaDoorThrA
namespace Go.Proofs.YtekakalhknjdaaaDoor
open Go.RowKit
set_option linter.unusedVariables false
set_option linter.unusedSimpArgs false

def ThrV.v (t : ThrV) : Value := .agg #[.int .i64 t.sig, .int .i64 t.pct, .int .i64 t.amt, .bool t.soft, .int .i64 t.grace]
def zeroT : ThrV := ⟨0, 0, 0, false, 0⟩
def thV (l : List UInt8) : ThrV := (thF l).getD zeroT
def thE (l : List UInt8) : Int := if (thF l).isSome then 0 else 2
theorem thF_none {l : List UInt8} (h : (cutC 60 l).2.2 = false ∨ sigB (cutC 60 l).1 = false ∨ limB (cutC 58 (cutC 60 l).2.1).1 = false ∨ ((cutC 58 (cutC 60 l).2.1).2.2 = true ∧ dgB (cutC 58 (cutC 60 l).2.1).2.1 1000 = false)) : thV l = zeroT ∧ thE l = 2 := by
  have : thF l = none := by
    unfold thF
    split
    · rename_i h1
      split
      · rename_i s p a g e1 e2 e3
        rcases h with h | h | h | ⟨h, h'⟩
        · rw [h1] at h; cases h
        · unfold sigB at h; rw [e1] at h; cases h
        · unfold limB at h; rw [e2] at h; cases h
        · unfold grF at e3; rw [if_pos h] at e3; unfold dgB at h'; rw [e3] at h'; cases h'
      · rfl
    · rfl
  unfold thV thE; rw [this]; exact ⟨rfl, rfl⟩
theorem thF_some {l : List UInt8} (h1 : (cutC 60 l).2.2 = true) (h2 : sigB (cutC 60 l).1 = true) (h3 : limB (cutC 58 (cutC 60 l).2.1).1 = true) (h4 : (cutC 58 (cutC 60 l).2.1).2.2 = true → dgB (cutC 58 (cutC 60 l).2.1).2.1 1000 = true) :
    thV l = ⟨sigN (cutC 60 l).1, limP (cutC 58 (cutC 60 l).2.1).1, limA (cutC 58 (cutC 60 l).2.1).1, (cutC 58 (cutC 60 l).2.1).2.2, if (cutC 58 (cutC 60 l).2.1).2.2 then dgN (cutC 58 (cutC 60 l).2.1).2.1 1000 else 0⟩ ∧ thE l = 0 := by
  obtain ⟨s, e1⟩ := Option.isSome_iff_exists.1 h2
  obtain ⟨⟨p, a⟩, e2⟩ := Option.isSome_iff_exists.1 h3
  obtain ⟨q1, q2⟩ := limF_some e2
  have hg : ∃ g, grF (cutC 58 (cutC 60 l).2.1).2.2 (cutC 58 (cutC 60 l).2.1).2.1 = some g ∧ g = if (cutC 58 (cutC 60 l).2.1).2.2 then dgN (cutC 58 (cutC 60 l).2.1).2.1 1000 else 0 := by
    unfold grF
    cases hs : (cutC 58 (cutC 60 l).2.1).2.2 with
    | false => exact ⟨0, rfl, rfl⟩
    | true =>
      obtain ⟨g, e⟩ := Option.isSome_iff_exists.1 (h4 hs)
      refine ⟨g, e, ?_⟩
      rw [if_pos rfl]
      unfold dgN; rw [e]; rfl
  obtain ⟨g, e3, e4⟩ := hg
  have : thF l = some ⟨s, p, a, (cutC 58 (cutC 60 l).2.1).2.2, g⟩ := by
    unfold thF; rw [if_pos h1, e1, e2, e3]
  unfold thV thE sigN
  rw [this, e1, q1, q2, ← e4]
  exact ⟨rfl, rfl⟩
theorem cut_size (c : UInt8) (l : List UInt8) : (cutC c l).1.length ≤ l.length ∧ (cutC c l).2.1.length ≤ l.length := by
  rcases cutC_spec c l with ⟨_, h2, _⟩ | ⟨h1, _⟩
  · have := congrArg List.length h2
    rw [List.length_append, List.length_cons] at this; omega
  · rw [h1]; exact ⟨Nat.le_refl _, Nat.zero_le _⟩

end Go.Proofs.YtekakalhknjdaaaDoor
