
/- Stage 27: the lines of many events, and how many there are of each kind: plain laws. -/
import Derived.Test.YtekakalhknjdaaaDoorLgW
namespace Go.Proofs.YtekakalhknjdaaaDoor
open Go.RowKit
set_option linter.unusedVariables false
set_option linter.unusedSimpArgs false
/-- All lines, or that one has none. -/
def seqL : List (Int × EvV) → Option (List (List UInt8))
  | [] => some []
  | x :: t => match lineE x.1 x.2, seqL t with
    | some s, some r => some (s :: r)
    | _, _ => none
theorem seqL_app (A B : List (Int × EvV)) : seqL (A ++ B) = match seqL A, seqL B with | some a, some b => some (a ++ b) | _, _ => none := by
  induction A with
  | nil => cases h : seqL B <;> simp [seqL, h]
  | cons x A ih =>
    rw [List.cons_append, seqL, seqL, ih]
    cases lineE x.1 x.2 <;> cases seqL A <;> cases seqL B <;> simp
theorem seqL_snoc (A : List (Int × EvV)) (x : Int × EvV) : seqL (A ++ [x]) = match seqL A, lineE x.1 x.2 with | some a, some s => some (a ++ [s]) | _, _ => none := by
  rw [seqL_app]
  have e : seqL [x] = match lineE x.1 x.2 with | some s => some [s] | none => none := by
    rw [seqL]; cases lineE x.1 x.2 <;> rfl
  rw [e]
  cases seqL A <;> cases lineE x.1 x.2 <;> rfl
/-- How many there are of a kind. -/
def cntK (A : List (Int × EvV)) (k : Int) : Nat := A.countP (fun x => x.2.kind == k)
theorem cntK_app (A B : List (Int × EvV)) (k : Int) : cntK (A ++ B) k = cntK A k + cntK B k := by unfold cntK; rw [List.countP_append]
theorem cntK_snoc (A : List (Int × EvV)) (x : Int × EvV) (k : Int) : cntK (A ++ [x]) k = cntK A k + if x.2.kind = k then 1 else 0 := by
  rw [cntK_app]
  congr 1
  unfold cntK
  by_cases h : x.2.kind = k <;> simp [h]
theorem cntK_le (A : List (Int × EvV)) (k : Int) : cntK A k ≤ A.length := List.countP_le_length
/-- The counts of all kinds, as they lie. -/
def cntL (A : List (Int × EvV)) : List Value := (List.range 17).map (fun (k : Nat) => .int .i64 (if k = 0 then 0 else (cntK A (k : Int) : Int)))
theorem cntL_len (A : List (Int × EvV)) : (cntL A).length = 17 := by simp [cntL]
theorem cntL_at (A : List (Int × EvV)) {k : Nat} (h : k < 17) : (cntL A)[k]? = some (.int .i64 (if k = 0 then 0 else (cntK A (k : Int) : Int))) := by
  unfold cntL
  rw [List.getElem?_map, List.getElem?_range h]
  rfl
theorem cntL_hit (A : List (Int × EvV)) (x : Int × EvV) (h : 0 < x.2.kind ∧ x.2.kind < 17) : (cntL A).set x.2.kind.toNat (.int .i64 ((cntK A x.2.kind : Int) + 1)) = cntL (A ++ [x]) := by
  obtain ⟨k, hk⟩ : ∃ k : Nat, x.2.kind = k := ⟨x.2.kind.toNat, by omega⟩
  refine List.ext_getElem? (fun i => ?_)
  rcases Nat.lt_or_ge i 17 with hi | hi
  · rw [List.getElem?_set, cntL_at (A ++ [x]) hi, cntK_snoc, hk, Int.toNat_natCast]
    by_cases e : k = i
    · subst e
      rw [if_pos rfl, if_pos (by rw [cntL_len]; exact hi), if_pos rfl, if_neg (by omega)]
      push_cast
      rfl
    · rw [if_neg e, cntL_at A hi, if_neg (show ¬ ((k : Int) = (i : Int)) by omega)]
      simp
  · rw [List.getElem?_eq_none (by rw [List.length_set, cntL_len]; exact hi), List.getElem?_eq_none (by rw [cntL_len]; exact hi)]
theorem cntL_miss (A : List (Int × EvV)) (x : Int × EvV) (h : ¬ (0 < x.2.kind ∧ x.2.kind < 17)) : cntL (A ++ [x]) = cntL A := by
  refine List.ext_getElem? (fun i => ?_)
  rcases Nat.lt_or_ge i 17 with hi | hi
  · rw [cntL_at _ hi, cntL_at _ hi, cntK_snoc]
    by_cases e : i = 0
    · rw [if_pos e, if_pos e]
    · rw [if_neg e, if_neg e, if_neg (show ¬ x.2.kind = (i : Int) by omega)]
      simp
  · rw [List.getElem?_eq_none (by rw [cntL_len]; exact hi), List.getElem?_eq_none (by rw [cntL_len]; exact hi)]
end Go.Proofs.YtekakalhknjdaaaDoor
