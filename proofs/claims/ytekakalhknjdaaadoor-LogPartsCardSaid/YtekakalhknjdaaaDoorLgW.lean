
/- Stage 27: what the program writes of an event, field by field: plain laws. -/
import Derived.Test.YtekakalhknjdaaaDoorLgM2
import Derived.Lib.ItoaMem
namespace Go.Proofs.YtekakalhknjdaaaDoor
open Go.RowKit
open Go.Lib (decDigits itoa)
set_option linter.unusedVariables false
set_option linter.unusedSimpArgs false
structure WrV where
  F : List ByteArray
  e : EvV
  bad : Bool
def WrV.put (s : WrV) (f : ByteArray) (ok : Bool) : WrV := ⟨s.F ++ [f], s.e, s.bad || !ok⟩
def WrV.err (s : WrV) : WrV := ⟨s.F, s.e, true⟩
def WrV.idS (s : WrV) : WrV := { s.put s.e.id (wordB s.e.id.data.toList) with e := { s.e with id := ⟨#[]⟩ } }
def WrV.num (s : WrV) : WrV := { s.put (bA (itoa s.e.n)) (decide (0 ≤ s.e.n)) with e := { s.e with n := 0 } }
def WrV.sgn (s : WrV) : WrV := if s.e.sig < 0 ∨ 3 ≤ s.e.sig then s.err else { s.put (bA (sgE s.e.sig.toNat)) true with e := { s.e with sig := 0 } }
def WrV.why (s : WrV) : WrV :=
  let t := if s.e.n = 3 then (s.put (bA pressL) true).sgn else if s.e.n = 4 then s.put (bA roomL) true else s.err
  { t with e := { t.e with n := 0 } }
def WrV.event (s : WrV) : WrV :=
  if ¬ (0 < s.e.kind ∧ s.e.kind < 17) then s.err else
  let k := s.e.kind
  let t : WrV := { s.put (bA (kwE k.toNat)) true with e := { s.e with kind := 0 } }
  if k = 9 ∨ k = 14 then t.idS.num
  else if k = 16 then t.num
  else if k = 5 then t.idS.sgn
  else if k = 6 ∨ k = 7 then t.sgn
  else if k = 3 then t.idS.why
  else t.idS
def WrV.good (s : WrV) : Bool := !s.bad && (decide (s.e.kind = 0) && (s.e.id.data.toList == [] && (decide (s.e.sig = 0) && decide (s.e.n = 0))))
/-- The event's fields, and whether it has a line. -/
def writeW (e : EvV) : WrV := (⟨[], e, false⟩ : WrV).event
theorem write_eq (e : EvV) : (if (writeW e).good = true then some ((writeW e).F.map (fun b => b.data.toList)) else none) = fieldsE e := by
  obtain ⟨k, i, sg, n⟩ := e
  unfold writeW WrV.event fieldsE
  dsimp only
  by_cases hk : 0 < k ∧ k < 17
  · rw [if_neg (show ¬ ¬ (0 < k ∧ k < 17) from fun z => z hk), if_pos (show 1 ≤ k ∧ k ≤ 16 by omega)]
    have hn : 0 ≤ n → itoa n = decDigits n.toNat := fun h => by
      obtain ⟨m, rfl⟩ : ∃ m : Nat, n = m := ⟨n.toNat, by omega⟩
      rw [Lib.itoa_nonneg]; rfl
    unfold tailE
    dsimp only
    by_cases c1 : k = 9 ∨ k = 14
    · rw [if_pos c1, if_pos c1]
      by_cases h : wordB i.data.toList = true ∧ 0 ≤ n ∧ sg = 0
      · obtain ⟨h1, h2, rfl⟩ := h
        simp [WrV.put, WrV.idS, WrV.num, WrV.good, h1, h2, bA_data, hn h2]
      · rw [if_neg h, if_neg]
        · rfl
        · intro q
          apply h
          simp [WrV.put, WrV.idS, WrV.num, WrV.good] at q
          exact ⟨q.1.1, q.1.2, q.2⟩
    · rw [if_neg c1, if_neg c1]
      by_cases c2 : k = 16
      · rw [if_pos c2, if_pos c2]
        by_cases h : i.data.toList = [] ∧ 0 ≤ n ∧ sg = 0
        · obtain ⟨h1, h2, rfl⟩ := h
          have h1' : i.data = #[] := by simpa using h1
          simp [WrV.put, WrV.num, WrV.good, h1', h2, bA_data, hn h2]
        · rw [if_neg h, if_neg]
          · rfl
          · intro q
            apply h
            simp [WrV.put, WrV.num, WrV.good] at q
            exact ⟨by simpa using q.2.1, q.1, q.2.2⟩
      · rw [if_neg c2, if_neg c2]
        by_cases c3 : k = 5
        · rw [if_pos c3, if_pos c3]
          by_cases h : wordB i.data.toList = true ∧ (0 ≤ sg ∧ sg ≤ 2) ∧ n = 0
          · obtain ⟨h1, h2, rfl⟩ := h
            simp [WrV.put, WrV.idS, WrV.sgn, WrV.good, h1, h2, bA_data, show ¬ (sg < 0 ∨ 3 ≤ sg) by omega]
          · rw [if_neg h, if_neg]
            · rfl
            · intro q
              apply h
              by_cases hs : sg < 0 ∨ 3 ≤ sg
              · simp [WrV.put, WrV.idS, WrV.sgn, WrV.good, WrV.err, hs] at q
              · simp [WrV.put, WrV.idS, WrV.sgn, WrV.good, hs] at q
                exact ⟨q.1, by omega, q.2⟩
        · rw [if_neg c3, if_neg c3]
          by_cases c4 : k = 6 ∨ k = 7
          · rw [if_pos c4, if_pos c4]
            by_cases h : i.data.toList = [] ∧ (0 ≤ sg ∧ sg ≤ 2) ∧ n = 0
            · obtain ⟨h1, h2, rfl⟩ := h
              have h1' : i.data = #[] := by simpa using h1
              simp [WrV.put, WrV.sgn, WrV.good, h1', h2, bA_data, show ¬ (sg < 0 ∨ 3 ≤ sg) by omega]
            · rw [if_neg h, if_neg]
              · rfl
              · intro q
                apply h
                by_cases hs : sg < 0 ∨ 3 ≤ sg
                · simp [WrV.put, WrV.sgn, WrV.good, WrV.err, hs] at q
                · simp [WrV.put, WrV.sgn, WrV.good, hs] at q
                  exact ⟨by simpa using q.1, by omega, q.2⟩
          · rw [if_neg c4, if_neg c4]
            by_cases c5 : k = 3
            · rw [if_pos c5, if_pos c5]
              by_cases n3 : n = 3
              · rw [if_pos n3]
                by_cases h : wordB i.data.toList = true ∧ (0 ≤ sg ∧ sg ≤ 2)
                · obtain ⟨h1, h2⟩ := h
                  simp [WrV.put, WrV.idS, WrV.why, WrV.sgn, WrV.good, h1, h2, n3, bA_data, show ¬ (sg < 0 ∨ 3 ≤ sg) by omega]
                · rw [if_neg h, if_neg]
                  · rfl
                  · intro q
                    apply h
                    by_cases hs : sg < 0 ∨ 3 ≤ sg
                    · simp [WrV.put, WrV.idS, WrV.why, WrV.sgn, WrV.good, WrV.err, hs, n3] at q
                    · simp [WrV.put, WrV.idS, WrV.why, WrV.sgn, WrV.good, hs, n3] at q
                      exact ⟨q, by omega⟩
              · rw [if_neg n3]
                by_cases n4 : n = 4
                · rw [if_pos n4]
                  by_cases h : wordB i.data.toList = true ∧ sg = 0
                  · obtain ⟨h1, rfl⟩ := h
                    simp [WrV.put, WrV.idS, WrV.why, WrV.good, h1, n3, n4, bA_data]
                  · rw [if_neg h, if_neg]
                    · rfl
                    · intro q
                      apply h
                      simp [WrV.put, WrV.idS, WrV.why, WrV.good, n3, n4] at q
                      exact q
                · rw [if_neg n4, if_neg]
                  · rfl
                  · intro q
                    simp [WrV.put, WrV.idS, WrV.why, WrV.good, WrV.err, n3, n4] at q
            · rw [if_neg c5, if_neg c5]
              by_cases h : wordB i.data.toList = true ∧ sg = 0 ∧ n = 0
              · obtain ⟨h1, rfl, rfl⟩ := h
                simp [WrV.put, WrV.idS, WrV.good, h1, bA_data]
              · rw [if_neg h, if_neg]
                · rfl
                · intro q
                  apply h
                  simp [WrV.put, WrV.idS, WrV.good] at q
                  exact ⟨q.1, q.2.1, q.2.2⟩
  · rw [if_pos hk, if_neg (show ¬ (1 ≤ k ∧ k ≤ 16) by omega)]
    simp [WrV.err, WrV.good]
/-- A line, by its fields. -/
theorem line_write (r : Int) (e : EvV) : lineE r e = if (writeW e).good = true ∧ 0 ≤ r ∧ r ≤ 1099511627776 then some (joinW 32 (decDigits r.toNat :: (writeW e).F.map (fun b => b.data.toList))) else none := by
  unfold lineE
  rw [← write_eq e]
  by_cases h : (writeW e).good = true
  · by_cases hr : 0 ≤ r ∧ r ≤ 1099511627776
    · rw [if_pos hr, if_pos h, if_pos ⟨h, hr⟩]; rfl
    · rw [if_neg hr, if_neg (show ¬ ((writeW e).good = true ∧ 0 ≤ r ∧ r ≤ 1099511627776) from fun q => hr q.2)]
  · rw [if_neg (show ¬ ((writeW e).good = true ∧ 0 ≤ r ∧ r ≤ 1099511627776) from fun q => h q.1), if_neg h]
    split <;> rfl
end Go.Proofs.YtekakalhknjdaaaDoor
