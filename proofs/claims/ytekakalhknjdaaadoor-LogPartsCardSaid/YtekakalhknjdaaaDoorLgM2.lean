
/- Stage 27: what the reference reads of a line, and that the program reads the same: plain laws. -/
import Derived.Test.YtekakalhknjdaaaDoorLgM
namespace Go.Proofs.YtekakalhknjdaaaDoor
open Go.RowKit
open Go.Lib (decDigits)
set_option linter.unusedVariables false
set_option linter.unusedSimpArgs false
/-- A number's text, by the reference. -/
def numQ (l : List UInt8) : Int := if l = [] ∨ 19 < l.length ∨ (l.head? = some 48 ∧ 1 < l.length) then -1 else if l.all isDg = true then (if valN 0 l ≤ 9223372036854775807 then (valN 0 l : Int) else -1) else -1
theorem dd_lenQ : ∀ (k u : Nat), u < 10 ^ (k + 1) → (decDigits u).length ≤ k + 1
  | 0, u, h => by rw [dd_small (by simpa using h)]; simp
  | k + 1, u, h => by
    by_cases h10 : u < 10
    · rw [dd_small h10]; simp
    · rw [dd_big h10, List.length_append]
      have := dd_lenQ k (u / 10) (by rw [Nat.div_lt_iff_lt_mul (by decide)]; rw [Nat.pow_succ] at h; exact h)
      simp; omega
theorem numQ_dd (u : Nat) (h : u ≤ 9223372036854775807) : numQ (decDigits u) = u := by
  have h1 := dd_pos u
  have h2 := dd_lenQ 18 u (by omega)
  have h3 : ¬ ((decDigits u).head? = some 48 ∧ 1 < (decDigits u).length) := by
    rintro ⟨a, b⟩
    by_cases hu : 1 ≤ u
    · exact dd_head u hu a
    · rw [dd_small (by omega)] at b; simp at b
  unfold numQ
  rw [if_neg (by rintro (a | a | a); exact h1 a; omega; exact h3 a), if_pos (List.all_eq_true.2 (dd_dg u)), valN_dd, if_pos h]
theorem numQ_bd (l : List UInt8) : -1 ≤ numQ l ∧ numQ l ≤ 9223372036854775807 := by
  unfold numQ
  split
  · omega
  · split
    · split <;> omega
    · omega
theorem numG_bd (l : List UInt8) : numG l ≤ 9223372036854775807 := by
  unfold numG
  rcases h : Lib.atoiAll l with v | _ | _
  · simp only
    unfold Lib.atoiAll at h
    split at h
    · cases h
    · dsimp only at h
      split at h
      · cases h
      · cases h
      · split at h
        · cases h
        · split at h
          · cases h
          · rename_i hp q1 q2
            cases h
            split <;> omega
  · simp only; omega
  · simp only; omega
/-- The pieces behind the kind's word, by the reference: the event, and what is left; none: it stops. -/
def readR (P : List (List UInt8)) : Option (Int × EvV × List (List UInt8)) :=
  if P.length < 3 ∨ 5 < P.length then none else
  let k := idxE kwE (P.getD 1 []) 17
  let k := if k < 0 then 0 else k
  let named := k ≠ 6 ∧ k ≠ 7 ∧ k ≠ 16
  let id := if named then bA (P.getD 2 []) else ⟨#[]⟩
  let rest := if named then P.drop 3 else P.drop 2
  let r := numQ (P.getD 0 [])
  if k = 3 then
    match rest with
    | [] => none
    | x :: rest =>
      let n : Int := if x = pressL then 3 else if x = roomL then 4 else 0
      if n = 3 then
        match rest with
        | [] => none
        | y :: rest => some (r, ⟨k, id, idxE sgE y 3, n⟩, rest)
      else some (r, ⟨k, id, 0, n⟩, rest)
  else if 5 ≤ k ∧ k ≤ 7 then
    match rest with
    | [] => none
    | y :: rest => some (r, ⟨k, id, idxE sgE y 3, 0⟩, rest)
  else if k = 9 ∨ k = 14 ∨ k = 16 then
    match rest with
    | [] => none
    | y :: rest => some (r, ⟨k, id, 0, numQ y⟩, rest)
  else some (r, ⟨k, id, 0, 0⟩, rest)
theorem read_lineR {r : Int} {e : EvV} {s : List UInt8} (hn : e.n ≤ 9223372036854775807) (h : lineE r e = some s) : readR (cutsL 32 s) = some (r, e, []) := by
  obtain ⟨l, hl, ⟨hr0, hr1⟩, _, hc⟩ := line_cuts h
  rw [hc]
  unfold fieldsE at hl
  split at hl
  · rename_i hk
    obtain ⟨hk1, hk2⟩ := hk
    cases ht : tailE e with
    | none => rw [ht] at hl; cases hl
    | some t =>
      rw [ht] at hl
      simp only [Option.map_some, Option.some.injEq] at hl
      subst hl
      have hnum : numQ (decDigits r.toNat) = r := by rw [numQ_dd _ (by omega)]; omega
      have hkk : idxE kwE (kwE e.kind.toNat) 17 = e.kind := by rw [idx_kwE _ (by omega) (by omega)]; omega
      have hnn : 0 ≤ e.n → numQ (decDigits e.n.toNat) = e.n := fun q => by rw [numQ_dd _ (by omega)]; omega
      have hss : 0 ≤ e.sig ∧ e.sig ≤ 2 → idxE sgE (sgE e.sig.toNat) 3 = e.sig := fun q => by rw [idx_sgE _ (by omega)]; omega
      have hid : bA e.id.data.toList = e.id := bA_self e.id
      have hem : e.id.data.toList = [] → (⟨#[]⟩ : ByteArray) = e.id := fun q => by rw [← hid, q]; rfl
      obtain ⟨k, i, sg, n⟩ := e
      dsimp only at *
      unfold tailE at ht
      dsimp only at ht
      have hlen : t.length ≤ 3 ∧ 1 ≤ t.length := by
        repeat' split at ht
        all_goals first | (cases ht; done) | (cases ht; simp)
      unfold readR
      rw [if_neg (by simp only [List.length_cons]; omega)]
      simp only [List.getD_cons_zero, List.getD_cons_succ, hnum, hkk, List.drop_succ_cons, List.drop_zero, if_neg (show ¬ k < 0 by omega)]
      split at ht
      · rename_i q
        split at ht
        · rename_i q2
          cases ht
          rcases q with rfl | rfl <;> simp [hid, hnn q2.2.1, q2.2.2]
        · cases ht
      · rename_i q
        split at ht
        · rename_i q3
          split at ht
          · rename_i q2
            cases ht
            subst q3
            simp [hnn q2.2.1, q2.2.2, hem q2.1]
          · cases ht
        · rename_i q3
          split at ht
          · rename_i q4
            split at ht
            · rename_i q2
              cases ht
              subst q4
              simp [hid, hss q2.2.1, q2.2.2]
            · cases ht
          · rename_i q4
            split at ht
            · rename_i q5
              split at ht
              · rename_i q2
                cases ht
                rcases q5 with rfl | rfl <;> simp [hss q2.2.1, q2.2.2, hem q2.1]
              · cases ht
            · rename_i q5
              split at ht
              · rename_i q6
                subst q6
                split at ht
                · rename_i q7
                  split at ht
                  · rename_i q2
                    cases ht
                    simp [hid, hss q2.2, q7]
                  · cases ht
                · split at ht
                  · rename_i q7 q8
                    split at ht
                    · rename_i q2
                      cases ht
                      have hne : ¬ roomL = pressL := by decide
                      simp [hid, q2.2, q8, hne]
                    · cases ht
                  · cases ht
              · rename_i q6
                split at ht
                · rename_i q2
                  cases ht
                  have a1 : ¬ k = 6 := fun z => q5 (.inl z)
                  have a2 : ¬ k = 7 := fun z => q5 (.inr z)
                  have a3 : ¬ (5 ≤ k ∧ k ≤ 7) := by omega
                  have a4 : ¬ k = 9 := fun z => q (.inl z)
                  have a5 : ¬ k = 14 := fun z => q (.inr z)
                  simp [hid, q2.2.1, q2.2.2, a1, a2, q3, q6, a3, a4, a5]
                · cases ht
  · cases hl
theorem readR_bd {P : List (List UInt8)} {r : Int} {e : EvV} {l : List (List UInt8)} (h : readR P = some (r, e, l)) : e.n ≤ 9223372036854775807 := by
  unfold readR at h
  have hb := fun y => (numQ_bd y).2
  dsimp only at h
  repeat' split at h
  all_goals first | (cases h; done) | (cases h; dsimp only; first | omega | exact hb _ | (split <;> omega) | (split <;> (try split) <;> omega))
theorem readG_bd (P : List (List UInt8)) : (readG P).2.n ≤ 9223372036854775807 := by
  have hb := fun y => numG_bd y
  unfold readG
  dsimp only
  repeat' split
  all_goals first | exact hb _ | (dsimp only; omega)
/-- What the text is, by the program; and by the reference. -/
def progF (s : List UInt8) : Option (Int × EvV) := if lineE (readG (cutsL 32 s)).1 (readG (cutsL 32 s)).2 = some s then some (readG (cutsL 32 s)) else none
def refF (s : List UInt8) : Option (Int × EvV) := match readR (cutsL 32 s) with
  | none => none
  | some (r, e, l) => if lineE r e = some s ∧ l = [] then some (r, e) else none
theorem progF_iff (s : List UInt8) (r : Int) (e : EvV) : progF s = some (r, e) ↔ lineE r e = some s ∧ e.n ≤ 9223372036854775807 := by
  unfold progF
  constructor
  · intro h
    split at h
    · rename_i q
      have e9 := Option.some.inj h
      have hb := readG_bd (cutsL 32 s)
      rw [e9] at q hb
      exact ⟨q, hb⟩
    · cases h
  · rintro ⟨h, hn⟩
    rw [read_line hn h]
    simp only [h, if_true]
theorem refF_iff (s : List UInt8) (r : Int) (e : EvV) : refF s = some (r, e) ↔ lineE r e = some s ∧ e.n ≤ 9223372036854775807 := by
  unfold refF
  constructor
  · intro h
    cases hr : readR (cutsL 32 s) with
    | none => rw [hr] at h; cases h
    | some x =>
      obtain ⟨r9, e9, l9⟩ := x
      rw [hr] at h
      simp only at h
      split at h
      · rename_i q
        cases h
        exact ⟨q.1, readR_bd hr⟩
      · cases h
  · rintro ⟨h, hn⟩
    rw [read_lineR hn h]
    simp [h]
theorem same_F (s : List UInt8) : progF s = refF s := by
  cases h : refF s with
  | some x =>
    obtain ⟨r, e⟩ := x
    exact (progF_iff s r e).2 ((refF_iff s r e).1 h)
  | none =>
    cases k : progF s with
    | none => rfl
    | some x =>
      obtain ⟨r, e⟩ := x
      have := (refF_iff s r e).2 ((progF_iff s r e).1 k)
      rw [h] at this; cases this
theorem kwE_ne : ∀ k, 1 ≤ k → k < 17 → kwE k ≠ [] := by
  have h : ∀ k ∈ List.range 17, 1 ≤ k → kwE k ≠ [] := by decide +kernel
  exact fun k h1 h2 => h k (List.mem_range.2 h2) h1
theorem tail_ne (e : EvV) {l : List (List UInt8)} (h : tailE e = some l) : ∀ x ∈ l, x ≠ [] := by
  have hp : pressL ≠ [] := by decide
  have hr : roomL ≠ [] := by decide
  have hd := dd_pos e.n.toNat
  have hs : 0 ≤ e.sig ∧ e.sig ≤ 2 → sgE e.sig.toNat ≠ [] := fun q => by
    obtain ⟨k, hk, hk3⟩ : ∃ k, e.sig.toNat = k ∧ k < 3 := ⟨_, rfl, by omega⟩
    rw [hk]
    rcases (show k = 0 ∨ k = 1 ∨ k = 2 by omega) with rfl | rfl | rfl <;> decide
  have hw : wordB e.id.data.toList = true → e.id.data.toList ≠ [] := fun q => (wordB_no _ q).1
  unfold tailE at h
  dsimp only at h
  repeat' split at h
  all_goals first
    | (cases h; done)
    | (cases h
       intro x hx
       simp only [List.mem_cons, List.not_mem_nil, or_false] at hx
       rename_i hq
       first
         | (rcases hx with rfl | rfl | rfl <;> first | exact hw hq.1 | exact hp | exact hs hq.2)
         | (rcases hx with rfl | rfl <;> first | exact hw hq.1 | exact hd | exact hs hq.2.1 | exact hr)
         | (subst hx; first | exact hd | exact hs hq.2.1 | exact hw hq.1))
theorem line_ne {r : Int} {e : EvV} {s : List UInt8} (h : lineE r e = some s) : ∀ x ∈ cutsL 32 s, x ≠ [] := by
  obtain ⟨l, hl, _, _, hc⟩ := line_cuts h
  rw [hc]
  intro x hx
  rcases List.mem_cons.1 hx with rfl | hx
  · exact dd_pos _
  · unfold fieldsE at hl
    split at hl
    · rename_i hk
      cases ht : tailE e with
      | none => rw [ht] at hl; cases hl
      | some t =>
        rw [ht] at hl
        simp only [Option.map_some, Option.some.injEq] at hl
        rw [← hl] at hx
        rcases List.mem_cons.1 hx with rfl | hx
        · exact kwE_ne _ (by omega) (by omega)
        · exact tail_ne e ht x hx
    · cases hl
theorem prog_end (s : List UInt8) : progF (s ++ [32]) = none := by
  cases k : progF (s ++ [32]) with
  | none => rfl
  | some x =>
    obtain ⟨r, e⟩ := x
    have h := ((progF_iff _ r e).1 k).1
    have h2 := line_ne h [] (by rw [show s ++ [32] = s ++ 32 :: [] from rfl, cuts_two]; simp [cutsL])
    exact absurd rfl h2
theorem prog_head (s : List UInt8) : progF (32 :: s) = none := by
  cases k : progF (32 :: s) with
  | none => rfl
  | some x =>
    obtain ⟨r, e⟩ := x
    have h := ((progF_iff _ r e).1 k).1
    have h2 := line_ne h [] (by rw [show 32 :: s = [] ++ 32 :: s from rfl, cuts_two]; simp [cutsL])
    exact absurd rfl h2
/-- What is written is read as it was. -/
theorem prog_back {r : Int} {e : EvV} {s : List UInt8} (hn : e.n ≤ 9223372036854775807) (h : lineE r e = some s) : progF s = some (r, e) := (progF_iff s r e).2 ⟨h, hn⟩
/-- How long a line is. -/
theorem line_len {r : Int} {e : EvV} {s : List UInt8} (hn : e.n ≤ 9223372036854775807) (h : lineE r e = some s) : s.length ≤ 200 := by
  obtain ⟨l, hl, hr, hs, -⟩ := line_cuts h
  have hd := dd_lenQ 18 r.toNat (by omega)
  have hdn := dd_lenQ 18 e.n.toNat (by omega)
  have hkw : ∀ k, (kwE k).length ≤ 7 := by
    intro k
    unfold kwE
    split <;> decide
  have hsg : ∀ k, (sgE k).length ≤ 6 := by
    intro k
    unfold sgE
    split <;> decide
  have hk := hkw e.kind.toNat
  have hs2 := hsg e.sig.toNat
  have hw : wordB e.id.data.toList = true → e.id.data.toList.length ≤ 60 := fun q => by
    unfold wordB at q
    simp only [Bool.and_eq_true, decide_eq_true_eq] at q
    exact q.2.2.1
  rw [hs]
  unfold fieldsE at hl
  split at hl
  · cases ht : tailE e with
    | none => rw [ht] at hl; cases hl
    | some t =>
      rw [ht] at hl
      simp only [Option.map_some, Option.some.injEq] at hl
      subst hl
      unfold tailE at ht
      dsimp only at ht
      have hp : pressL.length = 8 := rfl
      have hro : roomL.length = 4 := rfl
      repeat' split at ht
      all_goals first
        | (cases ht; done)
        | (cases ht
           rename_i hq
           simp only [joinW, List.length_append, List.length_cons]
           first
             | (have h9 := hw hq.1; omega)
             | omega)
  · cases hl
end Go.Proofs.YtekakalhknjdaaaDoor
