
/- Stage 27: events as lines, the maths: words between single blanks; an event's fields; what is read of them. -/
import Derived.Test.YtekakalhknjdaaaDoorQuantA
import Derived.Test.YtekakalhknjdaaaDoorLexSplit
namespace Go.Proofs.YtekakalhknjdaaaDoor
open Go.RowKit
open Go.Lib (decDigits)
set_option linter.unusedVariables false
set_option linter.unusedSimpArgs false
/-! Texts between bytes of one kind. -/
def cutsL (c : UInt8) : List UInt8 → List (List UInt8)
  | [] => [[]]
  | b :: l => if b == c then [] :: cutsL c l else match cutsL c l with | h :: t => (b :: h) :: t | [] => [[b]]
def joinW (c : UInt8) : List (List UInt8) → List UInt8
  | [] => []
  | [x] => x
  | x :: y :: r => x ++ c :: joinW c (y :: r)
theorem cuts_ne (c : UInt8) (L : List UInt8) : cutsL c L ≠ [] := by
  cases L with
  | nil => simp [cutsL]
  | cons b l =>
    unfold cutsL
    split
    · simp
    · split <;> simp
theorem cuts_two (c : UInt8) (a b : List UInt8) : cutsL c (a ++ c :: b) = cutsL c a ++ cutsL c b := by
  induction a with
  | nil => simp [cutsL]
  | cons x a ih =>
    rw [List.cons_append]
    cases hc : (x == c) with
    | true => simp only [cutsL, hc, if_true, ih, List.cons_append]
    | false =>
      simp only [cutsL, hc, Bool.false_eq_true, if_false, ih]
      cases hL : cutsL c a with
      | nil => exact absurd hL (cuts_ne c a)
      | cons h t => rfl
theorem cuts_one (c : UInt8) : ∀ {a : List UInt8}, (∀ x ∈ a, x ≠ c) → cutsL c a = [a]
  | [], _ => rfl
  | x :: a, h => by
    have hx : (x == c) = false := by rw [beq_eq_false_iff_ne]; exact h x List.mem_cons_self
    simp only [cutsL, hx, Bool.false_eq_true, if_false, cuts_one c (fun y hy => h y (List.mem_cons_of_mem _ hy))]
theorem cuts_join (c : UInt8) : ∀ (R : List (List UInt8)), R ≠ [] → (∀ l ∈ R, ∀ x ∈ l, x ≠ c) → cutsL c (joinW c R) = R
  | [], h, _ => absurd rfl h
  | [x], _, h => cuts_one c (h x List.mem_cons_self)
  | x :: y :: r, _, h => by
    rw [joinW, cuts_two, cuts_one c (h x List.mem_cons_self), cuts_join c (y :: r) (by simp) (fun l hl => h l (List.mem_cons_of_mem _ hl))]
    rfl
theorem join_cuts (c : UInt8) (L : List UInt8) : joinW c (cutsL c L) = L := by
  induction L with
  | nil => rfl
  | cons b l ih =>
    cases hc : (b == c) with
    | true =>
      simp only [cutsL, hc, if_true]
      cases hL : cutsL c l with
      | nil => exact absurd hL (cuts_ne c l)
      | cons h t =>
        rw [hL] at ih
        rw [joinW, ih]
        simp at hc
        rw [hc]; rfl
    | false =>
      simp only [cutsL, hc, Bool.false_eq_true, if_false]
      cases hL : cutsL c l with
      | nil => exact absurd hL (cuts_ne c l)
      | cons h t =>
        rw [hL] at ih
        cases t with
        | nil => simp only [joinW] at ih ⊢; rw [ih]
        | cons y r => simp only [joinW] at ih ⊢; rw [List.cons_append, ih]
theorem cuts_at (c : UInt8) {L : List UInt8} {i : Nat} (h : L[i]? = some c) (hn : ∀ j, j < i → L[j]? ≠ some c) : cutsL c L = L.take i :: cutsL c (L.drop (i + 1)) := by
  have hi : i < L.length := (List.getElem?_eq_some_iff.1 h).1
  have e : L = L.take i ++ c :: L.drop (i + 1) := by
    have h2 : L[i] = c := by rw [List.getElem?_eq_getElem hi] at h; exact Option.some.inj h
    rw [← h2, ← List.drop_eq_getElem_cons hi, List.take_append_drop]
  have ha : ∀ x ∈ L.take i, x ≠ c := by
    intro x hx e2
    obtain ⟨j, hj⟩ := List.getElem?_of_mem hx
    have hji : j < i := by have := (List.getElem?_eq_some_iff.1 hj).1; rw [List.length_take] at this; omega
    rw [List.getElem?_take, if_pos hji] at hj
    exact hn j hji (by rw [hj, e2])
  conv => lhs; rw [e]
  rw [cuts_two, cuts_one c ha]
  rfl
open Go.Lib in
theorem indexB_c (s : ByteArray) (c : UInt8) : indexB s ⟨#[c]⟩ = indexByte s.data.toList c := Go.Lib.index_one s.data.toList c
open Go.Lib in
theorem split_c (c : UInt8) (k : Nat) : ∀ s : ByteArray, countB s ⟨#[c]⟩ = k → splitB ⟨#[c]⟩ 0 k s = (cutsL c s.data.toList).map bA ∧ (cutsL c s.data.toList).length = k + 1 := by
  have hz : (⟨#[c]⟩ : ByteArray).size = 1 := rfl
  induction k with
  | zero =>
    intro s hc
    rcases indexByte_spec s.data.toList c with ⟨h1, h2⟩ | ⟨i, h1, h2, h3⟩
    · rw [splitB_zero, cuts_one c h2, List.map_cons, List.map_nil, bA_self]
      exact ⟨rfl, rfl⟩
    · have := countB_hit s ⟨#[c]⟩ i (by rw [hz]; decide) (by rw [indexB_c]; exact h1)
      omega
  | succ k ih =>
    intro s hc
    rcases indexByte_spec s.data.toList c with ⟨h1, h2⟩ | ⟨i, h1, h2, h3⟩
    · have := countB_miss s ⟨#[c]⟩ (by rw [indexB_c]; exact h1)
      omega
    · have hi : indexB s ⟨#[c]⟩ = i := by rw [indexB_c]; exact h1
      have h4 := countB_hit s ⟨#[c]⟩ i (by rw [hz]; decide) hi
      rw [hz] at h4
      obtain ⟨ih1, ih2⟩ := ih (s.extract (i + 1) s.size) (by omega)
      rw [extract_to_end] at ih1 ih2
      rw [splitB_hit _ _ _ _ _ hi, cuts_at c h2 h3, List.map_cons, hz, ih1]
      refine ⟨?_, by rw [List.length_cons, ih2]⟩
      congr 1
      refine ext_data ?_
      rw [extract_data, bA_data]
      simp
/-! Numbers. -/
theorem parse_big : ∀ (l : List UInt8) (acc : Nat), (∀ c ∈ l, isDg c = true) → valN acc l < 18446744073709551616 → Lib.parseUint10 acc l = .ok (valN acc l)
  | [], acc, _, _ => rfl
  | c :: l, acc, hd, hv => by
    have hc := hd c List.mem_cons_self
    have hg := valN_ge (acc * 10 + (c.toNat - 48)) l
    have hv' : valN (acc * 10 + (c.toNat - 48)) l < 18446744073709551616 := hv
    unfold isDg at hc
    simp only [Bool.and_eq_true, decide_eq_true_eq] at hc
    unfold Lib.parseUint10
    rw [if_pos hc, if_neg (by omega), if_neg (by omega), parse_big l _ (fun x hx => hd x (List.mem_cons_of_mem _ hx)) hv']
    rfl
theorem atoi_big (u : Nat) (h : u ≤ 9223372036854775807) : Lib.atoiAll (decDigits u) = .ok (u : Int) := by
  have hd := dd_dg u
  have hv := valN_dd u
  cases hl : decDigits u with
  | nil => exact absurd hl (dd_pos u)
  | cons c r =>
    rw [hl] at hd hv
    have hc := hd c List.mem_cons_self
    unfold isDg at hc
    simp only [Bool.and_eq_true, decide_eq_true_eq] at hc
    unfold Lib.atoiAll
    simp only
    rw [if_neg (by omega)]
    have hp : Lib.parseMag (c :: r) = .ok u := by
      unfold Lib.parseMag
      rw [if_neg (by simp), parse_big (c :: r) 0 hd (by rw [hv]; omega), hv]
    rw [hp]
    simp only
    rw [if_neg (by omega), if_neg (by omega), if_neg (by omega)]
/-- What the program takes of a text as a number. -/
def numG (l : List UInt8) : Int := match Lib.atoiAll l with | .ok v => v | _ => -1
theorem numG_dd (u : Nat) (h : u ≤ 9223372036854775807) : numG (decDigits u) = u := by unfold numG; rw [atoi_big u h]
/-! Events. -/
structure EvV where
  kind : Int
  id : ByteArray
  sig : Int
  n : Int
def EvV.cells (e : EvV) : List Value := [.int .i64 e.kind, .string e.id, .int .i64 e.sig, .int .i64 e.n]
def EvV.v (e : EvV) : Value := .agg #[.int .i64 e.kind, .string e.id, .int .i64 e.sig, .int .i64 e.n]
def EvV.zero : EvV := ⟨0, ⟨#[]⟩, 0, 0⟩
def kwE : Nat → List UInt8
  | 1 => [97, 100, 109, 105, 116]
  | 2 => [112, 114, 101, 101, 109, 112, 116]
  | 3 => [114, 101, 106, 101, 99, 116]
  | 4 => [100, 101, 108, 101, 116, 101]
  | 5 => [101, 118, 105, 99, 116]
  | 6 => [111, 110]
  | 7 => [111, 102, 102]
  | 8 => [98, 101, 103, 105, 110]
  | 9 => [112, 117, 108, 108]
  | 10 => [117, 112]
  | 11 => [102, 97, 105, 108]
  | 12 => [103, 111, 110, 101]
  | 13 => [100, 101, 97, 100]
  | 14 => [105, 109, 97, 103, 101]
  | 15 => [115, 116, 111, 112]
  | 16 => [114, 101, 99, 111, 118, 101, 114]
  | _ => []
def sgE : Nat → List UInt8
  | 0 => [109, 101, 109, 111, 114, 121]
  | 1 => [100, 105, 115, 107]
  | 2 => [112, 105, 100]
  | _ => []
def pressL : List UInt8 := [112, 114, 101, 115, 115, 117, 114, 101]
def roomL : List UInt8 := [114, 111, 111, 109]
/-- The place of a text among the first k of some; below 0: there is none. -/
def idxE (w : Nat → List UInt8) (l : List UInt8) : Nat → Int
  | 0 => -1
  | k + 1 => if idxE w l k = -1 then (if w k = l then (k : Int) else -1) else idxE w l k
theorem idxE_bd (w : Nat → List UInt8) (l : List UInt8) : ∀ k, -1 ≤ idxE w l k ∧ idxE w l k < k
  | 0 => by simp [idxE]
  | k + 1 => by
    obtain ⟨h1, h2⟩ := idxE_bd w l k
    unfold idxE
    split
    · split <;> omega
    · omega
def wordB (l : List UInt8) : Bool := l.all (fun c => decide (33 ≤ c.toNat) && decide (c.toNat ≤ 126)) && (decide (1 ≤ l.length) && (decide (l.length ≤ 60) && !(l.head? == some 35)))
theorem wordB_no (l : List UInt8) (h : wordB l = true) : l ≠ [] ∧ ∀ x ∈ l, x ≠ 32 := by
  unfold wordB at h
  simp only [Bool.and_eq_true, decide_eq_true_eq] at h
  refine ⟨fun e => by rw [e] at h; simp at h, fun x hx e => ?_⟩
  have h2 := List.all_eq_true.1 h.1 x hx
  rw [e] at h2
  simp at h2
theorem kwE_no : ∀ k, ∀ x ∈ kwE k, x ≠ 32 := by
  intro k
  have h : ∀ k ∈ List.range 17, ∀ x ∈ kwE k, x ≠ 32 := by decide +kernel
  by_cases hk : k < 17
  · exact h k (List.mem_range.2 hk)
  · have e : kwE k = [] := by unfold kwE; split <;> first | rfl | omega
    rw [e]; intro x hx; cases hx
theorem sgE_no : ∀ k, ∀ x ∈ sgE k, x ≠ 32 := by
  intro k
  unfold sgE
  split <;> decide +kernel
theorem dd_no32 (u : Nat) : ∀ x ∈ decDigits u, x ≠ 32 := fun x hx e => by
  have := dd_dg u x hx
  rw [e] at this
  revert this; decide
/-- The fields behind the kind's word; none: the event has no line. -/
def tailE (e : EvV) : Option (List (List UInt8)) :=
  let i := e.id.data.toList
  if e.kind = 9 ∨ e.kind = 14 then (if wordB i = true ∧ 0 ≤ e.n ∧ e.sig = 0 then some [i, decDigits e.n.toNat] else none)
  else if e.kind = 16 then (if i = [] ∧ 0 ≤ e.n ∧ e.sig = 0 then some [decDigits e.n.toNat] else none)
  else if e.kind = 5 then (if wordB i = true ∧ (0 ≤ e.sig ∧ e.sig ≤ 2) ∧ e.n = 0 then some [i, sgE e.sig.toNat] else none)
  else if e.kind = 6 ∨ e.kind = 7 then (if i = [] ∧ (0 ≤ e.sig ∧ e.sig ≤ 2) ∧ e.n = 0 then some [sgE e.sig.toNat] else none)
  else if e.kind = 3 then (if e.n = 3 then (if wordB i = true ∧ (0 ≤ e.sig ∧ e.sig ≤ 2) then some [i, pressL, sgE e.sig.toNat] else none) else if e.n = 4 then (if wordB i = true ∧ e.sig = 0 then some [i, roomL] else none) else none)
  else (if wordB i = true ∧ e.sig = 0 ∧ e.n = 0 then some [i] else none)
def fieldsE (e : EvV) : Option (List (List UInt8)) := if 1 ≤ e.kind ∧ e.kind ≤ 16 then (tailE e).map (fun l => kwE e.kind.toNat :: l) else none
def lineE (r : Int) (e : EvV) : Option (List UInt8) := if 0 ≤ r ∧ r ≤ 1099511627776 then (fieldsE e).map (fun l => joinW 32 (decDigits r.toNat :: l)) else none
/-- What the program takes of a line's pieces. -/
def readG (P : List (List UInt8)) : Int × EvV :=
  let k := idxE kwE (P.getD 1 []) 17
  let s := fun j => bA (P.getD j [])
  (numG (P.getD 0 []),
    if k = 9 ∨ k = 14 then ⟨k, s 2, 0, numG (P.getD 3 [])⟩
    else if k = 16 then ⟨k, ⟨#[]⟩, 0, numG (P.getD 2 [])⟩
    else if k = 5 then ⟨k, s 2, idxE sgE (P.getD 3 []) 3, 0⟩
    else if k = 6 ∨ k = 7 then ⟨k, ⟨#[]⟩, idxE sgE (P.getD 2 []) 3, 0⟩
    else if k = 3 then (if P.getD 3 [] = pressL then ⟨k, s 2, idxE sgE (P.getD 4 []) 3, 3⟩ else ⟨k, s 2, 0, 4⟩)
    else ⟨k, s 2, 0, 0⟩)
theorem idx_kwE : ∀ k, 1 ≤ k → k < 17 → idxE kwE (kwE k) 17 = k := by
  have h : ∀ k ∈ List.range 17, 1 ≤ k → idxE kwE (kwE k) 17 = k := by decide +kernel
  exact fun k h1 h2 => h k (List.mem_range.2 h2) h1
theorem idx_sgE : ∀ k, k < 3 → idxE sgE (sgE k) 3 = k := by
  have h : ∀ k ∈ List.range 3, idxE sgE (sgE k) 3 = k := by decide +kernel
  exact fun k h2 => h k (List.mem_range.2 h2)
theorem tail_no (e : EvV) {l : List (List UInt8)} (h : tailE e = some l) : ∀ x ∈ l, ∀ c ∈ x, c ≠ 32 := by
  have hp : ∀ c ∈ pressL, c ≠ 32 := by decide
  have hr : ∀ c ∈ roomL, c ≠ 32 := by decide
  have hd := dd_no32 e.n.toNat
  have hs := sgE_no e.sig.toNat
  unfold tailE at h
  dsimp only at h
  have hw : wordB e.id.data.toList = true → ∀ c ∈ e.id.data.toList, c ≠ 32 := fun q => (wordB_no _ q).2
  repeat' split at h
  all_goals first
    | (cases h; done)
    | (cases h
       intro x hx
       simp only [List.mem_cons, List.not_mem_nil, or_false] at hx
       rename_i hq
       first
         | (rcases hx with rfl | rfl | rfl <;> first | exact hw hq.1 | exact hp | exact hs)
         | (rcases hx with rfl | rfl <;> first | exact hw hq.1 | exact hd | exact hs | exact hr)
         | (subst hx; first | exact hd | exact hs | exact hw hq.1))
theorem line_cuts {r : Int} {e : EvV} {s : List UInt8} (h : lineE r e = some s) : ∃ l, fieldsE e = some l ∧ (0 ≤ r ∧ r ≤ 1099511627776) ∧ s = joinW 32 (decDigits r.toNat :: l) ∧ cutsL 32 s = decDigits r.toNat :: l := by
  unfold lineE at h
  split at h
  · rename_i hr
    cases hf : fieldsE e with
    | none => rw [hf] at h; cases h
    | some l =>
      rw [hf] at h
      simp only [Option.map_some, Option.some.injEq] at h
      refine ⟨l, rfl, hr, h.symm, ?_⟩
      rw [← h]
      refine cuts_join 32 _ (by simp) (fun x hx => ?_)
      rcases List.mem_cons.1 hx with rfl | hx
      · exact dd_no32 _
      · unfold fieldsE at hf
        split at hf
        · cases ht : tailE e with
          | none => rw [ht] at hf; cases hf
          | some t =>
            rw [ht] at hf
            simp only [Option.map_some, Option.some.injEq] at hf
            rw [← hf] at hx
            rcases List.mem_cons.1 hx with rfl | hx
            · exact kwE_no _
            · exact tail_no e ht x hx
        · cases hf
  · cases h
/-- What a line tells is read of its pieces. -/
theorem read_line {r : Int} {e : EvV} {s : List UInt8} (hn : e.n ≤ 9223372036854775807) (h : lineE r e = some s) : readG (cutsL 32 s) = (r, e) := by
  obtain ⟨l, hl, ⟨hr0, hr1⟩, _, hc⟩ := line_cuts h
  rw [hc]
  unfold fieldsE at hl
  split at hl
  · rename_i hk
    obtain ⟨hk1, hk2⟩ := hk
    cases ht : tailE e with
    | none => rw [ht] at hl; cases hl
    | some t =>
      rw [ht] at hl
      simp only [Option.map_some, Option.some.injEq] at hl
      subst hl
      have hnum : numG (decDigits r.toNat) = r := by rw [numG_dd _ (by omega)]; omega
      have hkk : idxE kwE (kwE e.kind.toNat) 17 = e.kind := by rw [idx_kwE _ (by omega) (by omega)]; omega
      have hnn : 0 ≤ e.n → numG (decDigits e.n.toNat) = e.n := fun q => by rw [numG_dd _ (by omega)]; omega
      have hss : 0 ≤ e.sig ∧ e.sig ≤ 2 → idxE sgE (sgE e.sig.toNat) 3 = e.sig := fun q => by rw [idx_sgE _ (by omega)]; omega
      have hid : bA e.id.data.toList = e.id := bA_self e.id
      have hem : e.id.data.toList = [] → (⟨#[]⟩ : ByteArray) = e.id := fun q => by rw [← hid, q]; rfl
      obtain ⟨k, i, sg, n⟩ := e
      dsimp only at *
      unfold readG
      simp only [List.getD_cons_zero, List.getD_cons_succ, hnum, hkk]
      congr 1
      unfold tailE at ht
      dsimp only at ht
      split at ht
      · rename_i q
        rw [if_pos q]
        split at ht
        · rename_i q2
          cases ht
          simp only [List.getD_cons_zero, List.getD_cons_succ, hid, hnn q2.2.1]
          rw [q2.2.2]
        · cases ht
      · rename_i q
        rw [if_neg q]
        split at ht
        · rename_i q3
          rw [if_pos q3]
          split at ht
          · rename_i q2
            cases ht
            simp only [List.getD_cons_zero, List.getD_cons_succ, hnn q2.2.1]
            rw [q2.2.2, hem q2.1]
          · cases ht
        · rename_i q3
          rw [if_neg q3]
          split at ht
          · rename_i q4
            rw [if_pos q4]
            split at ht
            · rename_i q2
              cases ht
              simp only [List.getD_cons_zero, List.getD_cons_succ, hid, hss q2.2.1]
              rw [q2.2.2]
            · cases ht
          · rename_i q4
            rw [if_neg q4]
            split at ht
            · rename_i q5
              rw [if_pos q5]
              split at ht
              · rename_i q2
                cases ht
                simp only [List.getD_cons_zero, List.getD_cons_succ, hss q2.2.1]
                rw [q2.2.2, hem q2.1]
              · cases ht
            · rename_i q5
              rw [if_neg q5]
              split at ht
              · rename_i q6
                rw [if_pos q6]
                split at ht
                · rename_i q7
                  split at ht
                  · rename_i q2
                    cases ht
                    simp only [List.getD_cons_zero, List.getD_cons_succ, hid, hss q2.2, if_true]
                    rw [q7]
                  · cases ht
                · split at ht
                  · rename_i q7 q8
                    split at ht
                    · rename_i q2
                      cases ht
                      simp only [List.getD_cons_zero, List.getD_cons_succ, hid]
                      rw [if_neg (by decide), q2.2, q8]
                    · cases ht
                  · cases ht
              · rename_i q6
                rw [if_neg q6]
                split at ht
                · rename_i q2
                  cases ht
                  simp only [List.getD_cons_zero, List.getD_cons_succ, hid]
                  rw [q2.2.1, q2.2.2]
                · cases ht
  · cases hl
/-- P27.4: unlike rounds, or unlike events, have unlike lines. -/
theorem line_inj {r q : Int} {e f : EvV} {s : List UInt8} (h1 : e.n ≤ 9223372036854775807) (h2 : f.n ≤ 9223372036854775807) (h : lineE r e = some s) (k : lineE q f = some s) : r = q ∧ e = f := by
  have a := read_line h1 h
  rw [read_line h2 k] at a
  simp only [Prod.mk.injEq] at a
  exact ⟨a.1.symm, a.2.symm⟩
end Go.Proofs.YtekakalhknjdaaaDoor
