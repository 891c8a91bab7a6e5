
/- Stage 27: the reference: Few: contract. -/
import Derived.Test.YtekakalhknjdaaaDoorLg9
namespace Go.Proofs.YtekakalhknjdaaaDoor
open Go.RowKit
set_option linter.unusedVariables false
set_option linter.unusedSimpArgs false
def fewE (x : StepV) : Bool := decide (x.en ≤ 30) && x.E.all (fun e => decide (e.id.size ≤ 80))
/-- Are steps few, with few events of short names? -/
def fewS (L : List StepV) : Bool := (L.take 60).all fewE && decide (L.length ≤ 40)
theorem few_out {L : List StepV} {k : Nat} {x : StepV} (hx : L[k]? = some x) (hk : k < 60) (h : fewE x = false) : fewS L = false := by
  unfold fewS
  rw [List.all_eq_false.2 ⟨x, List.mem_of_getElem? (i := k) (by rw [List.getElem?_take, if_pos hk, hx]), by rw [h]; simp⟩, Bool.false_and]
theorem few_end {L : List StepV} {k : Nat} (h : ∀ (j : Nat) (x : StepV), j < k → L[j]? = some x → fewE x = true) (hk : k = L.length ∨ 60 ≤ k) : fewS L = decide (L.length ≤ 40) := by
  unfold fewS
  rw [List.all_eq_true.2 (fun x hx => by
    obtain ⟨j, hj⟩ := List.getElem?_of_mem hx
    rw [List.getElem?_take] at hj
    split at hj
    · exact h j x (by have := (List.getElem?_eq_some_iff.1 hj).1; omega) hj
    · cases hj), Bool.true_and]
theorem fewE_long {x : StepV} (h : 30 < x.en) : fewE x = false := by unfold fewE; rw [decide_eq_false (by omega), Bool.false_and]
theorem fewE_id {x : StepV} {j : Nat} {y : EvV} (hy : x.E[j]? = some y) (h : 80 < y.id.size) : fewE x = false := by
  unfold fewE
  rw [List.all_eq_false.2 ⟨y, List.mem_of_getElem? hy, by simp; omega⟩, Bool.and_false]
theorem fewE_yes {x : StepV} (h1 : x.en ≤ 30) (h : ∀ (j : Nat) (y : EvV), x.E[j]? = some y → y.id.size ≤ 80) : fewE x = true := by
  unfold fewE
  rw [decide_eq_true h1, Bool.true_and, List.all_eq_true]
  intro y hy
  obtain ⟨j, hj⟩ := List.getElem?_of_mem hy
  exact decide_eq_true (h j y hj)
theorem fewS_bd {L : List StepV} {W : World} (h : fewS L = true) (hG : ∀ x ∈ L, x.good W) : L.length ≤ 40 ∧ (∀ x ∈ L, x.en ≤ 30) ∧ (evsOf L).length ≤ 1200 := by
  unfold fewS at h
  rw [Bool.and_eq_true, decide_eq_true_eq] at h
  obtain ⟨h1, h2⟩ := h
  rw [List.take_of_length_le (by omega), List.all_eq_true] at h1
  have h3 : ∀ x ∈ L, x.en ≤ 30 := fun x hx => by
    have := h1 x hx
    unfold fewE at this
    rw [Bool.and_eq_true, decide_eq_true_eq] at this
    exact this.1
  refine ⟨h2, h3, ?_⟩
  have h4 : ∀ L : List StepV, (∀ x ∈ L, x.E.length ≤ 30) → (evsOf L).length ≤ 30 * L.length := by
    intro L
    induction L with
    | nil => intro _; simp [evsOf]
    | cons x L ih =>
      intro h
      have e1 := h x List.mem_cons_self
      have e2 := ih (fun y hy => h y (List.mem_cons_of_mem _ hy))
      have e3 : (evsOf (x :: L)).length = x.E.length + (evsOf L).length := by
        unfold evsOf
        rw [List.flatMap_cons, List.length_append]
        unfold evsS
        rw [List.length_map]
      rw [e3, List.length_cons]; omega
  have h5 := h4 L (fun x hx => by rw [(hG x hx).1.2.2.1]; exact h3 x hx)
  omega
set_option maxRecDepth 100000 in
set_option maxHeartbeats 64000000 in
theorem rf_Few27 (a : Option Addr) (len cap : Nat) (L : List StepV) (w : World) (hl : L.length = len) (hG : ∀ x ∈ L, x.good w) (hR : Row w a len cap 7 (L.flatMap StepV.cells)) :
    Calls Tryd.prog 16 #[.slice a len cap] w fun e w' => e = .returned (.bool (fewS L)) ∧ w = w' := by
  have hbd_a : len ≤ cap ∧ cap ≤ 9223372036854775807 := by obtain ⟨_, h1, h2, _⟩ := hR; unfold maxLen at h2; exact ⟨h1, h2⟩
  obtain ⟨hbd1_a, hbd2_a⟩ := hbd_a
  have HR := Lib.hid hR
  have HG := Lib.hid hG
  clear hR hG
  subst hl
  have hbel : Below w.heap.size w w := Below.refl _ _
  go_enter Tryd.func16, Tryd.ntmps16
  go_wp2
  go_loopw [3] (fun iv wr => ∃ k : Nat, k ≤ L.length ∧ k ≤ 60 ∧ iv = .int .i64 k ∧ Hid (∀ j x, j < k → L[j]? = some x → fewE x = true) ∧ wr = w) (fun iv _ => L.length - (intOf iv).toNat)
  case atStart => exact ⟨0, Nat.zero_le _, by omega, rfl, Lib.hid (fun j x hj => absurd hj (by omega)), rfl⟩
  case round =>
    obtain ⟨k, hk, hk6, rfl, HA, rfl⟩ := hrel
    by_cases hlt : k < L.length
    · have hd : decide ((k : Int) < (L.length : Int)) = true := decide_eq_true (by omega)
      by_cases h6 : k < 60
      · have hd6 : decide ((k : Int) < 60) = true := decide_eq_true (by omega)
        obtain ⟨x, hx⟩ : ∃ x, L[k]? = some x := ⟨L[k], List.getElem?_eq_getElem hlt⟩
        obtain ⟨bc, oc, ec, _, hcc⟩ := (HR.out).elem StepV.cells_len (by omega) hx
        subst ec
        have c0 := keep (hcc 0 _ rfl)
        have c1 := keep (hcc 1 _ rfl)
        have c2 := keep (hcc 2 _ rfl)
        have c3 := keep (hcc 3 _ rfl)
        have c4 := keep (hcc 4 _ rfl)
        have c5 := keep (hcc 5 _ rfl)
        have c6 := keep (hcc 6 _ rfl)
        rw [Nat.add_zero] at c0
        have HX := Lib.hid hx
        obtain ⟨⟨_, _, hen, hye⟩, hyr⟩ := HG.out x (List.mem_of_getElem? hx)
        have HYR := Lib.hid hyr
        have HEN := Lib.hid hen
        have hbd_e : x.en ≤ x.ec ∧ x.ec ≤ 9223372036854775807 := by obtain ⟨_, h1, h2, _⟩ := hyr; unfold maxLen at h2; exact ⟨h1, h2⟩
        obtain ⟨hbd1_e, hbd2_e⟩ := hbd_e
        clear hx hcc hye hyr hen
        generalize hea : x.ea = ea at *
        clear hea
        by_cases h30 : 30 < x.en
        · have t3 : decide ((30 : Int) < (x.en : Int)) = true := decide_eq_true (by omega)
          have HF := Lib.hid (few_out HX.out h6 (fewE_long h30))
          go_wp2
          go_ret
          exact ⟨by rw [HF.out] <;> rfl, by first | rfl | trivial⟩
        · have t3 : decide ((30 : Int) < (x.en : Int)) = false := decide_eq_false (by omega)
          go_wp2
          go_loopw [4] (fun iv wq => ∃ j : Nat, j ≤ x.en ∧ iv = .int .i64 j ∧ Hid (∀ i y, i < j → x.E[i]? = some y → y.id.size ≤ 80) ∧ wq = wr) (fun iv _ => x.en - (intOf iv).toNat)
          case atStart => exact ⟨0, Nat.zero_le _, rfl, Lib.hid (fun i y hi => absurd hi (by omega)), rfl⟩
          case round =>
            obtain ⟨j, hj, rfl, HB, rfl⟩ := hrel
            by_cases hjt : j < x.en
            · obtain ⟨y, hy⟩ : ∃ y, x.E[j]? = some y := ⟨_, List.getElem?_eq_getElem (show j < x.E.length by rw [HEN.out]; exact hjt)⟩
              obtain ⟨bd, od, ed, _, hcd⟩ := (HYR.out).elem EvV.cells_len (by omega) hy
              subst ed
              have d0 := keep (hcd 0 _ rfl)
              have d1 := keep (hcd 1 _ rfl)
              have d2 := keep (hcd 2 _ rfl)
              have d3 := keep (hcd 3 _ rfl)
              rw [Nat.add_zero] at d0
              have hd : decide ((j : Int) < (x.en : Int)) = true := decide_eq_true (by omega)
              have HY := Lib.hid hy
              clear hy hcd
              by_cases h8 : 80 < y.id.size
              · have t8 : decide ((80 : Int) < (y.id.size : Int)) = true := decide_eq_true (by omega)
                have HF := Lib.hid (few_out HX.out h6 (fewE_id HY.out h8))
                go_wp2
                go_ret
                exact ⟨by rw [HF.out] <;> rfl, by first | rfl | trivial⟩
              · have t8 : decide ((80 : Int) < (y.id.size : Int)) = false := decide_eq_false (by omega)
                have HN := Lib.hid (show ∀ i y, i < j + 1 → x.E[i]? = some y → y.id.size ≤ 80 from fun i u hi hu => (Nat.lt_or_ge i j).elim (fun q => HB.out i u q hu) (fun q => by obtain rfl : i = j := (by omega); rw [HY.out] at hu; cases hu; omega))
                go_wp2
                go_roundw
                case rel => exact ⟨j + 1, by omega, by push_cast; rfl, HN, by first | rfl | trivial⟩
                case measure => simp [intOf] <;> omega
            · obtain rfl : j = x.en := by omega
              have hd : decide ((x.en : Int) < (x.en : Int)) = false := decide_eq_false (by omega)
              have HN := Lib.hid (show ∀ i u, i < k + 1 → L[i]? = some u → fewE u = true from fun i u hi hu => (Nat.lt_or_ge i k).elim (fun q => HA.out i u q hu) (fun q => by obtain rfl : i = k := (by omega); rw [HX.out] at hu; cases hu; exact fewE_yes (by omega) (fun i y hy => HB.out i y (by have := (List.getElem?_eq_some_iff.1 hy).1; rw [HEN.out] at this; exact this) hy)))
              go_wp2
              go_roundw
              case rel => exact ⟨k + 1, by omega, by omega, by push_cast; rfl, HN, by first | rfl | trivial⟩
              case measure => simp [intOf] <;> omega
      · have hd6 : decide ((k : Int) < 60) = false := decide_eq_false (by omega)
        have HE := Lib.hid (few_end HA.out (.inr (by omega)))
        by_cases h40 : L.length ≤ 40
        · have t4 : decide ((L.length : Int) ≤ 40) = true := decide_eq_true (by omega)
          have HF := Lib.hid (show fewS L = true from by rw [HE.out, decide_eq_true h40])
          go_wp2
          go_ret
          exact ⟨by rw [HF.out] <;> rfl, by first | rfl | trivial⟩
        · have t4 : decide ((L.length : Int) ≤ 40) = false := decide_eq_false (by omega)
          have HF := Lib.hid (show fewS L = false from by rw [HE.out, decide_eq_false h40])
          go_wp2
          go_ret
          exact ⟨by rw [HF.out] <;> rfl, by first | rfl | trivial⟩
    · obtain rfl : k = L.length := by omega
      have hd : decide ((L.length : Int) < (L.length : Int)) = false := decide_eq_false (by omega)
      have HE := Lib.hid (few_end HA.out (.inl rfl))
      by_cases h40 : L.length ≤ 40
      · have t4 : decide ((L.length : Int) ≤ 40) = true := decide_eq_true (by omega)
        have HF := Lib.hid (show fewS L = true from by rw [HE.out, decide_eq_true h40])
        go_wp2
        go_ret
        exact ⟨by rw [HF.out] <;> rfl, by first | rfl | trivial⟩
      · have t4 : decide ((L.length : Int) ≤ 40) = false := decide_eq_false (by omega)
        have HF := Lib.hid (show fewS L = false from by rw [HE.out, decide_eq_false h40])
        go_wp2
        go_ret
        exact ⟨by rw [HF.out] <;> rfl, by first | rfl | trivial⟩
end Go.Proofs.YtekakalhknjdaaaDoor
