
/- sum.Cut: contract. -/
import Derived.Test.YtcbblgeleboggaaSumCat
namespace Go.Proofs.Ytcbblgeleboggaa
open Go.RowKit
set_option linter.unusedVariables false
set_option linter.unusedSimpArgs false

theorem Ints.take {k : IntKind} {w : World} {a : Option Addr} {len cap : Nat} {l : List Int} (h : Ints k w a len cap l) {n : Nat} (hn : n ≤ len) (ha : a ≠ none) : Ints k w a n cap (l.take n) := by
  obtain ⟨⟨h1, h2, h3, h4, h5⟩, hw⟩ := h
  simp at h1
  refine ⟨⟨by simp; omega, by omega, h3, fun e => absurd e ha, ?_⟩, fun m hm => hw m (List.mem_of_mem_take hm)⟩
  rcases h5 with h5 | ⟨b, off, e, hc⟩
  · left; simp at h5; subst h5; simp
  · right
    refine ⟨b, off, e, fun i hi => ?_⟩
    simp at hi
    rw [hc i (by simp; omega)]
    simp [hi]
theorem Ints.drop {k : IntKind} {w : World} {b off len cap : Nat} {l : List Int} (h : Ints k w (some ⟨b, off, none⟩) len cap l) {n : Nat} (hn : n < len) : Ints k w (some ⟨b, off + n, none⟩) (len - n) (cap - n) (l.drop n) := by
  obtain ⟨⟨h1, h2, h3, h4, h5⟩, hw⟩ := h
  simp at h1
  refine ⟨⟨by simp; omega, by omega, by omega, (fun e => by cases e), ?_⟩, fun m hm => hw m (List.mem_of_mem_drop hm)⟩
  rcases h5 with h5 | ⟨b', off', e, hc⟩
  · simp at h5; subst h5; simp at h1; omega
  · right
    cases e
    refine ⟨b, off + n, rfl, fun i hi => ?_⟩
    simp at hi
    rw [Nat.add_assoc, hc (n + i) (by simp; omega)]
    simp [List.getElem?_drop]

def cutOk (l : List Int) : Bool := decide (4 ≤ l.length) && (l.drop (l.length - 4) == tailN (sumOf (l.take (l.length - 4))) 4)
def cutBody (l : List Int) : List Int := if cutOk l then l.take (l.length - 4) else []

set_option maxRecDepth 100000 in
set_option maxHeartbeats 4000000 in
theorem sum_Cut (a : Option Addr) (len cap : Nat) (l : List Int) (w : World) (hl : Ints .u8 w a len cap l) (hlen : len ≤ 1000000) :
    Calls Try.prog 39 #[.slice a len cap] w fun e w' => ∃ v, e = .returned (.tuple #[v, .bool (cutOk l)]) ∧ OwnI w' w.heap.size 5 .u8 v (cutBody l) ∧ Below w.heap.size w w' := by
  have hb := hl.bounds
  by_cases h4 : len < 4
  · have e1 : cutOk l = false := by unfold cutOk; rw [decide_eq_false (by omega)]; rfl
    have e2 : cutBody l = [] := by unfold cutBody; rw [e1]; rfl
    rw [e1, e2]
    go_enter Try.func39, Try.ntmps39
    go_wp2
    simp [bodyPost, results, Try.results39, go_sem]
    first | exact ⟨OwnI.nil _ _ _ _, Below.refl _ _⟩ | exact ⟨_, rfl, OwnI.nil _ _ _ _, Below.refl _ _⟩
  · obtain ⟨n, rfl⟩ : ∃ n, len = n + 4 := ⟨len - 4, by omega⟩
    obtain ⟨b, off, rfl, _, _⟩ := hl.opened (by omega)
    have hbody := hl.take (n := n) (by omega) (by simp)
    have htail := hl.drop (n := n) (by omega)
    rw [show n + 4 - n = 4 by omega] at htail
    have eok : cutOk l = (l.drop n == tailN (sumOf (l.take n)) 4) := by unfold cutOk; rw [hb.1, decide_eq_true (by omega)]; simp
    have ebd : cutBody l = if cutOk l then l.take n else [] := by unfold cutBody; rw [hb.1]; simp
    have cs := fun v (hv : Below w.heap.size w v) => sum_last _ n cap (l.take n) v (hbody.later hv)
    have CS := Lib.hid cs
    have HT := Lib.hid htail
    have HBd := Lib.hid hbody
    have EO := Lib.hid eok
    have EB := Lib.hid ebd
    have hw : Below w.heap.size w w := Below.refl _ _
    have hbel := hw
    have hwr : IntKind.i64.wrap (n : Int) = n := by rw [IntKind.wrap_i64]; omega
    have hnc : n ≤ cap := by omega
    have hle4 : (n : Int) ≤ (n : Int) + 4 := by omega
    have hne : ¬ cap = n := by omega
    have hne2 : ¬ (cap : Int) = n := by omega
    clear cs htail hbody eok ebd hl
    have e4 : n + 4 - n = 4 := by omega
    have key : cutOk l = true ∧ (l.drop n == tailN (sumOf (l.take n)) 4) = true ∨ cutOk l = false ∧ (l.drop n == tailN (sumOf (l.take n)) 4) = false := by rw [EO.out]; cases (l.drop n == tailN (sumOf (l.take n)) 4) <;> simp
    have ce := fun (a2 : Option Addr) (c2 : Nat) v (hv : Below w.heap.size w v) (h2 : Ints .u8 v a2 4 c2 (tailN (sumOf (l.take n)) 4)) => bytes_Equal _ 4 (cap - n) (l.drop n) a2 4 c2 (tailN (sumOf (l.take n)) 4) v (HT.out.later hv) h2
    rcases key with ⟨k1, k2⟩ | ⟨k1, k2⟩
    · rw [k2] at ce
      have CE := Lib.hid ce
      have CL := Lib.hid (fun v (hv : Below w.heap.size w v) => slices_Clone _ n cap (l.take n) v (HBd.out.later hv) (by omega))
      have e2 : cutBody l = l.take n := by rw [EB.out, k1]; rfl
      rw [k1, e2]
      clear ce k2
      go_enter Try.func39, Try.ntmps39
      go_wp2
      have kk := fun d os => belStep hbel (below_regrown _ d os)
      refine wp_region_quiet_below (by kernel_rfl) (by kernel_rfl) ?_
      repeat ((with_reducible refine wpQuiet_step (fun K hK => ?_)); go_simp; (try (rw [if_neg]; rotate_left; · decide)); first | ((with_reducible refine hK _ ?_); clear hK K) | (apply Exists.intro; refine ⟨fun _ => ?_, hK _ ?_⟩; (fail); clear hK K))
      refine wpQuiet_nil (fun w1 hw1 => ?_)
      replace hbel := belStep hbel (bel_of_class hw1)
      clear hw1 kk
      go_wp2_with (first | (go_at_call 53; (with_reducible refine (CS.out _ hbel).mono ?_); rintro e w2 ⟨v, rfl, hown, hb1⟩; obtain ⟨a2, cap2, rfl, hi2⟩ := ints_of_own hown (fun m hm => by have := tailN_bytes _ _ m hm; exact WalkArith.wf_u8 ⟨by omega, by omega⟩); rw [tailN_len] at hi2 ⊢; replace hbel := belStep hbel hb1; have HI2 := Lib.hid hi2; clear hown hi2 hb1) | (go_at_call 52; (with_reducible refine (CE.out _ _ _ hbel HI2.out).mono ?_); rintro e w3 ⟨rfl, rfl⟩) | (go_at_call 28; (with_reducible refine (CL.out _ hbel).mono ?_); rintro e w4 ⟨v4, rfl, hown4, hb4⟩))
      have hsz : w.heap.size ≤ w2.heap.size := hbel.size
      simp [bodyPost, results, Try.results39, go_sem]
      first
      | exact ⟨OwnR.mono hown4 hsz, belStep hbel hb4⟩
      | exact ⟨_, rfl, OwnR.mono hown4 hsz, belStep hbel hb4⟩
    · rw [k2] at ce
      have CE := Lib.hid ce
      have e2 : cutBody l = [] := by rw [EB.out, k1]; rfl
      rw [k1, e2]
      clear ce k2
      go_enter Try.func39, Try.ntmps39
      go_wp2
      have kk := fun d os => belStep hbel (below_regrown _ d os)
      refine wp_region_quiet_below (by kernel_rfl) (by kernel_rfl) ?_
      repeat ((with_reducible refine wpQuiet_step (fun K hK => ?_)); go_simp; (try (rw [if_neg]; rotate_left; · decide)); first | ((with_reducible refine hK _ ?_); clear hK K) | (apply Exists.intro; refine ⟨fun _ => ?_, hK _ ?_⟩; (fail); clear hK K))
      refine wpQuiet_nil (fun w1 hw1 => ?_)
      replace hbel := belStep hbel (bel_of_class hw1)
      clear hw1 kk
      go_wp2_with (first | (go_at_call 53; (with_reducible refine (CS.out _ hbel).mono ?_); rintro e w2 ⟨v, rfl, hown, hb1⟩; obtain ⟨a2, cap2, rfl, hi2⟩ := ints_of_own hown (fun m hm => by have := tailN_bytes _ _ m hm; exact WalkArith.wf_u8 ⟨by omega, by omega⟩); rw [tailN_len] at hi2 ⊢; replace hbel := belStep hbel hb1; have HI2 := Lib.hid hi2; clear hown hi2 hb1) | (go_at_call 52; (with_reducible refine (CE.out _ _ _ hbel HI2.out).mono ?_); rintro e w3 ⟨rfl, rfl⟩))
      simp [bodyPost, results, Try.results39, go_sem]
      first
      | exact ⟨OwnI.nil _ _ _ _, hbel⟩
      | exact ⟨_, rfl, OwnI.nil _ _ _ _, hbel⟩
end Go.Proofs.Ytcbblgeleboggaa
