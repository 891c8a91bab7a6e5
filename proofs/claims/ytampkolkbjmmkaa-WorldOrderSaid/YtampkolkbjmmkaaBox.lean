
/- Contracts of package box and of its reference. -/
import Derived.Test.YtampkolkbjmmkaaBoxTr
import Derived.Test.YtampkolkbjmmkaaSat
namespace Go.Proofs.Ytampkolkbjmmkaa
open Go.RowKit
set_option linter.unusedVariables false

set_option maxHeartbeats 1000000 in
theorem box_transitions (w : World) :
    Calls Try.prog 144 #[] w fun e w' => ∃ b, e = .returned (.map (some b)) ∧ TrAt w' b 7 (fun _ => true) ∧ Below w.heap.size w w' := by
  go_enter Try.func144, Try.ntmps144
  go_wp2
  refine wp_region_any (by kernel_rfl) ?_
  change wpAny _ _ _ _ _ _ _ (World.drew _)
  refine wpAny_take (i := 1) (v := .agg #[.int .i64 (trX 0), .int .i64 (trY 0)]) rfl (by kernel_rfl) (by kernel_rfl) (by kernel_rfl) (fun _ _ _ h => h) (Or.inl ⟨by rfl, by intro w; go_simp; exact ⟨rfl, rfl⟩⟩) ?_
  refine wpAny_take (i := 3) (v := .agg #[.int .i64 (trX 1), .int .i64 (trY 1)]) rfl (by kernel_rfl) (by kernel_rfl) (by kernel_rfl) (fun _ _ _ h => h) (Or.inl ⟨by rfl, by intro w; go_simp; exact ⟨rfl, rfl⟩⟩) ?_
  refine wpAny_take (i := 5) (v := .agg #[.int .i64 (trX 2), .int .i64 (trY 2)]) rfl (by kernel_rfl) (by kernel_rfl) (by kernel_rfl) (fun _ _ _ h => h) (Or.inl ⟨by rfl, by intro w; go_simp; exact ⟨rfl, rfl⟩⟩) ?_
  refine wpAny_take (i := 7) (v := .agg #[.int .i64 (trX 3), .int .i64 (trY 3)]) rfl (by kernel_rfl) (by kernel_rfl) (by kernel_rfl) (fun _ _ _ h => h) (Or.inl ⟨by rfl, by intro w; go_simp; exact ⟨rfl, rfl⟩⟩) ?_
  refine wpAny_take (i := 9) (v := .agg #[.int .i64 (trX 4), .int .i64 (trY 4)]) rfl (by kernel_rfl) (by kernel_rfl) (by kernel_rfl) (fun _ _ _ h => h) (Or.inl ⟨by rfl, by intro w; go_simp; exact ⟨rfl, rfl⟩⟩) ?_
  refine wpAny_take (i := 11) (v := .agg #[.int .i64 (trX 5), .int .i64 (trY 5)]) rfl (by kernel_rfl) (by kernel_rfl) (by kernel_rfl) (fun _ _ _ h => h) (Or.inl ⟨by rfl, by intro w; go_simp; exact ⟨rfl, rfl⟩⟩) ?_
  refine wpAny_take (i := 13) (v := .agg #[.int .i64 (trX 6), .int .i64 (trY 6)]) rfl (by kernel_rfl) (by kernel_rfl) (by kernel_rfl) (fun _ _ _ h => h) (Or.inl ⟨by rfl, by intro w; go_simp; exact ⟨rfl, rfl⟩⟩) ?_
  refine wpAny_ready (rs := [0]) (by kernel_rfl) (by simp) ?_
  refine AllReady.cons rfl (fun K hK => ?_) AllReady.nil
  go_simp
  refine hK _ _ ?_
  clear hK K
  refine trIns (b := w.heap.size) (B := w.heap.size) (w0 := w) (r := 7) ?_ ?_ ?_ ?_ (Nat.le_refl _) ?_ (fun _ => false) _ ?_ ?_ ?_ ?_
  · intro b0 b1 b2 b3 b4 b5 b6
    cases b0 <;> cases b1 <;> cases b2 <;> cases b3 <;> cases b4 <;> cases b5 <;> cases b6 <;> kernel_rfl
  · intro j hj
    match j, hj with
    | 0, _ | 1, _ | 2, _ | 3, _ | 4, _ | 5, _ | 6, _ => exact ⟨_, rfl, rfl, rfl, rfl⟩
  · rfl
  · intro j hj
    match j, hj with
    | 0, _ | 1, _ | 2, _ | 3, _ | 4, _ | 5, _ | 6, _ => rfl
  · intro w' hat hb
    refine wpAny_take (i := 15) (v := .map (some w.heap.size)) rfl (by kernel_rfl) (by kernel_rfl) (by kernel_rfl) (fun _ _ _ h => h) (Or.inl ⟨by rfl, by intro w; rfl⟩) ?_
    refine wpAny_take (i := 16) (v := .map (some w.heap.size)) rfl (by kernel_rfl) (by kernel_rfl) (by kernel_rfl) (fun _ _ _ h => h) (Or.inl ⟨by rfl, by intro w; rfl⟩) ?_
    refine wpAny_done (by kernel_rfl) ?_ _
    go_wp2
    go_ret
    exact ⟨_, rfl, hat, hb⟩
  · rfl
  · exact ⟨_, World.ownsMap_made _ _ _ _, fun j hj h => (by cases h), fun x y _ _ _ l _ => ⟨rfl, rfl⟩⟩
  · exact ((Below.refl w.heap.size w).drew.alloc (Nat.le_refl _) _ : Below _ _ (w.drew.alloc (.map #[] 0)))
  · simp

def failN (t r : Int) : Int := satAdd t 1
def failS (s t r : Int) : Int := if r < satAdd t 1 then 6 else s
def doS (s t k : Int) (well : Bool) (r : Int) : Int := if toS s k = 0 then s else if well then toS s k else failS s t r
def doN (s t k : Int) (well : Bool) (r : Int) : Int := if toS s k = 0 then t else if well then 0 else satAdd t 1
def doE (s k : Int) : Int := if toS s k = 0 then 7 else 0
theorem ret_box {a b c d : Int} (h : a = c) (h' : b = d) : Ending.returned (.agg #[.int .i64 a, .int .i64 b]) = .returned (.agg #[.int .i64 c, .int .i64 d]) := by rw [h, h']
theorem satAdd_1 (t : Int) : satAdd t 1 = if t < 9223372036854775807 then max t 0 + 1 else 9223372036854775807 := by unfold satAdd; omega
theorem toS_bd (s k : Int) : 0 ≤ toS s k ∧ toS s k ≤ 6 := by unfold toS; repeat (split <;> try omega)

set_option maxHeartbeats 400000 in
theorem box_New (w : World) : Calls Try.prog 79 #[] w fun e w' => e = .returned (.agg #[.int .i64 1, .int .i64 0]) ∧ Below w.heap.size w w' := by
  go_enter Try.func79, Try.ntmps79
  go_wp2
  simp [bodyPost, results, Try.results79, go_sem]
  exact (by repeat (first | exact Below.refl _ _ | refine Below.alloc ?_ (by simp) _ | refine Below.setCell ?_ (by simp) _))

set_option maxHeartbeats 1000000 in
theorem box_fail (s t r : Int) (w : World) (ht : InI t) :
    Calls Try.prog 147 #[.agg #[.int .i64 s, .int .i64 t], .int .i64 r] w fun e w' => e = .returned (.agg #[.int .i64 (failS s t r), .int .i64 (satAdd t 1)]) ∧ Below w.heap.size w w' := by
  have key : r < satAdd t 1 ∨ ¬ r < satAdd t 1 := by omega
  rcases key with h | h
  all_goals
    go_enter Try.func147, Try.ntmps147
    go_wp2_with (first | (go_at_call 66; refine (sat_Add _ _ _ ht (by unfold InI; omega)).mono ?_; rintro e w' ⟨rfl, rfl⟩))
    simp [bodyPost, results, Try.results147, go_sem]
    refine ⟨?_, (by repeat (first | exact Below.refl _ _ | refine Below.alloc ?_ (by simp) _ | refine Below.setCell ?_ (by simp) _))⟩
    unfold failS; simp <;> omega

set_option maxHeartbeats 1000000 in
theorem box_May (s t k : Int) (w : World) (hs : InI s) (hk : InI k) :
    Calls Try.prog 115 #[.agg #[.int .i64 s, .int .i64 t], .int .i64 k] w fun e w' => e = .returned (.bool (toS s k != 0)) ∧ Below w.heap.size w w' := by
  go_enter Try.func115, Try.ntmps115
  go_wp2
  have c0 : (w.alloc (.cells #[.int .i64 s, .int .i64 t] 33)).cell? ⟨w.heap.size, 0, none⟩ = some (.int .i64 s) := by simp
  have hbel : Below w.heap.size w (w.alloc (.cells #[.int .i64 s, .int .i64 t] 33)) := (Below.refl _ _).alloc (Nat.le_refl _) _
  generalize w.alloc (.cells #[.int .i64 s, .int .i64 t] 33) = w1 at *
  replace c0 := keep c0
  (first | go_region_held3 (fun w' => w'.cell? ⟨w.heap.size, 0, none⟩ = some (.int .i64 s)) (first | exact c0 _ (by repeat (first | assumption | exact Below.refl _ _ | refine belAlloc ?_ _ | refine belDrew ?_ | refine belSet ?_ _ _ (by simp) | refine belStep ?_ (by assumption)))) (first | (go_at_call 144; refine (box_transitions _).mono ?_; rintro e w2 ⟨b, rfl, hat, hb1⟩; have hlk := hat.look hs hk)) | fail)
  all_goals
    go_wp2
    go_ret
    exact ⟨rfl, belStep (belDrew hbel) hb1⟩

set_option maxHeartbeats 2000000 in
theorem box_Do (s t k : Int) (well : Bool) (r : Int) (w : World) (hs : InI s) (ht : InI t) (hk : InI k) :
    Calls Try.prog 117 #[.agg #[.int .i64 s, .int .i64 t], .int .i64 k, .bool well, .int .i64 r] w fun e w' =>
      e = .returned (.tuple #[.agg #[.int .i64 (doS s t k well r), .int .i64 (doN s t k well r)], .int .i64 (doE s k)]) ∧ Below w.heap.size w w' := by
  have key : (toS s k = 0 ∧ (toS s k != 0) = false) ∨ (toS s k ≠ 0 ∧ (toS s k != 0) = true ∧ well = true) ∨ (toS s k ≠ 0 ∧ (toS s k != 0) = true ∧ well = false) := by
    cases well <;> rcases Int.decEq (toS s k) 0 with h | h <;> simp [h]
  rcases key with ⟨h0, h1⟩ | ⟨h0, h1, rfl⟩ | ⟨h0, h1, rfl⟩
  all_goals
    go_enter Try.func117, Try.ntmps117
    go_wp2
    have c0 : ((w.alloc (.cells #[.int .i64 s, .int .i64 t] 33)).alloc (.cells #[.int .i64 0, .int .i64 0] 33)).cell? ⟨w.heap.size, 0, none⟩ = some (.int .i64 s) := by simp
    have c1 : ((w.alloc (.cells #[.int .i64 s, .int .i64 t] 33)).alloc (.cells #[.int .i64 0, .int .i64 0] 33)).cell? ⟨w.heap.size, 1, none⟩ = some (.int .i64 t) := by simp
    have c2 : Blk ((w.alloc (.cells #[.int .i64 s, .int .i64 t] 33)).alloc (.cells #[.int .i64 0, .int .i64 0] 33)) (w.heap.size + 1) [.int .i64 0, .int .i64 0] 33 := by have := Blk.new (w.alloc (.cells #[.int .i64 s, .int .i64 t] 33)) [.int .i64 0, .int .i64 0] 33; simpa using this
    have hbel : Below w.heap.size w ((w.alloc (.cells #[.int .i64 s, .int .i64 t] 33)).alloc (.cells #[.int .i64 0, .int .i64 0] 33)) := belAlloc (belAlloc (Below.refl _ _) _) _
    generalize (w.alloc (.cells #[.int .i64 s, .int .i64 t] 33)).alloc (.cells #[.int .i64 0, .int .i64 0] 33) = w1 at *
    replace c0 := keep c0
    (first | go_region_held3 (fun w' => w'.cell? ⟨w.heap.size, 0, none⟩ = some (.int .i64 s)) (first | exact c0 _ (by repeat (first | assumption | exact Below.refl _ _ | refine belAlloc ?_ _ | refine belDrew ?_ | refine belSet ?_ _ _ (by simp) | refine belStep ?_ (by assumption)))) (first | (go_at_call 144; refine (box_transitions _).mono ?_; rintro e w2 ⟨b, rfl, hat, hb1⟩; have hlk := hat.look hs hk; rw [h1] at hlk)) | fail)
    have hb2 : Below w1.heap.size w1 w2 := belStep (belDrew (Below.refl _ _)) hb1
    have q1 := keep (keep c1 w2 hb2)
    have q2 := c2.later hb2
    have q3 := keep (q2.cell (j := 0) rfl)
    have q4 := keep (q2.cell (j := 1) rfl)
    have q5 := q2.keepF
    have q0 := keep (c0 w2 hb2)
    have hw := belStep hbel hb2
    clear c0 c1 c2 hb1 hb2 hbel q2
    have hbel : Below w2.heap.size w2 w2 := Below.refl _ _
    have hb2 : w.heap.size ≤ w2.heap.size := hw.size
    go_wp2_with (first | (go_at_call 147; refine (box_fail _ _ _ _ ht).mono ?_; rintro e w1 ⟨rfl, hb1⟩; replace hbel := belStep hbel hb1; clear hb1))
    simp [bodyPost, results, Try.results117, go_sem, q3 _ hbel, q4 _ hbel]
    refine ⟨?_, (by repeat (first | exact belStep hw hbel | refine belAlloc ?_ _ | refine belDrew ?_ | refine belSet ?_ _ _ (by simp)))⟩
    simp [doS, doN, doE, h0]

/-! ### The reference. -/
set_option maxHeartbeats 1000000 in
theorem bref_To (s k : Int) (w : World) :
    Calls Try.prog 140 #[.int .i64 s, .int .i64 k] w fun e w' => e = .returned (.int .i64 (toS s k)) ∧ w = w' := by
  have key : (k ≠ 1 ∧ k ≠ 2 ∧ k ≠ 3 ∧ k ≠ 4) ∨ k = 1 ∨ k = 2 ∨ k = 3 ∨ k = 4 := by omega
  have key2 : (s ≠ 1 ∧ s ≠ 2 ∧ s ≠ 3 ∧ s ≠ 4 ∧ s ≠ 6) ∨ s = 1 ∨ s = 2 ∨ s = 3 ∨ s = 4 ∨ s = 6 := by omega
  rcases key with ⟨k1, k2, k3, k4⟩ | rfl | rfl | rfl | rfl <;> rcases key2 with ⟨s1, s2, s3, s4, s6⟩ | rfl | rfl | rfl | rfl | rfl
  all_goals
    go_enter Try.func140, Try.ntmps140
    go_wp2
    all_goals (go_ret; exact ⟨ret_i64 (by first | (exfalso; simp_all; done) | (unfold toS; repeat (first | rfl | rw [if_neg (by omega)] | rw [if_pos (by omega)])) | (simp [toS] <;> omega)), rfl⟩)

set_option maxHeartbeats 1000000 in
theorem bref_Do (s t k : Int) (well : Bool) (r : Int) (w : World) (ht : InI t) :
    Calls Try.prog 141 #[.agg #[.int .i64 s, .int .i64 t], .int .i64 k, .bool well, .int .i64 r] w fun e w' =>
      e = .returned (.tuple #[.agg #[.int .i64 (doS s t k well r), .int .i64 (doN s t k well r)], .bool (toS s k != 0)]) ∧ Below w.heap.size w w' := by
  have key : (toS s k = 0 ∧ (toS s k != 0) = false) ∨ (toS s k ≠ 0 ∧ (toS s k != 0) = true ∧ well = true) ∨ (toS s k ≠ 0 ∧ (toS s k != 0) = true ∧ well = false ∧ r < satAdd t 1) ∨ (toS s k ≠ 0 ∧ (toS s k != 0) = true ∧ well = false ∧ ¬ r < satAdd t 1) := by
    have : r < satAdd t 1 ∨ ¬ r < satAdd t 1 := by omega
    cases well <;> rcases Int.decEq (toS s k) 0 with h | h <;> simp [h] <;> omega
  rcases key with ⟨h0, h1⟩ | ⟨h0, h1, rfl⟩ | ⟨h0, h1, rfl, h2⟩ | ⟨h0, h1, rfl, h2⟩
  all_goals
    go_enter Try.func141, Try.ntmps141
    go_wp2_with (first | (go_at_call 140; refine (bref_To _ _ _).mono ?_; rintro e w' ⟨rfl, rfl⟩) | (go_at_call 68; refine (ref_Add _ _ _ ht (by unfold InI; omega)).mono ?_; rintro e w' ⟨rfl, rfl⟩))
    simp [bodyPost, results, Try.results141, go_sem]
    refine ⟨?_, (by repeat (first | exact Below.refl _ _ | refine Below.alloc ?_ (by simp) _ | refine Below.setCell ?_ (by simp) _))⟩
    simp [doS, doN, h0, failS] <;> omega
end Go.Proofs.Ytampkolkbjmmkaa
