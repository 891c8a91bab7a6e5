/- Classes and scores: contracts of the package and of its reference. -/
import Derived.Test.YtnfblpiapendeaaQos
import Derived.Test.YtnfblpiapendeaaPodRd
namespace Go.Proofs.Ytnfblpiapendeaa
open Go.RowKit
set_option linter.unusedVariables false
set_option linter.unusedSimpArgs false

def zeroes (r0 r1 r2 l0 l1 l2 : Int) : Bool := r0 == 0 && r1 == 0 && r2 == 0 && (l0 == 0 && l1 == 0 && l2 == 0)
def bnd (r l : Int) : Bool := decide (0 < l) && l == r
def classI (r0 r1 r2 l0 l1 l2 : Int) : Int := if zeroes r0 r1 r2 l0 l1 l2 then 3 else if bnd r0 l0 && bnd r1 l1 then 1 else 2

set_option maxHeartbeats 1000000 in
theorem eq_asks (d : Nat) (a b c x y z a' b' c' x' y' z' : Int) (w : World) :
    (Op.equalIn (d + 3) 69 (.agg #[.int .i64 a, .int .i64 b, .int .i64 c, .int .i64 x, .int .i64 y, .int .i64 z]) (.agg #[.int .i64 a', .int .i64 b', .int .i64 c', .int .i64 x', .int .i64 y', .int .i64 z'])).run Try.prog w =
      .ok ((a == a' && b == b' && c == c') && (x == x' && y == y' && z == z')) w := by
  have hs : Try.prog.fieldsOf 69 = #[{ name := "req", type := 22, offset := 0, embedded := false, tag := "", pkgPath := "bilge/qos", byteOffset := 0 }, { name := "lim", type := 22, offset := 3, embedded := false, tag := "", pkgPath := "bilge/qos", byteOffset := 24 }] := by kernel_rfl
  have h3 : ∀ e (p q r p' q' r' : Int) (v : World), (Op.equalIn (e + 2) 22 (.agg #[.int .i64 p, .int .i64 q, .int .i64 r]) (.agg #[.int .i64 p', .int .i64 q', .int .i64 r'])).run Try.prog v = .ok (p == p' && q == q' && r == r') v := by
    intro e p q r p' q' r' v
    rw [Op.equalIn]
    simp [run_underlying Try.underlying22, go_sem]
    rw [show List.range' 0 3 = [0, 1, 2] from rfl]
    simp [List.forIn_cons, go_sem]
    cases h0 : (p == p') <;> cases h1 : (q == q') <;> cases h2 : (r == r') <;> simp_all [go_sem]
  rw [run_equalIn_struct _ _ _ _ _ (by kernel_rfl) (by kernel_rfl), hs]
  simp [go_sem, h3]
  by_cases h0 : a = a' <;> by_cases h1 : b = b' <;> by_cases h2 : c = c' <;> by_cases k0 : x = x' <;> by_cases k1 : y = y' <;> by_cases k2 : z = z' <;> simp [h0, h1, h2, k0, k1, k2, go_sem]

set_option maxHeartbeats 1000000 in
theorem bound0 (M : Nat) (r l : Int) (v : World) (c3 : v.cell? ⟨M, 3, none⟩ = some (.int .i64 r)) (c6 : v.cell? ⟨M, 6, none⟩ = some (.int .i64 l)) :
    Calls Try.prog 43 #[.int .i64 0, .pointer (some ⟨M, 0, none⟩)] v fun e v' => e = .returned (.bool (bnd r l)) ∧ Below v.heap.size v v' := by
  replace c3 := keep c3
  replace c6 := keep c6
  have hbel : Below v.heap.size v v := Below.refl _ _
  have key : (0 < l ∧ decide (0 < l) = true) ∨ (¬ 0 < l ∧ decide (0 < l) = false) := by by_cases h : 0 < l <;> simp [h]
  rcases key with ⟨k1, k2⟩ | ⟨k1, k2⟩
  all_goals
    go_enter Try.func43, Try.ntmps43
    go_wp2
    have kk := fun d os => belStep hbel (below_regrown _ d os)
    refine wp_region_quiet_below (by kernel_rfl) (by kernel_rfl) ?_
    repeat ((with_reducible refine wpQuiet_step (fun K hK => ?_)); go_simp; first | ((with_reducible refine hK _ ?_); clear hK K) | (apply Exists.intro; refine ⟨fun _ => ?_, hK _ ?_⟩; (fail); clear hK K))
    refine wpQuiet_nil (fun w1 hw1 => ?_)
    replace hbel := belStep hbel (bel_of_class hw1)
    clear hw1 kk
    go_wp2
    go_ret
    exact ⟨ret_bool (by first | (simp [bnd, k1]; done) | (simp [bnd]; intro h; omega)), hbel⟩
set_option maxHeartbeats 1000000 in
theorem bound1 (M : Nat) (r l : Int) (v : World) (c3 : v.cell? ⟨M, 4, none⟩ = some (.int .i64 r)) (c6 : v.cell? ⟨M, 7, none⟩ = some (.int .i64 l)) :
    Calls Try.prog 43 #[.int .i64 1, .pointer (some ⟨M, 0, none⟩)] v fun e v' => e = .returned (.bool (bnd r l)) ∧ Below v.heap.size v v' := by
  replace c3 := keep c3
  replace c6 := keep c6
  have hbel : Below v.heap.size v v := Below.refl _ _
  have key : (0 < l ∧ decide (0 < l) = true) ∨ (¬ 0 < l ∧ decide (0 < l) = false) := by by_cases h : 0 < l <;> simp [h]
  rcases key with ⟨k1, k2⟩ | ⟨k1, k2⟩
  all_goals
    go_enter Try.func43, Try.ntmps43
    go_wp2
    have kk := fun d os => belStep hbel (below_regrown _ d os)
    refine wp_region_quiet_below (by kernel_rfl) (by kernel_rfl) ?_
    repeat ((with_reducible refine wpQuiet_step (fun K hK => ?_)); go_simp; first | ((with_reducible refine hK _ ?_); clear hK K) | (apply Exists.intro; refine ⟨fun _ => ?_, hK _ ?_⟩; (fail); clear hK K))
    refine wpQuiet_nil (fun w1 hw1 => ?_)
    replace hbel := belStep hbel (bel_of_class hw1)
    clear hw1 kk
    go_wp2
    go_ret
    exact ⟨ret_bool (by first | (simp [bnd, k1]; done) | (simp [bnd]; intro h; omega)), hbel⟩
set_option maxHeartbeats 4000000 in
theorem qos_Class (id : ByteArray) (prio : Int) (crit : Bool) (r0 r1 r2 l0 l1 l2 : Int) (img : ByteArray) (size : Int) (w : World) :
    Calls Try.prog 29 #[.agg #[.string id, .int .i64 prio, .bool crit, .int .i64 r0, .int .i64 r1, .int .i64 r2, .int .i64 l0, .int .i64 l1, .int .i64 l2, .string img, .int .i64 size]] w fun e w' => e = .returned (.int .i64 (classI r0 r1 r2 l0 l1 l2)) ∧ Below w.heap.size w w' := by
  have hw : Below w.heap.size w w := Below.refl _ _
  have hbel := hw
  have he := eq_asks 9997 r0 r1 r2 l0 l1 l2 0 0 0 0 0 0
  have hz : (r0 == 0 && r1 == 0 && r2 == 0 && (l0 == 0 && l1 == 0 && l2 == 0)) = zeroes r0 r1 r2 l0 l1 l2 := rfl
  have cl0 := fun M v => bound0 M r0 l0 v
  have cl1 := fun M v => bound1 M r1 l1 v
  have key : (zeroes r0 r1 r2 l0 l1 l2 = true ∧ classI r0 r1 r2 l0 l1 l2 = 3) ∨ (zeroes r0 r1 r2 l0 l1 l2 = false ∧ bnd r0 l0 = true ∧ bnd r1 l1 = true ∧ classI r0 r1 r2 l0 l1 l2 = 1) ∨ (zeroes r0 r1 r2 l0 l1 l2 = false ∧ bnd r0 l0 = true ∧ bnd r1 l1 = false ∧ classI r0 r1 r2 l0 l1 l2 = 2) ∨ (zeroes r0 r1 r2 l0 l1 l2 = false ∧ bnd r0 l0 = false ∧ classI r0 r1 r2 l0 l1 l2 = 2) := by
    unfold classI
    cases zeroes r0 r1 r2 l0 l1 l2 <;> cases bnd r0 l0 <;> cases bnd r1 l1 <;> simp
  rw [hz] at he
  clear hz
  rcases key with ⟨k1, k4⟩ | ⟨k1, k2, k3, k4⟩ | ⟨k1, k2, k3, k4⟩ | ⟨k1, k2, k4⟩
  all_goals
    rw [k4]
    rw [k1] at he
    try rw [k2] at cl0
    try rw [k3] at cl1
    clear k1 k4
    have C0 := Lib.hid cl0
    have C1 := Lib.hid cl1
    clear cl0 cl1
    go_enter Try.func29, Try.ntmps29
    go_upto_region 1 with fail
    have a0 : (w.alloc (.cells #[.string id, .int .i64 prio, .bool crit, .int .i64 r0, .int .i64 r1, .int .i64 r2, .int .i64 l0, .int .i64 l1, .int .i64 l2, .string img, .int .i64 size] 24)).cell? ⟨w.heap.size, 0, none⟩ = some (.string id) := by first | (simp; done) | (rw [World.cell?_alloc_at _ _ _ _ (by simp)]; rfl) | (rw [World.cell?_alloc_past _ _ _ (by simp <;> omega), World.cell?_alloc_at _ _ _ _ (by simp)]; rfl) | (rw [World.cell?_alloc_past _ _ _ (by simp <;> omega), World.cell?_alloc_past _ _ _ (by simp <;> omega), World.cell?_alloc_at _ _ _ _ (by simp)]; rfl)
    have a1 : (w.alloc (.cells #[.string id, .int .i64 prio, .bool crit, .int .i64 r0, .int .i64 r1, .int .i64 r2, .int .i64 l0, .int .i64 l1, .int .i64 l2, .string img, .int .i64 size] 24)).cell? ⟨w.heap.size, 1, none⟩ = some (.int .i64 prio) := by first | (simp; done) | (rw [World.cell?_alloc_at _ _ _ _ (by simp)]; rfl) | (rw [World.cell?_alloc_past _ _ _ (by simp <;> omega), World.cell?_alloc_at _ _ _ _ (by simp)]; rfl) | (rw [World.cell?_alloc_past _ _ _ (by simp <;> omega), World.cell?_alloc_past _ _ _ (by simp <;> omega), World.cell?_alloc_at _ _ _ _ (by simp)]; rfl)
    have a2 : (w.alloc (.cells #[.string id, .int .i64 prio, .bool crit, .int .i64 r0, .int .i64 r1, .int .i64 r2, .int .i64 l0, .int .i64 l1, .int .i64 l2, .string img, .int .i64 size] 24)).cell? ⟨w.heap.size, 2, none⟩ = some (.bool crit) := by first | (simp; done) | (rw [World.cell?_alloc_at _ _ _ _ (by simp)]; rfl) | (rw [World.cell?_alloc_past _ _ _ (by simp <;> omega), World.cell?_alloc_at _ _ _ _ (by simp)]; rfl) | (rw [World.cell?_alloc_past _ _ _ (by simp <;> omega), World.cell?_alloc_past _ _ _ (by simp <;> omega), World.cell?_alloc_at _ _ _ _ (by simp)]; rfl)
    have a3 : (w.alloc (.cells #[.string id, .int .i64 prio, .bool crit, .int .i64 r0, .int .i64 r1, .int .i64 r2, .int .i64 l0, .int .i64 l1, .int .i64 l2, .string img, .int .i64 size] 24)).cell? ⟨w.heap.size, 3, none⟩ = some (.int .i64 r0) := by first | (simp; done) | (rw [World.cell?_alloc_at _ _ _ _ (by simp)]; rfl) | (rw [World.cell?_alloc_past _ _ _ (by simp <;> omega), World.cell?_alloc_at _ _ _ _ (by simp)]; rfl) | (rw [World.cell?_alloc_past _ _ _ (by simp <;> omega), World.cell?_alloc_past _ _ _ (by simp <;> omega), World.cell?_alloc_at _ _ _ _ (by simp)]; rfl)
    have a4 : (w.alloc (.cells #[.string id, .int .i64 prio, .bool crit, .int .i64 r0, .int .i64 r1, .int .i64 r2, .int .i64 l0, .int .i64 l1, .int .i64 l2, .string img, .int .i64 size] 24)).cell? ⟨w.heap.size, 4, none⟩ = some (.int .i64 r1) := by first | (simp; done) | (rw [World.cell?_alloc_at _ _ _ _ (by simp)]; rfl) | (rw [World.cell?_alloc_past _ _ _ (by simp <;> omega), World.cell?_alloc_at _ _ _ _ (by simp)]; rfl) | (rw [World.cell?_alloc_past _ _ _ (by simp <;> omega), World.cell?_alloc_past _ _ _ (by simp <;> omega), World.cell?_alloc_at _ _ _ _ (by simp)]; rfl)
    have a5 : (w.alloc (.cells #[.string id, .int .i64 prio, .bool crit, .int .i64 r0, .int .i64 r1, .int .i64 r2, .int .i64 l0, .int .i64 l1, .int .i64 l2, .string img, .int .i64 size] 24)).cell? ⟨w.heap.size, 5, none⟩ = some (.int .i64 r2) := by first | (simp; done) | (rw [World.cell?_alloc_at _ _ _ _ (by simp)]; rfl) | (rw [World.cell?_alloc_past _ _ _ (by simp <;> omega), World.cell?_alloc_at _ _ _ _ (by simp)]; rfl) | (rw [World.cell?_alloc_past _ _ _ (by simp <;> omega), World.cell?_alloc_past _ _ _ (by simp <;> omega), World.cell?_alloc_at _ _ _ _ (by simp)]; rfl)
    have a6 : (w.alloc (.cells #[.string id, .int .i64 prio, .bool crit, .int .i64 r0, .int .i64 r1, .int .i64 r2, .int .i64 l0, .int .i64 l1, .int .i64 l2, .string img, .int .i64 size] 24)).cell? ⟨w.heap.size, 6, none⟩ = some (.int .i64 l0) := by first | (simp; done) | (rw [World.cell?_alloc_at _ _ _ _ (by simp)]; rfl) | (rw [World.cell?_alloc_past _ _ _ (by simp <;> omega), World.cell?_alloc_at _ _ _ _ (by simp)]; rfl) | (rw [World.cell?_alloc_past _ _ _ (by simp <;> omega), World.cell?_alloc_past _ _ _ (by simp <;> omega), World.cell?_alloc_at _ _ _ _ (by simp)]; rfl)
    have a7 : (w.alloc (.cells #[.string id, .int .i64 prio, .bool crit, .int .i64 r0, .int .i64 r1, .int .i64 r2, .int .i64 l0, .int .i64 l1, .int .i64 l2, .string img, .int .i64 size] 24)).cell? ⟨w.heap.size, 7, none⟩ = some (.int .i64 l1) := by first | (simp; done) | (rw [World.cell?_alloc_at _ _ _ _ (by simp)]; rfl) | (rw [World.cell?_alloc_past _ _ _ (by simp <;> omega), World.cell?_alloc_at _ _ _ _ (by simp)]; rfl) | (rw [World.cell?_alloc_past _ _ _ (by simp <;> omega), World.cell?_alloc_past _ _ _ (by simp <;> omega), World.cell?_alloc_at _ _ _ _ (by simp)]; rfl)
    have a8 : (w.alloc (.cells #[.string id, .int .i64 prio, .bool crit, .int .i64 r0, .int .i64 r1, .int .i64 r2, .int .i64 l0, .int .i64 l1, .int .i64 l2, .string img, .int .i64 size] 24)).cell? ⟨w.heap.size, 8, none⟩ = some (.int .i64 l2) := by first | (simp; done) | (rw [World.cell?_alloc_at _ _ _ _ (by simp)]; rfl) | (rw [World.cell?_alloc_past _ _ _ (by simp <;> omega), World.cell?_alloc_at _ _ _ _ (by simp)]; rfl) | (rw [World.cell?_alloc_past _ _ _ (by simp <;> omega), World.cell?_alloc_past _ _ _ (by simp <;> omega), World.cell?_alloc_at _ _ _ _ (by simp)]; rfl)
    have a9 : (w.alloc (.cells #[.string id, .int .i64 prio, .bool crit, .int .i64 r0, .int .i64 r1, .int .i64 r2, .int .i64 l0, .int .i64 l1, .int .i64 l2, .string img, .int .i64 size] 24)).cell? ⟨w.heap.size, 9, none⟩ = some (.string img) := by first | (simp; done) | (rw [World.cell?_alloc_at _ _ _ _ (by simp)]; rfl) | (rw [World.cell?_alloc_past _ _ _ (by simp <;> omega), World.cell?_alloc_at _ _ _ _ (by simp)]; rfl) | (rw [World.cell?_alloc_past _ _ _ (by simp <;> omega), World.cell?_alloc_past _ _ _ (by simp <;> omega), World.cell?_alloc_at _ _ _ _ (by simp)]; rfl)
    have a10 : (w.alloc (.cells #[.string id, .int .i64 prio, .bool crit, .int .i64 r0, .int .i64 r1, .int .i64 r2, .int .i64 l0, .int .i64 l1, .int .i64 l2, .string img, .int .i64 size] 24)).cell? ⟨w.heap.size, 10, none⟩ = some (.int .i64 size) := by first | (simp; done) | (rw [World.cell?_alloc_at _ _ _ _ (by simp)]; rfl) | (rw [World.cell?_alloc_past _ _ _ (by simp <;> omega), World.cell?_alloc_at _ _ _ _ (by simp)]; rfl) | (rw [World.cell?_alloc_past _ _ _ (by simp <;> omega), World.cell?_alloc_past _ _ _ (by simp <;> omega), World.cell?_alloc_at _ _ _ _ (by simp)]; rfl)
    have hb2 := (by repeat (first | exact hbel | refine belAlloc ?_ _ | refine belDrew ?_ | refine belSet ?_ _ _ (by simp)) : Below w.heap.size w (w.alloc (.cells #[.string id, .int .i64 prio, .bool crit, .int .i64 r0, .int .i64 r1, .int .i64 r2, .int .i64 l0, .int .i64 l1, .int .i64 l2, .string img, .int .i64 size] 24)))
    replace hw := belStep hw hb2
    clear hb2 hbel
    generalize w.alloc (.cells #[.string id, .int .i64 prio, .bool crit, .int .i64 r0, .int .i64 r1, .int .i64 r2, .int .i64 l0, .int .i64 l1, .int .i64 l2, .string img, .int .i64 size] 24) = W1 at *
    replace a0 := keep a0
    replace a1 := keep a1
    replace a2 := keep a2
    replace a3 := keep a3
    replace a4 := keep a4
    replace a5 := keep a5
    replace a6 := keep a6
    replace a7 := keep a7
    replace a8 := keep a8
    replace a9 := keep a9
    replace a10 := keep a10
    have hbel : Below W1.heap.size W1 W1 := Below.refl _ _
    skip
    have D0 := Lib.hid fun v (hv : Below W1.heap.size W1 v) => C0.out w.heap.size v (a3 v hv) (a6 v hv)
    have D1 := Lib.hid fun v (hv : Below W1.heap.size W1 v) => C1.out w.heap.size v (a4 v hv) (a7 v hv)
    clear C0 C1
    go_wp2_with (first | (go_at_call 43; (with_reducible refine (D0.out _ hbel).mono ?_); rintro e w1 ⟨rfl, hb1⟩; replace hbel := belStep hbel hb1; clear hb1) | (go_at_call 43; (with_reducible refine (D1.out _ hbel).mono ?_); rintro e w1 ⟨rfl, hb1⟩; replace hbel := belStep hbel hb1; clear hb1))
    go_ret
    exact ⟨rfl, belStep hw hbel⟩
end Go.Proofs.Ytnfblpiapendeaa
