
/- Two states, held against one another; bilgeref24.Same: contract. -/
import Derived.Test.YtpmkhimmlpnbpaaSt1
import Derived.Test.YtpmkhimmlpnbpaaPodEq
import Derived.Test.YtpmkhimmlpnbpaaTail
namespace Go.Proofs.Ytpmkhimmlpnbpaa
open Go.RowKit
set_option linter.unusedVariables false
set_option linter.unusedSimpArgs false
set_option maxHeartbeats 1000000 in
theorem eq_pod9 (p q : PodV) (w : World) : (Op.equalIn 9999 44 (.agg #[.string p.id, .int .i64 p.prio, .bool p.crit, .int .i64 p.r0, .int .i64 p.r1, .int .i64 p.r2, .int .i64 p.l0, .int .i64 p.l1, .int .i64 p.l2, .string p.img, .int .i64 p.size]) (.agg #[.string q.id, .int .i64 q.prio, .bool q.crit, .int .i64 q.r0, .int .i64 q.r1, .int .i64 q.r2, .int .i64 q.l0, .int .i64 q.l1, .int .i64 q.l2, .string q.img, .int .i64 q.size])).run Try.prog w = .ok (eqPod p q) w := by
  have hs : Try.prog.fieldsOf 44 = #[{ name := "Id", type := 9, offset := 0, embedded := false, tag := "", pkgPath := "", byteOffset := 0 }, { name := "Prio", type := 3, offset := 1, embedded := false, tag := "", pkgPath := "", byteOffset := 16 }, { name := "Critical", type := 4, offset := 2, embedded := false, tag := "", pkgPath := "", byteOffset := 24 }, { name := "Req", type := 42, offset := 3, embedded := false, tag := "", pkgPath := "", byteOffset := 32 }, { name := "Lim", type := 42, offset := 6, embedded := false, tag := "", pkgPath := "", byteOffset := 56 }, { name := "Image", type := 9, offset := 9, embedded := false, tag := "", pkgPath := "", byteOffset := 80 }, { name := "Size", type := 3, offset := 10, embedded := false, tag := "", pkgPath := "", byteOffset := 96 }] := by kernel_rfl
  rw [run_equalIn_struct _ _ _ _ _ (by kernel_rfl) (by kernel_rfl), hs]
  unfold eqPod
  simp [go_sem, eq3_any]
  by_cases a1 : p.id.toList = q.id.toList
  · by_cases a2 : p.prio = q.prio
    · by_cases a3 : p.crit = q.crit
      · rw [if_pos a1, if_pos a2, if_pos a3]
        by_cases a4 : p.r0 = q.r0 → p.r1 = q.r1 → ¬p.r2 = q.r2
        · rw [if_pos a4]
          have : (p.r0 == q.r0 && (p.r1 == q.r1 && p.r2 == q.r2)) = false := by
            rcases Int.decEq p.r0 q.r0 with h1 | h1 <;> rcases Int.decEq p.r1 q.r1 with h2 | h2 <;> rcases Int.decEq p.r2 q.r2 with h3 | h3 <;> simp_all
          rw [this]; simp
        · rw [if_neg a4]
          have : (p.r0 == q.r0 && (p.r1 == q.r1 && p.r2 == q.r2)) = true := by
            rcases Int.decEq p.r0 q.r0 with h1 | h1 <;> rcases Int.decEq p.r1 q.r1 with h2 | h2 <;> rcases Int.decEq p.r2 q.r2 with h3 | h3 <;> simp_all
          rw [this]
          by_cases a5 : p.l0 = q.l0 → p.l1 = q.l1 → ¬p.l2 = q.l2
          · rw [if_pos a5]
            have : (p.l0 == q.l0 && (p.l1 == q.l1 && p.l2 == q.l2)) = false := by
              rcases Int.decEq p.l0 q.l0 with h1 | h1 <;> rcases Int.decEq p.l1 q.l1 with h2 | h2 <;> rcases Int.decEq p.l2 q.l2 with h3 | h3 <;> simp_all
            rw [this]; simp
          · rw [if_neg a5]
            have : (p.l0 == q.l0 && (p.l1 == q.l1 && p.l2 == q.l2)) = true := by
              rcases Int.decEq p.l0 q.l0 with h1 | h1 <;> rcases Int.decEq p.l1 q.l1 with h2 | h2 <;> rcases Int.decEq p.l2 q.l2 with h3 | h3 <;> simp_all
            rw [this]
            by_cases a6 : p.img.toList = q.img.toList <;> by_cases a7 : p.size = q.size <;> simp [a1, a2, a3, a6, a7]
      · simp [a1, a2, a3]
    · simp [a1, a2]
  · simp [a1]
def eqEnt (x y : EntV) : Bool := eqPod x.pod y.pod && x.phase == y.phase
theorem eqEnt_iff (x y : EntV) : eqEnt x y = true ↔ x = y := by
  unfold eqEnt
  rw [Bool.and_eq_true, eqPod_iff, beq_iff_eq]
  cases x; cases y
  simp
set_option maxHeartbeats 1000000 in
theorem eq_ent (x y : EntV) (w : World) : (Op.equalIn 10000 46 (.agg #[.string x.pod.id, .int .i64 x.pod.prio, .bool x.pod.crit, .int .i64 x.pod.r0, .int .i64 x.pod.r1, .int .i64 x.pod.r2, .int .i64 x.pod.l0, .int .i64 x.pod.l1, .int .i64 x.pod.l2, .string x.pod.img, .int .i64 x.pod.size, .int .i64 x.phase]) (.agg #[.string y.pod.id, .int .i64 y.pod.prio, .bool y.pod.crit, .int .i64 y.pod.r0, .int .i64 y.pod.r1, .int .i64 y.pod.r2, .int .i64 y.pod.l0, .int .i64 y.pod.l1, .int .i64 y.pod.l2, .string y.pod.img, .int .i64 y.pod.size, .int .i64 y.phase])).run Try.prog w = .ok (eqEnt x y) w := by
  have ht : Try.prog.fieldsOf 46 = #[{ name := "Pod", type := 44, offset := 0, embedded := false, tag := "", pkgPath := "", byteOffset := 0 }, { name := "Phase", type := 3, offset := 11, embedded := false, tag := "", pkgPath := "", byteOffset := 104 }] := by kernel_rfl
  have hp := fun v => eq_pod9 x.pod y.pod v
  rw [run_equalIn_struct _ _ _ _ _ (by kernel_rfl) (by kernel_rfl), ht]
  unfold eqEnt
  cases hq : eqPod x.pod y.pod with
  | true =>
    rw [hq] at hp
    by_cases h2 : x.phase = y.phase <;> simp [go_sem, hp, h2]
  | false =>
    rw [hq] at hp
    simp [go_sem, hp]
def eqOn (o p : On) : Bool := o.a == p.a && (o.b == p.b && o.c == p.c)
theorem eqOn_iff (o p : On) : eqOn o p = true ↔ o = p := by
  unfold eqOn
  cases o; cases p
  simp [Bool.and_eq_true]
theorem eq_on (a b c x y z : Bool) (v : World) : (Op.equalIn 10000 23 (.agg #[.bool a, .bool b, .bool c]) (.agg #[.bool x, .bool y, .bool z])).run Try.prog v = .ok (a == x && (b == y && c == z)) v := by
  rw [Op.equalIn]
  simp [run_underlying Try.underlying23, go_sem]
  rw [show List.range' 0 3 = [0, 1, 2] from rfl]
  cases a <;> cases b <;> cases c <;> cases x <;> cases y <;> cases z <;> simp [List.forIn_cons, go_sem]
/-- The same entries, place by place, up to k. -/
def sameN (L M : List EntV) : Nat → Bool
  | 0 => true
  | k + 1 => sameN L M k && (match L[k]?, M[k]? with | some x, some y => eqEnt x y | _, _ => true)
def sameS (r : Int) (o : On) (L : List EntV) (q : Int) (p : On) (M : List EntV) : Bool := r == q && eqOn o p && L.length == M.length && sameN L M L.length
theorem sameN_no {L M : List EntV} {k n : Nat} {x y : EntV} (hx : L[k]? = some x) (hy : M[k]? = some y) (h : eqEnt x y = false) (hk : k < n) : sameN L M n = false := by
  induction n with
  | zero => omega
  | succ n ih =>
    unfold sameN
    by_cases e : k = n
    · subst e; rw [hx, hy]; simp [h]
    · rw [ih (by omega), Bool.false_and]
theorem sameN_next {L M : List EntV} {k : Nat} {x y : EntV} (hx : L[k]? = some x) (hy : M[k]? = some y) (h : eqEnt x y = true) (hs : sameN L M k = true) : sameN L M (k + 1) = true := by
  unfold sameN; rw [hs, hx, hy]; simp [h]
theorem sameN_eq {L M : List EntV} : ∀ {n : Nat}, sameN L M n = true → n ≤ L.length → n ≤ M.length → L.take n = M.take n := by
  intro n
  induction n with
  | zero => intros; rfl
  | succ n ih =>
    intro h h1 h2
    unfold sameN at h
    rw [Bool.and_eq_true] at h
    have hx : L[n]? = some L[n] := List.getElem?_eq_getElem (by omega)
    have hy : M[n]? = some M[n] := List.getElem?_eq_getElem (by omega)
    have h3 := h.2
    rw [hx, hy] at h3
    simp only at h3
    rw [List.take_add_one, List.take_add_one, hx, hy, ih h.1 (by omega) (by omega), (eqEnt_iff _ _).1 h3]
theorem sameN_refl (L : List EntV) : ∀ n, sameN L L n = true := by
  intro n
  induction n with
  | zero => rfl
  | succ n ih =>
    unfold sameN
    rw [ih]
    cases h : L[n]? with
    | none => rfl
    | some x => simp [(eqEnt_iff x x).2 rfl]
theorem sameS_iff (r : Int) (o : On) (L : List EntV) (q : Int) (p : On) (M : List EntV) : sameS r o L q p M = true ↔ r = q ∧ o = p ∧ L = M := by
  unfold sameS
  rw [Bool.and_eq_true, Bool.and_eq_true, Bool.and_eq_true, beq_iff_eq, eqOn_iff, beq_iff_eq]
  constructor
  · rintro ⟨⟨⟨h1, h2⟩, h3⟩, h4⟩
    refine ⟨h1, h2, ?_⟩
    have := sameN_eq h4 (Nat.le_refl _) (by omega)
    rwa [List.take_length, List.take_of_length_le (by omega)] at this
  · rintro ⟨rfl, rfl, rfl⟩
    exact ⟨⟨⟨rfl, rfl⟩, rfl⟩, sameN_refl _ _⟩
set_option maxRecDepth 100000 in
set_option maxHeartbeats 16000000 in
theorem sref_SameS (r : Int) (a : Option Addr) (n c : Nat) (o : On) (L : List EntV) (q : Int) (b : Option Addr) (m d : Nat) (p : On) (M : List EntV) (w : World) (hl : L.length = n) (hR : Row w a n c 12 (L.flatMap EntV.cells)) (hm : M.length = m) (hR2 : Row w b m d 12 (M.flatMap EntV.cells)) :
    Calls Try.prog 20 #[.agg #[.int .i64 r, .slice a n c, .bool o.a, .bool o.b, .bool o.c], .agg #[.int .i64 q, .slice b m d, .bool p.a, .bool p.b, .bool p.c]] w fun e w' => e = .returned (.bool (sameS r o L q p M)) ∧ Below w.heap.size w w' := by
  have hbd : n ≤ c ∧ c ≤ 9223372036854775807 := by obtain ⟨_, h1, h2, _⟩ := hR; unfold maxLen at h2; exact ⟨h1, h2⟩
  obtain ⟨hbd1, hbd2⟩ := hbd
  have hbd : m ≤ d ∧ d ≤ 9223372036854775807 := by obtain ⟨_, h1, h2, _⟩ := hR2; unfold maxLen at h2; exact ⟨h1, h2⟩
  obtain ⟨hbd3, hbd4⟩ := hbd
  have HR := Lib.hid hR
  have HR2 := Lib.hid hR2
  subst hl
  subst hm
  clear hR hR2
  have hw : Below w.heap.size w w := Below.refl _ _
  have hbel := hw
  have heq := fun u : World => eq_on o.a o.b o.c p.a p.b p.c u
  obtain ⟨bo, hbo⟩ : ∃ b, eqOn o p = b := ⟨_, rfl⟩
  rw [show (o.a == p.a && (o.b == p.b && o.c == p.c)) = bo from hbo] at heq
  have HS := Lib.hid (show sameS r o L q p M = (r == q && bo && L.length == M.length && sameN L M L.length) by unfold sameS; rw [hbo])
  clear hbo
  go_enter Try.func20, Try.ntmps20
  go_upto_region 1 with fail
  have ss0 : ((w.alloc (.cells #[.int .i64 r, .slice a L.length c, .bool o.a, .bool o.b, .bool o.c] 25)).alloc (.cells #[.int .i64 q, .slice b M.length d, .bool p.a, .bool p.b, .bool p.c] 25)).cell? ⟨w.heap.size, 0, none⟩ = some (.int .i64 r) := by first | (simp; done) | (rw [World.cell?_alloc_at _ _ _ _ (by simp)]; rfl) | (rw [World.cell?_alloc_past _ _ _ (by simp <;> omega), World.cell?_alloc_at _ _ _ _ (by simp)]; rfl) | (rw [World.cell?_alloc_past _ _ _ (by simp <;> omega), World.cell?_alloc_past _ _ _ (by simp <;> omega), World.cell?_alloc_at _ _ _ _ (by simp)]; rfl)
  have ss1 : ((w.alloc (.cells #[.int .i64 r, .slice a L.length c, .bool o.a, .bool o.b, .bool o.c] 25)).alloc (.cells #[.int .i64 q, .slice b M.length d, .bool p.a, .bool p.b, .bool p.c] 25)).cell? ⟨w.heap.size, 1, none⟩ = some (.slice a L.length c) := by first | (simp; done) | (rw [World.cell?_alloc_at _ _ _ _ (by simp)]; rfl) | (rw [World.cell?_alloc_past _ _ _ (by simp <;> omega), World.cell?_alloc_at _ _ _ _ (by simp)]; rfl) | (rw [World.cell?_alloc_past _ _ _ (by simp <;> omega), World.cell?_alloc_past _ _ _ (by simp <;> omega), World.cell?_alloc_at _ _ _ _ (by simp)]; rfl)
  have ss2 : ((w.alloc (.cells #[.int .i64 r, .slice a L.length c, .bool o.a, .bool o.b, .bool o.c] 25)).alloc (.cells #[.int .i64 q, .slice b M.length d, .bool p.a, .bool p.b, .bool p.c] 25)).cell? ⟨w.heap.size, 2, none⟩ = some (.bool o.a) := by first | (simp; done) | (rw [World.cell?_alloc_at _ _ _ _ (by simp)]; rfl) | (rw [World.cell?_alloc_past _ _ _ (by simp <;> omega), World.cell?_alloc_at _ _ _ _ (by simp)]; rfl) | (rw [World.cell?_alloc_past _ _ _ (by simp <;> omega), World.cell?_alloc_past _ _ _ (by simp <;> omega), World.cell?_alloc_at _ _ _ _ (by simp)]; rfl)
  have ss3 : ((w.alloc (.cells #[.int .i64 r, .slice a L.length c, .bool o.a, .bool o.b, .bool o.c] 25)).alloc (.cells #[.int .i64 q, .slice b M.length d, .bool p.a, .bool p.b, .bool p.c] 25)).cell? ⟨w.heap.size, 3, none⟩ = some (.bool o.b) := by first | (simp; done) | (rw [World.cell?_alloc_at _ _ _ _ (by simp)]; rfl) | (rw [World.cell?_alloc_past _ _ _ (by simp <;> omega), World.cell?_alloc_at _ _ _ _ (by simp)]; rfl) | (rw [World.cell?_alloc_past _ _ _ (by simp <;> omega), World.cell?_alloc_past _ _ _ (by simp <;> omega), World.cell?_alloc_at _ _ _ _ (by simp)]; rfl)
  have ss4 : ((w.alloc (.cells #[.int .i64 r, .slice a L.length c, .bool o.a, .bool o.b, .bool o.c] 25)).alloc (.cells #[.int .i64 q, .slice b M.length d, .bool p.a, .bool p.b, .bool p.c] 25)).cell? ⟨w.heap.size, 4, none⟩ = some (.bool o.c) := by first | (simp; done) | (rw [World.cell?_alloc_at _ _ _ _ (by simp)]; rfl) | (rw [World.cell?_alloc_past _ _ _ (by simp <;> omega), World.cell?_alloc_at _ _ _ _ (by simp)]; rfl) | (rw [World.cell?_alloc_past _ _ _ (by simp <;> omega), World.cell?_alloc_past _ _ _ (by simp <;> omega), World.cell?_alloc_at _ _ _ _ (by simp)]; rfl)
  have tt0 : ((w.alloc (.cells #[.int .i64 r, .slice a L.length c, .bool o.a, .bool o.b, .bool o.c] 25)).alloc (.cells #[.int .i64 q, .slice b M.length d, .bool p.a, .bool p.b, .bool p.c] 25)).cell? ⟨w.heap.size + 1, 0, none⟩ = some (.int .i64 q) := by first | (simp; done) | (rw [World.cell?_alloc_at _ _ _ _ (by simp)]; rfl) | (rw [World.cell?_alloc_past _ _ _ (by simp <;> omega), World.cell?_alloc_at _ _ _ _ (by simp)]; rfl) | (rw [World.cell?_alloc_past _ _ _ (by simp <;> omega), World.cell?_alloc_past _ _ _ (by simp <;> omega), World.cell?_alloc_at _ _ _ _ (by simp)]; rfl)
  have tt1 : ((w.alloc (.cells #[.int .i64 r, .slice a L.length c, .bool o.a, .bool o.b, .bool o.c] 25)).alloc (.cells #[.int .i64 q, .slice b M.length d, .bool p.a, .bool p.b, .bool p.c] 25)).cell? ⟨w.heap.size + 1, 1, none⟩ = some (.slice b M.length d) := by first | (simp; done) | (rw [World.cell?_alloc_at _ _ _ _ (by simp)]; rfl) | (rw [World.cell?_alloc_past _ _ _ (by simp <;> omega), World.cell?_alloc_at _ _ _ _ (by simp)]; rfl) | (rw [World.cell?_alloc_past _ _ _ (by simp <;> omega), World.cell?_alloc_past _ _ _ (by simp <;> omega), World.cell?_alloc_at _ _ _ _ (by simp)]; rfl)
  have tt2 : ((w.alloc (.cells #[.int .i64 r, .slice a L.length c, .bool o.a, .bool o.b, .bool o.c] 25)).alloc (.cells #[.int .i64 q, .slice b M.length d, .bool p.a, .bool p.b, .bool p.c] 25)).cell? ⟨w.heap.size + 1, 2, none⟩ = some (.bool p.a) := by first | (simp; done) | (rw [World.cell?_alloc_at _ _ _ _ (by simp)]; rfl) | (rw [World.cell?_alloc_past _ _ _ (by simp <;> omega), World.cell?_alloc_at _ _ _ _ (by simp)]; rfl) | (rw [World.cell?_alloc_past _ _ _ (by simp <;> omega), World.cell?_alloc_past _ _ _ (by simp <;> omega), World.cell?_alloc_at _ _ _ _ (by simp)]; rfl)
  have tt3 : ((w.alloc (.cells #[.int .i64 r, .slice a L.length c, .bool o.a, .bool o.b, .bool o.c] 25)).alloc (.cells #[.int .i64 q, .slice b M.length d, .bool p.a, .bool p.b, .bool p.c] 25)).cell? ⟨w.heap.size + 1, 3, none⟩ = some (.bool p.b) := by first | (simp; done) | (rw [World.cell?_alloc_at _ _ _ _ (by simp)]; rfl) | (rw [World.cell?_alloc_past _ _ _ (by simp <;> omega), World.cell?_alloc_at _ _ _ _ (by simp)]; rfl) | (rw [World.cell?_alloc_past _ _ _ (by simp <;> omega), World.cell?_alloc_past _ _ _ (by simp <;> omega), World.cell?_alloc_at _ _ _ _ (by simp)]; rfl)
  have tt4 : ((w.alloc (.cells #[.int .i64 r, .slice a L.length c, .bool o.a, .bool o.b, .bool o.c] 25)).alloc (.cells #[.int .i64 q, .slice b M.length d, .bool p.a, .bool p.b, .bool p.c] 25)).cell? ⟨w.heap.size + 1, 4, none⟩ = some (.bool p.c) := by first | (simp; done) | (rw [World.cell?_alloc_at _ _ _ _ (by simp)]; rfl) | (rw [World.cell?_alloc_past _ _ _ (by simp <;> omega), World.cell?_alloc_at _ _ _ _ (by simp)]; rfl) | (rw [World.cell?_alloc_past _ _ _ (by simp <;> omega), World.cell?_alloc_past _ _ _ (by simp <;> omega), World.cell?_alloc_at _ _ _ _ (by simp)]; rfl)
  have hb2 := (by repeat (first | exact hbel | refine belAlloc ?_ _ | refine belDrew ?_ | refine belSet ?_ _ _ (by simp)) : Below w.heap.size w ((w.alloc (.cells #[.int .i64 r, .slice a L.length c, .bool o.a, .bool o.b, .bool o.c] 25)).alloc (.cells #[.int .i64 q, .slice b M.length d, .bool p.a, .bool p.b, .bool p.c] 25)))
  replace hw := belStep hw hb2
  clear hb2 hbel
  generalize (w.alloc (.cells #[.int .i64 r, .slice a L.length c, .bool o.a, .bool o.b, .bool o.c] 25)).alloc (.cells #[.int .i64 q, .slice b M.length d, .bool p.a, .bool p.b, .bool p.c] 25) = W1 at *
  replace ss0 := keep ss0
  replace ss1 := keep ss1
  replace ss2 := keep ss2
  replace ss3 := keep ss3
  replace ss4 := keep ss4
  replace tt0 := keep tt0
  replace tt1 := keep tt1
  replace tt2 := keep tt2
  replace tt3 := keep tt3
  replace tt4 := keep tt4
  have hbel : Below W1.heap.size W1 W1 := Below.refl _ _
  skip
  have key : r ≠ q ∨ (r = q ∧ bo = false) ∨ (r = q ∧ bo = true ∧ L.length ≠ M.length) ∨ (r = q ∧ bo = true ∧ L.length = M.length) := by cases bo <;> simp <;> omega
  rcases key with k1 | ⟨rfl, rfl⟩ | ⟨rfl, rfl, k1⟩ | ⟨rfl, rfl, k1⟩
  · have k2 : (r == q) = false := by simpa using k1
    have k3 : (r != q) = true := by simp [bne, k2]
    have HN := Lib.hid (show sameS r o L q p M = false by rw [HS.out, k2]; rfl)
    go_wp2
    go_ret
    exact ⟨by rw [HN.out]; rfl, belStep hw hbel⟩
  · have HN := Lib.hid (show sameS r o L r p M = false by rw [HS.out]; simp)
    go_wp2
    go_ret
    exact ⟨by rw [HN.out]; rfl, belStep hw hbel⟩
  · have k2 : ((L.length : Int) == (M.length : Int)) = false := by rw [beq_eq_false_iff_ne]; omega
    have k3 : ((L.length : Int) != (M.length : Int)) = true := by simp [bne, k2]
    have k4 : ¬ (L.length : Int) = (M.length : Int) := by omega
    have HN := Lib.hid (show sameS r o L r p M = false by rw [HS.out, show (L.length == M.length) = false by simpa using k1]; simp)
    go_wp2
    go_ret
    exact ⟨by rw [HN.out]; rfl, belStep hw hbel⟩
  · have k2 : ((L.length : Int) == (M.length : Int)) = true := by rw [beq_iff_eq]; omega
    have k4 : (L.length : Int) = (M.length : Int) := by omega
    have HS2 := Lib.hid (show sameS r o L r p M = sameN L M L.length by rw [HS.out, show (L.length == M.length) = true by simpa using k1]; simp)
    have K1 := Lib.hid k1
    clear k1 HS
    have HW1 := Lib.hid hw
    clear hw
    have hb0 : Below W1.heap.size W1 W1 := Below.refl _ _
    go_wp2
    clear hbel k4 k2
    go_loopw [5] (fun i wr => ∃ k : Nat, k ≤ L.length ∧ i = .int .i64 k ∧ Hid (sameN L M k = true) ∧ Below W1.heap.size W1 wr) (fun i _ => L.length - (intOf i).toNat)
    case atStart => exact ⟨0, Nat.zero_le _, rfl, Lib.hid rfl, by assumption⟩
    case round =>
      obtain ⟨k, hk, rfl, HC, hbr⟩ := hrel
      clear hb0
      have HRW := Lib.hid (HR.out.later (belStep HW1.out hbr))
      have HRV := Lib.hid (HR2.out.later (belStep HW1.out hbr))
      have s1 := keepOn ss1 hbr
      have t1 := keepOn tt1 hbr
      have hbel : Below wr.heap.size wr wr := Below.refl _ _
      have HB9 := Lib.hid hbr
      clear hbr
      by_cases hlt : k < L.length
      · have hd : decide ((k : Int) < (L.length : Int)) = true := decide_eq_true (by omega)
        have hki : (k : Int) < (L.length : Int) := by omega
        have hkm : (k : Int) < (M.length : Int) := by have := K1.out; omega
        have hk0 : (0 : Int) ≤ (k : Int) := by omega
        obtain ⟨x, hx⟩ : ∃ x, L[k]? = some x := ⟨L[k]'(hlt), List.getElem?_eq_getElem _⟩
        obtain ⟨bc, oc, ec, _, hcc⟩ := (HRW.out).elem EntV.cells_len (by omega) hx
        subst ec
        have c0 := keep (hcc 0 _ rfl)
        have c1 := keep (hcc 1 _ rfl)
        have c2 := keep (hcc 2 _ rfl)
        have c3 := keep (hcc 3 _ rfl)
        have c4 := keep (hcc 4 _ rfl)
        have c5 := keep (hcc 5 _ rfl)
        have c6 := keep (hcc 6 _ rfl)
        have c7 := keep (hcc 7 _ rfl)
        have c8 := keep (hcc 8 _ rfl)
        have c9 := keep (hcc 9 _ rfl)
        have c10 := keep (hcc 10 _ rfl)
        have c11 := keep (hcc 11 _ rfl)
        rw [Nat.add_zero] at c0
        clear hcc
        obtain ⟨y, hy⟩ : ∃ y, M[k]? = some y := ⟨M[k]'(by have := K1.out; omega), List.getElem?_eq_getElem _⟩
        obtain ⟨be, oe, ee, _, hce⟩ := (HRV.out).elem EntV.cells_len (by omega) hy
        subst ee
        have e0 := keep (hce 0 _ rfl)
        have e1 := keep (hce 1 _ rfl)
        have e2 := keep (hce 2 _ rfl)
        have e3 := keep (hce 3 _ rfl)
        have e4 := keep (hce 4 _ rfl)
        have e5 := keep (hce 5 _ rfl)
        have e6 := keep (hce 6 _ rfl)
        have e7 := keep (hce 7 _ rfl)
        have e8 := keep (hce 8 _ rfl)
        have e9 := keep (hce 9 _ rfl)
        have e10 := keep (hce 10 _ rfl)
        have e11 := keep (hce 11 _ rfl)
        rw [Nat.add_zero] at e0
        clear hce
        have hee := fun u : World => eq_ent x y u
        have HX := Lib.hid hx
        have HY := Lib.hid hy
        clear hx hy
        obtain ⟨eb, heb⟩ : ∃ b, eqEnt x y = b := ⟨_, rfl⟩
        rw [heb] at hee
        have HEB := Lib.hid heb
        clear heb
        cases eb with
        | false =>
          have HN := Lib.hid (show sameS r o L r p M = false by rw [HS2.out]; exact sameN_no HX.out HY.out HEB.out hlt)
          go_wp2
          have kk := fun d os => belStep hbel (below_regrown _ d os)
          refine wp_region_quiet_below (by kernel_rfl) (by kernel_rfl) ?_
          repeat ((with_reducible refine wpQuiet_step (fun K hK => ?_)); go_simp; (try (rw [if_neg]; rotate_left; · decide)); first | ((with_reducible refine hK _ ?_); clear hK K) | (apply Exists.intro; refine ⟨fun _ => ?_, hK _ ?_⟩; (fail); clear hK K))
          refine wpQuiet_nil (fun w1 hw1 => ?_)
          replace hbel := belStep hbel (bel_of_class hw1)
          clear hw1 kk
          go_wp2
          go_ret
          exact ⟨by rw [HN.out]; rfl, belStep HW1.out (belStep HB9.out hbel)⟩
        | true =>
          have HS3 := Lib.hid (sameN_next HX.out HY.out HEB.out HC.out)
          go_wp2
          have kk := fun d os => belStep hbel (below_regrown _ d os)
          refine wp_region_quiet_below (by kernel_rfl) (by kernel_rfl) ?_
          repeat ((with_reducible refine wpQuiet_step (fun K hK => ?_)); go_simp; (try (rw [if_neg]; rotate_left; · decide)); first | ((with_reducible refine hK _ ?_); clear hK K) | (apply Exists.intro; refine ⟨fun _ => ?_, hK _ ?_⟩; (fail); clear hK K))
          refine wpQuiet_nil (fun w1 hw1 => ?_)
          replace hbel := belStep hbel (bel_of_class hw1)
          clear hw1 kk
          go_wp2
          go_roundw
          case rel => exact ⟨k + 1, by omega, by push_cast; rfl, HS3, belStep HB9.out hbel⟩
          case measure => simp [intOf] <;> omega
      · obtain rfl : k = L.length := by omega
        have hd : decide ((L.length : Int) < (L.length : Int)) = false := decide_eq_false (by omega)
        have HN := Lib.hid (show sameS r o L r p M = true by rw [HS2.out]; exact HC.out)
        go_wp2
        go_ret
        exact ⟨by rw [HN.out]; rfl, belStep HW1.out (belStep HB9.out hbel)⟩
end Go.Proofs.Ytpmkhimmlpnbpaa
