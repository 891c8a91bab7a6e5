
/- Two pods, held against one another. -/
import Derived.Test.YtpmkhimmlpnbpaaPodLaws
namespace Go.Proofs.Ytpmkhimmlpnbpaa
open Go.RowKit
set_option linter.unusedVariables false
set_option linter.unusedSimpArgs false

theorem eq3_any (e : Nat) (a b c x y z : Int) (v : World) : (Op.equalIn (e + 2) 42 (.agg #[.int .i64 a, .int .i64 b, .int .i64 c]) (.agg #[.int .i64 x, .int .i64 y, .int .i64 z])).run Try.prog v = .ok (a == x && (b == y && c == z)) v := by
  rw [Op.equalIn]
  simp [run_underlying Try.underlying42, go_sem]
  rw [show List.range' 0 3 = [0, 1, 2] from rfl]
  rcases Int.decEq a x with h1 | h1 <;> rcases Int.decEq b y with h2 | h2 <;> rcases Int.decEq c z with h3 | h3 <;> simp [List.forIn_cons, go_sem, h1, h2, h3]
def eqPod (p q : PodV) : Bool := p.id.toList == q.id.toList && (p.prio == q.prio && (p.crit == q.crit && ((p.r0 == q.r0 && (p.r1 == q.r1 && p.r2 == q.r2)) && ((p.l0 == q.l0 && (p.l1 == q.l1 && p.l2 == q.l2)) && (p.img.toList == q.img.toList && p.size == q.size)))))
set_option maxHeartbeats 1000000 in
theorem eq_pod (p q : PodV) (w : World) : (Op.equalIn 10000 44 (.agg #[.string p.id, .int .i64 p.prio, .bool p.crit, .int .i64 p.r0, .int .i64 p.r1, .int .i64 p.r2, .int .i64 p.l0, .int .i64 p.l1, .int .i64 p.l2, .string p.img, .int .i64 p.size]) (.agg #[.string q.id, .int .i64 q.prio, .bool q.crit, .int .i64 q.r0, .int .i64 q.r1, .int .i64 q.r2, .int .i64 q.l0, .int .i64 q.l1, .int .i64 q.l2, .string q.img, .int .i64 q.size])).run Try.prog w = .ok (eqPod p q) w := by
  have hs : Try.prog.fieldsOf 44 = #[{ name := "Id", type := 9, offset := 0, embedded := false, tag := "", pkgPath := "", byteOffset := 0 }, { name := "Prio", type := 3, offset := 1, embedded := false, tag := "", pkgPath := "", byteOffset := 16 }, { name := "Critical", type := 4, offset := 2, embedded := false, tag := "", pkgPath := "", byteOffset := 24 }, { name := "Req", type := 42, offset := 3, embedded := false, tag := "", pkgPath := "", byteOffset := 32 }, { name := "Lim", type := 42, offset := 6, embedded := false, tag := "", pkgPath := "", byteOffset := 56 }, { name := "Image", type := 9, offset := 9, embedded := false, tag := "", pkgPath := "", byteOffset := 80 }, { name := "Size", type := 3, offset := 10, embedded := false, tag := "", pkgPath := "", byteOffset := 96 }] := by kernel_rfl
  rw [run_equalIn_struct _ _ _ _ _ (by kernel_rfl) (by kernel_rfl), hs]
  unfold eqPod
  simp [go_sem, eq3_any]
  by_cases a1 : p.id.toList = q.id.toList
  · by_cases a2 : p.prio = q.prio
    · by_cases a3 : p.crit = q.crit
      · rw [if_pos a1, if_pos a2, if_pos a3]
        by_cases a4 : p.r0 = q.r0 → p.r1 = q.r1 → ¬p.r2 = q.r2
        · rw [if_pos a4]
          have : (p.r0 == q.r0 && (p.r1 == q.r1 && p.r2 == q.r2)) = false := by
            rcases Int.decEq p.r0 q.r0 with h1 | h1 <;> rcases Int.decEq p.r1 q.r1 with h2 | h2 <;> rcases Int.decEq p.r2 q.r2 with h3 | h3 <;> simp_all
          rw [this]; simp
        · rw [if_neg a4]
          have : (p.r0 == q.r0 && (p.r1 == q.r1 && p.r2 == q.r2)) = true := by
            rcases Int.decEq p.r0 q.r0 with h1 | h1 <;> rcases Int.decEq p.r1 q.r1 with h2 | h2 <;> rcases Int.decEq p.r2 q.r2 with h3 | h3 <;> simp_all
          rw [this]
          by_cases a5 : p.l0 = q.l0 → p.l1 = q.l1 → ¬p.l2 = q.l2
          · rw [if_pos a5]
            have : (p.l0 == q.l0 && (p.l1 == q.l1 && p.l2 == q.l2)) = false := by
              rcases Int.decEq p.l0 q.l0 with h1 | h1 <;> rcases Int.decEq p.l1 q.l1 with h2 | h2 <;> rcases Int.decEq p.l2 q.l2 with h3 | h3 <;> simp_all
            rw [this]; simp
          · rw [if_neg a5]
            have : (p.l0 == q.l0 && (p.l1 == q.l1 && p.l2 == q.l2)) = true := by
              rcases Int.decEq p.l0 q.l0 with h1 | h1 <;> rcases Int.decEq p.l1 q.l1 with h2 | h2 <;> rcases Int.decEq p.l2 q.l2 with h3 | h3 <;> simp_all
            rw [this]
            by_cases a6 : p.img.toList = q.img.toList <;> by_cases a7 : p.size = q.size <;> simp [a1, a2, a3, a6, a7]
      · simp [a1, a2, a3]
    · simp [a1, a2]
  · simp [a1]
theorem str_eq {s t : ByteArray} (h : s.toList = t.toList) : s = t := by
  have e := str_inj (sbl_bytes s) (sbl_bytes t)
  rw [strOf_sbl, strOf_sbl, h] at e
  exact sbl_inj (by simpa using e.symm)
theorem eqPod_iff (p q : PodV) : eqPod p q = true ↔ p = q := by
  constructor
  · intro h
    unfold eqPod at h
    simp only [Bool.and_eq_true, beq_iff_eq] at h
    obtain ⟨h1, h2, h3, ⟨h4, h5, h6⟩, ⟨h7, h8, h9⟩, h10, h11⟩ := h
    cases p; cases q
    simp only [PodV.mk.injEq]
    exact ⟨str_eq h1, h2, h3, h4, h5, h6, h7, h8, h9, str_eq h10, h11⟩
  · rintro rfl
    unfold eqPod; simp
end Go.Proofs.Ytpmkhimmlpnbpaa
