
/- Few pods; a pod is itself. -/
import Derived.Test.YtpmkhimmlpnbpaaPodRef
namespace Go.Proofs.Ytpmkhimmlpnbpaa
open Go.RowKit
set_option linter.unusedVariables false
set_option linter.unusedSimpArgs false

theorem PodV.right_pos (p : PodV) (h : rightB p = true) : 0 ≤ p.r0 ∧ 0 ≤ p.r1 ∧ 0 ≤ p.r2 := by
  unfold rightB okr at h
  simp at h
  omega

set_option maxHeartbeats 1000000 in
theorem eq_pod_same (p : PodV) (w : World) : (Op.equalIn 10000 44 (.agg #[.string p.id, .int .i64 p.prio, .bool p.crit, .int .i64 p.r0, .int .i64 p.r1, .int .i64 p.r2, .int .i64 p.l0, .int .i64 p.l1, .int .i64 p.l2, .string p.img, .int .i64 p.size]) (.agg #[.string p.id, .int .i64 p.prio, .bool p.crit, .int .i64 p.r0, .int .i64 p.r1, .int .i64 p.r2, .int .i64 p.l0, .int .i64 p.l1, .int .i64 p.l2, .string p.img, .int .i64 p.size])).run Try.prog w = .ok true w := by
  have hs : Try.prog.fieldsOf 44 = #[{ name := "Id", type := 9, offset := 0, embedded := false, tag := "", pkgPath := "", byteOffset := 0 }, { name := "Prio", type := 3, offset := 1, embedded := false, tag := "", pkgPath := "", byteOffset := 16 }, { name := "Critical", type := 4, offset := 2, embedded := false, tag := "", pkgPath := "", byteOffset := 24 }, { name := "Req", type := 42, offset := 3, embedded := false, tag := "", pkgPath := "", byteOffset := 32 }, { name := "Lim", type := 42, offset := 6, embedded := false, tag := "", pkgPath := "", byteOffset := 56 }, { name := "Image", type := 9, offset := 9, embedded := false, tag := "", pkgPath := "", byteOffset := 80 }, { name := "Size", type := 3, offset := 10, embedded := false, tag := "", pkgPath := "", byteOffset := 96 }] := by kernel_rfl
  have h3 : ∀ e (a b c : Int) (v : World), (Op.equalIn (e + 2) 42 (.agg #[.int .i64 a, .int .i64 b, .int .i64 c]) (.agg #[.int .i64 a, .int .i64 b, .int .i64 c])).run Try.prog v = .ok true v := by
    intro e a b c v
    rw [Op.equalIn]
    simp [run_underlying Try.underlying42, go_sem]
    rw [show List.range' 0 3 = [0, 1, 2] from rfl]
    simp [List.forIn_cons, go_sem]
  rw [run_equalIn_struct _ _ _ _ _ (by kernel_rfl) (by kernel_rfl), hs]
  simp [go_sem, h3]

def fewB (L : List PodV) : Bool := (L.take (min L.length 200)).all smallB && decide (L.length ≤ 100)
theorem all_next (f : PodV → Bool) (L : List PodV) {k : Nat} {p : PodV} (h : L[k]? = some p) : (L.take (k + 1)).all f = ((L.take k).all f && f p) := by
  have hk : k < L.length := (List.getElem?_eq_some_iff.1 h).1
  have e : L[k] = p := by rw [List.getElem?_eq_getElem hk] at h; exact Option.some.inj h
  rw [List.take_succ_eq_append_getElem hk, e, List.all_append]; simp
theorem all_not (f : PodV → Bool) (L : List PodV) {k n : Nat} {p : PodV} (h : L[k]? = some p) (hf : f p = false) (hk : k < n) : (L.take n).all f = false := by
  rw [List.all_eq_false]
  have hl : k < L.length := (List.getElem?_eq_some_iff.1 h).1
  have e : L[k] = p := by rw [List.getElem?_eq_getElem hl] at h; exact Option.some.inj h
  exact ⟨p, by rw [← e]; exact List.mem_take_iff_getElem.2 ⟨k, by omega, rfl⟩, by simp [hf]⟩

end Go.Proofs.Ytpmkhimmlpnbpaa
