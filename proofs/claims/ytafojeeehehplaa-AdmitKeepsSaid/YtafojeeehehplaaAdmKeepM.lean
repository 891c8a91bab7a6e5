/- What AdmitKeeps rests on. -/
import Derived.Test.YtafojeeehehplaaAdmLM
namespace Go.Proofs.Ytafojeeehehplaa
open Go.RowKit
set_option linter.unusedVariables false
set_option linter.unusedSimpArgs false
theorem info_ent : (Try.prog.info? 54).map (fun i => (i.zero, i.size, i.bytes)) = some (some (.agg #[.string ⟨#[]⟩, .int .i64 0, .bool false, .int .i64 0, .int .i64 0, .int .i64 0, .int .i64 0, .int .i64 0, .int .i64 0, .string ⟨#[]⟩, .int .i64 0, .int .i64 0]), 12, 112) := by kernel_rfl
theorem ents_one (L : List EntV) : ∀ u ∈ L.flatMap EntV.cells, u.oneCell' = true := by
  intro u hu
  obtain ⟨p, _, hp⟩ := List.mem_flatMap.1 hu
  simp [EntV.cells] at hp
  rcases hp with rfl | rfl | rfl | rfl | rfl | rfl | rfl | rfl | rfl | rfl | rfl | rfl <;> rfl
set_option maxHeartbeats 1000000 in
theorem eq_ent_same (x : EntV) (w : World) : (Op.equalIn 10000 54 (.agg #[.string x.pod.id, .int .i64 x.pod.prio, .bool x.pod.crit, .int .i64 x.pod.r0, .int .i64 x.pod.r1, .int .i64 x.pod.r2, .int .i64 x.pod.l0, .int .i64 x.pod.l1, .int .i64 x.pod.l2, .string x.pod.img, .int .i64 x.pod.size, .int .i64 x.phase]) (.agg #[.string x.pod.id, .int .i64 x.pod.prio, .bool x.pod.crit, .int .i64 x.pod.r0, .int .i64 x.pod.r1, .int .i64 x.pod.r2, .int .i64 x.pod.l0, .int .i64 x.pod.l1, .int .i64 x.pod.l2, .string x.pod.img, .int .i64 x.pod.size, .int .i64 x.phase])).run Try.prog w = .ok true w := by
  have hs : Try.prog.fieldsOf 29 = #[{ name := "Id", type := 9, offset := 0, embedded := false, tag := "", pkgPath := "", byteOffset := 0 }, { name := "Prio", type := 3, offset := 1, embedded := false, tag := "", pkgPath := "", byteOffset := 16 }, { name := "Critical", type := 4, offset := 2, embedded := false, tag := "", pkgPath := "", byteOffset := 24 }, { name := "Req", type := 22, offset := 3, embedded := false, tag := "", pkgPath := "", byteOffset := 32 }, { name := "Lim", type := 22, offset := 6, embedded := false, tag := "", pkgPath := "", byteOffset := 56 }, { name := "Image", type := 9, offset := 9, embedded := false, tag := "", pkgPath := "", byteOffset := 80 }, { name := "Size", type := 3, offset := 10, embedded := false, tag := "", pkgPath := "", byteOffset := 96 }] := by kernel_rfl
  have ht : Try.prog.fieldsOf 54 = #[{ name := "Pod", type := 29, offset := 0, embedded := false, tag := "", pkgPath := "", byteOffset := 0 }, { name := "Phase", type := 3, offset := 11, embedded := false, tag := "", pkgPath := "", byteOffset := 104 }] := by kernel_rfl
  have h3 : ∀ e (a b c : Int) (v : World), (Op.equalIn (e + 2) 22 (.agg #[.int .i64 a, .int .i64 b, .int .i64 c]) (.agg #[.int .i64 a, .int .i64 b, .int .i64 c])).run Try.prog v = .ok true v := by
    intro e a b c v
    rw [Op.equalIn]
    simp [run_underlying Try.underlying22, go_sem]
    rw [show List.range' 0 3 = [0, 1, 2] from rfl]
    simp [List.forIn_cons, go_sem]
  have hp : ∀ v : World, (Op.equalIn 9999 29 (.agg #[.string x.pod.id, .int .i64 x.pod.prio, .bool x.pod.crit, .int .i64 x.pod.r0, .int .i64 x.pod.r1, .int .i64 x.pod.r2, .int .i64 x.pod.l0, .int .i64 x.pod.l1, .int .i64 x.pod.l2, .string x.pod.img, .int .i64 x.pod.size]) (.agg #[.string x.pod.id, .int .i64 x.pod.prio, .bool x.pod.crit, .int .i64 x.pod.r0, .int .i64 x.pod.r1, .int .i64 x.pod.r2, .int .i64 x.pod.l0, .int .i64 x.pod.l1, .int .i64 x.pod.l2, .string x.pod.img, .int .i64 x.pod.size])).run Try.prog v = .ok true v := by
    intro v
    rw [run_equalIn_struct _ _ _ _ _ (by kernel_rfl) (by kernel_rfl), hs]
    simp [go_sem, h3]
  rw [run_equalIn_struct _ _ _ _ _ (by kernel_rfl) (by kernel_rfl), ht]
  simp [go_sem, hp]
end Go.Proofs.Ytafojeeehehplaa
