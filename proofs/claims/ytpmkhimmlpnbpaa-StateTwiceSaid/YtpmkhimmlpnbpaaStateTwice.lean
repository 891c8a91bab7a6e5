
/- StateTwice holds for all its arguments. No conditions. -/
import Derived.Test.YtpmkhimmlpnbpaaStLM
import Derived.Test.YtpmkhimmlpnbpaaStTabM2
namespace Go.Proofs.Ytpmkhimmlpnbpaa.stateTwice
open Go.ChangeShapes Go.WideShapes Go.ChangeAt Go.RowKit
open Go.ChangeMaps (open_string shut_string)
set_option linter.unusedVariables false
set_option linter.unusedSimpArgs false
set_option maxRecDepth 100000 in
set_option maxHeartbeats 16000000 in
theorem walk (r : Int) (a : Option Addr) (n c : Nat) (o : On) (L : List EntV) (x : EntV) (w : World) (hr : InI r) (hl : L.length = n) (hok : ∀ x ∈ L, x.ok) (hR : Row w a n c 12 (L.flatMap EntV.cells)) (hx : x.ok) :
    Calls Try.prog 8 #[.agg #[.int .i64 r, .slice a n c, .bool o.a, .bool o.b, .bool o.c], .agg #[.string x.pod.id, .int .i64 x.pod.prio, .bool x.pod.crit, .int .i64 x.pod.r0, .int .i64 x.pod.r1, .int .i64 x.pod.r2, .int .i64 x.pod.l0, .int .i64 x.pod.l1, .int .i64 x.pod.l2, .string x.pod.img, .int .i64 x.pod.size, .int .i64 x.phase]] w fun e w' => e = .returned (.bool true) ∧ Below w.heap.size w w' := by
  have hw : Below w.heap.size w w := Below.refl _ _
  have hbel := hw
  have hbd : n ≤ c ∧ c ≤ 9223372036854775807 := by obtain ⟨_, h1, h2, _⟩ := hR; unfold maxLen at h2; exact ⟨h1, h2⟩
  obtain ⟨hbd1, hbd2⟩ := hbd
  have HR := Lib.hid hR
  have HOK := Lib.hid hok
  have HLN := Lib.hid hl
  obtain ⟨fs, hfs⟩ : ∃ b, fewS L = b := ⟨_, rfl⟩
  obtain ⟨rs, hrs⟩ : ∃ b, stB r L = b := ⟨_, rfl⟩
  have CFW := Lib.hid (fun v (hv : Below w.heap.size w v) => hfs ▸ sref_Few r a n c o L v hl hok (hR.later hv))
  have CRT := Lib.hid (fun v (hv : Below w.heap.size w v) => hrs ▸ sref_Right r a n c o L v hl hok (hR.later hv))
  have HFS := Lib.hid hfs
  have HRS := Lib.hid hrs
  clear hR hok hl hfs hrs hr
  obtain ⟨sm, hsm⟩ : ∃ b, smallB x.pod = b := ⟨_, rfl⟩
  have CSM := Lib.hid (fun v => hsm ▸ pref_Small x.pod v hx.1)
  obtain ⟨rp, hrp⟩ : ∃ b, rightB x.pod = b := ⟨_, rfl⟩
  have CRP := Lib.hid (fun v => hrp ▸ pref_Right x.pod v hx.1)
  have HRP := Lib.hid hrp
  have HX := Lib.hid hx
  clear hsm hrp hx
  have key : x.phase < 1 ∨ (¬ x.phase < 1 ∧ 3 < x.phase) ∨ (¬ x.phase < 1 ∧ ¬ 3 < x.phase) := by omega
  rcases key with k1 | ⟨k1, k2⟩ | ⟨k1, k2⟩
  · have p1 : decide (x.phase < (1 : Int)) = true := decide_eq_true k1
    go_enter Try.func8, Try.ntmps8
    go_upto_region 1 with fail
    have ss0 : ((w.alloc (.cells #[.int .i64 r, .slice a n c, .bool o.a, .bool o.b, .bool o.c] 25)).alloc (.cells #[.string x.pod.id, .int .i64 x.pod.prio, .bool x.pod.crit, .int .i64 x.pod.r0, .int .i64 x.pod.r1, .int .i64 x.pod.r2, .int .i64 x.pod.l0, .int .i64 x.pod.l1, .int .i64 x.pod.l2, .string x.pod.img, .int .i64 x.pod.size, .int .i64 x.phase] 46)).cell? ⟨w.heap.size, 0, none⟩ = some (.int .i64 r) := by first | (simp; done) | (rw [World.cell?_alloc_at _ _ _ _ (by simp)]; rfl) | (rw [World.cell?_alloc_past _ _ _ (by simp <;> omega), World.cell?_alloc_at _ _ _ _ (by simp)]; rfl) | (rw [World.cell?_alloc_past _ _ _ (by simp <;> omega), World.cell?_alloc_past _ _ _ (by simp <;> omega), World.cell?_alloc_at _ _ _ _ (by simp)]; rfl)
    have ss1 : ((w.alloc (.cells #[.int .i64 r, .slice a n c, .bool o.a, .bool o.b, .bool o.c] 25)).alloc (.cells #[.string x.pod.id, .int .i64 x.pod.prio, .bool x.pod.crit, .int .i64 x.pod.r0, .int .i64 x.pod.r1, .int .i64 x.pod.r2, .int .i64 x.pod.l0, .int .i64 x.pod.l1, .int .i64 x.pod.l2, .string x.pod.img, .int .i64 x.pod.size, .int .i64 x.phase] 46)).cell? ⟨w.heap.size, 1, none⟩ = some (.slice a n c) := by first | (simp; done) | (rw [World.cell?_alloc_at _ _ _ _ (by simp)]; rfl) | (rw [World.cell?_alloc_past _ _ _ (by simp <;> omega), World.cell?_alloc_at _ _ _ _ (by simp)]; rfl) | (rw [World.cell?_alloc_past _ _ _ (by simp <;> omega), World.cell?_alloc_past _ _ _ (by simp <;> omega), World.cell?_alloc_at _ _ _ _ (by simp)]; rfl)
    have ss2 : ((w.alloc (.cells #[.int .i64 r, .slice a n c, .bool o.a, .bool o.b, .bool o.c] 25)).alloc (.cells #[.string x.pod.id, .int .i64 x.pod.prio, .bool x.pod.crit, .int .i64 x.pod.r0, .int .i64 x.pod.r1, .int .i64 x.pod.r2, .int .i64 x.pod.l0, .int .i64 x.pod.l1, .int .i64 x.pod.l2, .string x.pod.img, .int .i64 x.pod.size, .int .i64 x.phase] 46)).cell? ⟨w.heap.size, 2, none⟩ = some (.bool o.a) := by first | (simp; done) | (rw [World.cell?_alloc_at _ _ _ _ (by simp)]; rfl) | (rw [World.cell?_alloc_past _ _ _ (by simp <;> omega), World.cell?_alloc_at _ _ _ _ (by simp)]; rfl) | (rw [World.cell?_alloc_past _ _ _ (by simp <;> omega), World.cell?_alloc_past _ _ _ (by simp <;> omega), World.cell?_alloc_at _ _ _ _ (by simp)]; rfl)
    have ss3 : ((w.alloc (.cells #[.int .i64 r, .slice a n c, .bool o.a, .bool o.b, .bool o.c] 25)).alloc (.cells #[.string x.pod.id, .int .i64 x.pod.prio, .bool x.pod.crit, .int .i64 x.pod.r0, .int .i64 x.pod.r1, .int .i64 x.pod.r2, .int .i64 x.pod.l0, .int .i64 x.pod.l1, .int .i64 x.pod.l2, .string x.pod.img, .int .i64 x.pod.size, .int .i64 x.phase] 46)).cell? ⟨w.heap.size, 3, none⟩ = some (.bool o.b) := by first | (simp; done) | (rw [World.cell?_alloc_at _ _ _ _ (by simp)]; rfl) | (rw [World.cell?_alloc_past _ _ _ (by simp <;> omega), World.cell?_alloc_at _ _ _ _ (by simp)]; rfl) | (rw [World.cell?_alloc_past _ _ _ (by simp <;> omega), World.cell?_alloc_past _ _ _ (by simp <;> omega), World.cell?_alloc_at _ _ _ _ (by simp)]; rfl)
    have ss4 : ((w.alloc (.cells #[.int .i64 r, .slice a n c, .bool o.a, .bool o.b, .bool o.c] 25)).alloc (.cells #[.string x.pod.id, .int .i64 x.pod.prio, .bool x.pod.crit, .int .i64 x.pod.r0, .int .i64 x.pod.r1, .int .i64 x.pod.r2, .int .i64 x.pod.l0, .int .i64 x.pod.l1, .int .i64 x.pod.l2, .string x.pod.img, .int .i64 x.pod.size, .int .i64 x.phase] 46)).cell? ⟨w.heap.size, 4, none⟩ = some (.bool o.c) := by first | (simp; done) | (rw [World.cell?_alloc_at _ _ _ _ (by simp)]; rfl) | (rw [World.cell?_alloc_past _ _ _ (by simp <;> omega), World.cell?_alloc_at _ _ _ _ (by simp)]; rfl) | (rw [World.cell?_alloc_past _ _ _ (by simp <;> omega), World.cell?_alloc_past _ _ _ (by simp <;> omega), World.cell?_alloc_at _ _ _ _ (by simp)]; rfl)
    have ee0 : ((w.alloc (.cells #[.int .i64 r, .slice a n c, .bool o.a, .bool o.b, .bool o.c] 25)).alloc (.cells #[.string x.pod.id, .int .i64 x.pod.prio, .bool x.pod.crit, .int .i64 x.pod.r0, .int .i64 x.pod.r1, .int .i64 x.pod.r2, .int .i64 x.pod.l0, .int .i64 x.pod.l1, .int .i64 x.pod.l2, .string x.pod.img, .int .i64 x.pod.size, .int .i64 x.phase] 46)).cell? ⟨w.heap.size + 1, 0, none⟩ = some (.string x.pod.id) := by first | (simp; done) | (rw [World.cell?_alloc_at _ _ _ _ (by simp)]; rfl) | (rw [World.cell?_alloc_past _ _ _ (by simp <;> omega), World.cell?_alloc_at _ _ _ _ (by simp)]; rfl) | (rw [World.cell?_alloc_past _ _ _ (by simp <;> omega), World.cell?_alloc_past _ _ _ (by simp <;> omega), World.cell?_alloc_at _ _ _ _ (by simp)]; rfl)
    have ee1 : ((w.alloc (.cells #[.int .i64 r, .slice a n c, .bool o.a, .bool o.b, .bool o.c] 25)).alloc (.cells #[.string x.pod.id, .int .i64 x.pod.prio, .bool x.pod.crit, .int .i64 x.pod.r0, .int .i64 x.pod.r1, .int .i64 x.pod.r2, .int .i64 x.pod.l0, .int .i64 x.pod.l1, .int .i64 x.pod.l2, .string x.pod.img, .int .i64 x.pod.size, .int .i64 x.phase] 46)).cell? ⟨w.heap.size + 1, 1, none⟩ = some (.int .i64 x.pod.prio) := by first | (simp; done) | (rw [World.cell?_alloc_at _ _ _ _ (by simp)]; rfl) | (rw [World.cell?_alloc_past _ _ _ (by simp <;> omega), World.cell?_alloc_at _ _ _ _ (by simp)]; rfl) | (rw [World.cell?_alloc_past _ _ _ (by simp <;> omega), World.cell?_alloc_past _ _ _ (by simp <;> omega), World.cell?_alloc_at _ _ _ _ (by simp)]; rfl)
    have ee2 : ((w.alloc (.cells #[.int .i64 r, .slice a n c, .bool o.a, .bool o.b, .bool o.c] 25)).alloc (.cells #[.string x.pod.id, .int .i64 x.pod.prio, .bool x.pod.crit, .int .i64 x.pod.r0, .int .i64 x.pod.r1, .int .i64 x.pod.r2, .int .i64 x.pod.l0, .int .i64 x.pod.l1, .int .i64 x.pod.l2, .string x.pod.img, .int .i64 x.pod.size, .int .i64 x.phase] 46)).cell? ⟨w.heap.size + 1, 2, none⟩ = some (.bool x.pod.crit) := by first | (simp; done) | (rw [World.cell?_alloc_at _ _ _ _ (by simp)]; rfl) | (rw [World.cell?_alloc_past _ _ _ (by simp <;> omega), World.cell?_alloc_at _ _ _ _ (by simp)]; rfl) | (rw [World.cell?_alloc_past _ _ _ (by simp <;> omega), World.cell?_alloc_past _ _ _ (by simp <;> omega), World.cell?_alloc_at _ _ _ _ (by simp)]; rfl)
    have ee3 : ((w.alloc (.cells #[.int .i64 r, .slice a n c, .bool o.a, .bool o.b, .bool o.c] 25)).alloc (.cells #[.string x.pod.id, .int .i64 x.pod.prio, .bool x.pod.crit, .int .i64 x.pod.r0, .int .i64 x.pod.r1, .int .i64 x.pod.r2, .int .i64 x.pod.l0, .int .i64 x.pod.l1, .int .i64 x.pod.l2, .string x.pod.img, .int .i64 x.pod.size, .int .i64 x.phase] 46)).cell? ⟨w.heap.size + 1, 3, none⟩ = some (.int .i64 x.pod.r0) := by first | (simp; done) | (rw [World.cell?_alloc_at _ _ _ _ (by simp)]; rfl) | (rw [World.cell?_alloc_past _ _ _ (by simp <;> omega), World.cell?_alloc_at _ _ _ _ (by simp)]; rfl) | (rw [World.cell?_alloc_past _ _ _ (by simp <;> omega), World.cell?_alloc_past _ _ _ (by simp <;> omega), World.cell?_alloc_at _ _ _ _ (by simp)]; rfl)
    have ee4 : ((w.alloc (.cells #[.int .i64 r, .slice a n c, .bool o.a, .bool o.b, .bool o.c] 25)).alloc (.cells #[.string x.pod.id, .int .i64 x.pod.prio, .bool x.pod.crit, .int .i64 x.pod.r0, .int .i64 x.pod.r1, .int .i64 x.pod.r2, .int .i64 x.pod.l0, .int .i64 x.pod.l1, .int .i64 x.pod.l2, .string x.pod.img, .int .i64 x.pod.size, .int .i64 x.phase] 46)).cell? ⟨w.heap.size + 1, 4, none⟩ = some (.int .i64 x.pod.r1) := by first | (simp; done) | (rw [World.cell?_alloc_at _ _ _ _ (by simp)]; rfl) | (rw [World.cell?_alloc_past _ _ _ (by simp <;> omega), World.cell?_alloc_at _ _ _ _ (by simp)]; rfl) | (rw [World.cell?_alloc_past _ _ _ (by simp <;> omega), World.cell?_alloc_past _ _ _ (by simp <;> omega), World.cell?_alloc_at _ _ _ _ (by simp)]; rfl)
    have ee5 : ((w.alloc (.cells #[.int .i64 r, .slice a n c, .bool o.a, .bool o.b, .bool o.c] 25)).alloc (.cells #[.string x.pod.id, .int .i64 x.pod.prio, .bool x.pod.crit, .int .i64 x.pod.r0, .int .i64 x.pod.r1, .int .i64 x.pod.r2, .int .i64 x.pod.l0, .int .i64 x.pod.l1, .int .i64 x.pod.l2, .string x.pod.img, .int .i64 x.pod.size, .int .i64 x.phase] 46)).cell? ⟨w.heap.size + 1, 5, none⟩ = some (.int .i64 x.pod.r2) := by first | (simp; done) | (rw [World.cell?_alloc_at _ _ _ _ (by simp)]; rfl) | (rw [World.cell?_alloc_past _ _ _ (by simp <;> omega), World.cell?_alloc_at _ _ _ _ (by simp)]; rfl) | (rw [World.cell?_alloc_past _ _ _ (by simp <;> omega), World.cell?_alloc_past _ _ _ (by simp <;> omega), World.cell?_alloc_at _ _ _ _ (by simp)]; rfl)
    have ee6 : ((w.alloc (.cells #[.int .i64 r, .slice a n c, .bool o.a, .bool o.b, .bool o.c] 25)).alloc (.cells #[.string x.pod.id, .int .i64 x.pod.prio, .bool x.pod.crit, .int .i64 x.pod.r0, .int .i64 x.pod.r1, .int .i64 x.pod.r2, .int .i64 x.pod.l0, .int .i64 x.pod.l1, .int .i64 x.pod.l2, .string x.pod.img, .int .i64 x.pod.size, .int .i64 x.phase] 46)).cell? ⟨w.heap.size + 1, 6, none⟩ = some (.int .i64 x.pod.l0) := by first | (simp; done) | (rw [World.cell?_alloc_at _ _ _ _ (by simp)]; rfl) | (rw [World.cell?_alloc_past _ _ _ (by simp <;> omega), World.cell?_alloc_at _ _ _ _ (by simp)]; rfl) | (rw [World.cell?_alloc_past _ _ _ (by simp <;> omega), World.cell?_alloc_past _ _ _ (by simp <;> omega), World.cell?_alloc_at _ _ _ _ (by simp)]; rfl)
    have ee7 : ((w.alloc (.cells #[.int .i64 r, .slice a n c, .bool o.a, .bool o.b, .bool o.c] 25)).alloc (.cells #[.string x.pod.id, .int .i64 x.pod.prio, .bool x.pod.crit, .int .i64 x.pod.r0, .int .i64 x.pod.r1, .int .i64 x.pod.r2, .int .i64 x.pod.l0, .int .i64 x.pod.l1, .int .i64 x.pod.l2, .string x.pod.img, .int .i64 x.pod.size, .int .i64 x.phase] 46)).cell? ⟨w.heap.size + 1, 7, none⟩ = some (.int .i64 x.pod.l1) := by first | (simp; done) | (rw [World.cell?_alloc_at _ _ _ _ (by simp)]; rfl) | (rw [World.cell?_alloc_past _ _ _ (by simp <;> omega), World.cell?_alloc_at _ _ _ _ (by simp)]; rfl) | (rw [World.cell?_alloc_past _ _ _ (by simp <;> omega), World.cell?_alloc_past _ _ _ (by simp <;> omega), World.cell?_alloc_at _ _ _ _ (by simp)]; rfl)
    have ee8 : ((w.alloc (.cells #[.int .i64 r, .slice a n c, .bool o.a, .bool o.b, .bool o.c] 25)).alloc (.cells #[.string x.pod.id, .int .i64 x.pod.prio, .bool x.pod.crit, .int .i64 x.pod.r0, .int .i64 x.pod.r1, .int .i64 x.pod.r2, .int .i64 x.pod.l0, .int .i64 x.pod.l1, .int .i64 x.pod.l2, .string x.pod.img, .int .i64 x.pod.size, .int .i64 x.phase] 46)).cell? ⟨w.heap.size + 1, 8, none⟩ = some (.int .i64 x.pod.l2) := by first | (simp; done) | (rw [World.cell?_alloc_at _ _ _ _ (by simp)]; rfl) | (rw [World.cell?_alloc_past _ _ _ (by simp <;> omega), World.cell?_alloc_at _ _ _ _ (by simp)]; rfl) | (rw [World.cell?_alloc_past _ _ _ (by simp <;> omega), World.cell?_alloc_past _ _ _ (by simp <;> omega), World.cell?_alloc_at _ _ _ _ (by simp)]; rfl)
    have ee9 : ((w.alloc (.cells #[.int .i64 r, .slice a n c, .bool o.a, .bool o.b, .bool o.c] 25)).alloc (.cells #[.string x.pod.id, .int .i64 x.pod.prio, .bool x.pod.crit, .int .i64 x.pod.r0, .int .i64 x.pod.r1, .int .i64 x.pod.r2, .int .i64 x.pod.l0, .int .i64 x.pod.l1, .int .i64 x.pod.l2, .string x.pod.img, .int .i64 x.pod.size, .int .i64 x.phase] 46)).cell? ⟨w.heap.size + 1, 9, none⟩ = some (.string x.pod.img) := by first | (simp; done) | (rw [World.cell?_alloc_at _ _ _ _ (by simp)]; rfl) | (rw [World.cell?_alloc_past _ _ _ (by simp <;> omega), World.cell?_alloc_at _ _ _ _ (by simp)]; rfl) | (rw [World.cell?_alloc_past _ _ _ (by simp <;> omega), World.cell?_alloc_past _ _ _ (by simp <;> omega), World.cell?_alloc_at _ _ _ _ (by simp)]; rfl)
    have ee10 : ((w.alloc (.cells #[.int .i64 r, .slice a n c, .bool o.a, .bool o.b, .bool o.c] 25)).alloc (.cells #[.string x.pod.id, .int .i64 x.pod.prio, .bool x.pod.crit, .int .i64 x.pod.r0, .int .i64 x.pod.r1, .int .i64 x.pod.r2, .int .i64 x.pod.l0, .int .i64 x.pod.l1, .int .i64 x.pod.l2, .string x.pod.img, .int .i64 x.pod.size, .int .i64 x.phase] 46)).cell? ⟨w.heap.size + 1, 10, none⟩ = some (.int .i64 x.pod.size) := by first | (simp; done) | (rw [World.cell?_alloc_at _ _ _ _ (by simp)]; rfl) | (rw [World.cell?_alloc_past _ _ _ (by simp <;> omega), World.cell?_alloc_at _ _ _ _ (by simp)]; rfl) | (rw [World.cell?_alloc_past _ _ _ (by simp <;> omega), World.cell?_alloc_past _ _ _ (by simp <;> omega), World.cell?_alloc_at _ _ _ _ (by simp)]; rfl)
    have ee11 : ((w.alloc (.cells #[.int .i64 r, .slice a n c, .bool o.a, .bool o.b, .bool o.c] 25)).alloc (.cells #[.string x.pod.id, .int .i64 x.pod.prio, .bool x.pod.crit, .int .i64 x.pod.r0, .int .i64 x.pod.r1, .int .i64 x.pod.r2, .int .i64 x.pod.l0, .int .i64 x.pod.l1, .int .i64 x.pod.l2, .string x.pod.img, .int .i64 x.pod.size, .int .i64 x.phase] 46)).cell? ⟨w.heap.size + 1, 11, none⟩ = some (.int .i64 x.phase) := by first | (simp; done) | (rw [World.cell?_alloc_at _ _ _ _ (by simp)]; rfl) | (rw [World.cell?_alloc_past _ _ _ (by simp <;> omega), World.cell?_alloc_at _ _ _ _ (by simp)]; rfl) | (rw [World.cell?_alloc_past _ _ _ (by simp <;> omega), World.cell?_alloc_past _ _ _ (by simp <;> omega), World.cell?_alloc_at _ _ _ _ (by simp)]; rfl)
    have hb2 := (by repeat (first | exact hbel | refine belAlloc ?_ _ | refine belDrew ?_ | refine belSet ?_ _ _ (by simp)) : Below w.heap.size w ((w.alloc (.cells #[.int .i64 r, .slice a n c, .bool o.a, .bool o.b, .bool o.c] 25)).alloc (.cells #[.string x.pod.id, .int .i64 x.pod.prio, .bool x.pod.crit, .int .i64 x.pod.r0, .int .i64 x.pod.r1, .int .i64 x.pod.r2, .int .i64 x.pod.l0, .int .i64 x.pod.l1, .int .i64 x.pod.l2, .string x.pod.img, .int .i64 x.pod.size, .int .i64 x.phase] 46)))
    replace hw := belStep hw hb2
    clear hb2 hbel
    generalize (w.alloc (.cells #[.int .i64 r, .slice a n c, .bool o.a, .bool o.b, .bool o.c] 25)).alloc (.cells #[.string x.pod.id, .int .i64 x.pod.prio, .bool x.pod.crit, .int .i64 x.pod.r0, .int .i64 x.pod.r1, .int .i64 x.pod.r2, .int .i64 x.pod.l0, .int .i64 x.pod.l1, .int .i64 x.pod.l2, .string x.pod.img, .int .i64 x.pod.size, .int .i64 x.phase] 46) = W1 at *
    replace ss0 := keep ss0
    replace ss1 := keep ss1
    replace ss2 := keep ss2
    replace ss3 := keep ss3
    replace ss4 := keep ss4
    replace ee0 := keep ee0
    replace ee1 := keep ee1
    replace ee2 := keep ee2
    replace ee3 := keep ee3
    replace ee4 := keep ee4
    replace ee5 := keep ee5
    replace ee6 := keep ee6
    replace ee7 := keep ee7
    replace ee8 := keep ee8
    replace ee9 := keep ee9
    replace ee10 := keep ee10
    replace ee11 := keep ee11
    have hbel : Below W1.heap.size W1 W1 := Below.refl _ _
    skip
    go_wp2_with (first | (go_at_call 11; (with_reducible refine (awake24 _).mono ?_); rintro e w1 ⟨rfl, hb1⟩; replace hbel := belStep hbel hb1; clear hb1) | (go_at_call 12; (with_reducible refine (CFW.out _ (belStep hw hbel)).mono ?_); rintro e wf ⟨rfl, hbf⟩; replace hbel := belStep hbel hbf; clear hbf; rcases fs with _ | _) | (go_at_call 15; (with_reducible refine (CRT.out _ (belStep hw hbel)).mono ?_); rintro e wf ⟨rfl, hbf⟩; replace hbel := belStep hbel hbf; clear hbf; rcases rs with _ | _) | (go_at_call 21; (with_reducible refine (CSM.out _).mono ?_); rintro e wf8 ⟨rfl, hbf8⟩; replace hbel := belStep hbel hbf8; clear hbf8; rcases sm with _ | _) | (go_at_call 22; (with_reducible refine (CRP.out _).mono ?_); rintro e wf9 ⟨rfl, hbf9⟩; replace hbel := belStep hbel hbf9; clear hbf9; rcases rp with _ | _))
    all_goals (go_ret; exact ⟨rfl, belStep hw hbel⟩)
  · have p1 : decide (x.phase < (1 : Int)) = false := decide_eq_false k1
    have p2 : decide ((3 : Int) < x.phase) = true := decide_eq_true k2
    go_enter Try.func8, Try.ntmps8
    go_upto_region 1 with fail
    have ss0 : ((w.alloc (.cells #[.int .i64 r, .slice a n c, .bool o.a, .bool o.b, .bool o.c] 25)).alloc (.cells #[.string x.pod.id, .int .i64 x.pod.prio, .bool x.pod.crit, .int .i64 x.pod.r0, .int .i64 x.pod.r1, .int .i64 x.pod.r2, .int .i64 x.pod.l0, .int .i64 x.pod.l1, .int .i64 x.pod.l2, .string x.pod.img, .int .i64 x.pod.size, .int .i64 x.phase] 46)).cell? ⟨w.heap.size, 0, none⟩ = some (.int .i64 r) := by first | (simp; done) | (rw [World.cell?_alloc_at _ _ _ _ (by simp)]; rfl) | (rw [World.cell?_alloc_past _ _ _ (by simp <;> omega), World.cell?_alloc_at _ _ _ _ (by simp)]; rfl) | (rw [World.cell?_alloc_past _ _ _ (by simp <;> omega), World.cell?_alloc_past _ _ _ (by simp <;> omega), World.cell?_alloc_at _ _ _ _ (by simp)]; rfl)
    have ss1 : ((w.alloc (.cells #[.int .i64 r, .slice a n c, .bool o.a, .bool o.b, .bool o.c] 25)).alloc (.cells #[.string x.pod.id, .int .i64 x.pod.prio, .bool x.pod.crit, .int .i64 x.pod.r0, .int .i64 x.pod.r1, .int .i64 x.pod.r2, .int .i64 x.pod.l0, .int .i64 x.pod.l1, .int .i64 x.pod.l2, .string x.pod.img, .int .i64 x.pod.size, .int .i64 x.phase] 46)).cell? ⟨w.heap.size, 1, none⟩ = some (.slice a n c) := by first | (simp; done) | (rw [World.cell?_alloc_at _ _ _ _ (by simp)]; rfl) | (rw [World.cell?_alloc_past _ _ _ (by simp <;> omega), World.cell?_alloc_at _ _ _ _ (by simp)]; rfl) | (rw [World.cell?_alloc_past _ _ _ (by simp <;> omega), World.cell?_alloc_past _ _ _ (by simp <;> omega), World.cell?_alloc_at _ _ _ _ (by simp)]; rfl)
    have ss2 : ((w.alloc (.cells #[.int .i64 r, .slice a n c, .bool o.a, .bool o.b, .bool o.c] 25)).alloc (.cells #[.string x.pod.id, .int .i64 x.pod.prio, .bool x.pod.crit, .int .i64 x.pod.r0, .int .i64 x.pod.r1, .int .i64 x.pod.r2, .int .i64 x.pod.l0, .int .i64 x.pod.l1, .int .i64 x.pod.l2, .string x.pod.img, .int .i64 x.pod.size, .int .i64 x.phase] 46)).cell? ⟨w.heap.size, 2, none⟩ = some (.bool o.a) := by first | (simp; done) | (rw [World.cell?_alloc_at _ _ _ _ (by simp)]; rfl) | (rw [World.cell?_alloc_past _ _ _ (by simp <;> omega), World.cell?_alloc_at _ _ _ _ (by simp)]; rfl) | (rw [World.cell?_alloc_past _ _ _ (by simp <;> omega), World.cell?_alloc_past _ _ _ (by simp <;> omega), World.cell?_alloc_at _ _ _ _ (by simp)]; rfl)
    have ss3 : ((w.alloc (.cells #[.int .i64 r, .slice a n c, .bool o.a, .bool o.b, .bool o.c] 25)).alloc (.cells #[.string x.pod.id, .int .i64 x.pod.prio, .bool x.pod.crit, .int .i64 x.pod.r0, .int .i64 x.pod.r1, .int .i64 x.pod.r2, .int .i64 x.pod.l0, .int .i64 x.pod.l1, .int .i64 x.pod.l2, .string x.pod.img, .int .i64 x.pod.size, .int .i64 x.phase] 46)).cell? ⟨w.heap.size, 3, none⟩ = some (.bool o.b) := by first | (simp; done) | (rw [World.cell?_alloc_at _ _ _ _ (by simp)]; rfl) | (rw [World.cell?_alloc_past _ _ _ (by simp <;> omega), World.cell?_alloc_at _ _ _ _ (by simp)]; rfl) | (rw [World.cell?_alloc_past _ _ _ (by simp <;> omega), World.cell?_alloc_past _ _ _ (by simp <;> omega), World.cell?_alloc_at _ _ _ _ (by simp)]; rfl)
    have ss4 : ((w.alloc (.cells #[.int .i64 r, .slice a n c, .bool o.a, .bool o.b, .bool o.c] 25)).alloc (.cells #[.string x.pod.id, .int .i64 x.pod.prio, .bool x.pod.crit, .int .i64 x.pod.r0, .int .i64 x.pod.r1, .int .i64 x.pod.r2, .int .i64 x.pod.l0, .int .i64 x.pod.l1, .int .i64 x.pod.l2, .string x.pod.img, .int .i64 x.pod.size, .int .i64 x.phase] 46)).cell? ⟨w.heap.size, 4, none⟩ = some (.bool o.c) := by first | (simp; done) | (rw [World.cell?_alloc_at _ _ _ _ (by simp)]; rfl) | (rw [World.cell?_alloc_past _ _ _ (by simp <;> omega), World.cell?_alloc_at _ _ _ _ (by simp)]; rfl) | (rw [World.cell?_alloc_past _ _ _ (by simp <;> omega), World.cell?_alloc_past _ _ _ (by simp <;> omega), World.cell?_alloc_at _ _ _ _ (by simp)]; rfl)
    have ee0 : ((w.alloc (.cells #[.int .i64 r, .slice a n c, .bool o.a, .bool o.b, .bool o.c] 25)).alloc (.cells #[.string x.pod.id, .int .i64 x.pod.prio, .bool x.pod.crit, .int .i64 x.pod.r0, .int .i64 x.pod.r1, .int .i64 x.pod.r2, .int .i64 x.pod.l0, .int .i64 x.pod.l1, .int .i64 x.pod.l2, .string x.pod.img, .int .i64 x.pod.size, .int .i64 x.phase] 46)).cell? ⟨w.heap.size + 1, 0, none⟩ = some (.string x.pod.id) := by first | (simp; done) | (rw [World.cell?_alloc_at _ _ _ _ (by simp)]; rfl) | (rw [World.cell?_alloc_past _ _ _ (by simp <;> omega), World.cell?_alloc_at _ _ _ _ (by simp)]; rfl) | (rw [World.cell?_alloc_past _ _ _ (by simp <;> omega), World.cell?_alloc_past _ _ _ (by simp <;> omega), World.cell?_alloc_at _ _ _ _ (by simp)]; rfl)
    have ee1 : ((w.alloc (.cells #[.int .i64 r, .slice a n c, .bool o.a, .bool o.b, .bool o.c] 25)).alloc (.cells #[.string x.pod.id, .int .i64 x.pod.prio, .bool x.pod.crit, .int .i64 x.pod.r0, .int .i64 x.pod.r1, .int .i64 x.pod.r2, .int .i64 x.pod.l0, .int .i64 x.pod.l1, .int .i64 x.pod.l2, .string x.pod.img, .int .i64 x.pod.size, .int .i64 x.phase] 46)).cell? ⟨w.heap.size + 1, 1, none⟩ = some (.int .i64 x.pod.prio) := by first | (simp; done) | (rw [World.cell?_alloc_at _ _ _ _ (by simp)]; rfl) | (rw [World.cell?_alloc_past _ _ _ (by simp <;> omega), World.cell?_alloc_at _ _ _ _ (by simp)]; rfl) | (rw [World.cell?_alloc_past _ _ _ (by simp <;> omega), World.cell?_alloc_past _ _ _ (by simp <;> omega), World.cell?_alloc_at _ _ _ _ (by simp)]; rfl)
    have ee2 : ((w.alloc (.cells #[.int .i64 r, .slice a n c, .bool o.a, .bool o.b, .bool o.c] 25)).alloc (.cells #[.string x.pod.id, .int .i64 x.pod.prio, .bool x.pod.crit, .int .i64 x.pod.r0, .int .i64 x.pod.r1, .int .i64 x.pod.r2, .int .i64 x.pod.l0, .int .i64 x.pod.l1, .int .i64 x.pod.l2, .string x.pod.img, .int .i64 x.pod.size, .int .i64 x.phase] 46)).cell? ⟨w.heap.size + 1, 2, none⟩ = some (.bool x.pod.crit) := by first | (simp; done) | (rw [World.cell?_alloc_at _ _ _ _ (by simp)]; rfl) | (rw [World.cell?_alloc_past _ _ _ (by simp <;> omega), World.cell?_alloc_at _ _ _ _ (by simp)]; rfl) | (rw [World.cell?_alloc_past _ _ _ (by simp <;> omega), World.cell?_alloc_past _ _ _ (by simp <;> omega), World.cell?_alloc_at _ _ _ _ (by simp)]; rfl)
    have ee3 : ((w.alloc (.cells #[.int .i64 r, .slice a n c, .bool o.a, .bool o.b, .bool o.c] 25)).alloc (.cells #[.string x.pod.id, .int .i64 x.pod.prio, .bool x.pod.crit, .int .i64 x.pod.r0, .int .i64 x.pod.r1, .int .i64 x.pod.r2, .int .i64 x.pod.l0, .int .i64 x.pod.l1, .int .i64 x.pod.l2, .string x.pod.img, .int .i64 x.pod.size, .int .i64 x.phase] 46)).cell? ⟨w.heap.size + 1, 3, none⟩ = some (.int .i64 x.pod.r0) := by first | (simp; done) | (rw [World.cell?_alloc_at _ _ _ _ (by simp)]; rfl) | (rw [World.cell?_alloc_past _ _ _ (by simp <;> omega), World.cell?_alloc_at _ _ _ _ (by simp)]; rfl) | (rw [World.cell?_alloc_past _ _ _ (by simp <;> omega), World.cell?_alloc_past _ _ _ (by simp <;> omega), World.cell?_alloc_at _ _ _ _ (by simp)]; rfl)
    have ee4 : ((w.alloc (.cells #[.int .i64 r, .slice a n c, .bool o.a, .bool o.b, .bool o.c] 25)).alloc (.cells #[.string x.pod.id, .int .i64 x.pod.prio, .bool x.pod.crit, .int .i64 x.pod.r0, .int .i64 x.pod.r1, .int .i64 x.pod.r2, .int .i64 x.pod.l0, .int .i64 x.pod.l1, .int .i64 x.pod.l2, .string x.pod.img, .int .i64 x.pod.size, .int .i64 x.phase] 46)).cell? ⟨w.heap.size + 1, 4, none⟩ = some (.int .i64 x.pod.r1) := by first | (simp; done) | (rw [World.cell?_alloc_at _ _ _ _ (by simp)]; rfl) | (rw [World.cell?_alloc_past _ _ _ (by simp <;> omega), World.cell?_alloc_at _ _ _ _ (by simp)]; rfl) | (rw [World.cell?_alloc_past _ _ _ (by simp <;> omega), World.cell?_alloc_past _ _ _ (by simp <;> omega), World.cell?_alloc_at _ _ _ _ (by simp)]; rfl)
    have ee5 : ((w.alloc (.cells #[.int .i64 r, .slice a n c, .bool o.a, .bool o.b, .bool o.c] 25)).alloc (.cells #[.string x.pod.id, .int .i64 x.pod.prio, .bool x.pod.crit, .int .i64 x.pod.r0, .int .i64 x.pod.r1, .int .i64 x.pod.r2, .int .i64 x.pod.l0, .int .i64 x.pod.l1, .int .i64 x.pod.l2, .string x.pod.img, .int .i64 x.pod.size, .int .i64 x.phase] 46)).cell? ⟨w.heap.size + 1, 5, none⟩ = some (.int .i64 x.pod.r2) := by first | (simp; done) | (rw [World.cell?_alloc_at _ _ _ _ (by simp)]; rfl) | (rw [World.cell?_alloc_past _ _ _ (by simp <;> omega), World.cell?_alloc_at _ _ _ _ (by simp)]; rfl) | (rw [World.cell?_alloc_past _ _ _ (by simp <;> omega), World.cell?_alloc_past _ _ _ (by simp <;> omega), World.cell?_alloc_at _ _ _ _ (by simp)]; rfl)
    have ee6 : ((w.alloc (.cells #[.int .i64 r, .slice a n c, .bool o.a, .bool o.b, .bool o.c] 25)).alloc (.cells #[.string x.pod.id, .int .i64 x.pod.prio, .bool x.pod.crit, .int .i64 x.pod.r0, .int .i64 x.pod.r1, .int .i64 x.pod.r2, .int .i64 x.pod.l0, .int .i64 x.pod.l1, .int .i64 x.pod.l2, .string x.pod.img, .int .i64 x.pod.size, .int .i64 x.phase] 46)).cell? ⟨w.heap.size + 1, 6, none⟩ = some (.int .i64 x.pod.l0) := by first | (simp; done) | (rw [World.cell?_alloc_at _ _ _ _ (by simp)]; rfl) | (rw [World.cell?_alloc_past _ _ _ (by simp <;> omega), World.cell?_alloc_at _ _ _ _ (by simp)]; rfl) | (rw [World.cell?_alloc_past _ _ _ (by simp <;> omega), World.cell?_alloc_past _ _ _ (by simp <;> omega), World.cell?_alloc_at _ _ _ _ (by simp)]; rfl)
    have ee7 : ((w.alloc (.cells #[.int .i64 r, .slice a n c, .bool o.a, .bool o.b, .bool o.c] 25)).alloc (.cells #[.string x.pod.id, .int .i64 x.pod.prio, .bool x.pod.crit, .int .i64 x.pod.r0, .int .i64 x.pod.r1, .int .i64 x.pod.r2, .int .i64 x.pod.l0, .int .i64 x.pod.l1, .int .i64 x.pod.l2, .string x.pod.img, .int .i64 x.pod.size, .int .i64 x.phase] 46)).cell? ⟨w.heap.size + 1, 7, none⟩ = some (.int .i64 x.pod.l1) := by first | (simp; done) | (rw [World.cell?_alloc_at _ _ _ _ (by simp)]; rfl) | (rw [World.cell?_alloc_past _ _ _ (by simp <;> omega), World.cell?_alloc_at _ _ _ _ (by simp)]; rfl) | (rw [World.cell?_alloc_past _ _ _ (by simp <;> omega), World.cell?_alloc_past _ _ _ (by simp <;> omega), World.cell?_alloc_at _ _ _ _ (by simp)]; rfl)
    have ee8 : ((w.alloc (.cells #[.int .i64 r, .slice a n c, .bool o.a, .bool o.b, .bool o.c] 25)).alloc (.cells #[.string x.pod.id, .int .i64 x.pod.prio, .bool x.pod.crit, .int .i64 x.pod.r0, .int .i64 x.pod.r1, .int .i64 x.pod.r2, .int .i64 x.pod.l0, .int .i64 x.pod.l1, .int .i64 x.pod.l2, .string x.pod.img, .int .i64 x.pod.size, .int .i64 x.phase] 46)).cell? ⟨w.heap.size + 1, 8, none⟩ = some (.int .i64 x.pod.l2) := by first | (simp; done) | (rw [World.cell?_alloc_at _ _ _ _ (by simp)]; rfl) | (rw [World.cell?_alloc_past _ _ _ (by simp <;> omega), World.cell?_alloc_at _ _ _ _ (by simp)]; rfl) | (rw [World.cell?_alloc_past _ _ _ (by simp <;> omega), World.cell?_alloc_past _ _ _ (by simp <;> omega), World.cell?_alloc_at _ _ _ _ (by simp)]; rfl)
    have ee9 : ((w.alloc (.cells #[.int .i64 r, .slice a n c, .bool o.a, .bool o.b, .bool o.c] 25)).alloc (.cells #[.string x.pod.id, .int .i64 x.pod.prio, .bool x.pod.crit, .int .i64 x.pod.r0, .int .i64 x.pod.r1, .int .i64 x.pod.r2, .int .i64 x.pod.l0, .int .i64 x.pod.l1, .int .i64 x.pod.l2, .string x.pod.img, .int .i64 x.pod.size, .int .i64 x.phase] 46)).cell? ⟨w.heap.size + 1, 9, none⟩ = some (.string x.pod.img) := by first | (simp; done) | (rw [World.cell?_alloc_at _ _ _ _ (by simp)]; rfl) | (rw [World.cell?_alloc_past _ _ _ (by simp <;> omega), World.cell?_alloc_at _ _ _ _ (by simp)]; rfl) | (rw [World.cell?_alloc_past _ _ _ (by simp <;> omega), World.cell?_alloc_past _ _ _ (by simp <;> omega), World.cell?_alloc_at _ _ _ _ (by simp)]; rfl)
    have ee10 : ((w.alloc (.cells #[.int .i64 r, .slice a n c, .bool o.a, .bool o.b, .bool o.c] 25)).alloc (.cells #[.string x.pod.id, .int .i64 x.pod.prio, .bool x.pod.crit, .int .i64 x.pod.r0, .int .i64 x.pod.r1, .int .i64 x.pod.r2, .int .i64 x.pod.l0, .int .i64 x.pod.l1, .int .i64 x.pod.l2, .string x.pod.img, .int .i64 x.pod.size, .int .i64 x.phase] 46)).cell? ⟨w.heap.size + 1, 10, none⟩ = some (.int .i64 x.pod.size) := by first | (simp; done) | (rw [World.cell?_alloc_at _ _ _ _ (by simp)]; rfl) | (rw [World.cell?_alloc_past _ _ _ (by simp <;> omega), World.cell?_alloc_at _ _ _ _ (by simp)]; rfl) | (rw [World.cell?_alloc_past _ _ _ (by simp <;> omega), World.cell?_alloc_past _ _ _ (by simp <;> omega), World.cell?_alloc_at _ _ _ _ (by simp)]; rfl)
    have ee11 : ((w.alloc (.cells #[.int .i64 r, .slice a n c, .bool o.a, .bool o.b, .bool o.c] 25)).alloc (.cells #[.string x.pod.id, .int .i64 x.pod.prio, .bool x.pod.crit, .int .i64 x.pod.r0, .int .i64 x.pod.r1, .int .i64 x.pod.r2, .int .i64 x.pod.l0, .int .i64 x.pod.l1, .int .i64 x.pod.l2, .string x.pod.img, .int .i64 x.pod.size, .int .i64 x.phase] 46)).cell? ⟨w.heap.size + 1, 11, none⟩ = some (.int .i64 x.phase) := by first | (simp; done) | (rw [World.cell?_alloc_at _ _ _ _ (by simp)]; rfl) | (rw [World.cell?_alloc_past _ _ _ (by simp <;> omega), World.cell?_alloc_at _ _ _ _ (by simp)]; rfl) | (rw [World.cell?_alloc_past _ _ _ (by simp <;> omega), World.cell?_alloc_past _ _ _ (by simp <;> omega), World.cell?_alloc_at _ _ _ _ (by simp)]; rfl)
    have hb2 := (by repeat (first | exact hbel | refine belAlloc ?_ _ | refine belDrew ?_ | refine belSet ?_ _ _ (by simp)) : Below w.heap.size w ((w.alloc (.cells #[.int .i64 r, .slice a n c, .bool o.a, .bool o.b, .bool o.c] 25)).alloc (.cells #[.string x.pod.id, .int .i64 x.pod.prio, .bool x.pod.crit, .int .i64 x.pod.r0, .int .i64 x.pod.r1, .int .i64 x.pod.r2, .int .i64 x.pod.l0, .int .i64 x.pod.l1, .int .i64 x.pod.l2, .string x.pod.img, .int .i64 x.pod.size, .int .i64 x.phase] 46)))
    replace hw := belStep hw hb2
    clear hb2 hbel
    generalize (w.alloc (.cells #[.int .i64 r, .slice a n c, .bool o.a, .bool o.b, .bool o.c] 25)).alloc (.cells #[.string x.pod.id, .int .i64 x.pod.prio, .bool x.pod.crit, .int .i64 x.pod.r0, .int .i64 x.pod.r1, .int .i64 x.pod.r2, .int .i64 x.pod.l0, .int .i64 x.pod.l1, .int .i64 x.pod.l2, .string x.pod.img, .int .i64 x.pod.size, .int .i64 x.phase] 46) = W1 at *
    replace ss0 := keep ss0
    replace ss1 := keep ss1
    replace ss2 := keep ss2
    replace ss3 := keep ss3
    replace ss4 := keep ss4
    replace ee0 := keep ee0
    replace ee1 := keep ee1
    replace ee2 := keep ee2
    replace ee3 := keep ee3
    replace ee4 := keep ee4
    replace ee5 := keep ee5
    replace ee6 := keep ee6
    replace ee7 := keep ee7
    replace ee8 := keep ee8
    replace ee9 := keep ee9
    replace ee10 := keep ee10
    replace ee11 := keep ee11
    have hbel : Below W1.heap.size W1 W1 := Below.refl _ _
    skip
    go_wp2_with (first | (go_at_call 11; (with_reducible refine (awake24 _).mono ?_); rintro e w1 ⟨rfl, hb1⟩; replace hbel := belStep hbel hb1; clear hb1) | (go_at_call 12; (with_reducible refine (CFW.out _ (belStep hw hbel)).mono ?_); rintro e wf ⟨rfl, hbf⟩; replace hbel := belStep hbel hbf; clear hbf; rcases fs with _ | _) | (go_at_call 15; (with_reducible refine (CRT.out _ (belStep hw hbel)).mono ?_); rintro e wf ⟨rfl, hbf⟩; replace hbel := belStep hbel hbf; clear hbf; rcases rs with _ | _) | (go_at_call 21; (with_reducible refine (CSM.out _).mono ?_); rintro e wf8 ⟨rfl, hbf8⟩; replace hbel := belStep hbel hbf8; clear hbf8; rcases sm with _ | _) | (go_at_call 22; (with_reducible refine (CRP.out _).mono ?_); rintro e wf9 ⟨rfl, hbf9⟩; replace hbel := belStep hbel hbf9; clear hbf9; rcases rp with _ | _))
    all_goals (go_ret; exact ⟨rfl, belStep hw hbel⟩)
  · have p1 : decide (x.phase < (1 : Int)) = false := decide_eq_false k1
    have p2 : decide ((3 : Int) < x.phase) = false := decide_eq_false k2
    have HPH := Lib.hid (show phB x.phase = true by unfold phB; rw [decide_eq_true (by omega), decide_eq_true (by omega)]; rfl)
    go_enter Try.func8, Try.ntmps8
    go_upto_region 1 with fail
    have ss0 : ((w.alloc (.cells #[.int .i64 r, .slice a n c, .bool o.a, .bool o.b, .bool o.c] 25)).alloc (.cells #[.string x.pod.id, .int .i64 x.pod.prio, .bool x.pod.crit, .int .i64 x.pod.r0, .int .i64 x.pod.r1, .int .i64 x.pod.r2, .int .i64 x.pod.l0, .int .i64 x.pod.l1, .int .i64 x.pod.l2, .string x.pod.img, .int .i64 x.pod.size, .int .i64 x.phase] 46)).cell? ⟨w.heap.size, 0, none⟩ = some (.int .i64 r) := by first | (simp; done) | (rw [World.cell?_alloc_at _ _ _ _ (by simp)]; rfl) | (rw [World.cell?_alloc_past _ _ _ (by simp <;> omega), World.cell?_alloc_at _ _ _ _ (by simp)]; rfl) | (rw [World.cell?_alloc_past _ _ _ (by simp <;> omega), World.cell?_alloc_past _ _ _ (by simp <;> omega), World.cell?_alloc_at _ _ _ _ (by simp)]; rfl)
    have ss1 : ((w.alloc (.cells #[.int .i64 r, .slice a n c, .bool o.a, .bool o.b, .bool o.c] 25)).alloc (.cells #[.string x.pod.id, .int .i64 x.pod.prio, .bool x.pod.crit, .int .i64 x.pod.r0, .int .i64 x.pod.r1, .int .i64 x.pod.r2, .int .i64 x.pod.l0, .int .i64 x.pod.l1, .int .i64 x.pod.l2, .string x.pod.img, .int .i64 x.pod.size, .int .i64 x.phase] 46)).cell? ⟨w.heap.size, 1, none⟩ = some (.slice a n c) := by first | (simp; done) | (rw [World.cell?_alloc_at _ _ _ _ (by simp)]; rfl) | (rw [World.cell?_alloc_past _ _ _ (by simp <;> omega), World.cell?_alloc_at _ _ _ _ (by simp)]; rfl) | (rw [World.cell?_alloc_past _ _ _ (by simp <;> omega), World.cell?_alloc_past _ _ _ (by simp <;> omega), World.cell?_alloc_at _ _ _ _ (by simp)]; rfl)
    have ss2 : ((w.alloc (.cells #[.int .i64 r, .slice a n c, .bool o.a, .bool o.b, .bool o.c] 25)).alloc (.cells #[.string x.pod.id, .int .i64 x.pod.prio, .bool x.pod.crit, .int .i64 x.pod.r0, .int .i64 x.pod.r1, .int .i64 x.pod.r2, .int .i64 x.pod.l0, .int .i64 x.pod.l1, .int .i64 x.pod.l2, .string x.pod.img, .int .i64 x.pod.size, .int .i64 x.phase] 46)).cell? ⟨w.heap.size, 2, none⟩ = some (.bool o.a) := by first | (simp; done) | (rw [World.cell?_alloc_at _ _ _ _ (by simp)]; rfl) | (rw [World.cell?_alloc_past _ _ _ (by simp <;> omega), World.cell?_alloc_at _ _ _ _ (by simp)]; rfl) | (rw [World.cell?_alloc_past _ _ _ (by simp <;> omega), World.cell?_alloc_past _ _ _ (by simp <;> omega), World.cell?_alloc_at _ _ _ _ (by simp)]; rfl)
    have ss3 : ((w.alloc (.cells #[.int .i64 r, .slice a n c, .bool o.a, .bool o.b, .bool o.c] 25)).alloc (.cells #[.string x.pod.id, .int .i64 x.pod.prio, .bool x.pod.crit, .int .i64 x.pod.r0, .int .i64 x.pod.r1, .int .i64 x.pod.r2, .int .i64 x.pod.l0, .int .i64 x.pod.l1, .int .i64 x.pod.l2, .string x.pod.img, .int .i64 x.pod.size, .int .i64 x.phase] 46)).cell? ⟨w.heap.size, 3, none⟩ = some (.bool o.b) := by first | (simp; done) | (rw [World.cell?_alloc_at _ _ _ _ (by simp)]; rfl) | (rw [World.cell?_alloc_past _ _ _ (by simp <;> omega), World.cell?_alloc_at _ _ _ _ (by simp)]; rfl) | (rw [World.cell?_alloc_past _ _ _ (by simp <;> omega), World.cell?_alloc_past _ _ _ (by simp <;> omega), World.cell?_alloc_at _ _ _ _ (by simp)]; rfl)
    have ss4 : ((w.alloc (.cells #[.int .i64 r, .slice a n c, .bool o.a, .bool o.b, .bool o.c] 25)).alloc (.cells #[.string x.pod.id, .int .i64 x.pod.prio, .bool x.pod.crit, .int .i64 x.pod.r0, .int .i64 x.pod.r1, .int .i64 x.pod.r2, .int .i64 x.pod.l0, .int .i64 x.pod.l1, .int .i64 x.pod.l2, .string x.pod.img, .int .i64 x.pod.size, .int .i64 x.phase] 46)).cell? ⟨w.heap.size, 4, none⟩ = some (.bool o.c) := by first | (simp; done) | (rw [World.cell?_alloc_at _ _ _ _ (by simp)]; rfl) | (rw [World.cell?_alloc_past _ _ _ (by simp <;> omega), World.cell?_alloc_at _ _ _ _ (by simp)]; rfl) | (rw [World.cell?_alloc_past _ _ _ (by simp <;> omega), World.cell?_alloc_past _ _ _ (by simp <;> omega), World.cell?_alloc_at _ _ _ _ (by simp)]; rfl)
    have ee0 : ((w.alloc (.cells #[.int .i64 r, .slice a n c, .bool o.a, .bool o.b, .bool o.c] 25)).alloc (.cells #[.string x.pod.id, .int .i64 x.pod.prio, .bool x.pod.crit, .int .i64 x.pod.r0, .int .i64 x.pod.r1, .int .i64 x.pod.r2, .int .i64 x.pod.l0, .int .i64 x.pod.l1, .int .i64 x.pod.l2, .string x.pod.img, .int .i64 x.pod.size, .int .i64 x.phase] 46)).cell? ⟨w.heap.size + 1, 0, none⟩ = some (.string x.pod.id) := by first | (simp; done) | (rw [World.cell?_alloc_at _ _ _ _ (by simp)]; rfl) | (rw [World.cell?_alloc_past _ _ _ (by simp <;> omega), World.cell?_alloc_at _ _ _ _ (by simp)]; rfl) | (rw [World.cell?_alloc_past _ _ _ (by simp <;> omega), World.cell?_alloc_past _ _ _ (by simp <;> omega), World.cell?_alloc_at _ _ _ _ (by simp)]; rfl)
    have ee1 : ((w.alloc (.cells #[.int .i64 r, .slice a n c, .bool o.a, .bool o.b, .bool o.c] 25)).alloc (.cells #[.string x.pod.id, .int .i64 x.pod.prio, .bool x.pod.crit, .int .i64 x.pod.r0, .int .i64 x.pod.r1, .int .i64 x.pod.r2, .int .i64 x.pod.l0, .int .i64 x.pod.l1, .int .i64 x.pod.l2, .string x.pod.img, .int .i64 x.pod.size, .int .i64 x.phase] 46)).cell? ⟨w.heap.size + 1, 1, none⟩ = some (.int .i64 x.pod.prio) := by first | (simp; done) | (rw [World.cell?_alloc_at _ _ _ _ (by simp)]; rfl) | (rw [World.cell?_alloc_past _ _ _ (by simp <;> omega), World.cell?_alloc_at _ _ _ _ (by simp)]; rfl) | (rw [World.cell?_alloc_past _ _ _ (by simp <;> omega), World.cell?_alloc_past _ _ _ (by simp <;> omega), World.cell?_alloc_at _ _ _ _ (by simp)]; rfl)
    have ee2 : ((w.alloc (.cells #[.int .i64 r, .slice a n c, .bool o.a, .bool o.b, .bool o.c] 25)).alloc (.cells #[.string x.pod.id, .int .i64 x.pod.prio, .bool x.pod.crit, .int .i64 x.pod.r0, .int .i64 x.pod.r1, .int .i64 x.pod.r2, .int .i64 x.pod.l0, .int .i64 x.pod.l1, .int .i64 x.pod.l2, .string x.pod.img, .int .i64 x.pod.size, .int .i64 x.phase] 46)).cell? ⟨w.heap.size + 1, 2, none⟩ = some (.bool x.pod.crit) := by first | (simp; done) | (rw [World.cell?_alloc_at _ _ _ _ (by simp)]; rfl) | (rw [World.cell?_alloc_past _ _ _ (by simp <;> omega), World.cell?_alloc_at _ _ _ _ (by simp)]; rfl) | (rw [World.cell?_alloc_past _ _ _ (by simp <;> omega), World.cell?_alloc_past _ _ _ (by simp <;> omega), World.cell?_alloc_at _ _ _ _ (by simp)]; rfl)
    have ee3 : ((w.alloc (.cells #[.int .i64 r, .slice a n c, .bool o.a, .bool o.b, .bool o.c] 25)).alloc (.cells #[.string x.pod.id, .int .i64 x.pod.prio, .bool x.pod.crit, .int .i64 x.pod.r0, .int .i64 x.pod.r1, .int .i64 x.pod.r2, .int .i64 x.pod.l0, .int .i64 x.pod.l1, .int .i64 x.pod.l2, .string x.pod.img, .int .i64 x.pod.size, .int .i64 x.phase] 46)).cell? ⟨w.heap.size + 1, 3, none⟩ = some (.int .i64 x.pod.r0) := by first | (simp; done) | (rw [World.cell?_alloc_at _ _ _ _ (by simp)]; rfl) | (rw [World.cell?_alloc_past _ _ _ (by simp <;> omega), World.cell?_alloc_at _ _ _ _ (by simp)]; rfl) | (rw [World.cell?_alloc_past _ _ _ (by simp <;> omega), World.cell?_alloc_past _ _ _ (by simp <;> omega), World.cell?_alloc_at _ _ _ _ (by simp)]; rfl)
    have ee4 : ((w.alloc (.cells #[.int .i64 r, .slice a n c, .bool o.a, .bool o.b, .bool o.c] 25)).alloc (.cells #[.string x.pod.id, .int .i64 x.pod.prio, .bool x.pod.crit, .int .i64 x.pod.r0, .int .i64 x.pod.r1, .int .i64 x.pod.r2, .int .i64 x.pod.l0, .int .i64 x.pod.l1, .int .i64 x.pod.l2, .string x.pod.img, .int .i64 x.pod.size, .int .i64 x.phase] 46)).cell? ⟨w.heap.size + 1, 4, none⟩ = some (.int .i64 x.pod.r1) := by first | (simp; done) | (rw [World.cell?_alloc_at _ _ _ _ (by simp)]; rfl) | (rw [World.cell?_alloc_past _ _ _ (by simp <;> omega), World.cell?_alloc_at _ _ _ _ (by simp)]; rfl) | (rw [World.cell?_alloc_past _ _ _ (by simp <;> omega), World.cell?_alloc_past _ _ _ (by simp <;> omega), World.cell?_alloc_at _ _ _ _ (by simp)]; rfl)
    have ee5 : ((w.alloc (.cells #[.int .i64 r, .slice a n c, .bool o.a, .bool o.b, .bool o.c] 25)).alloc (.cells #[.string x.pod.id, .int .i64 x.pod.prio, .bool x.pod.crit, .int .i64 x.pod.r0, .int .i64 x.pod.r1, .int .i64 x.pod.r2, .int .i64 x.pod.l0, .int .i64 x.pod.l1, .int .i64 x.pod.l2, .string x.pod.img, .int .i64 x.pod.size, .int .i64 x.phase] 46)).cell? ⟨w.heap.size + 1, 5, none⟩ = some (.int .i64 x.pod.r2) := by first | (simp; done) | (rw [World.cell?_alloc_at _ _ _ _ (by simp)]; rfl) | (rw [World.cell?_alloc_past _ _ _ (by simp <;> omega), World.cell?_alloc_at _ _ _ _ (by simp)]; rfl) | (rw [World.cell?_alloc_past _ _ _ (by simp <;> omega), World.cell?_alloc_past _ _ _ (by simp <;> omega), World.cell?_alloc_at _ _ _ _ (by simp)]; rfl)
    have ee6 : ((w.alloc (.cells #[.int .i64 r, .slice a n c, .bool o.a, .bool o.b, .bool o.c] 25)).alloc (.cells #[.string x.pod.id, .int .i64 x.pod.prio, .bool x.pod.crit, .int .i64 x.pod.r0, .int .i64 x.pod.r1, .int .i64 x.pod.r2, .int .i64 x.pod.l0, .int .i64 x.pod.l1, .int .i64 x.pod.l2, .string x.pod.img, .int .i64 x.pod.size, .int .i64 x.phase] 46)).cell? ⟨w.heap.size + 1, 6, none⟩ = some (.int .i64 x.pod.l0) := by first | (simp; done) | (rw [World.cell?_alloc_at _ _ _ _ (by simp)]; rfl) | (rw [World.cell?_alloc_past _ _ _ (by simp <;> omega), World.cell?_alloc_at _ _ _ _ (by simp)]; rfl) | (rw [World.cell?_alloc_past _ _ _ (by simp <;> omega), World.cell?_alloc_past _ _ _ (by simp <;> omega), World.cell?_alloc_at _ _ _ _ (by simp)]; rfl)
    have ee7 : ((w.alloc (.cells #[.int .i64 r, .slice a n c, .bool o.a, .bool o.b, .bool o.c] 25)).alloc (.cells #[.string x.pod.id, .int .i64 x.pod.prio, .bool x.pod.crit, .int .i64 x.pod.r0, .int .i64 x.pod.r1, .int .i64 x.pod.r2, .int .i64 x.pod.l0, .int .i64 x.pod.l1, .int .i64 x.pod.l2, .string x.pod.img, .int .i64 x.pod.size, .int .i64 x.phase] 46)).cell? ⟨w.heap.size + 1, 7, none⟩ = some (.int .i64 x.pod.l1) := by first | (simp; done) | (rw [World.cell?_alloc_at _ _ _ _ (by simp)]; rfl) | (rw [World.cell?_alloc_past _ _ _ (by simp <;> omega), World.cell?_alloc_at _ _ _ _ (by simp)]; rfl) | (rw [World.cell?_alloc_past _ _ _ (by simp <;> omega), World.cell?_alloc_past _ _ _ (by simp <;> omega), World.cell?_alloc_at _ _ _ _ (by simp)]; rfl)
    have ee8 : ((w.alloc (.cells #[.int .i64 r, .slice a n c, .bool o.a, .bool o.b, .bool o.c] 25)).alloc (.cells #[.string x.pod.id, .int .i64 x.pod.prio, .bool x.pod.crit, .int .i64 x.pod.r0, .int .i64 x.pod.r1, .int .i64 x.pod.r2, .int .i64 x.pod.l0, .int .i64 x.pod.l1, .int .i64 x.pod.l2, .string x.pod.img, .int .i64 x.pod.size, .int .i64 x.phase] 46)).cell? ⟨w.heap.size + 1, 8, none⟩ = some (.int .i64 x.pod.l2) := by first | (simp; done) | (rw [World.cell?_alloc_at _ _ _ _ (by simp)]; rfl) | (rw [World.cell?_alloc_past _ _ _ (by simp <;> omega), World.cell?_alloc_at _ _ _ _ (by simp)]; rfl) | (rw [World.cell?_alloc_past _ _ _ (by simp <;> omega), World.cell?_alloc_past _ _ _ (by simp <;> omega), World.cell?_alloc_at _ _ _ _ (by simp)]; rfl)
    have ee9 : ((w.alloc (.cells #[.int .i64 r, .slice a n c, .bool o.a, .bool o.b, .bool o.c] 25)).alloc (.cells #[.string x.pod.id, .int .i64 x.pod.prio, .bool x.pod.crit, .int .i64 x.pod.r0, .int .i64 x.pod.r1, .int .i64 x.pod.r2, .int .i64 x.pod.l0, .int .i64 x.pod.l1, .int .i64 x.pod.l2, .string x.pod.img, .int .i64 x.pod.size, .int .i64 x.phase] 46)).cell? ⟨w.heap.size + 1, 9, none⟩ = some (.string x.pod.img) := by first | (simp; done) | (rw [World.cell?_alloc_at _ _ _ _ (by simp)]; rfl) | (rw [World.cell?_alloc_past _ _ _ (by simp <;> omega), World.cell?_alloc_at _ _ _ _ (by simp)]; rfl) | (rw [World.cell?_alloc_past _ _ _ (by simp <;> omega), World.cell?_alloc_past _ _ _ (by simp <;> omega), World.cell?_alloc_at _ _ _ _ (by simp)]; rfl)
    have ee10 : ((w.alloc (.cells #[.int .i64 r, .slice a n c, .bool o.a, .bool o.b, .bool o.c] 25)).alloc (.cells #[.string x.pod.id, .int .i64 x.pod.prio, .bool x.pod.crit, .int .i64 x.pod.r0, .int .i64 x.pod.r1, .int .i64 x.pod.r2, .int .i64 x.pod.l0, .int .i64 x.pod.l1, .int .i64 x.pod.l2, .string x.pod.img, .int .i64 x.pod.size, .int .i64 x.phase] 46)).cell? ⟨w.heap.size + 1, 10, none⟩ = some (.int .i64 x.pod.size) := by first | (simp; done) | (rw [World.cell?_alloc_at _ _ _ _ (by simp)]; rfl) | (rw [World.cell?_alloc_past _ _ _ (by simp <;> omega), World.cell?_alloc_at _ _ _ _ (by simp)]; rfl) | (rw [World.cell?_alloc_past _ _ _ (by simp <;> omega), World.cell?_alloc_past _ _ _ (by simp <;> omega), World.cell?_alloc_at _ _ _ _ (by simp)]; rfl)
    have ee11 : ((w.alloc (.cells #[.int .i64 r, .slice a n c, .bool o.a, .bool o.b, .bool o.c] 25)).alloc (.cells #[.string x.pod.id, .int .i64 x.pod.prio, .bool x.pod.crit, .int .i64 x.pod.r0, .int .i64 x.pod.r1, .int .i64 x.pod.r2, .int .i64 x.pod.l0, .int .i64 x.pod.l1, .int .i64 x.pod.l2, .string x.pod.img, .int .i64 x.pod.size, .int .i64 x.phase] 46)).cell? ⟨w.heap.size + 1, 11, none⟩ = some (.int .i64 x.phase) := by first | (simp; done) | (rw [World.cell?_alloc_at _ _ _ _ (by simp)]; rfl) | (rw [World.cell?_alloc_past _ _ _ (by simp <;> omega), World.cell?_alloc_at _ _ _ _ (by simp)]; rfl) | (rw [World.cell?_alloc_past _ _ _ (by simp <;> omega), World.cell?_alloc_past _ _ _ (by simp <;> omega), World.cell?_alloc_at _ _ _ _ (by simp)]; rfl)
    have hb2 := (by repeat (first | exact hbel | refine belAlloc ?_ _ | refine belDrew ?_ | refine belSet ?_ _ _ (by simp)) : Below w.heap.size w ((w.alloc (.cells #[.int .i64 r, .slice a n c, .bool o.a, .bool o.b, .bool o.c] 25)).alloc (.cells #[.string x.pod.id, .int .i64 x.pod.prio, .bool x.pod.crit, .int .i64 x.pod.r0, .int .i64 x.pod.r1, .int .i64 x.pod.r2, .int .i64 x.pod.l0, .int .i64 x.pod.l1, .int .i64 x.pod.l2, .string x.pod.img, .int .i64 x.pod.size, .int .i64 x.phase] 46)))
    replace hw := belStep hw hb2
    clear hb2 hbel
    generalize (w.alloc (.cells #[.int .i64 r, .slice a n c, .bool o.a, .bool o.b, .bool o.c] 25)).alloc (.cells #[.string x.pod.id, .int .i64 x.pod.prio, .bool x.pod.crit, .int .i64 x.pod.r0, .int .i64 x.pod.r1, .int .i64 x.pod.r2, .int .i64 x.pod.l0, .int .i64 x.pod.l1, .int .i64 x.pod.l2, .string x.pod.img, .int .i64 x.pod.size, .int .i64 x.phase] 46) = W1 at *
    replace ss0 := keep ss0
    replace ss1 := keep ss1
    replace ss2 := keep ss2
    replace ss3 := keep ss3
    replace ss4 := keep ss4
    replace ee0 := keep ee0
    replace ee1 := keep ee1
    replace ee2 := keep ee2
    replace ee3 := keep ee3
    replace ee4 := keep ee4
    replace ee5 := keep ee5
    replace ee6 := keep ee6
    replace ee7 := keep ee7
    replace ee8 := keep ee8
    replace ee9 := keep ee9
    replace ee10 := keep ee10
    replace ee11 := keep ee11
    have hbel : Below W1.heap.size W1 W1 := Below.refl _ _
    skip
    go_upto_region 3 with (first | (go_at_call 11; (with_reducible refine (awake24 _).mono ?_); rintro e w1 ⟨rfl, hb1⟩; replace hbel := belStep hbel hb1; clear hb1) | (go_at_call 12; (with_reducible refine (CFW.out _ (belStep hw hbel)).mono ?_); rintro e wf ⟨rfl, hbf⟩; replace hbel := belStep hbel hbf; clear hbf; rcases fs with _ | _) | (go_at_call 15; (with_reducible refine (CRT.out _ (belStep hw hbel)).mono ?_); rintro e wf ⟨rfl, hbf⟩; replace hbel := belStep hbel hbf; clear hbf; rcases rs with _ | _) | (go_at_call 21; (with_reducible refine (CSM.out _).mono ?_); rintro e wf8 ⟨rfl, hbf8⟩; replace hbel := belStep hbel hbf8; clear hbf8; rcases sm with _ | _) | (go_at_call 22; (with_reducible refine (CRP.out _).mono ?_); rintro e wf9 ⟨rfl, hbf9⟩; replace hbel := belStep hbel hbf9; clear hbf9; rcases rp with _ | _))
    · go_ret
      exact ⟨rfl, belStep hw hbel⟩
    · go_ret
      exact ⟨rfl, belStep hw hbel⟩
    · go_ret
      exact ⟨rfl, belStep hw hbel⟩
    · go_ret
      exact ⟨rfl, belStep hw hbel⟩
    have hn64 : n ≤ 64 := by have h := (st_nums HRS.out).2.2; rw [HLN.out] at h; exact h
    have HEB := Lib.hid (show entB x = true by unfold entB; rw [HRP.out, HPH.out]; rfl)
    have HW1 := Lib.hid hw
    have HB := Lib.hid hbel
    clear hw CFW CRT CSM CRP HPH HRP p1 p2
    have HRI := Lib.hid (st_ris HRS.out)
    have HLL := Lib.hid (HLN.out)
    obtain ⟨A, M, B, hc⟩ := cut9 HRI.out x.pod.id
    have hca := hc.again
    have hcw := hc.without
    obtain ⟨LA, hLA⟩ : ∃ l, A ++ x :: B = l := ⟨_, rfl⟩
    obtain ⟨LB, hLB⟩ : ∃ l, A ++ B = l := ⟨_, rfl⟩
    obtain ⟨p, hp⟩ : ∃ p, A.length = p := ⟨_, rfl⟩
    have HW := Lib.hid (show withF L x = LA by rw [hc.put, hLA])
    have HO1 := Lib.hid (show woutF L x.pod.id = LB by rw [hc.out, hLB])
    have HW9 := Lib.hid (show withF LA x = LA by rw [← hLA, hca.put])
    have HO9 := Lib.hid (show woutF LA x.pod.id = LB by rw [← hLA, hca.out, hLB])
    have HTA := Lib.hid (show thF LA x.pod.id = true by rw [← hLA, hca.th]; rfl)
    have HPA := Lib.hid (show plF LA x.pod.id = p by rw [← hLA, hca.pl, hp])
    have HTB := Lib.hid (show thF LB x.pod.id = false by rw [← hLB, hcw.th]; rfl)
    have HXA := Lib.hid (show LA[p]? = some x by rw [← hLA, ← hp, List.getElem?_append_right (Nat.le_refl _), Nat.sub_self]; rfl)
    have hlAB : LA.length = LB.length + 1 := by rw [← hLA, ← hLB]; simp <;> omega
    have hpA : p < LA.length := by rw [← hLA, ← hp]; simp
    have hnB : LB.length ≤ n := by rw [← hLB]; have h1 := congrArg List.length hc.eq; have h2 := HLN.out; simp only [List.length_append] at h1 ⊢; omega
    have hwas : (thF L x.pod.id = true ∧ n = LA.length) ∨ (thF L x.pod.id = false ∧ n + 1 = LA.length ∧ LB = L) := by
      rcases hc.mid with ⟨y, hM, hy⟩ | hM
      · left
        refine ⟨by rw [hc.th, hM]; rfl, ?_⟩
        rw [← HLN.out, ← hLA, hc.eq, hM]
        simp <;> omega
      · right
        refine ⟨by rw [hc.th, hM]; rfl, ?_, ?_⟩
        · rw [← HLN.out, ← hLA, hc.eq, hM]; simp <;> omega
        · rw [← hLB, hc.eq, hM]; simp
    clear hLA hLB hp hca hcw hc
    obtain ⟨NA, hNA⟩ : ∃ N, LA.length = N := ⟨_, rfl⟩
    have HNA := Lib.hid hNA
    rw [hNA] at hlAB hpA hwas
    have HAB := Lib.hid hlAB
    have hNl : NA ≤ 65 := by omega
    clear hNA hlAB
    have CWI := Lib.hid (fun u (hu : Below W1.heap.size W1 u) => show Calls Try.prog 23 #[.agg #[.int .i64 r, .slice a n c, .bool o.a, .bool o.b, .bool o.c], .agg #[.string x.pod.id, .int .i64 x.pod.prio, .bool x.pod.crit, .int .i64 x.pod.r0, .int .i64 x.pod.r1, .int .i64 x.pod.r2, .int .i64 x.pod.l0, .int .i64 x.pod.l1, .int .i64 x.pod.l2, .string x.pod.img, .int .i64 x.pod.size, .int .i64 x.phase]] u fun e w' => ∃ d q, e = .returned (.agg #[.int .i64 r, .slice d NA q, .bool o.a, .bool o.b, .bool o.c]) ∧ Row w' d NA q 12 (LA.flatMap EntV.cells) ∧ Below u.heap.size u w' from by refine (st_With r a n c o L x u HLN.out (HR.out.later (belStep HW1.out hu)) (by omega)).mono ?_; rintro e w9 ⟨v, rfl, hown, hb⟩; rw [HW.out, HNA.out] at hown; obtain ⟨d, q, rfl, hr⟩ := rowR_of_own hown; exact ⟨d, q, rfl, hr, hb⟩)
    have CWA := Lib.hid (fun u d q (hr : Row u d NA q 12 (LA.flatMap EntV.cells)) => show Calls Try.prog 23 #[.agg #[.int .i64 r, .slice d NA q, .bool o.a, .bool o.b, .bool o.c], .agg #[.string x.pod.id, .int .i64 x.pod.prio, .bool x.pod.crit, .int .i64 x.pod.r0, .int .i64 x.pod.r1, .int .i64 x.pod.r2, .int .i64 x.pod.l0, .int .i64 x.pod.l1, .int .i64 x.pod.l2, .string x.pod.img, .int .i64 x.pod.size, .int .i64 x.phase]] u fun e w' => ∃ d q, e = .returned (.agg #[.int .i64 r, .slice d NA q, .bool o.a, .bool o.b, .bool o.c]) ∧ Row w' d NA q 12 (LA.flatMap EntV.cells) ∧ Below u.heap.size u w' from by refine (st_With r d NA q o LA x u HNA.out hr (by omega)).mono ?_; rintro e w9 ⟨v, rfl, hown, hb⟩; rw [HW9.out, HNA.out] at hown; obtain ⟨d, q, rfl, hr⟩ := rowR_of_own hown; exact ⟨d, q, rfl, hr, hb⟩)
    have COI := Lib.hid (fun u (hu : Below W1.heap.size W1 u) => show Calls Try.prog 24 #[.agg #[.int .i64 r, .slice a n c, .bool o.a, .bool o.b, .bool o.c], .string x.pod.id] u fun e w' => ∃ d q, e = .returned (.agg #[.int .i64 r, .slice d LB.length q, .bool o.a, .bool o.b, .bool o.c]) ∧ Row w' d LB.length q 12 (LB.flatMap EntV.cells) ∧ Below u.heap.size u w' from by refine (st_Without r a n c o L x.pod.id u HLN.out (HR.out.later (belStep HW1.out hu)) (by omega)).mono ?_; rintro e w9 ⟨v, rfl, hown, hb⟩; rw [HO1.out] at hown; obtain ⟨d, q, rfl, hr⟩ := rowR_of_own hown; exact ⟨d, q, rfl, hr, hb⟩)
    have COA := Lib.hid (fun u d q (hr : Row u d NA q 12 (LA.flatMap EntV.cells)) => show Calls Try.prog 24 #[.agg #[.int .i64 r, .slice d NA q, .bool o.a, .bool o.b, .bool o.c], .string x.pod.id] u fun e w' => ∃ d q, e = .returned (.agg #[.int .i64 r, .slice d LB.length q, .bool o.a, .bool o.b, .bool o.c]) ∧ Row w' d LB.length q 12 (LB.flatMap EntV.cells) ∧ Below u.heap.size u w' from by refine (st_Without r d NA q o LA x.pod.id u HNA.out hr (by omega)).mono ?_; rintro e w9 ⟨v, rfl, hown, hb⟩; rw [HO9.out] at hown; obtain ⟨d, q, rfl, hr⟩ := rowR_of_own hown; exact ⟨d, q, rfl, hr, hb⟩)
    have CFA := Lib.hid (fun u d q (hr : Row u d NA q 12 (LA.flatMap EntV.cells)) => show Calls Try.prog 25 #[.agg #[.int .i64 r, .slice d NA q, .bool o.a, .bool o.b, .bool o.c], .string x.pod.id] u fun e w' => e = .returned (.tuple #[.int .i64 p, .bool true]) ∧ Below u.heap.size u w' from by have h := st_Find r d NA q o LA x.pod.id u HNA.out hr; rw [HTA.out, HPA.out] at h; exact h)
    have CFB := Lib.hid (fun u d q (hr : Row u d LB.length q 12 (LB.flatMap EntV.cells)) => show Calls Try.prog 25 #[.agg #[.int .i64 r, .slice d LB.length q, .bool o.a, .bool o.b, .bool o.c], .string x.pod.id] u fun e w' => e = .returned (.tuple #[.int .i64 0, .bool false]) ∧ Below u.heap.size u w' from by have h := st_Find r d LB.length q o LB x.pod.id u rfl hr; rw [HTB.out] at h; exact h)
    have CSM := Lib.hid (fun u (K : List EntV) d e q f m k (hm : K.length = m) (hk : K.length = k) (h1 : Row u d m q 12 (K.flatMap EntV.cells)) (h2 : Row u e k f 12 (K.flatMap EntV.cells)) => ((sameS_iff r o K r o K).2 ⟨rfl, rfl, rfl⟩) ▸ sref_SameS r d m q o K r e k f o K u hm h1 hk h2)
    have heq := fun u : World => eq_ent x x u
    rw [(eqEnt_iff x x).2 rfl] at heq
    have heo := fun u : World => eq_on o.a o.b o.c o.a o.b o.c u
    rw [show (o.a == o.a && (o.b == o.b && o.c == o.c)) = true by simp] at heo
    have HEQ := Lib.hid heq
    have HEO := Lib.hid heo
    clear heq heo
    obtain ⟨fi, hfi⟩ : ∃ f : Int, (if thF L x.pod.id then (plF L x.pod.id : Int) else 0) = f := ⟨_, rfl⟩
    have CFI := Lib.hid (fun u (hu : Below W1.heap.size W1 u) => hfi ▸ st_Find r a n c o L x.pod.id u HLN.out (HR.out.later (belStep HW1.out hu)))
    clear hfi
    rcases hwas with ⟨hw1, hn1⟩ | ⟨hw1, hn1, hLL⟩
    · have CF := Lib.hid (fun u (hu : Below W1.heap.size W1 u) => show Calls Try.prog 25 #[.agg #[.int .i64 r, .slice a n c, .bool o.a, .bool o.b, .bool o.c], .string x.pod.id] u fun e w' => e = .returned (.tuple #[.int .i64 fi, .bool true]) ∧ Below u.heap.size u w' from by have h := CFI.out u hu; rw [hw1] at h; exact h)
      clear CFI hw1
      have HN1 := Lib.hid hn1
      clear hn1
      go_upto_region 4 with (go_at_call 25; (with_reducible refine (CF.out _ HB.out).mono ?_); rintro e w2 ⟨rfl, hb_⟩; replace HB := Lib.hid (belStep HB.out hb_); replace hbel := HB.out; clear hb_)
      go_upto_region 6 with fail
      go_upto_region 7 with (go_at_call 23; (with_reducible refine (CWI.out _ HB.out).mono ?_); rintro e w3 ⟨a3, q3, rfl, hr3, hb_⟩; replace HB := Lib.hid (belStep HB.out hb_); have HA := Lib.hid hr3; clear hr3; replace hbel := HB.out; clear hb_)
      clear hbel
      have k1 : Below w3.heap.size w3 (w3.alloc (.cells #[.int .i64 r, .slice a3 NA q3, .bool o.a, .bool o.b, .bool o.c] 25)) := belAlloc (Below.refl _ _) _
      have hn_ := Blk.new w3 [.int .i64 r, .slice a3 NA q3, .bool o.a, .bool o.b, .bool o.c] 25
      replace HA := Lib.hid (HA.out.later k1)
      replace HB := Lib.hid (belStep HB.out k1)
      have HTT := Lib.hid (show Blk (w3.alloc (.cells #[.int .i64 r, .slice a3 NA q3, .bool o.a, .bool o.b, .bool o.c] 25)) w3.heap.size [.int .i64 r, .slice a3 NA q3, .bool o.a, .bool o.b, .bool o.c] 25 from hn_)
      clear hn_ k1
      generalize w3.alloc (.cells #[.int .i64 r, .slice a3 NA q3, .bool o.a, .bool o.b, .bool o.c] 25) = W3 at *
      have hbel := HB.out
      have tt0 := keep (HTT.out.cell (j := 0) rfl)
      have tt1 := keep (HTT.out.cell (j := 1) rfl)
      have tt2 := keep (HTT.out.cell (j := 2) rfl)
      have tt3 := keep (HTT.out.cell (j := 3) rfl)
      have tt4 := keep (HTT.out.cell (j := 4) rfl)
      have HB3 := Lib.hid HB.out
      have hbel3 : Below W3.heap.size W3 W3 := Below.refl _ _
      replace ss0 := keepOn ss0 HB.out
      replace ss1 := keepOn ss1 HB.out
      replace ss2 := keepOn ss2 HB.out
      replace ss3 := keepOn ss3 HB.out
      replace ss4 := keepOn ss4 HB.out
      replace ee0 := keepOn ee0 HB.out
      replace ee1 := keepOn ee1 HB.out
      replace ee2 := keepOn ee2 HB.out
      replace ee3 := keepOn ee3 HB.out
      replace ee4 := keepOn ee4 HB.out
      replace ee5 := keepOn ee5 HB.out
      replace ee6 := keepOn ee6 HB.out
      replace ee7 := keepOn ee7 HB.out
      replace ee8 := keepOn ee8 HB.out
      replace ee9 := keepOn ee9 HB.out
      replace ee10 := keepOn ee10 HB.out
      replace ee11 := keepOn ee11 HB.out
      clear hbel
      have hbel : Below W3.heap.size W3 W3 := Below.refl _ _
      go_upto_region 8 with (go_at_call 25; (with_reducible refine (CFA.out _ a3 q3 HA.out).mono ?_); rintro e w4 ⟨rfl, hb_⟩; have HB4 := Lib.hid hb_; replace hbel := hb_; clear hb_)
      have HAX := Lib.hid (HA.out.later HB4.out)
      have hx9 := (HAX.out).elem EntV.cells_len (by omega) HXA.out
      obtain ⟨bc, oc, ec, _, hcc⟩ := hx9
      subst ec
      have c0 := keep (hcc 0 _ rfl)
      have c1 := keep (hcc 1 _ rfl)
      have c2 := keep (hcc 2 _ rfl)
      have c3 := keep (hcc 3 _ rfl)
      have c4 := keep (hcc 4 _ rfl)
      have c5 := keep (hcc 5 _ rfl)
      have c6 := keep (hcc 6 _ rfl)
      have c7 := keep (hcc 7 _ rfl)
      have c8 := keep (hcc 8 _ rfl)
      have c9 := keep (hcc 9 _ rfl)
      have c10 := keep (hcc 10 _ rfl)
      have c11 := keep (hcc 11 _ rfl)
      rw [Nat.add_zero] at c0
      clear hcc
      replace ss0 := keepOn ss0 HB4.out
      replace ss1 := keepOn ss1 HB4.out
      replace ss2 := keepOn ss2 HB4.out
      replace ss3 := keepOn ss3 HB4.out
      replace ss4 := keepOn ss4 HB4.out
      replace ee0 := keepOn ee0 HB4.out
      replace ee1 := keepOn ee1 HB4.out
      replace ee2 := keepOn ee2 HB4.out
      replace ee3 := keepOn ee3 HB4.out
      replace ee4 := keepOn ee4 HB4.out
      replace ee5 := keepOn ee5 HB4.out
      replace ee6 := keepOn ee6 HB4.out
      replace ee7 := keepOn ee7 HB4.out
      replace ee8 := keepOn ee8 HB4.out
      replace ee9 := keepOn ee9 HB4.out
      replace ee10 := keepOn ee10 HB4.out
      replace ee11 := keepOn ee11 HB4.out
      replace tt0 := keepOn tt0 HB4.out
      replace tt1 := keepOn tt1 HB4.out
      replace tt2 := keepOn tt2 HB4.out
      replace tt3 := keepOn tt3 HB4.out
      replace tt4 := keepOn tt4 HB4.out
      clear hbel
      have hbel : Below w4.heap.size w4 w4 := Below.refl _ _
      have hw : Below w4.heap.size w4 w4 := Below.refl _ _
      have hp0 : (0 : Int) ≤ (p : Int) := by omega
      have hpn : (p : Int) < (NA : Int) := by omega
      have hpd : decide ((NA : Int) ≤ (p : Int)) = false := decide_eq_false (by omega)
      have hpd2 : ¬ (NA : Int) ≤ (p : Int) := by omega
      have heq := HEQ.out
      have hn2 : ((NA : Int) == (n : Int)) = true := by have := HN1.out; rw [beq_iff_eq]; omega
      have kk := fun d os => belStep hbel (below_regrown _ d os)
      refine wp_region_quiet_below (by kernel_rfl) (by kernel_rfl) ?_
      repeat ((with_reducible refine wpQuiet_step (fun K hK => ?_)); go_simp; (try (rw [if_neg]; rotate_left; · decide)); first | ((with_reducible refine hK _ ?_); clear hK K) | (apply Exists.intro; refine ⟨fun _ => ?_, hK _ ?_⟩; (fail); clear hK K))
      refine wpQuiet_nil (fun w1 hw1 => ?_)
      replace hbel := belStep hbel (bel_of_class hw1)
      clear hw1 kk
      have HB5 := Lib.hid hbel
      clear heq c0 c1 c2 c3 c4 c5 c6 c7 c8 c9 c10 c11
      replace ss0 := keepOn ss0 hbel
      replace ss1 := keepOn ss1 hbel
      replace ss2 := keepOn ss2 hbel
      replace ss3 := keepOn ss3 hbel
      replace ss4 := keepOn ss4 hbel
      replace ee0 := keepOn ee0 hbel
      replace ee1 := keepOn ee1 hbel
      replace ee2 := keepOn ee2 hbel
      replace ee3 := keepOn ee3 hbel
      replace ee4 := keepOn ee4 hbel
      replace ee5 := keepOn ee5 hbel
      replace ee6 := keepOn ee6 hbel
      replace ee7 := keepOn ee7 hbel
      replace ee8 := keepOn ee8 hbel
      replace ee9 := keepOn ee9 hbel
      replace ee10 := keepOn ee10 hbel
      replace ee11 := keepOn ee11 hbel
      replace tt0 := keepOn tt0 hbel
      replace tt1 := keepOn tt1 hbel
      replace tt2 := keepOn tt2 hbel
      replace tt3 := keepOn tt3 hbel
      replace tt4 := keepOn tt4 hbel
      have HA5 := Lib.hid (HAX.out.later HB5.out)
      clear HAX hbel hw
      have hbel : Below w1.heap.size w1 w1 := Below.refl _ _
      go_upto_region 11 with (go_at_call 24; (with_reducible refine (COA.out _ _ q3 HA5.out).mono ?_); rintro e w6 ⟨a6, c6, rfl, hr6, hb_⟩; have HBR := Lib.hid hr6; have HB6 := Lib.hid hb_; replace hbel := hb_; clear hb_ hr6)
      have hn_ := Blk.new w6 [.int .i64 r, .slice a6 LB.length c6, .bool o.a, .bool o.b, .bool o.c] 25
      have k1 : Below w6.heap.size w6 (w6.alloc (.cells #[.int .i64 r, .slice a6 LB.length c6, .bool o.a, .bool o.b, .bool o.c] 25)) := belAlloc (Below.refl _ _) _
      have HB7 := Lib.hid (belStep HB6.out k1)
      replace HBR := Lib.hid (HBR.out.later k1)
      have HVV := Lib.hid (show Blk (w6.alloc (.cells #[.int .i64 r, .slice a6 LB.length c6, .bool o.a, .bool o.b, .bool o.c] 25)) w6.heap.size [.int .i64 r, .slice a6 LB.length c6, .bool o.a, .bool o.b, .bool o.c] 25 from hn_)
      clear hn_ k1 hbel
      generalize w6.alloc (.cells #[.int .i64 r, .slice a6 LB.length c6, .bool o.a, .bool o.b, .bool o.c] 25) = W7 at *
      replace ss0 := keepOn ss0 HB7.out
      replace ss1 := keepOn ss1 HB7.out
      replace ss2 := keepOn ss2 HB7.out
      replace ss3 := keepOn ss3 HB7.out
      replace ss4 := keepOn ss4 HB7.out
      replace ee0 := keepOn ee0 HB7.out
      replace ee1 := keepOn ee1 HB7.out
      replace ee2 := keepOn ee2 HB7.out
      replace ee3 := keepOn ee3 HB7.out
      replace ee4 := keepOn ee4 HB7.out
      replace ee5 := keepOn ee5 HB7.out
      replace ee6 := keepOn ee6 HB7.out
      replace ee7 := keepOn ee7 HB7.out
      replace ee8 := keepOn ee8 HB7.out
      replace ee9 := keepOn ee9 HB7.out
      replace ee10 := keepOn ee10 HB7.out
      replace ee11 := keepOn ee11 HB7.out
      replace tt0 := keepOn tt0 HB7.out
      replace tt1 := keepOn tt1 HB7.out
      replace tt2 := keepOn tt2 HB7.out
      replace tt3 := keepOn tt3 HB7.out
      replace tt4 := keepOn tt4 HB7.out
      have vv0 := keep (HVV.out.cell (j := 0) rfl)
      have vv1 := keep (HVV.out.cell (j := 1) rfl)
      have vv2 := keep (HVV.out.cell (j := 2) rfl)
      have vv3 := keep (HVV.out.cell (j := 3) rfl)
      have vv4 := keep (HVV.out.cell (j := 4) rfl)
      have HA7 := Lib.hid (HA5.out.later HB7.out)
      have hbel : Below W7.heap.size W7 W7 := Below.refl _ _
      go_upto_region 12 with (go_at_call 25; (with_reducible refine (CFB.out _ a6 c6 HBR.out).mono ?_); rintro e w8 ⟨rfl, hb_⟩; have HB8 := Lib.hid hb_; replace hbel := hb_; clear hb_)
      replace ss0 := keepOn ss0 HB8.out
      replace ss1 := keepOn ss1 HB8.out
      replace ss2 := keepOn ss2 HB8.out
      replace ss3 := keepOn ss3 HB8.out
      replace ss4 := keepOn ss4 HB8.out
      replace ee0 := keepOn ee0 HB8.out
      replace ee1 := keepOn ee1 HB8.out
      replace ee2 := keepOn ee2 HB8.out
      replace ee3 := keepOn ee3 HB8.out
      replace ee4 := keepOn ee4 HB8.out
      replace ee5 := keepOn ee5 HB8.out
      replace ee6 := keepOn ee6 HB8.out
      replace ee7 := keepOn ee7 HB8.out
      replace ee8 := keepOn ee8 HB8.out
      replace ee9 := keepOn ee9 HB8.out
      replace ee10 := keepOn ee10 HB8.out
      replace ee11 := keepOn ee11 HB8.out
      replace tt0 := keepOn tt0 HB8.out
      replace tt1 := keepOn tt1 HB8.out
      replace tt2 := keepOn tt2 HB8.out
      replace tt3 := keepOn tt3 HB8.out
      replace tt4 := keepOn tt4 HB8.out
      replace vv0 := keepOn vv0 HB8.out
      replace vv1 := keepOn vv1 HB8.out
      replace vv2 := keepOn vv2 HB8.out
      replace vv3 := keepOn vv3 HB8.out
      replace vv4 := keepOn vv4 HB8.out
      have HA8 := Lib.hid (HA7.out.later HB8.out)
      have HR8 := Lib.hid (HBR.out.later HB8.out)
      have HBW := Lib.hid (belStep HB3.out (belStep HB4.out (belStep HB5.out (belStep HB7.out HB8.out))))
      clear hbel HA7 HBR
      have hbel : Below w8.heap.size w8 w8 := Below.refl _ _
      refine wp_region_held_drew (S := fun u => Below w8.heap.size w8 u) (by kernel_rfl) (by exact (show Below w8.heap.size w8 _ by repeat (first | assumption | exact Below.refl _ _ | refine belDrew ?_ | refine belAlloc ?_ _ | refine belStep ?_ (by assumption)))) (fun hHeld => ?_)
      refine wpAnyH_take (i := 0) (oi := ?oi_k1) (v := ?v_k1) ?hi_k1 (by kernel_rfl) ?hf_k1 ?hr_k1 ?hQ_k1 (Or.inl ⟨?hw_k1, ?hy_k1⟩) (by assumption) ?rest_k1
      case hi_k1 => ((simp only [List.getElem?_toArray, List.getElem?_cons_succ, List.getElem?_cons_zero]); rfl)
      case hf_k1 => kernel_rfl
      case hr_k1 => kernel_rfl
      case hQ_k1 => exact fun _ _ _ h => h
      case hw_k1 => rfl
      case hy_k1 => ((intro w hSw; (try dsimp only at hSw); go_simp); all_goals (with_reducible rfl))
      try simp only [Act.put, List.setIfInBounds_toArray, List.set_cons_zero, List.set_cons_succ]
      refine wpAnyH_take (i := 1) (oi := ?oi_k2) (v := ?v_k2) ?hi_k2 (by kernel_rfl) ?hf_k2 ?hr_k2 ?hQ_k2 (Or.inl ⟨?hw_k2, ?hy_k2⟩) (by assumption) ?rest_k2
      case hi_k2 => ((simp only [List.getElem?_toArray, List.getElem?_cons_succ, List.getElem?_cons_zero]); rfl)
      case hf_k2 => kernel_rfl
      case hr_k2 => kernel_rfl
      case hQ_k2 => exact fun _ _ _ h => h
      case hw_k2 => rfl
      case hy_k2 => ((intro w hSw; (try dsimp only at hSw); go_simp); all_goals (with_reducible rfl))
      try simp only [Act.put, List.setIfInBounds_toArray, List.set_cons_zero, List.set_cons_succ]
      refine wpAnyH_take (i := 2) (oi := ?oi_k3) (v := ?v_k3) ?hi_k3 (by kernel_rfl) ?hf_k3 ?hr_k3 ?hQ_k3 (Or.inl ⟨?hw_k3, ?hy_k3⟩) (by assumption) ?rest_k3
      case hi_k3 => ((simp only [List.getElem?_toArray, List.getElem?_cons_succ, List.getElem?_cons_zero]); rfl)
      case hf_k3 => kernel_rfl
      case hr_k3 => kernel_rfl
      case hQ_k3 => exact fun _ _ _ h => h
      case hw_k3 => rfl
      case hy_k3 => ((intro w hSw; (try dsimp only at hSw); go_simp); all_goals (with_reducible rfl))
      try simp only [Act.put, List.setIfInBounds_toArray, List.set_cons_zero, List.set_cons_succ]
      refine wpAnyH_take (i := 3) (oi := ?oi_k4) (v := ?v_k4) ?hi_k4 (by kernel_rfl) ?hf_k4 ?hr_k4 ?hQ_k4 (Or.inl ⟨?hw_k4, ?hy_k4⟩) (by assumption) ?rest_k4
      case hi_k4 => ((simp only [List.getElem?_toArray, List.getElem?_cons_succ, List.getElem?_cons_zero]); rfl)
      case hf_k4 => kernel_rfl
      case hr_k4 => kernel_rfl
      case hQ_k4 => exact fun _ _ _ h => h
      case hw_k4 => rfl
      case hy_k4 => ((intro w hSw; (try dsimp only at hSw); go_simp); all_goals (with_reducible rfl))
      try simp only [Act.put, List.setIfInBounds_toArray, List.set_cons_zero, List.set_cons_succ]
      refine wpAnyH_take (i := 4) (oi := ?oi_k5) (v := ?v_k5) ?hi_k5 (by kernel_rfl) ?hf_k5 ?hr_k5 ?hQ_k5 (Or.inl ⟨?hw_k5, ?hy_k5⟩) (by assumption) ?rest_k5
      case hi_k5 => ((simp only [List.getElem?_toArray, List.getElem?_cons_succ, List.getElem?_cons_zero]); rfl)
      case hf_k5 => kernel_rfl
      case hr_k5 => kernel_rfl
      case hQ_k5 => exact fun _ _ _ h => h
      case hw_k5 => rfl
      case hy_k5 => ((intro w hSw; (try dsimp only at hSw); go_simp); all_goals (with_reducible rfl))
      try simp only [Act.put, List.setIfInBounds_toArray, List.set_cons_zero, List.set_cons_succ]
      refine wpAnyH_take (i := 6) (oi := ?oi_k6) (v := ?v_k6) ?hi_k6 (by kernel_rfl) ?hf_k6 ?hr_k6 ?hQ_k6 (Or.inl ⟨?hw_k6, ?hy_k6⟩) (by assumption) ?rest_k6
      case hi_k6 => ((simp only [List.getElem?_toArray, List.getElem?_cons_succ, List.getElem?_cons_zero]); rfl)
      case hf_k6 => kernel_rfl
      case hr_k6 => kernel_rfl
      case hQ_k6 => exact fun _ _ _ h => h
      case hw_k6 => rfl
      case hy_k6 => ((intro w hSw; (try dsimp only at hSw); go_simp); all_goals (with_reducible rfl))
      try simp only [Act.put, List.setIfInBounds_toArray, List.set_cons_zero, List.set_cons_succ]
      refine wpAnyH_ready (rs := [5]) (by kernel_rfl) (by simp) ?_
      refine AllReadyH.cons (o := ?o1_k7) ?hi_k7 (fun K hK => ?rest_k7) AllReadyH.nil
      case hi_k7 => ((simp only [List.getElem?_toArray, List.getElem?_cons_succ, List.getElem?_cons_zero]); rfl)
      go_simp
      (go_at_call 23; (with_reducible refine (CWA.out _ _ q3 (HA8.out.later hHeld)).mono ?_); rintro e wq5 ⟨a9, c9, rfl, hr9, hbq⟩)
      have hu5 : Below w8.heap.size w8 wq5 := belStep hHeld hbq
      clear hbq
      try go_simp
      refine hK.out _ _ (by exact hu5) (fun hHeld => ?_)
      clear hK K
      try simp only [Act.put, List.setIfInBounds_toArray, List.set_cons_zero, List.set_cons_succ]
      refine wpAnyH_ready (rs := [7]) (by kernel_rfl) (by simp) ?_
      refine AllReadyH.cons (o := ?o1_k8) ?hi_k8 (fun K hK => ?rest_k8) AllReadyH.nil
      case hi_k8 => ((simp only [List.getElem?_toArray, List.getElem?_cons_succ, List.getElem?_cons_zero]); rfl)
      go_simp
      (go_at_call 20; (with_reducible refine (CSM.out _ LA a9 _ c9 q3 NA NA HNA.out HNA.out hr9 (HA8.out.later hHeld)).mono ?_); rintro e wq7 ⟨rfl, hbq⟩)
      have hu7 : Below w8.heap.size w8 wq7 := belStep hHeld hbq
      clear hbq
      try go_simp
      refine hK.out _ _ (by exact hu7) (fun hHeld => ?_)
      clear hK K
      try simp only [Act.put, List.setIfInBounds_toArray, List.set_cons_zero, List.set_cons_succ]
      refine wpAnyH_take (i := 8) (oi := ?oi_k9) (v := ?v_k9) ?hi_k9 (by kernel_rfl) ?hf_k9 ?hr_k9 ?hQ_k9 (Or.inl ⟨?hw_k9, ?hy_k9⟩) (by assumption) ?rest_k9
      case hi_k9 => ((simp only [List.getElem?_toArray, List.getElem?_cons_succ, List.getElem?_cons_zero]); rfl)
      case hf_k9 => kernel_rfl
      case hr_k9 => kernel_rfl
      case hQ_k9 => exact fun _ _ _ h => h
      case hw_k9 => rfl
      case hy_k9 => ((intro w hSw; (try dsimp only at hSw); go_simp); all_goals (with_reducible rfl))
      try simp only [Act.put, List.setIfInBounds_toArray, List.set_cons_zero, List.set_cons_succ]
      refine wpAnyH_take (i := 9) (oi := ?oi_k10) (v := ?v_k10) ?hi_k10 (by kernel_rfl) ?hf_k10 ?hr_k10 ?hQ_k10 (Or.inl ⟨?hw_k10, ?hy_k10⟩) (by assumption) ?rest_k10
      case hi_k10 => ((simp only [List.getElem?_toArray, List.getElem?_cons_succ, List.getElem?_cons_zero]); rfl)
      case hf_k10 => kernel_rfl
      case hr_k10 => kernel_rfl
      case hQ_k10 => exact fun _ _ _ h => h
      case hw_k10 => rfl
      case hy_k10 => ((intro w hSw; (try dsimp only at hSw); go_simp); all_goals (with_reducible rfl))
      try simp only [Act.put, List.setIfInBounds_toArray, List.set_cons_zero, List.set_cons_succ]
      refine wpAnyH_take (i := 10) (oi := ?oi_k11) (v := ?v_k11) ?hi_k11 (by kernel_rfl) ?hf_k11 ?hr_k11 ?hQ_k11 (Or.inl ⟨?hw_k11, ?hy_k11⟩) (by assumption) ?rest_k11
      case hi_k11 => ((simp only [List.getElem?_toArray, List.getElem?_cons_succ, List.getElem?_cons_zero]); rfl)
      case hf_k11 => kernel_rfl
      case hr_k11 => kernel_rfl
      case hQ_k11 => exact fun _ _ _ h => h
      case hw_k11 => rfl
      case hy_k11 => ((intro w hSw; (try dsimp only at hSw); go_simp); all_goals (with_reducible rfl))
      try simp only [Act.put, List.setIfInBounds_toArray, List.set_cons_zero, List.set_cons_succ]
      refine wpAnyH_take (i := 11) (oi := ?oi_k12) (v := ?v_k12) ?hi_k12 (by kernel_rfl) ?hf_k12 ?hr_k12 ?hQ_k12 (Or.inl ⟨?hw_k12, ?hy_k12⟩) (by assumption) ?rest_k12
      case hi_k12 => ((simp only [List.getElem?_toArray, List.getElem?_cons_succ, List.getElem?_cons_zero]); rfl)
      case hf_k12 => kernel_rfl
      case hr_k12 => kernel_rfl
      case hQ_k12 => exact fun _ _ _ h => h
      case hw_k12 => rfl
      case hy_k12 => ((intro w hSw; (try dsimp only at hSw); go_simp); all_goals (with_reducible rfl))
      try simp only [Act.put, List.setIfInBounds_toArray, List.set_cons_zero, List.set_cons_succ]
      refine wpAnyH_take (i := 12) (oi := ?oi_k13) (v := ?v_k13) ?hi_k13 (by kernel_rfl) ?hf_k13 ?hr_k13 ?hQ_k13 (Or.inl ⟨?hw_k13, ?hy_k13⟩) (by assumption) ?rest_k13
      case hi_k13 => ((simp only [List.getElem?_toArray, List.getElem?_cons_succ, List.getElem?_cons_zero]); rfl)
      case hf_k13 => kernel_rfl
      case hr_k13 => kernel_rfl
      case hQ_k13 => exact fun _ _ _ h => h
      case hw_k13 => rfl
      case hy_k13 => ((intro w hSw; (try dsimp only at hSw); go_simp); all_goals (with_reducible rfl))
      try simp only [Act.put, List.setIfInBounds_toArray, List.set_cons_zero, List.set_cons_succ]
      refine wpAnyH_take (i := 13) (oi := ?oi_k14) (v := ?v_k14) ?hi_k14 (by kernel_rfl) ?hf_k14 ?hr_k14 ?hQ_k14 (Or.inl ⟨?hw_k14, ?hy_k14⟩) (by assumption) ?rest_k14
      case hi_k14 => ((simp only [List.getElem?_toArray, List.getElem?_cons_succ, List.getElem?_cons_zero]); rfl)
      case hf_k14 => kernel_rfl
      case hr_k14 => kernel_rfl
      case hQ_k14 => exact fun _ _ _ h => h
      case hw_k14 => rfl
      case hy_k14 => ((intro w hSw; (try dsimp only at hSw); go_simp); all_goals (with_reducible rfl))
      try simp only [Act.put, List.setIfInBounds_toArray, List.set_cons_zero, List.set_cons_succ]
      refine wpAnyH_take (i := 14) (oi := ?oi_k15) (v := ?v_k15) ?hi_k15 (by kernel_rfl) ?hf_k15 ?hr_k15 ?hQ_k15 (Or.inl ⟨?hw_k15, ?hy_k15⟩) (by assumption) ?rest_k15
      case hi_k15 => ((simp only [List.getElem?_toArray, List.getElem?_cons_succ, List.getElem?_cons_zero]); rfl)
      case hf_k15 => kernel_rfl
      case hr_k15 => kernel_rfl
      case hQ_k15 => exact fun _ _ _ h => h
      case hw_k15 => rfl
      case hy_k15 => ((intro w hSw; (try dsimp only at hSw); go_simp); all_goals (with_reducible rfl))
      try simp only [Act.put, List.setIfInBounds_toArray, List.set_cons_zero, List.set_cons_succ]
      refine wpAnyH_ready (rs := [15]) (by kernel_rfl) (by simp) ?_
      refine AllReadyH.cons (o := ?o1_k16) ?hi_k16 (fun K hK => ?rest_k16) AllReadyH.nil
      case hi_k16 => ((simp only [List.getElem?_toArray, List.getElem?_cons_succ, List.getElem?_cons_zero]); rfl)
      go_simp
      (go_at_call 24; (with_reducible refine (COI.out _ (belStep HBW.out hHeld)).mono ?_); rintro e wq15 ⟨a10, c10, rfl, hr10, hbq⟩)
      have hu15 : Below w8.heap.size w8 wq15 := belStep hHeld hbq
      clear hbq
      try go_simp
      refine hK.out _ _ (by exact hu15) (fun hHeld => ?_)
      clear hK K
      try simp only [Act.put, List.setIfInBounds_toArray, List.set_cons_zero, List.set_cons_succ]
      refine wpAnyH_ready (rs := [16]) (by kernel_rfl) (by simp) ?_
      refine AllReadyH.cons (o := ?o1_k17) ?hi_k17 (fun K hK => ?rest_k17) AllReadyH.nil
      case hi_k17 => ((simp only [List.getElem?_toArray, List.getElem?_cons_succ, List.getElem?_cons_zero]); rfl)
      go_simp
      (go_at_call 20; (with_reducible refine (CSM.out _ LB a6 a10 c6 c10 LB.length LB.length rfl rfl (HR8.out.later hHeld) hr10).mono ?_); rintro e wq16 ⟨rfl, hbq⟩)
      have hu16 : Below w8.heap.size w8 wq16 := belStep hHeld hbq
      clear hbq
      try go_simp
      refine hK.out _ _ (by exact hu16) (fun hHeld => ?_)
      clear hK K
      try simp only [Act.put, List.setIfInBounds_toArray, List.set_cons_zero, List.set_cons_succ]
      refine wpAnyH_take (i := 17) (oi := ?oi_k18) (v := ?v_k18) ?hi_k18 (by kernel_rfl) ?hf_k18 ?hr_k18 ?hQ_k18 (Or.inl ⟨?hw_k18, ?hy_k18⟩) (by assumption) ?rest_k18
      case hi_k18 => ((simp only [List.getElem?_toArray, List.getElem?_cons_succ, List.getElem?_cons_zero]); rfl)
      case hf_k18 => kernel_rfl
      case hr_k18 => kernel_rfl
      case hQ_k18 => exact fun _ _ _ h => h
      case hw_k18 => rfl
      case hy_k18 => ((intro w hSw; (try dsimp only at hSw); go_simp); all_goals (with_reducible rfl))
      try simp only [Act.put, List.setIfInBounds_toArray, List.set_cons_zero, List.set_cons_succ]
      refine wpAnyH_take (i := 18) (oi := ?oi_k19) (v := ?v_k19) ?hi_k19 (by kernel_rfl) ?hf_k19 ?hr_k19 ?hQ_k19 (Or.inl ⟨?hw_k19, ?hy_k19⟩) (by assumption) ?rest_k19
      case hi_k19 => ((simp only [List.getElem?_toArray, List.getElem?_cons_succ, List.getElem?_cons_zero]); rfl)
      case hf_k19 => kernel_rfl
      case hr_k19 => kernel_rfl
      case hQ_k19 => exact fun _ _ _ h => h
      case hw_k19 => rfl
      case hy_k19 => ((intro w hSw; (try dsimp only at hSw); go_simp); all_goals (with_reducible rfl))
      try simp only [Act.put, List.setIfInBounds_toArray, List.set_cons_zero, List.set_cons_succ]
      refine wpAnyH_take (i := 19) (oi := ?oi_k20) (v := ?v_k20) ?hi_k20 (by kernel_rfl) ?hf_k20 ?hr_k20 ?hQ_k20 (Or.inl ⟨?hw_k20, ?hy_k20⟩) (by assumption) ?rest_k20
      case hi_k20 => ((simp only [List.getElem?_toArray, List.getElem?_cons_succ, List.getElem?_cons_zero]); rfl)
      case hf_k20 => kernel_rfl
      case hr_k20 => kernel_rfl
      case hQ_k20 => exact fun _ _ _ h => h
      case hw_k20 => rfl
      case hy_k20 => ((intro w hSw; (try dsimp only at hSw); go_simp); all_goals (with_reducible rfl))
      try simp only [Act.put, List.setIfInBounds_toArray, List.set_cons_zero, List.set_cons_succ]
      refine wpAnyH_take (i := 20) (oi := ?oi_k21) (v := ?v_k21) ?hi_k21 (by kernel_rfl) ?hf_k21 ?hr_k21 ?hQ_k21 (Or.inl ⟨?hw_k21, ?hy_k21⟩) (by assumption) ?rest_k21
      case hi_k21 => ((simp only [List.getElem?_toArray, List.getElem?_cons_succ, List.getElem?_cons_zero]); rfl)
      case hf_k21 => kernel_rfl
      case hr_k21 => kernel_rfl
      case hQ_k21 => exact fun _ _ _ h => h
      case hw_k21 => rfl
      case hy_k21 => ((intro w hSw; (try dsimp only at hSw); go_simp); all_goals (with_reducible rfl))
      try simp only [Act.put, List.setIfInBounds_toArray, List.set_cons_zero, List.set_cons_succ]
      refine wpAnyH_take (i := 21) (oi := ?oi_k22) (v := undef) ?hi_k22 (by kernel_rfl) ?hf_k22 ?hr_k22 ?hQ_k22 (Or.inr ⟨?hw_k22, rfl⟩) (by assumption) ?rest_k22
      case hi_k22 => ((simp only [List.getElem?_toArray, List.getElem?_cons_succ, List.getElem?_cons_zero]); rfl)
      case hf_k22 => kernel_rfl
      case hr_k22 => kernel_rfl
      case hQ_k22 => exact fun _ _ _ h => h
      case hw_k22 => rfl
      try simp only [Act.put, List.setIfInBounds_toArray, List.set_cons_zero, List.set_cons_succ]
      refine wpAnyH_take (i := 22) (oi := ?oi_k23) (v := undef) ?hi_k23 (by kernel_rfl) ?hf_k23 ?hr_k23 ?hQ_k23 (Or.inr ⟨?hw_k23, rfl⟩) (by assumption) ?rest_k23
      case hi_k23 => ((simp only [List.getElem?_toArray, List.getElem?_cons_succ, List.getElem?_cons_zero]); rfl)
      case hf_k23 => kernel_rfl
      case hr_k23 => kernel_rfl
      case hQ_k23 => exact fun _ _ _ h => h
      case hw_k23 => rfl
      try simp only [Act.put, List.setIfInBounds_toArray, List.set_cons_zero, List.set_cons_succ]
      refine wpAnyH_take (i := 23) (oi := ?oi_k24) (v := undef) ?hi_k24 (by kernel_rfl) ?hf_k24 ?hr_k24 ?hQ_k24 (Or.inr ⟨?hw_k24, rfl⟩) (by assumption) ?rest_k24
      case hi_k24 => ((simp only [List.getElem?_toArray, List.getElem?_cons_succ, List.getElem?_cons_zero]); rfl)
      case hf_k24 => kernel_rfl
      case hr_k24 => kernel_rfl
      case hQ_k24 => exact fun _ _ _ h => h
      case hw_k24 => rfl
      try simp only [Act.put, List.setIfInBounds_toArray, List.set_cons_zero, List.set_cons_succ]
      refine wpAnyH_take (i := 24) (oi := ?oi_k25) (v := ?v_k25) ?hi_k25 (by kernel_rfl) ?hf_k25 ?hr_k25 ?hQ_k25 (Or.inl ⟨?hw_k25, ?hy_k25⟩) (by assumption) ?rest_k25
      case hi_k25 => ((simp only [List.getElem?_toArray, List.getElem?_cons_succ, List.getElem?_cons_zero]); rfl)
      case hf_k25 => kernel_rfl
      case hr_k25 => kernel_rfl
      case hQ_k25 => exact fun _ _ _ h => h
      case hw_k25 => rfl
      case hy_k25 => ((intro w hSw; (try dsimp only at hSw); go_simp); all_goals (with_reducible rfl))
      try simp only [Act.put, List.setIfInBounds_toArray, List.set_cons_zero, List.set_cons_succ]
      refine wpAnyH_take (i := 25) (oi := ?oi_k26) (v := ?v_k26) ?hi_k26 (by kernel_rfl) ?hf_k26 ?hr_k26 ?hQ_k26 (Or.inl ⟨?hw_k26, ?hy_k26⟩) (by assumption) ?rest_k26
      case hi_k26 => ((simp only [List.getElem?_toArray, List.getElem?_cons_succ, List.getElem?_cons_zero]); rfl)
      case hf_k26 => kernel_rfl
      case hr_k26 => kernel_rfl
      case hQ_k26 => exact fun _ _ _ h => h
      case hw_k26 => rfl
      case hy_k26 => ((intro w hSw; (try dsimp only at hSw); go_simp); all_goals (with_reducible rfl))
      try simp only [Act.put, List.setIfInBounds_toArray, List.set_cons_zero, List.set_cons_succ]
      refine wpAnyH_take (i := 26) (oi := ?oi_k27) (v := ?v_k27) ?hi_k27 (by kernel_rfl) ?hf_k27 ?hr_k27 ?hQ_k27 (Or.inl ⟨?hw_k27, ?hy_k27⟩) (by assumption) ?rest_k27
      case hi_k27 => ((simp only [List.getElem?_toArray, List.getElem?_cons_succ, List.getElem?_cons_zero]); rfl)
      case hf_k27 => kernel_rfl
      case hr_k27 => kernel_rfl
      case hQ_k27 => exact fun _ _ _ h => h
      case hw_k27 => rfl
      case hy_k27 => ((intro w hSw; (try dsimp only at hSw); go_simp); all_goals (with_reducible rfl))
      try simp only [Act.put, List.setIfInBounds_toArray, List.set_cons_zero, List.set_cons_succ]
      refine wpAnyH_take (i := 27) (oi := ?oi_k28) (v := ?v_k28) ?hi_k28 (by kernel_rfl) ?hf_k28 ?hr_k28 ?hQ_k28 (Or.inl ⟨?hw_k28, ?hy_k28⟩) (by assumption) ?rest_k28
      case hi_k28 => ((simp only [List.getElem?_toArray, List.getElem?_cons_succ, List.getElem?_cons_zero]); rfl)
      case hf_k28 => kernel_rfl
      case hr_k28 => kernel_rfl
      case hQ_k28 => exact fun _ _ _ h => h
      case hw_k28 => rfl
      case hy_k28 => ((intro w hSw; (try dsimp only at hSw); go_simp); all_goals (with_reducible rfl))
      try simp only [Act.put, List.setIfInBounds_toArray, List.set_cons_zero, List.set_cons_succ]
      refine wpAnyH_take (i := 28) (oi := ?oi_k29) (v := ?v_k29) ?hi_k29 (by kernel_rfl) ?hf_k29 ?hr_k29 ?hQ_k29 (Or.inl ⟨?hw_k29, ?hy_k29⟩) (by assumption) ?rest_k29
      case hi_k29 => ((simp only [List.getElem?_toArray, List.getElem?_cons_succ, List.getElem?_cons_zero]); rfl)
      case hf_k29 => kernel_rfl
      case hr_k29 => kernel_rfl
      case hQ_k29 => exact fun _ _ _ h => h
      case hw_k29 => rfl
      case hy_k29 => ((intro w hSw; (try dsimp only at hSw); go_simp); all_goals (with_reducible rfl))
      try simp only [Act.put, List.setIfInBounds_toArray, List.set_cons_zero, List.set_cons_succ]
      refine wpAnyH_take (i := 29) (oi := ?oi_k30) (v := ?v_k30) ?hi_k30 (by kernel_rfl) ?hf_k30 ?hr_k30 ?hQ_k30 (Or.inl ⟨?hw_k30, ?hy_k30⟩) (by assumption) ?rest_k30
      case hi_k30 => ((simp only [List.getElem?_toArray, List.getElem?_cons_succ, List.getElem?_cons_zero]); rfl)
      case hf_k30 => kernel_rfl
      case hr_k30 => kernel_rfl
      case hQ_k30 => exact fun _ _ _ h => h
      case hw_k30 => rfl
      case hy_k30 => ((intro w hSw; (try dsimp only at hSw); go_simp); all_goals (with_reducible rfl))
      try simp only [Act.put, List.setIfInBounds_toArray, List.set_cons_zero, List.set_cons_succ]
      refine wpAnyH_take (i := 30) (oi := ?oi_k31) (v := ?v_k31) ?hi_k31 (by kernel_rfl) ?hf_k31 ?hr_k31 ?hQ_k31 (Or.inl ⟨?hw_k31, ?hy_k31⟩) (by assumption) ?rest_k31
      case hi_k31 => ((simp only [List.getElem?_toArray, List.getElem?_cons_succ, List.getElem?_cons_zero]); rfl)
      case hf_k31 => kernel_rfl
      case hr_k31 => kernel_rfl
      case hQ_k31 => exact fun _ _ _ h => h
      case hw_k31 => rfl
      case hy_k31 => ((intro w hSw; (try dsimp only at hSw); go_simp); all_goals (with_reducible rfl))
      try simp only [Act.put, List.setIfInBounds_toArray, List.set_cons_zero, List.set_cons_succ]
      refine wpAnyH_take (i := 31) (oi := ?oi_k32) (v := ?v_k32) ?hi_k32 (by kernel_rfl) ?hf_k32 ?hr_k32 ?hQ_k32 (Or.inl ⟨?hw_k32, ?hy_k32⟩) (by assumption) ?rest_k32
      case hi_k32 => ((simp only [List.getElem?_toArray, List.getElem?_cons_succ, List.getElem?_cons_zero]); rfl)
      case hf_k32 => kernel_rfl
      case hr_k32 => kernel_rfl
      case hQ_k32 => exact fun _ _ _ h => h
      case hw_k32 => rfl
      case hy_k32 => ((intro w hSw; (try dsimp only at hSw); go_simp); all_goals (with_reducible rfl))
      try simp only [Act.put, List.setIfInBounds_toArray, List.set_cons_zero, List.set_cons_succ]
      refine wpAnyH_take (i := 32) (oi := ?oi_k33) (v := ?v_k33) ?hi_k33 (by kernel_rfl) ?hf_k33 ?hr_k33 ?hQ_k33 (Or.inl ⟨?hw_k33, ?hy_k33⟩) (by assumption) ?rest_k33
      case hi_k33 => ((simp only [List.getElem?_toArray, List.getElem?_cons_succ, List.getElem?_cons_zero]); rfl)
      case hf_k33 => kernel_rfl
      case hr_k33 => kernel_rfl
      case hQ_k33 => exact fun _ _ _ h => h
      case hw_k33 => rfl
      case hy_k33 => ((intro w hSw; (try dsimp only at hSw); go_simp); all_goals (with_reducible rfl))
      try simp only [Act.put, List.setIfInBounds_toArray, List.set_cons_zero, List.set_cons_succ]
      refine wpAnyH_take (i := 33) (oi := ?oi_k34) (v := ?v_k34) ?hi_k34 (by kernel_rfl) ?hf_k34 ?hr_k34 ?hQ_k34 (Or.inl ⟨?hw_k34, ?hy_k34⟩) (by assumption) ?rest_k34
      case hi_k34 => ((simp only [List.getElem?_toArray, List.getElem?_cons_succ, List.getElem?_cons_zero]); rfl)
      case hf_k34 => kernel_rfl
      case hr_k34 => kernel_rfl
      case hQ_k34 => exact fun _ _ _ h => h
      case hw_k34 => rfl
      case hy_k34 => ((intro w hSw; (try dsimp only at hSw); go_simp); all_goals (with_reducible rfl))
      try simp only [Act.put, List.setIfInBounds_toArray, List.set_cons_zero, List.set_cons_succ]
      refine wpAnyH_take (i := 34) (oi := ?oi_k35) (v := ?v_k35) ?hi_k35 (by kernel_rfl) ?hf_k35 ?hr_k35 ?hQ_k35 (Or.inl ⟨?hw_k35, ?hy_k35⟩) (by assumption) ?rest_k35
      case hi_k35 => ((simp only [List.getElem?_toArray, List.getElem?_cons_succ, List.getElem?_cons_zero]); rfl)
      case hf_k35 => kernel_rfl
      case hr_k35 => kernel_rfl
      case hQ_k35 => exact fun _ _ _ h => h
      case hw_k35 => rfl
      case hy_k35 => ((intro w hSw; (try dsimp only at hSw); go_simp); all_goals (with_reducible rfl))
      try simp only [Act.put, List.setIfInBounds_toArray, List.set_cons_zero, List.set_cons_succ]
      refine wpAnyH_take (i := 35) (oi := ?oi_k36) (v := ?v_k36) ?hi_k36 (by kernel_rfl) ?hf_k36 ?hr_k36 ?hQ_k36 (Or.inl ⟨?hw_k36, ?hy_k36⟩) (by assumption) ?rest_k36
      case hi_k36 => ((simp only [List.getElem?_toArray, List.getElem?_cons_succ, List.getElem?_cons_zero]); rfl)
      case hf_k36 => kernel_rfl
      case hr_k36 => kernel_rfl
      case hQ_k36 => exact fun _ _ _ h => h
      case hw_k36 => rfl
      case hy_k36 => ((intro w hSw; (try dsimp only at hSw); go_simp); all_goals (with_reducible rfl))
      try simp only [Act.put, List.setIfInBounds_toArray, List.set_cons_zero, List.set_cons_succ]
      refine wpAnyH_take (i := 36) (oi := ?oi_k37) (v := ?v_k37) ?hi_k37 (by kernel_rfl) ?hf_k37 ?hr_k37 ?hQ_k37 (Or.inl ⟨?hw_k37, ?hy_k37⟩) (by assumption) ?rest_k37
      case hi_k37 => ((simp only [List.getElem?_toArray, List.getElem?_cons_succ, List.getElem?_cons_zero]); rfl)
      case hf_k37 => kernel_rfl
      case hr_k37 => kernel_rfl
      case hQ_k37 => exact fun _ _ _ h => h
      case hw_k37 => rfl
      case hy_k37 => ((intro w hSw; (try dsimp only at hSw); go_simp); all_goals (with_reducible rfl))
      try simp only [Act.put, List.setIfInBounds_toArray, List.set_cons_zero, List.set_cons_succ]
      refine wpAnyH_take (i := 37) (oi := ?oi_k38) (v := ?v_k38) ?hi_k38 (by kernel_rfl) ?hf_k38 ?hr_k38 ?hQ_k38 (Or.inl ⟨?hw_k38, ?hy_k38⟩) (by assumption) ?rest_k38
      case hi_k38 => ((simp only [List.getElem?_toArray, List.getElem?_cons_succ, List.getElem?_cons_zero]); rfl)
      case hf_k38 => kernel_rfl
      case hr_k38 => kernel_rfl
      case hQ_k38 => exact fun _ _ _ h => h
      case hw_k38 => rfl
      case hy_k38 => ((intro w hSw; (try dsimp only at hSw); go_simp); all_goals (with_reducible rfl))
      try simp only [Act.put, List.setIfInBounds_toArray, List.set_cons_zero, List.set_cons_succ]
      have heo := HEO.out
      refine wpAnyH_take (i := 38) (oi := ?oi_k39) (v := ?v_k39) ?hi_k39 (by kernel_rfl) ?hf_k39 ?hr_k39 ?hQ_k39 (Or.inl ⟨?hw_k39, ?hy_k39⟩) (by assumption) ?rest_k39
      case hi_k39 => ((simp only [List.getElem?_toArray, List.getElem?_cons_succ, List.getElem?_cons_zero]); rfl)
      case hf_k39 => kernel_rfl
      case hr_k39 => kernel_rfl
      case hQ_k39 => exact fun _ _ _ h => h
      case hw_k39 => rfl
      case hy_k39 => ((intro w hSw; (try dsimp only at hSw); go_simp); all_goals (with_reducible rfl))
      try simp only [Act.put, List.setIfInBounds_toArray, List.set_cons_zero, List.set_cons_succ]
      refine wpAnyH_take (i := 39) (oi := ?oi_k40) (v := ?v_k40) ?hi_k40 (by kernel_rfl) ?hf_k40 ?hr_k40 ?hQ_k40 (Or.inl ⟨?hw_k40, ?hy_k40⟩) (by assumption) ?rest_k40
      case hi_k40 => ((simp only [List.getElem?_toArray, List.getElem?_cons_succ, List.getElem?_cons_zero]); rfl)
      case hf_k40 => kernel_rfl
      case hr_k40 => kernel_rfl
      case hQ_k40 => exact fun _ _ _ h => h
      case hw_k40 => rfl
      case hy_k40 => ((intro w hSw; (try dsimp only at hSw); go_simp); all_goals (with_reducible rfl))
      try simp only [Act.put, List.setIfInBounds_toArray, List.set_cons_zero, List.set_cons_succ]
      refine wpAnyH_take (i := 40) (oi := ?oi_k41) (v := ?v_k41) ?hi_k41 (by kernel_rfl) ?hf_k41 ?hr_k41 ?hQ_k41 (Or.inl ⟨?hw_k41, ?hy_k41⟩) (by assumption) ?rest_k41
      case hi_k41 => ((simp only [List.getElem?_toArray, List.getElem?_cons_succ, List.getElem?_cons_zero]); rfl)
      case hf_k41 => kernel_rfl
      case hr_k41 => kernel_rfl
      case hQ_k41 => exact fun _ _ _ h => h
      case hw_k41 => rfl
      case hy_k41 => ((intro w hSw; (try dsimp only at hSw); go_simp); all_goals (with_reducible rfl))
      try simp only [Act.put, List.setIfInBounds_toArray, List.set_cons_zero, List.set_cons_succ]
      refine wpAnyH_done (by kernel_rfl) ?_ _
      go_wp2
      go_ret
      exact ⟨by simp, belStep HW1.out (belStep HBW.out hHeld)⟩
    · have CF := Lib.hid (fun u (hu : Below W1.heap.size W1 u) => show Calls Try.prog 25 #[.agg #[.int .i64 r, .slice a n c, .bool o.a, .bool o.b, .bool o.c], .string x.pod.id] u fun e w' => e = .returned (.tuple #[.int .i64 fi, .bool false]) ∧ Below u.heap.size u w' from by have h := CFI.out u hu; rw [hw1] at h; exact h)
      clear CFI hw1
      have HN1 := Lib.hid hn1
      clear hn1
      have HLL9 := Lib.hid hLL
      clear hLL
      by_cases h64 : 64 ≤ n
      · have hq : (64 : Int) ≤ (n : Int) := by omega
        have hq2 : decide ((64 : Int) ≤ (n : Int)) = true := decide_eq_true hq
        go_wp2_with (go_at_call 25; (with_reducible refine (CF.out _ HB.out).mono ?_); rintro e w2 ⟨rfl, hb_⟩; replace HB := Lib.hid (belStep HB.out hb_); replace hbel := HB.out; clear hb_)
        go_ret
        exact ⟨rfl, belStep HW1.out HB.out⟩
      · have hq : ¬ (64 : Int) ≤ (n : Int) := by omega
        have hq2 : decide ((64 : Int) ≤ (n : Int)) = false := decide_eq_false hq
        go_upto_region 4 with (go_at_call 25; (with_reducible refine (CF.out _ HB.out).mono ?_); rintro e w2 ⟨rfl, hb_⟩; replace HB := Lib.hid (belStep HB.out hb_); replace hbel := HB.out; clear hb_)
        go_upto_region 6 with fail
        go_upto_region 7 with (go_at_call 23; (with_reducible refine (CWI.out _ HB.out).mono ?_); rintro e w3 ⟨a3, q3, rfl, hr3, hb_⟩; replace HB := Lib.hid (belStep HB.out hb_); have HA := Lib.hid hr3; clear hr3; replace hbel := HB.out; clear hb_)
        clear hbel
        have k1 : Below w3.heap.size w3 (w3.alloc (.cells #[.int .i64 r, .slice a3 NA q3, .bool o.a, .bool o.b, .bool o.c] 25)) := belAlloc (Below.refl _ _) _
        have hn_ := Blk.new w3 [.int .i64 r, .slice a3 NA q3, .bool o.a, .bool o.b, .bool o.c] 25
        replace HA := Lib.hid (HA.out.later k1)
        replace HB := Lib.hid (belStep HB.out k1)
        have HTT := Lib.hid (show Blk (w3.alloc (.cells #[.int .i64 r, .slice a3 NA q3, .bool o.a, .bool o.b, .bool o.c] 25)) w3.heap.size [.int .i64 r, .slice a3 NA q3, .bool o.a, .bool o.b, .bool o.c] 25 from hn_)
        clear hn_ k1
        generalize w3.alloc (.cells #[.int .i64 r, .slice a3 NA q3, .bool o.a, .bool o.b, .bool o.c] 25) = W3 at *
        have hbel := HB.out
        have tt0 := keep (HTT.out.cell (j := 0) rfl)
        have tt1 := keep (HTT.out.cell (j := 1) rfl)
        have tt2 := keep (HTT.out.cell (j := 2) rfl)
        have tt3 := keep (HTT.out.cell (j := 3) rfl)
        have tt4 := keep (HTT.out.cell (j := 4) rfl)
        have HB3 := Lib.hid HB.out
        have hbel3 : Below W3.heap.size W3 W3 := Below.refl _ _
        replace ss0 := keepOn ss0 HB.out
        replace ss1 := keepOn ss1 HB.out
        replace ss2 := keepOn ss2 HB.out
        replace ss3 := keepOn ss3 HB.out
        replace ss4 := keepOn ss4 HB.out
        replace ee0 := keepOn ee0 HB.out
        replace ee1 := keepOn ee1 HB.out
        replace ee2 := keepOn ee2 HB.out
        replace ee3 := keepOn ee3 HB.out
        replace ee4 := keepOn ee4 HB.out
        replace ee5 := keepOn ee5 HB.out
        replace ee6 := keepOn ee6 HB.out
        replace ee7 := keepOn ee7 HB.out
        replace ee8 := keepOn ee8 HB.out
        replace ee9 := keepOn ee9 HB.out
        replace ee10 := keepOn ee10 HB.out
        replace ee11 := keepOn ee11 HB.out
        clear hbel
        have hbel : Below W3.heap.size W3 W3 := Below.refl _ _
        go_upto_region 8 with (go_at_call 25; (with_reducible refine (CFA.out _ a3 q3 HA.out).mono ?_); rintro e w4 ⟨rfl, hb_⟩; have HB4 := Lib.hid hb_; replace hbel := hb_; clear hb_)
        have HAX := Lib.hid (HA.out.later HB4.out)
        have hx9 := (HAX.out).elem EntV.cells_len (by omega) HXA.out
        obtain ⟨bc, oc, ec, _, hcc⟩ := hx9
        subst ec
        have c0 := keep (hcc 0 _ rfl)
        have c1 := keep (hcc 1 _ rfl)
        have c2 := keep (hcc 2 _ rfl)
        have c3 := keep (hcc 3 _ rfl)
        have c4 := keep (hcc 4 _ rfl)
        have c5 := keep (hcc 5 _ rfl)
        have c6 := keep (hcc 6 _ rfl)
        have c7 := keep (hcc 7 _ rfl)
        have c8 := keep (hcc 8 _ rfl)
        have c9 := keep (hcc 9 _ rfl)
        have c10 := keep (hcc 10 _ rfl)
        have c11 := keep (hcc 11 _ rfl)
        rw [Nat.add_zero] at c0
        clear hcc
        replace ss0 := keepOn ss0 HB4.out
        replace ss1 := keepOn ss1 HB4.out
        replace ss2 := keepOn ss2 HB4.out
        replace ss3 := keepOn ss3 HB4.out
        replace ss4 := keepOn ss4 HB4.out
        replace ee0 := keepOn ee0 HB4.out
        replace ee1 := keepOn ee1 HB4.out
        replace ee2 := keepOn ee2 HB4.out
        replace ee3 := keepOn ee3 HB4.out
        replace ee4 := keepOn ee4 HB4.out
        replace ee5 := keepOn ee5 HB4.out
        replace ee6 := keepOn ee6 HB4.out
        replace ee7 := keepOn ee7 HB4.out
        replace ee8 := keepOn ee8 HB4.out
        replace ee9 := keepOn ee9 HB4.out
        replace ee10 := keepOn ee10 HB4.out
        replace ee11 := keepOn ee11 HB4.out
        replace tt0 := keepOn tt0 HB4.out
        replace tt1 := keepOn tt1 HB4.out
        replace tt2 := keepOn tt2 HB4.out
        replace tt3 := keepOn tt3 HB4.out
        replace tt4 := keepOn tt4 HB4.out
        clear hbel
        have hbel : Below w4.heap.size w4 w4 := Below.refl _ _
        have hw : Below w4.heap.size w4 w4 := Below.refl _ _
        have hp0 : (0 : Int) ≤ (p : Int) := by omega
        have hpn : (p : Int) < (NA : Int) := by omega
        have hpd : decide ((NA : Int) ≤ (p : Int)) = false := decide_eq_false (by omega)
        have hpd2 : ¬ (NA : Int) ≤ (p : Int) := by omega
        have heq := HEQ.out
        have hn2 : ((NA : Int) == (n : Int)) = false := by have := HN1.out; rw [beq_eq_false_iff_ne]; omega
        have hn4 : ¬ (NA : Int) = (n : Int) := by have := HN1.out; omega
        have hn5 : IntKind.i64.wrap ((n : Int) + 1) = (NA : Int) := by have := HN1.out; rw [IntKind.wrap_i64]; omega
        have hn6 : (n : Int) + 1 = (NA : Int) := by have := HN1.out; omega
        have hn7 : IntKind.i64.wrap (NA : Int) = (NA : Int) := IntWalk.i64_in _ (by omega)
        have kk := fun d os => belStep hbel (below_regrown _ d os)
        refine wp_region_quiet_below (by kernel_rfl) (by kernel_rfl) ?_
        repeat ((with_reducible refine wpQuiet_step (fun K hK => ?_)); go_simp; (try (rw [if_neg]; rotate_left; · decide)); first | ((with_reducible refine hK _ ?_); clear hK K) | (apply Exists.intro; refine ⟨fun _ => ?_, hK _ ?_⟩; (fail); clear hK K))
        refine wpQuiet_nil (fun w1 hw1 => ?_)
        replace hbel := belStep hbel (bel_of_class hw1)
        clear hw1 kk
        have HB5 := Lib.hid hbel
        clear heq c0 c1 c2 c3 c4 c5 c6 c7 c8 c9 c10 c11
        replace ss0 := keepOn ss0 hbel
        replace ss1 := keepOn ss1 hbel
        replace ss2 := keepOn ss2 hbel
        replace ss3 := keepOn ss3 hbel
        replace ss4 := keepOn ss4 hbel
        replace ee0 := keepOn ee0 hbel
        replace ee1 := keepOn ee1 hbel
        replace ee2 := keepOn ee2 hbel
        replace ee3 := keepOn ee3 hbel
        replace ee4 := keepOn ee4 hbel
        replace ee5 := keepOn ee5 hbel
        replace ee6 := keepOn ee6 hbel
        replace ee7 := keepOn ee7 hbel
        replace ee8 := keepOn ee8 hbel
        replace ee9 := keepOn ee9 hbel
        replace ee10 := keepOn ee10 hbel
        replace ee11 := keepOn ee11 hbel
        replace tt0 := keepOn tt0 hbel
        replace tt1 := keepOn tt1 hbel
        replace tt2 := keepOn tt2 hbel
        replace tt3 := keepOn tt3 hbel
        replace tt4 := keepOn tt4 hbel
        have HA5 := Lib.hid (HAX.out.later HB5.out)
        clear HAX hbel hw
        have hbel : Below w1.heap.size w1 w1 := Below.refl _ _
        go_upto_region 11 with (go_at_call 24; (with_reducible refine (COA.out _ _ q3 HA5.out).mono ?_); rintro e w6 ⟨a6, c6, rfl, hr6, hb_⟩; have HBR := Lib.hid hr6; have HB6 := Lib.hid hb_; replace hbel := hb_; clear hb_ hr6)
        have hn_ := Blk.new w6 [.int .i64 r, .slice a6 LB.length c6, .bool o.a, .bool o.b, .bool o.c] 25
        have k1 : Below w6.heap.size w6 (w6.alloc (.cells #[.int .i64 r, .slice a6 LB.length c6, .bool o.a, .bool o.b, .bool o.c] 25)) := belAlloc (Below.refl _ _) _
        have HB7 := Lib.hid (belStep HB6.out k1)
        replace HBR := Lib.hid (HBR.out.later k1)
        have HVV := Lib.hid (show Blk (w6.alloc (.cells #[.int .i64 r, .slice a6 LB.length c6, .bool o.a, .bool o.b, .bool o.c] 25)) w6.heap.size [.int .i64 r, .slice a6 LB.length c6, .bool o.a, .bool o.b, .bool o.c] 25 from hn_)
        clear hn_ k1 hbel
        generalize w6.alloc (.cells #[.int .i64 r, .slice a6 LB.length c6, .bool o.a, .bool o.b, .bool o.c] 25) = W7 at *
        replace ss0 := keepOn ss0 HB7.out
        replace ss1 := keepOn ss1 HB7.out
        replace ss2 := keepOn ss2 HB7.out
        replace ss3 := keepOn ss3 HB7.out
        replace ss4 := keepOn ss4 HB7.out
        replace ee0 := keepOn ee0 HB7.out
        replace ee1 := keepOn ee1 HB7.out
        replace ee2 := keepOn ee2 HB7.out
        replace ee3 := keepOn ee3 HB7.out
        replace ee4 := keepOn ee4 HB7.out
        replace ee5 := keepOn ee5 HB7.out
        replace ee6 := keepOn ee6 HB7.out
        replace ee7 := keepOn ee7 HB7.out
        replace ee8 := keepOn ee8 HB7.out
        replace ee9 := keepOn ee9 HB7.out
        replace ee10 := keepOn ee10 HB7.out
        replace ee11 := keepOn ee11 HB7.out
        replace tt0 := keepOn tt0 HB7.out
        replace tt1 := keepOn tt1 HB7.out
        replace tt2 := keepOn tt2 HB7.out
        replace tt3 := keepOn tt3 HB7.out
        replace tt4 := keepOn tt4 HB7.out
        have vv0 := keep (HVV.out.cell (j := 0) rfl)
        have vv1 := keep (HVV.out.cell (j := 1) rfl)
        have vv2 := keep (HVV.out.cell (j := 2) rfl)
        have vv3 := keep (HVV.out.cell (j := 3) rfl)
        have vv4 := keep (HVV.out.cell (j := 4) rfl)
        have HA7 := Lib.hid (HA5.out.later HB7.out)
        have hbel : Below W7.heap.size W7 W7 := Below.refl _ _
        go_upto_region 12 with (go_at_call 25; (with_reducible refine (CFB.out _ a6 c6 HBR.out).mono ?_); rintro e w8 ⟨rfl, hb_⟩; have HB8 := Lib.hid hb_; replace hbel := hb_; clear hb_)
        replace ss0 := keepOn ss0 HB8.out
        replace ss1 := keepOn ss1 HB8.out
        replace ss2 := keepOn ss2 HB8.out
        replace ss3 := keepOn ss3 HB8.out
        replace ss4 := keepOn ss4 HB8.out
        replace ee0 := keepOn ee0 HB8.out
        replace ee1 := keepOn ee1 HB8.out
        replace ee2 := keepOn ee2 HB8.out
        replace ee3 := keepOn ee3 HB8.out
        replace ee4 := keepOn ee4 HB8.out
        replace ee5 := keepOn ee5 HB8.out
        replace ee6 := keepOn ee6 HB8.out
        replace ee7 := keepOn ee7 HB8.out
        replace ee8 := keepOn ee8 HB8.out
        replace ee9 := keepOn ee9 HB8.out
        replace ee10 := keepOn ee10 HB8.out
        replace ee11 := keepOn ee11 HB8.out
        replace tt0 := keepOn tt0 HB8.out
        replace tt1 := keepOn tt1 HB8.out
        replace tt2 := keepOn tt2 HB8.out
        replace tt3 := keepOn tt3 HB8.out
        replace tt4 := keepOn tt4 HB8.out
        replace vv0 := keepOn vv0 HB8.out
        replace vv1 := keepOn vv1 HB8.out
        replace vv2 := keepOn vv2 HB8.out
        replace vv3 := keepOn vv3 HB8.out
        replace vv4 := keepOn vv4 HB8.out
        have HA8 := Lib.hid (HA7.out.later HB8.out)
        have HR8 := Lib.hid (HBR.out.later HB8.out)
        have HBW := Lib.hid (belStep HB3.out (belStep HB4.out (belStep HB5.out (belStep HB7.out HB8.out))))
        clear hbel HA7 HBR
        have hbel : Below w8.heap.size w8 w8 := Below.refl _ _
        refine wp_region_held_drew (S := fun u => Below w8.heap.size w8 u) (by kernel_rfl) (by exact (show Below w8.heap.size w8 _ by repeat (first | assumption | exact Below.refl _ _ | refine belDrew ?_ | refine belAlloc ?_ _ | refine belStep ?_ (by assumption)))) (fun hHeld => ?_)
        refine wpAnyH_take (i := 0) (oi := ?oi_k42) (v := ?v_k42) ?hi_k42 (by kernel_rfl) ?hf_k42 ?hr_k42 ?hQ_k42 (Or.inl ⟨?hw_k42, ?hy_k42⟩) (by assumption) ?rest_k42
        case hi_k42 => ((simp only [List.getElem?_toArray, List.getElem?_cons_succ, List.getElem?_cons_zero]); rfl)
        case hf_k42 => kernel_rfl
        case hr_k42 => kernel_rfl
        case hQ_k42 => exact fun _ _ _ h => h
        case hw_k42 => rfl
        case hy_k42 => ((intro w hSw; (try dsimp only at hSw); go_simp); all_goals (with_reducible rfl))
        try simp only [Act.put, List.setIfInBounds_toArray, List.set_cons_zero, List.set_cons_succ]
        refine wpAnyH_take (i := 1) (oi := ?oi_k43) (v := ?v_k43) ?hi_k43 (by kernel_rfl) ?hf_k43 ?hr_k43 ?hQ_k43 (Or.inl ⟨?hw_k43, ?hy_k43⟩) (by assumption) ?rest_k43
        case hi_k43 => ((simp only [List.getElem?_toArray, List.getElem?_cons_succ, List.getElem?_cons_zero]); rfl)
        case hf_k43 => kernel_rfl
        case hr_k43 => kernel_rfl
        case hQ_k43 => exact fun _ _ _ h => h
        case hw_k43 => rfl
        case hy_k43 => ((intro w hSw; (try dsimp only at hSw); go_simp); all_goals (with_reducible rfl))
        try simp only [Act.put, List.setIfInBounds_toArray, List.set_cons_zero, List.set_cons_succ]
        refine wpAnyH_take (i := 2) (oi := ?oi_k44) (v := ?v_k44) ?hi_k44 (by kernel_rfl) ?hf_k44 ?hr_k44 ?hQ_k44 (Or.inl ⟨?hw_k44, ?hy_k44⟩) (by assumption) ?rest_k44
        case hi_k44 => ((simp only [List.getElem?_toArray, List.getElem?_cons_succ, List.getElem?_cons_zero]); rfl)
        case hf_k44 => kernel_rfl
        case hr_k44 => kernel_rfl
        case hQ_k44 => exact fun _ _ _ h => h
        case hw_k44 => rfl
        case hy_k44 => ((intro w hSw; (try dsimp only at hSw); go_simp); all_goals (with_reducible rfl))
        try simp only [Act.put, List.setIfInBounds_toArray, List.set_cons_zero, List.set_cons_succ]
        refine wpAnyH_take (i := 3) (oi := ?oi_k45) (v := ?v_k45) ?hi_k45 (by kernel_rfl) ?hf_k45 ?hr_k45 ?hQ_k45 (Or.inl ⟨?hw_k45, ?hy_k45⟩) (by assumption) ?rest_k45
        case hi_k45 => ((simp only [List.getElem?_toArray, List.getElem?_cons_succ, List.getElem?_cons_zero]); rfl)
        case hf_k45 => kernel_rfl
        case hr_k45 => kernel_rfl
        case hQ_k45 => exact fun _ _ _ h => h
        case hw_k45 => rfl
        case hy_k45 => ((intro w hSw; (try dsimp only at hSw); go_simp); all_goals (with_reducible rfl))
        try simp only [Act.put, List.setIfInBounds_toArray, List.set_cons_zero, List.set_cons_succ]
        refine wpAnyH_take (i := 4) (oi := ?oi_k46) (v := ?v_k46) ?hi_k46 (by kernel_rfl) ?hf_k46 ?hr_k46 ?hQ_k46 (Or.inl ⟨?hw_k46, ?hy_k46⟩) (by assumption) ?rest_k46
        case hi_k46 => ((simp only [List.getElem?_toArray, List.getElem?_cons_succ, List.getElem?_cons_zero]); rfl)
        case hf_k46 => kernel_rfl
        case hr_k46 => kernel_rfl
        case hQ_k46 => exact fun _ _ _ h => h
        case hw_k46 => rfl
        case hy_k46 => ((intro w hSw; (try dsimp only at hSw); go_simp); all_goals (with_reducible rfl))
        try simp only [Act.put, List.setIfInBounds_toArray, List.set_cons_zero, List.set_cons_succ]
        refine wpAnyH_take (i := 6) (oi := ?oi_k47) (v := ?v_k47) ?hi_k47 (by kernel_rfl) ?hf_k47 ?hr_k47 ?hQ_k47 (Or.inl ⟨?hw_k47, ?hy_k47⟩) (by assumption) ?rest_k47
        case hi_k47 => ((simp only [List.getElem?_toArray, List.getElem?_cons_succ, List.getElem?_cons_zero]); rfl)
        case hf_k47 => kernel_rfl
        case hr_k47 => kernel_rfl
        case hQ_k47 => exact fun _ _ _ h => h
        case hw_k47 => rfl
        case hy_k47 => ((intro w hSw; (try dsimp only at hSw); go_simp); all_goals (with_reducible rfl))
        try simp only [Act.put, List.setIfInBounds_toArray, List.set_cons_zero, List.set_cons_succ]
        refine wpAnyH_ready (rs := [5]) (by kernel_rfl) (by simp) ?_
        refine AllReadyH.cons (o := ?o1_k48) ?hi_k48 (fun K hK => ?rest_k48) AllReadyH.nil
        case hi_k48 => ((simp only [List.getElem?_toArray, List.getElem?_cons_succ, List.getElem?_cons_zero]); rfl)
        go_simp
        (go_at_call 23; (with_reducible refine (CWA.out _ _ q3 (HA8.out.later hHeld)).mono ?_); rintro e wq5 ⟨a9, c9, rfl, hr9, hbq⟩)
        have hu5 : Below w8.heap.size w8 wq5 := belStep hHeld hbq
        clear hbq
        try go_simp
        refine hK.out _ _ (by exact hu5) (fun hHeld => ?_)
        clear hK K
        try simp only [Act.put, List.setIfInBounds_toArray, List.set_cons_zero, List.set_cons_succ]
        refine wpAnyH_ready (rs := [7]) (by kernel_rfl) (by simp) ?_
        refine AllReadyH.cons (o := ?o1_k49) ?hi_k49 (fun K hK => ?rest_k49) AllReadyH.nil
        case hi_k49 => ((simp only [List.getElem?_toArray, List.getElem?_cons_succ, List.getElem?_cons_zero]); rfl)
        go_simp
        (go_at_call 20; (with_reducible refine (CSM.out _ LA a9 _ c9 q3 NA NA HNA.out HNA.out hr9 (HA8.out.later hHeld)).mono ?_); rintro e wq7 ⟨rfl, hbq⟩)
        have hu7 : Below w8.heap.size w8 wq7 := belStep hHeld hbq
        clear hbq
        try go_simp
        refine hK.out _ _ (by exact hu7) (fun hHeld => ?_)
        clear hK K
        try simp only [Act.put, List.setIfInBounds_toArray, List.set_cons_zero, List.set_cons_succ]
        refine wpAnyH_take (i := 8) (oi := ?oi_k50) (v := ?v_k50) ?hi_k50 (by kernel_rfl) ?hf_k50 ?hr_k50 ?hQ_k50 (Or.inl ⟨?hw_k50, ?hy_k50⟩) (by assumption) ?rest_k50
        case hi_k50 => ((simp only [List.getElem?_toArray, List.getElem?_cons_succ, List.getElem?_cons_zero]); rfl)
        case hf_k50 => kernel_rfl
        case hr_k50 => kernel_rfl
        case hQ_k50 => exact fun _ _ _ h => h
        case hw_k50 => rfl
        case hy_k50 => ((intro w hSw; (try dsimp only at hSw); go_simp); all_goals (with_reducible rfl))
        try simp only [Act.put, List.setIfInBounds_toArray, List.set_cons_zero, List.set_cons_succ]
        refine wpAnyH_take (i := 9) (oi := ?oi_k51) (v := ?v_k51) ?hi_k51 (by kernel_rfl) ?hf_k51 ?hr_k51 ?hQ_k51 (Or.inl ⟨?hw_k51, ?hy_k51⟩) (by assumption) ?rest_k51
        case hi_k51 => ((simp only [List.getElem?_toArray, List.getElem?_cons_succ, List.getElem?_cons_zero]); rfl)
        case hf_k51 => kernel_rfl
        case hr_k51 => kernel_rfl
        case hQ_k51 => exact fun _ _ _ h => h
        case hw_k51 => rfl
        case hy_k51 => ((intro w hSw; (try dsimp only at hSw); go_simp); all_goals (with_reducible rfl))
        try simp only [Act.put, List.setIfInBounds_toArray, List.set_cons_zero, List.set_cons_succ]
        refine wpAnyH_take (i := 10) (oi := ?oi_k52) (v := ?v_k52) ?hi_k52 (by kernel_rfl) ?hf_k52 ?hr_k52 ?hQ_k52 (Or.inl ⟨?hw_k52, ?hy_k52⟩) (by assumption) ?rest_k52
        case hi_k52 => ((simp only [List.getElem?_toArray, List.getElem?_cons_succ, List.getElem?_cons_zero]); rfl)
        case hf_k52 => kernel_rfl
        case hr_k52 => kernel_rfl
        case hQ_k52 => exact fun _ _ _ h => h
        case hw_k52 => rfl
        case hy_k52 => ((intro w hSw; (try dsimp only at hSw); go_simp); all_goals (with_reducible rfl))
        try simp only [Act.put, List.setIfInBounds_toArray, List.set_cons_zero, List.set_cons_succ]
        refine wpAnyH_take (i := 11) (oi := ?oi_k53) (v := ?v_k53) ?hi_k53 (by kernel_rfl) ?hf_k53 ?hr_k53 ?hQ_k53 (Or.inl ⟨?hw_k53, ?hy_k53⟩) (by assumption) ?rest_k53
        case hi_k53 => ((simp only [List.getElem?_toArray, List.getElem?_cons_succ, List.getElem?_cons_zero]); rfl)
        case hf_k53 => kernel_rfl
        case hr_k53 => kernel_rfl
        case hQ_k53 => exact fun _ _ _ h => h
        case hw_k53 => rfl
        case hy_k53 => ((intro w hSw; (try dsimp only at hSw); go_simp); all_goals (with_reducible rfl))
        try simp only [Act.put, List.setIfInBounds_toArray, List.set_cons_zero, List.set_cons_succ]
        refine wpAnyH_take (i := 12) (oi := ?oi_k54) (v := ?v_k54) ?hi_k54 (by kernel_rfl) ?hf_k54 ?hr_k54 ?hQ_k54 (Or.inl ⟨?hw_k54, ?hy_k54⟩) (by assumption) ?rest_k54
        case hi_k54 => ((simp only [List.getElem?_toArray, List.getElem?_cons_succ, List.getElem?_cons_zero]); rfl)
        case hf_k54 => kernel_rfl
        case hr_k54 => kernel_rfl
        case hQ_k54 => exact fun _ _ _ h => h
        case hw_k54 => rfl
        case hy_k54 => ((intro w hSw; (try dsimp only at hSw); go_simp); all_goals (with_reducible rfl))
        try simp only [Act.put, List.setIfInBounds_toArray, List.set_cons_zero, List.set_cons_succ]
        refine wpAnyH_take (i := 13) (oi := ?oi_k55) (v := ?v_k55) ?hi_k55 (by kernel_rfl) ?hf_k55 ?hr_k55 ?hQ_k55 (Or.inl ⟨?hw_k55, ?hy_k55⟩) (by assumption) ?rest_k55
        case hi_k55 => ((simp only [List.getElem?_toArray, List.getElem?_cons_succ, List.getElem?_cons_zero]); rfl)
        case hf_k55 => kernel_rfl
        case hr_k55 => kernel_rfl
        case hQ_k55 => exact fun _ _ _ h => h
        case hw_k55 => rfl
        case hy_k55 => ((intro w hSw; (try dsimp only at hSw); go_simp); all_goals (with_reducible rfl))
        try simp only [Act.put, List.setIfInBounds_toArray, List.set_cons_zero, List.set_cons_succ]
        refine wpAnyH_take (i := 14) (oi := ?oi_k56) (v := ?v_k56) ?hi_k56 (by kernel_rfl) ?hf_k56 ?hr_k56 ?hQ_k56 (Or.inl ⟨?hw_k56, ?hy_k56⟩) (by assumption) ?rest_k56
        case hi_k56 => ((simp only [List.getElem?_toArray, List.getElem?_cons_succ, List.getElem?_cons_zero]); rfl)
        case hf_k56 => kernel_rfl
        case hr_k56 => kernel_rfl
        case hQ_k56 => exact fun _ _ _ h => h
        case hw_k56 => rfl
        case hy_k56 => ((intro w hSw; (try dsimp only at hSw); go_simp); all_goals (with_reducible rfl))
        try simp only [Act.put, List.setIfInBounds_toArray, List.set_cons_zero, List.set_cons_succ]
        refine wpAnyH_ready (rs := [15]) (by kernel_rfl) (by simp) ?_
        refine AllReadyH.cons (o := ?o1_k57) ?hi_k57 (fun K hK => ?rest_k57) AllReadyH.nil
        case hi_k57 => ((simp only [List.getElem?_toArray, List.getElem?_cons_succ, List.getElem?_cons_zero]); rfl)
        go_simp
        (go_at_call 24; (with_reducible refine (COI.out _ (belStep HBW.out hHeld)).mono ?_); rintro e wq15 ⟨a10, c10, rfl, hr10, hbq⟩)
        have hu15 : Below w8.heap.size w8 wq15 := belStep hHeld hbq
        clear hbq
        try go_simp
        refine hK.out _ _ (by exact hu15) (fun hHeld => ?_)
        clear hK K
        try simp only [Act.put, List.setIfInBounds_toArray, List.set_cons_zero, List.set_cons_succ]
        refine wpAnyH_ready (rs := [16]) (by kernel_rfl) (by simp) ?_
        refine AllReadyH.cons (o := ?o1_k58) ?hi_k58 (fun K hK => ?rest_k58) AllReadyH.nil
        case hi_k58 => ((simp only [List.getElem?_toArray, List.getElem?_cons_succ, List.getElem?_cons_zero]); rfl)
        go_simp
        (go_at_call 20; (with_reducible refine (CSM.out _ LB a6 a10 c6 c10 LB.length LB.length rfl rfl (HR8.out.later hHeld) hr10).mono ?_); rintro e wq16 ⟨rfl, hbq⟩)
        have hu16 : Below w8.heap.size w8 wq16 := belStep hHeld hbq
        clear hbq
        try go_simp
        refine hK.out _ _ (by exact hu16) (fun hHeld => ?_)
        clear hK K
        try simp only [Act.put, List.setIfInBounds_toArray, List.set_cons_zero, List.set_cons_succ]
        refine wpAnyH_take (i := 17) (oi := ?oi_k59) (v := ?v_k59) ?hi_k59 (by kernel_rfl) ?hf_k59 ?hr_k59 ?hQ_k59 (Or.inl ⟨?hw_k59, ?hy_k59⟩) (by assumption) ?rest_k59
        case hi_k59 => ((simp only [List.getElem?_toArray, List.getElem?_cons_succ, List.getElem?_cons_zero]); rfl)
        case hf_k59 => kernel_rfl
        case hr_k59 => kernel_rfl
        case hQ_k59 => exact fun _ _ _ h => h
        case hw_k59 => rfl
        case hy_k59 => ((intro w hSw; (try dsimp only at hSw); go_simp); all_goals (with_reducible rfl))
        try simp only [Act.put, List.setIfInBounds_toArray, List.set_cons_zero, List.set_cons_succ]
        refine wpAnyH_take (i := 18) (oi := ?oi_k60) (v := ?v_k60) ?hi_k60 (by kernel_rfl) ?hf_k60 ?hr_k60 ?hQ_k60 (Or.inl ⟨?hw_k60, ?hy_k60⟩) (by assumption) ?rest_k60
        case hi_k60 => ((simp only [List.getElem?_toArray, List.getElem?_cons_succ, List.getElem?_cons_zero]); rfl)
        case hf_k60 => kernel_rfl
        case hr_k60 => kernel_rfl
        case hQ_k60 => exact fun _ _ _ h => h
        case hw_k60 => rfl
        case hy_k60 => ((intro w hSw; (try dsimp only at hSw); go_simp); all_goals (with_reducible rfl))
        try simp only [Act.put, List.setIfInBounds_toArray, List.set_cons_zero, List.set_cons_succ]
        refine wpAnyH_take (i := 19) (oi := ?oi_k61) (v := ?v_k61) ?hi_k61 (by kernel_rfl) ?hf_k61 ?hr_k61 ?hQ_k61 (Or.inl ⟨?hw_k61, ?hy_k61⟩) (by assumption) ?rest_k61
        case hi_k61 => ((simp only [List.getElem?_toArray, List.getElem?_cons_succ, List.getElem?_cons_zero]); rfl)
        case hf_k61 => kernel_rfl
        case hr_k61 => kernel_rfl
        case hQ_k61 => exact fun _ _ _ h => h
        case hw_k61 => rfl
        case hy_k61 => ((intro w hSw; (try dsimp only at hSw); go_simp); all_goals (with_reducible rfl))
        try simp only [Act.put, List.setIfInBounds_toArray, List.set_cons_zero, List.set_cons_succ]
        refine wpAnyH_take (i := 20) (oi := ?oi_k62) (v := ?v_k62) ?hi_k62 (by kernel_rfl) ?hf_k62 ?hr_k62 ?hQ_k62 (Or.inl ⟨?hw_k62, ?hy_k62⟩) (by assumption) ?rest_k62
        case hi_k62 => ((simp only [List.getElem?_toArray, List.getElem?_cons_succ, List.getElem?_cons_zero]); rfl)
        case hf_k62 => kernel_rfl
        case hr_k62 => kernel_rfl
        case hQ_k62 => exact fun _ _ _ h => h
        case hw_k62 => rfl
        case hy_k62 => ((intro w hSw; (try dsimp only at hSw); go_simp); all_goals (with_reducible rfl))
        try simp only [Act.put, List.setIfInBounds_toArray, List.set_cons_zero, List.set_cons_succ]
        refine wpAnyH_take (i := 21) (oi := ?oi_k63) (v := ?v_k63) ?hi_k63 (by kernel_rfl) ?hf_k63 ?hr_k63 ?hQ_k63 (Or.inl ⟨?hw_k63, ?hy_k63⟩) (by assumption) ?rest_k63
        case hi_k63 => ((simp only [List.getElem?_toArray, List.getElem?_cons_succ, List.getElem?_cons_zero]); rfl)
        case hf_k63 => kernel_rfl
        case hr_k63 => kernel_rfl
        case hQ_k63 => exact fun _ _ _ h => h
        case hw_k63 => rfl
        case hy_k63 => ((intro w hSw; (try dsimp only at hSw); go_simp); all_goals (with_reducible rfl))
        try simp only [Act.put, List.setIfInBounds_toArray, List.set_cons_zero, List.set_cons_succ]
        refine wpAnyH_take (i := 22) (oi := ?oi_k64) (v := ?v_k64) ?hi_k64 (by kernel_rfl) ?hf_k64 ?hr_k64 ?hQ_k64 (Or.inl ⟨?hw_k64, ?hy_k64⟩) (by assumption) ?rest_k64
        case hi_k64 => ((simp only [List.getElem?_toArray, List.getElem?_cons_succ, List.getElem?_cons_zero]); rfl)
        case hf_k64 => kernel_rfl
        case hr_k64 => kernel_rfl
        case hQ_k64 => exact fun _ _ _ h => h
        case hw_k64 => rfl
        case hy_k64 => ((intro w hSw; (try dsimp only at hSw); go_simp); all_goals (with_reducible rfl))
        try simp only [Act.put, List.setIfInBounds_toArray, List.set_cons_zero, List.set_cons_succ]
        refine wpAnyH_ready (rs := [23]) (by kernel_rfl) (by simp) ?_
        refine AllReadyH.cons (o := ?o1_k65) ?hi_k65 (fun K hK => ?rest_k65) AllReadyH.nil
        case hi_k65 => ((simp only [List.getElem?_toArray, List.getElem?_cons_succ, List.getElem?_cons_zero]); rfl)
        go_simp
        (go_at_call 20; (with_reducible refine (CSM.out _ LB a6 a c6 c LB.length n rfl (HLL9.out ▸ HLN.out) (HR8.out.later hHeld) (HLL9.out ▸ HR.out.later (belStep HW1.out (belStep HBW.out hHeld)))).mono ?_); rintro e wq23 ⟨rfl, hbq⟩)
        have hu23 : Below w8.heap.size w8 wq23 := belStep hHeld hbq
        clear hbq
        try go_simp
        refine hK.out _ _ (by exact hu23) (fun hHeld => ?_)
        clear hK K
        try simp only [Act.put, List.setIfInBounds_toArray, List.set_cons_zero, List.set_cons_succ]
        refine wpAnyH_take (i := 24) (oi := ?oi_k66) (v := ?v_k66) ?hi_k66 (by kernel_rfl) ?hf_k66 ?hr_k66 ?hQ_k66 (Or.inl ⟨?hw_k66, ?hy_k66⟩) (by assumption) ?rest_k66
        case hi_k66 => ((simp only [List.getElem?_toArray, List.getElem?_cons_succ, List.getElem?_cons_zero]); rfl)
        case hf_k66 => kernel_rfl
        case hr_k66 => kernel_rfl
        case hQ_k66 => exact fun _ _ _ h => h
        case hw_k66 => rfl
        case hy_k66 => ((intro w hSw; (try dsimp only at hSw); go_simp); all_goals (with_reducible rfl))
        try simp only [Act.put, List.setIfInBounds_toArray, List.set_cons_zero, List.set_cons_succ]
        refine wpAnyH_take (i := 25) (oi := ?oi_k67) (v := ?v_k67) ?hi_k67 (by kernel_rfl) ?hf_k67 ?hr_k67 ?hQ_k67 (Or.inl ⟨?hw_k67, ?hy_k67⟩) (by assumption) ?rest_k67
        case hi_k67 => ((simp only [List.getElem?_toArray, List.getElem?_cons_succ, List.getElem?_cons_zero]); rfl)
        case hf_k67 => kernel_rfl
        case hr_k67 => kernel_rfl
        case hQ_k67 => exact fun _ _ _ h => h
        case hw_k67 => rfl
        case hy_k67 => ((intro w hSw; (try dsimp only at hSw); go_simp); all_goals (with_reducible rfl))
        try simp only [Act.put, List.setIfInBounds_toArray, List.set_cons_zero, List.set_cons_succ]
        refine wpAnyH_take (i := 26) (oi := ?oi_k68) (v := ?v_k68) ?hi_k68 (by kernel_rfl) ?hf_k68 ?hr_k68 ?hQ_k68 (Or.inl ⟨?hw_k68, ?hy_k68⟩) (by assumption) ?rest_k68
        case hi_k68 => ((simp only [List.getElem?_toArray, List.getElem?_cons_succ, List.getElem?_cons_zero]); rfl)
        case hf_k68 => kernel_rfl
        case hr_k68 => kernel_rfl
        case hQ_k68 => exact fun _ _ _ h => h
        case hw_k68 => rfl
        case hy_k68 => ((intro w hSw; (try dsimp only at hSw); go_simp); all_goals (with_reducible rfl))
        try simp only [Act.put, List.setIfInBounds_toArray, List.set_cons_zero, List.set_cons_succ]
        refine wpAnyH_take (i := 27) (oi := ?oi_k69) (v := ?v_k69) ?hi_k69 (by kernel_rfl) ?hf_k69 ?hr_k69 ?hQ_k69 (Or.inl ⟨?hw_k69, ?hy_k69⟩) (by assumption) ?rest_k69
        case hi_k69 => ((simp only [List.getElem?_toArray, List.getElem?_cons_succ, List.getElem?_cons_zero]); rfl)
        case hf_k69 => kernel_rfl
        case hr_k69 => kernel_rfl
        case hQ_k69 => exact fun _ _ _ h => h
        case hw_k69 => rfl
        case hy_k69 => ((intro w hSw; (try dsimp only at hSw); go_simp); all_goals (with_reducible rfl))
        try simp only [Act.put, List.setIfInBounds_toArray, List.set_cons_zero, List.set_cons_succ]
        refine wpAnyH_take (i := 28) (oi := ?oi_k70) (v := ?v_k70) ?hi_k70 (by kernel_rfl) ?hf_k70 ?hr_k70 ?hQ_k70 (Or.inl ⟨?hw_k70, ?hy_k70⟩) (by assumption) ?rest_k70
        case hi_k70 => ((simp only [List.getElem?_toArray, List.getElem?_cons_succ, List.getElem?_cons_zero]); rfl)
        case hf_k70 => kernel_rfl
        case hr_k70 => kernel_rfl
        case hQ_k70 => exact fun _ _ _ h => h
        case hw_k70 => rfl
        case hy_k70 => ((intro w hSw; (try dsimp only at hSw); go_simp); all_goals (with_reducible rfl))
        try simp only [Act.put, List.setIfInBounds_toArray, List.set_cons_zero, List.set_cons_succ]
        refine wpAnyH_take (i := 29) (oi := ?oi_k71) (v := ?v_k71) ?hi_k71 (by kernel_rfl) ?hf_k71 ?hr_k71 ?hQ_k71 (Or.inl ⟨?hw_k71, ?hy_k71⟩) (by assumption) ?rest_k71
        case hi_k71 => ((simp only [List.getElem?_toArray, List.getElem?_cons_succ, List.getElem?_cons_zero]); rfl)
        case hf_k71 => kernel_rfl
        case hr_k71 => kernel_rfl
        case hQ_k71 => exact fun _ _ _ h => h
        case hw_k71 => rfl
        case hy_k71 => ((intro w hSw; (try dsimp only at hSw); go_simp); all_goals (with_reducible rfl))
        try simp only [Act.put, List.setIfInBounds_toArray, List.set_cons_zero, List.set_cons_succ]
        refine wpAnyH_take (i := 30) (oi := ?oi_k72) (v := ?v_k72) ?hi_k72 (by kernel_rfl) ?hf_k72 ?hr_k72 ?hQ_k72 (Or.inl ⟨?hw_k72, ?hy_k72⟩) (by assumption) ?rest_k72
        case hi_k72 => ((simp only [List.getElem?_toArray, List.getElem?_cons_succ, List.getElem?_cons_zero]); rfl)
        case hf_k72 => kernel_rfl
        case hr_k72 => kernel_rfl
        case hQ_k72 => exact fun _ _ _ h => h
        case hw_k72 => rfl
        case hy_k72 => ((intro w hSw; (try dsimp only at hSw); go_simp); all_goals (with_reducible rfl))
        try simp only [Act.put, List.setIfInBounds_toArray, List.set_cons_zero, List.set_cons_succ]
        refine wpAnyH_take (i := 31) (oi := ?oi_k73) (v := ?v_k73) ?hi_k73 (by kernel_rfl) ?hf_k73 ?hr_k73 ?hQ_k73 (Or.inl ⟨?hw_k73, ?hy_k73⟩) (by assumption) ?rest_k73
        case hi_k73 => ((simp only [List.getElem?_toArray, List.getElem?_cons_succ, List.getElem?_cons_zero]); rfl)
        case hf_k73 => kernel_rfl
        case hr_k73 => kernel_rfl
        case hQ_k73 => exact fun _ _ _ h => h
        case hw_k73 => rfl
        case hy_k73 => ((intro w hSw; (try dsimp only at hSw); go_simp); all_goals (with_reducible rfl))
        try simp only [Act.put, List.setIfInBounds_toArray, List.set_cons_zero, List.set_cons_succ]
        refine wpAnyH_take (i := 32) (oi := ?oi_k74) (v := ?v_k74) ?hi_k74 (by kernel_rfl) ?hf_k74 ?hr_k74 ?hQ_k74 (Or.inl ⟨?hw_k74, ?hy_k74⟩) (by assumption) ?rest_k74
        case hi_k74 => ((simp only [List.getElem?_toArray, List.getElem?_cons_succ, List.getElem?_cons_zero]); rfl)
        case hf_k74 => kernel_rfl
        case hr_k74 => kernel_rfl
        case hQ_k74 => exact fun _ _ _ h => h
        case hw_k74 => rfl
        case hy_k74 => ((intro w hSw; (try dsimp only at hSw); go_simp); all_goals (with_reducible rfl))
        try simp only [Act.put, List.setIfInBounds_toArray, List.set_cons_zero, List.set_cons_succ]
        refine wpAnyH_take (i := 33) (oi := ?oi_k75) (v := ?v_k75) ?hi_k75 (by kernel_rfl) ?hf_k75 ?hr_k75 ?hQ_k75 (Or.inl ⟨?hw_k75, ?hy_k75⟩) (by assumption) ?rest_k75
        case hi_k75 => ((simp only [List.getElem?_toArray, List.getElem?_cons_succ, List.getElem?_cons_zero]); rfl)
        case hf_k75 => kernel_rfl
        case hr_k75 => kernel_rfl
        case hQ_k75 => exact fun _ _ _ h => h
        case hw_k75 => rfl
        case hy_k75 => ((intro w hSw; (try dsimp only at hSw); go_simp); all_goals (with_reducible rfl))
        try simp only [Act.put, List.setIfInBounds_toArray, List.set_cons_zero, List.set_cons_succ]
        refine wpAnyH_take (i := 34) (oi := ?oi_k76) (v := ?v_k76) ?hi_k76 (by kernel_rfl) ?hf_k76 ?hr_k76 ?hQ_k76 (Or.inl ⟨?hw_k76, ?hy_k76⟩) (by assumption) ?rest_k76
        case hi_k76 => ((simp only [List.getElem?_toArray, List.getElem?_cons_succ, List.getElem?_cons_zero]); rfl)
        case hf_k76 => kernel_rfl
        case hr_k76 => kernel_rfl
        case hQ_k76 => exact fun _ _ _ h => h
        case hw_k76 => rfl
        case hy_k76 => ((intro w hSw; (try dsimp only at hSw); go_simp); all_goals (with_reducible rfl))
        try simp only [Act.put, List.setIfInBounds_toArray, List.set_cons_zero, List.set_cons_succ]
        refine wpAnyH_take (i := 35) (oi := ?oi_k77) (v := ?v_k77) ?hi_k77 (by kernel_rfl) ?hf_k77 ?hr_k77 ?hQ_k77 (Or.inl ⟨?hw_k77, ?hy_k77⟩) (by assumption) ?rest_k77
        case hi_k77 => ((simp only [List.getElem?_toArray, List.getElem?_cons_succ, List.getElem?_cons_zero]); rfl)
        case hf_k77 => kernel_rfl
        case hr_k77 => kernel_rfl
        case hQ_k77 => exact fun _ _ _ h => h
        case hw_k77 => rfl
        case hy_k77 => ((intro w hSw; (try dsimp only at hSw); go_simp); all_goals (with_reducible rfl))
        try simp only [Act.put, List.setIfInBounds_toArray, List.set_cons_zero, List.set_cons_succ]
        refine wpAnyH_take (i := 36) (oi := ?oi_k78) (v := ?v_k78) ?hi_k78 (by kernel_rfl) ?hf_k78 ?hr_k78 ?hQ_k78 (Or.inl ⟨?hw_k78, ?hy_k78⟩) (by assumption) ?rest_k78
        case hi_k78 => ((simp only [List.getElem?_toArray, List.getElem?_cons_succ, List.getElem?_cons_zero]); rfl)
        case hf_k78 => kernel_rfl
        case hr_k78 => kernel_rfl
        case hQ_k78 => exact fun _ _ _ h => h
        case hw_k78 => rfl
        case hy_k78 => ((intro w hSw; (try dsimp only at hSw); go_simp); all_goals (with_reducible rfl))
        try simp only [Act.put, List.setIfInBounds_toArray, List.set_cons_zero, List.set_cons_succ]
        refine wpAnyH_take (i := 37) (oi := ?oi_k79) (v := ?v_k79) ?hi_k79 (by kernel_rfl) ?hf_k79 ?hr_k79 ?hQ_k79 (Or.inl ⟨?hw_k79, ?hy_k79⟩) (by assumption) ?rest_k79
        case hi_k79 => ((simp only [List.getElem?_toArray, List.getElem?_cons_succ, List.getElem?_cons_zero]); rfl)
        case hf_k79 => kernel_rfl
        case hr_k79 => kernel_rfl
        case hQ_k79 => exact fun _ _ _ h => h
        case hw_k79 => rfl
        case hy_k79 => ((intro w hSw; (try dsimp only at hSw); go_simp); all_goals (with_reducible rfl))
        try simp only [Act.put, List.setIfInBounds_toArray, List.set_cons_zero, List.set_cons_succ]
        have heo := HEO.out
        refine wpAnyH_take (i := 38) (oi := ?oi_k80) (v := ?v_k80) ?hi_k80 (by kernel_rfl) ?hf_k80 ?hr_k80 ?hQ_k80 (Or.inl ⟨?hw_k80, ?hy_k80⟩) (by assumption) ?rest_k80
        case hi_k80 => ((simp only [List.getElem?_toArray, List.getElem?_cons_succ, List.getElem?_cons_zero]); rfl)
        case hf_k80 => kernel_rfl
        case hr_k80 => kernel_rfl
        case hQ_k80 => exact fun _ _ _ h => h
        case hw_k80 => rfl
        case hy_k80 => ((intro w hSw; (try dsimp only at hSw); go_simp); all_goals (with_reducible rfl))
        try simp only [Act.put, List.setIfInBounds_toArray, List.set_cons_zero, List.set_cons_succ]
        refine wpAnyH_take (i := 39) (oi := ?oi_k81) (v := ?v_k81) ?hi_k81 (by kernel_rfl) ?hf_k81 ?hr_k81 ?hQ_k81 (Or.inl ⟨?hw_k81, ?hy_k81⟩) (by assumption) ?rest_k81
        case hi_k81 => ((simp only [List.getElem?_toArray, List.getElem?_cons_succ, List.getElem?_cons_zero]); rfl)
        case hf_k81 => kernel_rfl
        case hr_k81 => kernel_rfl
        case hQ_k81 => exact fun _ _ _ h => h
        case hw_k81 => rfl
        case hy_k81 => ((intro w hSw; (try dsimp only at hSw); go_simp); all_goals (with_reducible rfl))
        try simp only [Act.put, List.setIfInBounds_toArray, List.set_cons_zero, List.set_cons_succ]
        refine wpAnyH_take (i := 40) (oi := ?oi_k82) (v := ?v_k82) ?hi_k82 (by kernel_rfl) ?hf_k82 ?hr_k82 ?hQ_k82 (Or.inl ⟨?hw_k82, ?hy_k82⟩) (by assumption) ?rest_k82
        case hi_k82 => ((simp only [List.getElem?_toArray, List.getElem?_cons_succ, List.getElem?_cons_zero]); rfl)
        case hf_k82 => kernel_rfl
        case hr_k82 => kernel_rfl
        case hQ_k82 => exact fun _ _ _ h => h
        case hw_k82 => rfl
        case hy_k82 => ((intro w hSw; (try dsimp only at hSw); go_simp); all_goals (with_reducible rfl))
        try simp only [Act.put, List.setIfInBounds_toArray, List.set_cons_zero, List.set_cons_succ]
        refine wpAnyH_done (by kernel_rfl) ?_ _
        go_wp2
        go_ret
        exact ⟨by simp, belStep HW1.out (belStep HBW.out hHeld)⟩

set_option maxRecDepth 100000 in
theorem lifted (os : Os) (started : os.Started) (H : Type) (enc : TypeId × Value → H) :
    ReturnsInHanded {} Try.checked os 8 .any (Rows.stateTwiceSpec.pre6 enc Try.prog Try.f8 Rows.stateTwiceRow.domain false) (Rows.stateTwiceSpec.post enc Try.prog Try.f8 false true false false) := by
  refine returnsInHanded_of_change (C := Try.checked) own started (by kernel_rfl) Try.func8
    (ChangeSpec.witness6 (enc := enc) (C := Try.checked) false ⟨#[], #[.agg #[.int .i64 0, .slice none 0 0, .bool false, .bool false, .bool false], .agg #[.string ByteArray.empty, .int .i64 0, .bool false, .int .i64 0, .int .i64 0, .int .i64 0, .int .i64 0, .int .i64 0, .int .i64 0, .string ByteArray.empty, .int .i64 0, .int .i64 0]], []⟩ 8 (by kernel_rfl) (by kernel_rfl) (by kernel_rfl) (by kernel_rfl)) ?_
  intro W base args ds gs before hval0 hW hcnd _
  have hval : ∀ (j : Nat) t v, Try.f8.params[j]? = some t → args[j]? = some v → Value.okWide Try.prog W .any base t v := hval0
  have hW' := hW
  obtain ⟨p, q, hA0, hV, rfl, hfz, hnd⟩ := hW
  have hA : DataW.TrodAll enc Try.prog W 0 (fun _ => true) true Try.f8.params.toList args.toList ds p := hA0
  rw [Try.params8] at hA hval
  obtain ⟨v0, vs0, d0, ds0, p0, q0, hargs, rfl, rfl, h0, r0⟩ := trodAll_cons hA
  obtain ⟨v1, vs1, d1, ds1, p1, q1, rfl, rfl, rfl, h1, r1⟩ := trodAll_cons r0
  obtain ⟨rfl, rfl, rfl⟩ := trodAll_nil r1
  obtain rfl : args = #[v0, v1] := by cases args; simp_all
  obtain ⟨rfl, rfl⟩ := trodVars_none hV
  have k0 := h0
  have lt0 : ∀ x ∈ p0, x.block < W.heap.size := by obtain ⟨m, hm⟩ := k0; exact DataW.trod_lt m _ _ _ hm
  have o0 : Value.okWide Try.prog W .any base 25 v0 := hval 0 25 v0 rfl rfl
  obtain ⟨xr0, xa0, xn0, xc0, xo0, xl0, rfl, fa0, fb0, fc0, fd0⟩ := open_state o0 h0
  have k1 := h1
  have lt1 : ∀ x ∈ p1, x.block < W.heap.size := by obtain ⟨m, hm⟩ := k1; exact DataW.trod_lt m _ _ _ hm
  have o1 : Value.okWide Try.prog W .any base 46 v1 := hval 1 46 v1 rfl rfl
  obtain ⟨xe1, rfl, fe1⟩ := open_ent o1 h1
  clear hA0 hval0
  refine (walk xr0 xa0 xn0 xc0 xo0 xl0 xe1 W fa0 fb0 fc0 fd0 fe1).mono fun e W' ⟨he, bel⟩ => ?_
  subst he
  exact ⟨_, rfl, _, _, _, [], _, [], hW', trodAll_mk1 (shut_bool Try.underlying4 _), (trodAll_cons_mk (Below.trod laidOut (by kernel_rfl) (of_decide_eq_true (by kernel_rfl)) k0 bel lt0) (trodAll_cons_mk (Below.trod laidOut (by kernel_rfl) (of_decide_eq_true (by kernel_rfl)) k1 bel lt1) trodAll_mk0)), rfl, bel.frame _, fun h => by cases h⟩

theorem over : Rows.stateTwiceRow.holds Try.pinned (OpenSpec.ofChange Rows.stateTwiceSpec) :=
  OpenClaim.holds_of_wide 8 Try.f8 rfl rfl rfl rfl rfl rfl rfl ⟨rfl, rfl, rfl, rfl, rfl⟩ rfl rfl rfl rfl rfl (by kernel_rfl) Try.func8 (by kernel_rfl)
    (of_decide_eq_true (by kernel_rfl)) (by unfold Func.isWrapper; first | (rw [if_pos (by decide +kernel)]; kernel_rfl) | (rw [if_neg (by decide +kernel)]; exact ⟨rfl, rfl⟩))
    (fun os started H enc _ => lifted os started H enc)

/-- The statement. -/
theorem proved : Rows.StateTwiceSaid := over
#print axioms proved

end Go.Proofs.Ytpmkhimmlpnbpaa.stateTwice
