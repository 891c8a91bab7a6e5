
/- StateTable holds for all its arguments. No conditions. -/
import Derived.Test.YtpmkhimmlpnbpaaStLM
import Derived.Test.YtpmkhimmlpnbpaaStTabM2
namespace Go.Proofs.Ytpmkhimmlpnbpaa.stateTable
open Go.ChangeShapes Go.WideShapes Go.ChangeAt Go.RowKit
open Go.ChangeMaps (open_string shut_string)
set_option linter.unusedVariables false
set_option linter.unusedSimpArgs false
set_option maxRecDepth 100000 in
set_option maxHeartbeats 16000000 in
theorem walk (r : Int) (a : Option Addr) (n c : Nat) (o : On) (L : List EntV) (x : EntV) (s : ByteArray) (w : World) (hr : InI r) (hl : L.length = n) (hok : ∀ x ∈ L, x.ok) (hR : Row w a n c 12 (L.flatMap EntV.cells)) (hx : x.ok) (hs : s.size ≤ maxLen) :
    Calls Try.prog 7 #[.agg #[.int .i64 r, .slice a n c, .bool o.a, .bool o.b, .bool o.c], .agg #[.string x.pod.id, .int .i64 x.pod.prio, .bool x.pod.crit, .int .i64 x.pod.r0, .int .i64 x.pod.r1, .int .i64 x.pod.r2, .int .i64 x.pod.l0, .int .i64 x.pod.l1, .int .i64 x.pod.l2, .string x.pod.img, .int .i64 x.pod.size, .int .i64 x.phase], .string s] w fun e w' => e = .returned (.bool true) ∧ Below w.heap.size w w' := by
  have hw : Below w.heap.size w w := Below.refl _ _
  have hbel := hw
  have hbd : n ≤ c ∧ c ≤ 9223372036854775807 := by obtain ⟨_, h1, h2, _⟩ := hR; unfold maxLen at h2; exact ⟨h1, h2⟩
  obtain ⟨hbd1, hbd2⟩ := hbd
  have HR := Lib.hid hR
  have HOK := Lib.hid hok
  have HLN := Lib.hid hl
  obtain ⟨fs, hfs⟩ : ∃ b, fewS L = b := ⟨_, rfl⟩
  obtain ⟨rs, hrs⟩ : ∃ b, stB r L = b := ⟨_, rfl⟩
  have CFW := Lib.hid (fun v (hv : Below w.heap.size w v) => hfs ▸ sref_Few r a n c o L v hl hok (hR.later hv))
  have CRT := Lib.hid (fun v (hv : Below w.heap.size w v) => hrs ▸ sref_Right r a n c o L v hl hok (hR.later hv))
  have HFS := Lib.hid hfs
  have HRS := Lib.hid hrs
  clear hR hok hl hfs hrs hr
  obtain ⟨sm, hsm⟩ : ∃ b, smallB x.pod = b := ⟨_, rfl⟩
  have CSM := Lib.hid (fun v => hsm ▸ pref_Small x.pod v hx.1)
  obtain ⟨rp, hrp⟩ : ∃ b, rightB x.pod = b := ⟨_, rfl⟩
  have CRP := Lib.hid (fun v => hrp ▸ pref_Right x.pod v hx.1)
  have HRP := Lib.hid hrp
  have HX := Lib.hid hx
  clear hsm hrp hx
  have key : x.phase < 1 ∨ (¬ x.phase < 1 ∧ 3 < x.phase) ∨ (¬ x.phase < 1 ∧ ¬ 3 < x.phase ∧ 60 < s.size) ∨ (¬ x.phase < 1 ∧ ¬ 3 < x.phase ∧ ¬ 60 < s.size) := by omega
  rcases key with k1 | ⟨k1, k2⟩ | ⟨k1, k2, k3⟩ | ⟨k1, k2, k3⟩
  · have p1 : decide (x.phase < (1 : Int)) = true := decide_eq_true k1
    go_enter Try.func7, Try.ntmps7
    go_upto_region 1 with fail
    have ss0 : ((w.alloc (.cells #[.int .i64 r, .slice a n c, .bool o.a, .bool o.b, .bool o.c] 25)).alloc (.cells #[.string x.pod.id, .int .i64 x.pod.prio, .bool x.pod.crit, .int .i64 x.pod.r0, .int .i64 x.pod.r1, .int .i64 x.pod.r2, .int .i64 x.pod.l0, .int .i64 x.pod.l1, .int .i64 x.pod.l2, .string x.pod.img, .int .i64 x.pod.size, .int .i64 x.phase] 46)).cell? ⟨w.heap.size, 0, none⟩ = some (.int .i64 r) := by first | (simp; done) | (rw [World.cell?_alloc_at _ _ _ _ (by simp)]; rfl) | (rw [World.cell?_alloc_past _ _ _ (by simp <;> omega), World.cell?_alloc_at _ _ _ _ (by simp)]; rfl) | (rw [World.cell?_alloc_past _ _ _ (by simp <;> omega), World.cell?_alloc_past _ _ _ (by simp <;> omega), World.cell?_alloc_at _ _ _ _ (by simp)]; rfl)
    have ss1 : ((w.alloc (.cells #[.int .i64 r, .slice a n c, .bool o.a, .bool o.b, .bool o.c] 25)).alloc (.cells #[.string x.pod.id, .int .i64 x.pod.prio, .bool x.pod.crit, .int .i64 x.pod.r0, .int .i64 x.pod.r1, .int .i64 x.pod.r2, .int .i64 x.pod.l0, .int .i64 x.pod.l1, .int .i64 x.pod.l2, .string x.pod.img, .int .i64 x.pod.size, .int .i64 x.phase] 46)).cell? ⟨w.heap.size, 1, none⟩ = some (.slice a n c) := by first | (simp; done) | (rw [World.cell?_alloc_at _ _ _ _ (by simp)]; rfl) | (rw [World.cell?_alloc_past _ _ _ (by simp <;> omega), World.cell?_alloc_at _ _ _ _ (by simp)]; rfl) | (rw [World.cell?_alloc_past _ _ _ (by simp <;> omega), World.cell?_alloc_past _ _ _ (by simp <;> omega), World.cell?_alloc_at _ _ _ _ (by simp)]; rfl)
    have ss2 : ((w.alloc (.cells #[.int .i64 r, .slice a n c, .bool o.a, .bool o.b, .bool o.c] 25)).alloc (.cells #[.string x.pod.id, .int .i64 x.pod.prio, .bool x.pod.crit, .int .i64 x.pod.r0, .int .i64 x.pod.r1, .int .i64 x.pod.r2, .int .i64 x.pod.l0, .int .i64 x.pod.l1, .int .i64 x.pod.l2, .string x.pod.img, .int .i64 x.pod.size, .int .i64 x.phase] 46)).cell? ⟨w.heap.size, 2, none⟩ = some (.bool o.a) := by first | (simp; done) | (rw [World.cell?_alloc_at _ _ _ _ (by simp)]; rfl) | (rw [World.cell?_alloc_past _ _ _ (by simp <;> omega), World.cell?_alloc_at _ _ _ _ (by simp)]; rfl) | (rw [World.cell?_alloc_past _ _ _ (by simp <;> omega), World.cell?_alloc_past _ _ _ (by simp <;> omega), World.cell?_alloc_at _ _ _ _ (by simp)]; rfl)
    have ss3 : ((w.alloc (.cells #[.int .i64 r, .slice a n c, .bool o.a, .bool o.b, .bool o.c] 25)).alloc (.cells #[.string x.pod.id, .int .i64 x.pod.prio, .bool x.pod.crit, .int .i64 x.pod.r0, .int .i64 x.pod.r1, .int .i64 x.pod.r2, .int .i64 x.pod.l0, .int .i64 x.pod.l1, .int .i64 x.pod.l2, .string x.pod.img, .int .i64 x.pod.size, .int .i64 x.phase] 46)).cell? ⟨w.heap.size, 3, none⟩ = some (.bool o.b) := by first | (simp; done) | (rw [World.cell?_alloc_at _ _ _ _ (by simp)]; rfl) | (rw [World.cell?_alloc_past _ _ _ (by simp <;> omega), World.cell?_alloc_at _ _ _ _ (by simp)]; rfl) | (rw [World.cell?_alloc_past _ _ _ (by simp <;> omega), World.cell?_alloc_past _ _ _ (by simp <;> omega), World.cell?_alloc_at _ _ _ _ (by simp)]; rfl)
    have ss4 : ((w.alloc (.cells #[.int .i64 r, .slice a n c, .bool o.a, .bool o.b, .bool o.c] 25)).alloc (.cells #[.string x.pod.id, .int .i64 x.pod.prio, .bool x.pod.crit, .int .i64 x.pod.r0, .int .i64 x.pod.r1, .int .i64 x.pod.r2, .int .i64 x.pod.l0, .int .i64 x.pod.l1, .int .i64 x.pod.l2, .string x.pod.img, .int .i64 x.pod.size, .int .i64 x.phase] 46)).cell? ⟨w.heap.size, 4, none⟩ = some (.bool o.c) := by first | (simp; done) | (rw [World.cell?_alloc_at _ _ _ _ (by simp)]; rfl) | (rw [World.cell?_alloc_past _ _ _ (by simp <;> omega), World.cell?_alloc_at _ _ _ _ (by simp)]; rfl) | (rw [World.cell?_alloc_past _ _ _ (by simp <;> omega), World.cell?_alloc_past _ _ _ (by simp <;> omega), World.cell?_alloc_at _ _ _ _ (by simp)]; rfl)
    have ee0 : ((w.alloc (.cells #[.int .i64 r, .slice a n c, .bool o.a, .bool o.b, .bool o.c] 25)).alloc (.cells #[.string x.pod.id, .int .i64 x.pod.prio, .bool x.pod.crit, .int .i64 x.pod.r0, .int .i64 x.pod.r1, .int .i64 x.pod.r2, .int .i64 x.pod.l0, .int .i64 x.pod.l1, .int .i64 x.pod.l2, .string x.pod.img, .int .i64 x.pod.size, .int .i64 x.phase] 46)).cell? ⟨w.heap.size + 1, 0, none⟩ = some (.string x.pod.id) := by first | (simp; done) | (rw [World.cell?_alloc_at _ _ _ _ (by simp)]; rfl) | (rw [World.cell?_alloc_past _ _ _ (by simp <;> omega), World.cell?_alloc_at _ _ _ _ (by simp)]; rfl) | (rw [World.cell?_alloc_past _ _ _ (by simp <;> omega), World.cell?_alloc_past _ _ _ (by simp <;> omega), World.cell?_alloc_at _ _ _ _ (by simp)]; rfl)
    have ee1 : ((w.alloc (.cells #[.int .i64 r, .slice a n c, .bool o.a, .bool o.b, .bool o.c] 25)).alloc (.cells #[.string x.pod.id, .int .i64 x.pod.prio, .bool x.pod.crit, .int .i64 x.pod.r0, .int .i64 x.pod.r1, .int .i64 x.pod.r2, .int .i64 x.pod.l0, .int .i64 x.pod.l1, .int .i64 x.pod.l2, .string x.pod.img, .int .i64 x.pod.size, .int .i64 x.phase] 46)).cell? ⟨w.heap.size + 1, 1, none⟩ = some (.int .i64 x.pod.prio) := by first | (simp; done) | (rw [World.cell?_alloc_at _ _ _ _ (by simp)]; rfl) | (rw [World.cell?_alloc_past _ _ _ (by simp <;> omega), World.cell?_alloc_at _ _ _ _ (by simp)]; rfl) | (rw [World.cell?_alloc_past _ _ _ (by simp <;> omega), World.cell?_alloc_past _ _ _ (by simp <;> omega), World.cell?_alloc_at _ _ _ _ (by simp)]; rfl)
    have ee2 : ((w.alloc (.cells #[.int .i64 r, .slice a n c, .bool o.a, .bool o.b, .bool o.c] 25)).alloc (.cells #[.string x.pod.id, .int .i64 x.pod.prio, .bool x.pod.crit, .int .i64 x.pod.r0, .int .i64 x.pod.r1, .int .i64 x.pod.r2, .int .i64 x.pod.l0, .int .i64 x.pod.l1, .int .i64 x.pod.l2, .string x.pod.img, .int .i64 x.pod.size, .int .i64 x.phase] 46)).cell? ⟨w.heap.size + 1, 2, none⟩ = some (.bool x.pod.crit) := by first | (simp; done) | (rw [World.cell?_alloc_at _ _ _ _ (by simp)]; rfl) | (rw [World.cell?_alloc_past _ _ _ (by simp <;> omega), World.cell?_alloc_at _ _ _ _ (by simp)]; rfl) | (rw [World.cell?_alloc_past _ _ _ (by simp <;> omega), World.cell?_alloc_past _ _ _ (by simp <;> omega), World.cell?_alloc_at _ _ _ _ (by simp)]; rfl)
    have ee3 : ((w.alloc (.cells #[.int .i64 r, .slice a n c, .bool o.a, .bool o.b, .bool o.c] 25)).alloc (.cells #[.string x.pod.id, .int .i64 x.pod.prio, .bool x.pod.crit, .int .i64 x.pod.r0, .int .i64 x.pod.r1, .int .i64 x.pod.r2, .int .i64 x.pod.l0, .int .i64 x.pod.l1, .int .i64 x.pod.l2, .string x.pod.img, .int .i64 x.pod.size, .int .i64 x.phase] 46)).cell? ⟨w.heap.size + 1, 3, none⟩ = some (.int .i64 x.pod.r0) := by first | (simp; done) | (rw [World.cell?_alloc_at _ _ _ _ (by simp)]; rfl) | (rw [World.cell?_alloc_past _ _ _ (by simp <;> omega), World.cell?_alloc_at _ _ _ _ (by simp)]; rfl) | (rw [World.cell?_alloc_past _ _ _ (by simp <;> omega), World.cell?_alloc_past _ _ _ (by simp <;> omega), World.cell?_alloc_at _ _ _ _ (by simp)]; rfl)
    have ee4 : ((w.alloc (.cells #[.int .i64 r, .slice a n c, .bool o.a, .bool o.b, .bool o.c] 25)).alloc (.cells #[.string x.pod.id, .int .i64 x.pod.prio, .bool x.pod.crit, .int .i64 x.pod.r0, .int .i64 x.pod.r1, .int .i64 x.pod.r2, .int .i64 x.pod.l0, .int .i64 x.pod.l1, .int .i64 x.pod.l2, .string x.pod.img, .int .i64 x.pod.size, .int .i64 x.phase] 46)).cell? ⟨w.heap.size + 1, 4, none⟩ = some (.int .i64 x.pod.r1) := by first | (simp; done) | (rw [World.cell?_alloc_at _ _ _ _ (by simp)]; rfl) | (rw [World.cell?_alloc_past _ _ _ (by simp <;> omega), World.cell?_alloc_at _ _ _ _ (by simp)]; rfl) | (rw [World.cell?_alloc_past _ _ _ (by simp <;> omega), World.cell?_alloc_past _ _ _ (by simp <;> omega), World.cell?_alloc_at _ _ _ _ (by simp)]; rfl)
    have ee5 : ((w.alloc (.cells #[.int .i64 r, .slice a n c, .bool o.a, .bool o.b, .bool o.c] 25)).alloc (.cells #[.string x.pod.id, .int .i64 x.pod.prio, .bool x.pod.crit, .int .i64 x.pod.r0, .int .i64 x.pod.r1, .int .i64 x.pod.r2, .int .i64 x.pod.l0, .int .i64 x.pod.l1, .int .i64 x.pod.l2, .string x.pod.img, .int .i64 x.pod.size, .int .i64 x.phase] 46)).cell? ⟨w.heap.size + 1, 5, none⟩ = some (.int .i64 x.pod.r2) := by first | (simp; done) | (rw [World.cell?_alloc_at _ _ _ _ (by simp)]; rfl) | (rw [World.cell?_alloc_past _ _ _ (by simp <;> omega), World.cell?_alloc_at _ _ _ _ (by simp)]; rfl) | (rw [World.cell?_alloc_past _ _ _ (by simp <;> omega), World.cell?_alloc_past _ _ _ (by simp <;> omega), World.cell?_alloc_at _ _ _ _ (by simp)]; rfl)
    have ee6 : ((w.alloc (.cells #[.int .i64 r, .slice a n c, .bool o.a, .bool o.b, .bool o.c] 25)).alloc (.cells #[.string x.pod.id, .int .i64 x.pod.prio, .bool x.pod.crit, .int .i64 x.pod.r0, .int .i64 x.pod.r1, .int .i64 x.pod.r2, .int .i64 x.pod.l0, .int .i64 x.pod.l1, .int .i64 x.pod.l2, .string x.pod.img, .int .i64 x.pod.size, .int .i64 x.phase] 46)).cell? ⟨w.heap.size + 1, 6, none⟩ = some (.int .i64 x.pod.l0) := by first | (simp; done) | (rw [World.cell?_alloc_at _ _ _ _ (by simp)]; rfl) | (rw [World.cell?_alloc_past _ _ _ (by simp <;> omega), World.cell?_alloc_at _ _ _ _ (by simp)]; rfl) | (rw [World.cell?_alloc_past _ _ _ (by simp <;> omega), World.cell?_alloc_past _ _ _ (by simp <;> omega), World.cell?_alloc_at _ _ _ _ (by simp)]; rfl)
    have ee7 : ((w.alloc (.cells #[.int .i64 r, .slice a n c, .bool o.a, .bool o.b, .bool o.c] 25)).alloc (.cells #[.string x.pod.id, .int .i64 x.pod.prio, .bool x.pod.crit, .int .i64 x.pod.r0, .int .i64 x.pod.r1, .int .i64 x.pod.r2, .int .i64 x.pod.l0, .int .i64 x.pod.l1, .int .i64 x.pod.l2, .string x.pod.img, .int .i64 x.pod.size, .int .i64 x.phase] 46)).cell? ⟨w.heap.size + 1, 7, none⟩ = some (.int .i64 x.pod.l1) := by first | (simp; done) | (rw [World.cell?_alloc_at _ _ _ _ (by simp)]; rfl) | (rw [World.cell?_alloc_past _ _ _ (by simp <;> omega), World.cell?_alloc_at _ _ _ _ (by simp)]; rfl) | (rw [World.cell?_alloc_past _ _ _ (by simp <;> omega), World.cell?_alloc_past _ _ _ (by simp <;> omega), World.cell?_alloc_at _ _ _ _ (by simp)]; rfl)
    have ee8 : ((w.alloc (.cells #[.int .i64 r, .slice a n c, .bool o.a, .bool o.b, .bool o.c] 25)).alloc (.cells #[.string x.pod.id, .int .i64 x.pod.prio, .bool x.pod.crit, .int .i64 x.pod.r0, .int .i64 x.pod.r1, .int .i64 x.pod.r2, .int .i64 x.pod.l0, .int .i64 x.pod.l1, .int .i64 x.pod.l2, .string x.pod.img, .int .i64 x.pod.size, .int .i64 x.phase] 46)).cell? ⟨w.heap.size + 1, 8, none⟩ = some (.int .i64 x.pod.l2) := by first | (simp; done) | (rw [World.cell?_alloc_at _ _ _ _ (by simp)]; rfl) | (rw [World.cell?_alloc_past _ _ _ (by simp <;> omega), World.cell?_alloc_at _ _ _ _ (by simp)]; rfl) | (rw [World.cell?_alloc_past _ _ _ (by simp <;> omega), World.cell?_alloc_past _ _ _ (by simp <;> omega), World.cell?_alloc_at _ _ _ _ (by simp)]; rfl)
    have ee9 : ((w.alloc (.cells #[.int .i64 r, .slice a n c, .bool o.a, .bool o.b, .bool o.c] 25)).alloc (.cells #[.string x.pod.id, .int .i64 x.pod.prio, .bool x.pod.crit, .int .i64 x.pod.r0, .int .i64 x.pod.r1, .int .i64 x.pod.r2, .int .i64 x.pod.l0, .int .i64 x.pod.l1, .int .i64 x.pod.l2, .string x.pod.img, .int .i64 x.pod.size, .int .i64 x.phase] 46)).cell? ⟨w.heap.size + 1, 9, none⟩ = some (.string x.pod.img) := by first | (simp; done) | (rw [World.cell?_alloc_at _ _ _ _ (by simp)]; rfl) | (rw [World.cell?_alloc_past _ _ _ (by simp <;> omega), World.cell?_alloc_at _ _ _ _ (by simp)]; rfl) | (rw [World.cell?_alloc_past _ _ _ (by simp <;> omega), World.cell?_alloc_past _ _ _ (by simp <;> omega), World.cell?_alloc_at _ _ _ _ (by simp)]; rfl)
    have ee10 : ((w.alloc (.cells #[.int .i64 r, .slice a n c, .bool o.a, .bool o.b, .bool o.c] 25)).alloc (.cells #[.string x.pod.id, .int .i64 x.pod.prio, .bool x.pod.crit, .int .i64 x.pod.r0, .int .i64 x.pod.r1, .int .i64 x.pod.r2, .int .i64 x.pod.l0, .int .i64 x.pod.l1, .int .i64 x.pod.l2, .string x.pod.img, .int .i64 x.pod.size, .int .i64 x.phase] 46)).cell? ⟨w.heap.size + 1, 10, none⟩ = some (.int .i64 x.pod.size) := by first | (simp; done) | (rw [World.cell?_alloc_at _ _ _ _ (by simp)]; rfl) | (rw [World.cell?_alloc_past _ _ _ (by simp <;> omega), World.cell?_alloc_at _ _ _ _ (by simp)]; rfl) | (rw [World.cell?_alloc_past _ _ _ (by simp <;> omega), World.cell?_alloc_past _ _ _ (by simp <;> omega), World.cell?_alloc_at _ _ _ _ (by simp)]; rfl)
    have ee11 : ((w.alloc (.cells #[.int .i64 r, .slice a n c, .bool o.a, .bool o.b, .bool o.c] 25)).alloc (.cells #[.string x.pod.id, .int .i64 x.pod.prio, .bool x.pod.crit, .int .i64 x.pod.r0, .int .i64 x.pod.r1, .int .i64 x.pod.r2, .int .i64 x.pod.l0, .int .i64 x.pod.l1, .int .i64 x.pod.l2, .string x.pod.img, .int .i64 x.pod.size, .int .i64 x.phase] 46)).cell? ⟨w.heap.size + 1, 11, none⟩ = some (.int .i64 x.phase) := by first | (simp; done) | (rw [World.cell?_alloc_at _ _ _ _ (by simp)]; rfl) | (rw [World.cell?_alloc_past _ _ _ (by simp <;> omega), World.cell?_alloc_at _ _ _ _ (by simp)]; rfl) | (rw [World.cell?_alloc_past _ _ _ (by simp <;> omega), World.cell?_alloc_past _ _ _ (by simp <;> omega), World.cell?_alloc_at _ _ _ _ (by simp)]; rfl)
    have hb2 := (by repeat (first | exact hbel | refine belAlloc ?_ _ | refine belDrew ?_ | refine belSet ?_ _ _ (by simp)) : Below w.heap.size w ((w.alloc (.cells #[.int .i64 r, .slice a n c, .bool o.a, .bool o.b, .bool o.c] 25)).alloc (.cells #[.string x.pod.id, .int .i64 x.pod.prio, .bool x.pod.crit, .int .i64 x.pod.r0, .int .i64 x.pod.r1, .int .i64 x.pod.r2, .int .i64 x.pod.l0, .int .i64 x.pod.l1, .int .i64 x.pod.l2, .string x.pod.img, .int .i64 x.pod.size, .int .i64 x.phase] 46)))
    replace hw := belStep hw hb2
    clear hb2 hbel
    generalize (w.alloc (.cells #[.int .i64 r, .slice a n c, .bool o.a, .bool o.b, .bool o.c] 25)).alloc (.cells #[.string x.pod.id, .int .i64 x.pod.prio, .bool x.pod.crit, .int .i64 x.pod.r0, .int .i64 x.pod.r1, .int .i64 x.pod.r2, .int .i64 x.pod.l0, .int .i64 x.pod.l1, .int .i64 x.pod.l2, .string x.pod.img, .int .i64 x.pod.size, .int .i64 x.phase] 46) = W1 at *
    replace ss0 := keep ss0
    replace ss1 := keep ss1
    replace ss2 := keep ss2
    replace ss3 := keep ss3
    replace ss4 := keep ss4
    replace ee0 := keep ee0
    replace ee1 := keep ee1
    replace ee2 := keep ee2
    replace ee3 := keep ee3
    replace ee4 := keep ee4
    replace ee5 := keep ee5
    replace ee6 := keep ee6
    replace ee7 := keep ee7
    replace ee8 := keep ee8
    replace ee9 := keep ee9
    replace ee10 := keep ee10
    replace ee11 := keep ee11
    have hbel : Below W1.heap.size W1 W1 := Below.refl _ _
    skip
    go_wp2_with (first | (go_at_call 11; (with_reducible refine (awake24 _).mono ?_); rintro e w1 ⟨rfl, hb1⟩; replace hbel := belStep hbel hb1; clear hb1) | (go_at_call 12; (with_reducible refine (CFW.out _ (belStep hw hbel)).mono ?_); rintro e wf ⟨rfl, hbf⟩; replace hbel := belStep hbel hbf; clear hbf; rcases fs with _ | _) | (go_at_call 15; (with_reducible refine (CRT.out _ (belStep hw hbel)).mono ?_); rintro e wf ⟨rfl, hbf⟩; replace hbel := belStep hbel hbf; clear hbf; rcases rs with _ | _) | (go_at_call 21; (with_reducible refine (CSM.out _).mono ?_); rintro e wf8 ⟨rfl, hbf8⟩; replace hbel := belStep hbel hbf8; clear hbf8; rcases sm with _ | _) | (go_at_call 22; (with_reducible refine (CRP.out _).mono ?_); rintro e wf9 ⟨rfl, hbf9⟩; replace hbel := belStep hbel hbf9; clear hbf9; rcases rp with _ | _))
    all_goals (go_ret; exact ⟨rfl, belStep hw hbel⟩)
  · have p1 : decide (x.phase < (1 : Int)) = false := decide_eq_false k1
    have p2 : decide ((3 : Int) < x.phase) = true := decide_eq_true k2
    go_enter Try.func7, Try.ntmps7
    go_upto_region 1 with fail
    have ss0 : ((w.alloc (.cells #[.int .i64 r, .slice a n c, .bool o.a, .bool o.b, .bool o.c] 25)).alloc (.cells #[.string x.pod.id, .int .i64 x.pod.prio, .bool x.pod.crit, .int .i64 x.pod.r0, .int .i64 x.pod.r1, .int .i64 x.pod.r2, .int .i64 x.pod.l0, .int .i64 x.pod.l1, .int .i64 x.pod.l2, .string x.pod.img, .int .i64 x.pod.size, .int .i64 x.phase] 46)).cell? ⟨w.heap.size, 0, none⟩ = some (.int .i64 r) := by first | (simp; done) | (rw [World.cell?_alloc_at _ _ _ _ (by simp)]; rfl) | (rw [World.cell?_alloc_past _ _ _ (by simp <;> omega), World.cell?_alloc_at _ _ _ _ (by simp)]; rfl) | (rw [World.cell?_alloc_past _ _ _ (by simp <;> omega), World.cell?_alloc_past _ _ _ (by simp <;> omega), World.cell?_alloc_at _ _ _ _ (by simp)]; rfl)
    have ss1 : ((w.alloc (.cells #[.int .i64 r, .slice a n c, .bool o.a, .bool o.b, .bool o.c] 25)).alloc (.cells #[.string x.pod.id, .int .i64 x.pod.prio, .bool x.pod.crit, .int .i64 x.pod.r0, .int .i64 x.pod.r1, .int .i64 x.pod.r2, .int .i64 x.pod.l0, .int .i64 x.pod.l1, .int .i64 x.pod.l2, .string x.pod.img, .int .i64 x.pod.size, .int .i64 x.phase] 46)).cell? ⟨w.heap.size, 1, none⟩ = some (.slice a n c) := by first | (simp; done) | (rw [World.cell?_alloc_at _ _ _ _ (by simp)]; rfl) | (rw [World.cell?_alloc_past _ _ _ (by simp <;> omega), World.cell?_alloc_at _ _ _ _ (by simp)]; rfl) | (rw [World.cell?_alloc_past _ _ _ (by simp <;> omega), World.cell?_alloc_past _ _ _ (by simp <;> omega), World.cell?_alloc_at _ _ _ _ (by simp)]; rfl)
    have ss2 : ((w.alloc (.cells #[.int .i64 r, .slice a n c, .bool o.a, .bool o.b, .bool o.c] 25)).alloc (.cells #[.string x.pod.id, .int .i64 x.pod.prio, .bool x.pod.crit, .int .i64 x.pod.r0, .int .i64 x.pod.r1, .int .i64 x.pod.r2, .int .i64 x.pod.l0, .int .i64 x.pod.l1, .int .i64 x.pod.l2, .string x.pod.img, .int .i64 x.pod.size, .int .i64 x.phase] 46)).cell? ⟨w.heap.size, 2, none⟩ = some (.bool o.a) := by first | (simp; done) | (rw [World.cell?_alloc_at _ _ _ _ (by simp)]; rfl) | (rw [World.cell?_alloc_past _ _ _ (by simp <;> omega), World.cell?_alloc_at _ _ _ _ (by simp)]; rfl) | (rw [World.cell?_alloc_past _ _ _ (by simp <;> omega), World.cell?_alloc_past _ _ _ (by simp <;> omega), World.cell?_alloc_at _ _ _ _ (by simp)]; rfl)
    have ss3 : ((w.alloc (.cells #[.int .i64 r, .slice a n c, .bool o.a, .bool o.b, .bool o.c] 25)).alloc (.cells #[.string x.pod.id, .int .i64 x.pod.prio, .bool x.pod.crit, .int .i64 x.pod.r0, .int .i64 x.pod.r1, .int .i64 x.pod.r2, .int .i64 x.pod.l0, .int .i64 x.pod.l1, .int .i64 x.pod.l2, .string x.pod.img, .int .i64 x.pod.size, .int .i64 x.phase] 46)).cell? ⟨w.heap.size, 3, none⟩ = some (.bool o.b) := by first | (simp; done) | (rw [World.cell?_alloc_at _ _ _ _ (by simp)]; rfl) | (rw [World.cell?_alloc_past _ _ _ (by simp <;> omega), World.cell?_alloc_at _ _ _ _ (by simp)]; rfl) | (rw [World.cell?_alloc_past _ _ _ (by simp <;> omega), World.cell?_alloc_past _ _ _ (by simp <;> omega), World.cell?_alloc_at _ _ _ _ (by simp)]; rfl)
    have ss4 : ((w.alloc (.cells #[.int .i64 r, .slice a n c, .bool o.a, .bool o.b, .bool o.c] 25)).alloc (.cells #[.string x.pod.id, .int .i64 x.pod.prio, .bool x.pod.crit, .int .i64 x.pod.r0, .int .i64 x.pod.r1, .int .i64 x.pod.r2, .int .i64 x.pod.l0, .int .i64 x.pod.l1, .int .i64 x.pod.l2, .string x.pod.img, .int .i64 x.pod.size, .int .i64 x.phase] 46)).cell? ⟨w.heap.size, 4, none⟩ = some (.bool o.c) := by first | (simp; done) | (rw [World.cell?_alloc_at _ _ _ _ (by simp)]; rfl) | (rw [World.cell?_alloc_past _ _ _ (by simp <;> omega), World.cell?_alloc_at _ _ _ _ (by simp)]; rfl) | (rw [World.cell?_alloc_past _ _ _ (by simp <;> omega), World.cell?_alloc_past _ _ _ (by simp <;> omega), World.cell?_alloc_at _ _ _ _ (by simp)]; rfl)
    have ee0 : ((w.alloc (.cells #[.int .i64 r, .slice a n c, .bool o.a, .bool o.b, .bool o.c] 25)).alloc (.cells #[.string x.pod.id, .int .i64 x.pod.prio, .bool x.pod.crit, .int .i64 x.pod.r0, .int .i64 x.pod.r1, .int .i64 x.pod.r2, .int .i64 x.pod.l0, .int .i64 x.pod.l1, .int .i64 x.pod.l2, .string x.pod.img, .int .i64 x.pod.size, .int .i64 x.phase] 46)).cell? ⟨w.heap.size + 1, 0, none⟩ = some (.string x.pod.id) := by first | (simp; done) | (rw [World.cell?_alloc_at _ _ _ _ (by simp)]; rfl) | (rw [World.cell?_alloc_past _ _ _ (by simp <;> omega), World.cell?_alloc_at _ _ _ _ (by simp)]; rfl) | (rw [World.cell?_alloc_past _ _ _ (by simp <;> omega), World.cell?_alloc_past _ _ _ (by simp <;> omega), World.cell?_alloc_at _ _ _ _ (by simp)]; rfl)
    have ee1 : ((w.alloc (.cells #[.int .i64 r, .slice a n c, .bool o.a, .bool o.b, .bool o.c] 25)).alloc (.cells #[.string x.pod.id, .int .i64 x.pod.prio, .bool x.pod.crit, .int .i64 x.pod.r0, .int .i64 x.pod.r1, .int .i64 x.pod.r2, .int .i64 x.pod.l0, .int .i64 x.pod.l1, .int .i64 x.pod.l2, .string x.pod.img, .int .i64 x.pod.size, .int .i64 x.phase] 46)).cell? ⟨w.heap.size + 1, 1, none⟩ = some (.int .i64 x.pod.prio) := by first | (simp; done) | (rw [World.cell?_alloc_at _ _ _ _ (by simp)]; rfl) | (rw [World.cell?_alloc_past _ _ _ (by simp <;> omega), World.cell?_alloc_at _ _ _ _ (by simp)]; rfl) | (rw [World.cell?_alloc_past _ _ _ (by simp <;> omega), World.cell?_alloc_past _ _ _ (by simp <;> omega), World.cell?_alloc_at _ _ _ _ (by simp)]; rfl)
    have ee2 : ((w.alloc (.cells #[.int .i64 r, .slice a n c, .bool o.a, .bool o.b, .bool o.c] 25)).alloc (.cells #[.string x.pod.id, .int .i64 x.pod.prio, .bool x.pod.crit, .int .i64 x.pod.r0, .int .i64 x.pod.r1, .int .i64 x.pod.r2, .int .i64 x.pod.l0, .int .i64 x.pod.l1, .int .i64 x.pod.l2, .string x.pod.img, .int .i64 x.pod.size, .int .i64 x.phase] 46)).cell? ⟨w.heap.size + 1, 2, none⟩ = some (.bool x.pod.crit) := by first | (simp; done) | (rw [World.cell?_alloc_at _ _ _ _ (by simp)]; rfl) | (rw [World.cell?_alloc_past _ _ _ (by simp <;> omega), World.cell?_alloc_at _ _ _ _ (by simp)]; rfl) | (rw [World.cell?_alloc_past _ _ _ (by simp <;> omega), World.cell?_alloc_past _ _ _ (by simp <;> omega), World.cell?_alloc_at _ _ _ _ (by simp)]; rfl)
    have ee3 : ((w.alloc (.cells #[.int .i64 r, .slice a n c, .bool o.a, .bool o.b, .bool o.c] 25)).alloc (.cells #[.string x.pod.id, .int .i64 x.pod.prio, .bool x.pod.crit, .int .i64 x.pod.r0, .int .i64 x.pod.r1, .int .i64 x.pod.r2, .int .i64 x.pod.l0, .int .i64 x.pod.l1, .int .i64 x.pod.l2, .string x.pod.img, .int .i64 x.pod.size, .int .i64 x.phase] 46)).cell? ⟨w.heap.size + 1, 3, none⟩ = some (.int .i64 x.pod.r0) := by first | (simp; done) | (rw [World.cell?_alloc_at _ _ _ _ (by simp)]; rfl) | (rw [World.cell?_alloc_past _ _ _ (by simp <;> omega), World.cell?_alloc_at _ _ _ _ (by simp)]; rfl) | (rw [World.cell?_alloc_past _ _ _ (by simp <;> omega), World.cell?_alloc_past _ _ _ (by simp <;> omega), World.cell?_alloc_at _ _ _ _ (by simp)]; rfl)
    have ee4 : ((w.alloc (.cells #[.int .i64 r, .slice a n c, .bool o.a, .bool o.b, .bool o.c] 25)).alloc (.cells #[.string x.pod.id, .int .i64 x.pod.prio, .bool x.pod.crit, .int .i64 x.pod.r0, .int .i64 x.pod.r1, .int .i64 x.pod.r2, .int .i64 x.pod.l0, .int .i64 x.pod.l1, .int .i64 x.pod.l2, .string x.pod.img, .int .i64 x.pod.size, .int .i64 x.phase] 46)).cell? ⟨w.heap.size + 1, 4, none⟩ = some (.int .i64 x.pod.r1) := by first | (simp; done) | (rw [World.cell?_alloc_at _ _ _ _ (by simp)]; rfl) | (rw [World.cell?_alloc_past _ _ _ (by simp <;> omega), World.cell?_alloc_at _ _ _ _ (by simp)]; rfl) | (rw [World.cell?_alloc_past _ _ _ (by simp <;> omega), World.cell?_alloc_past _ _ _ (by simp <;> omega), World.cell?_alloc_at _ _ _ _ (by simp)]; rfl)
    have ee5 : ((w.alloc (.cells #[.int .i64 r, .slice a n c, .bool o.a, .bool o.b, .bool o.c] 25)).alloc (.cells #[.string x.pod.id, .int .i64 x.pod.prio, .bool x.pod.crit, .int .i64 x.pod.r0, .int .i64 x.pod.r1, .int .i64 x.pod.r2, .int .i64 x.pod.l0, .int .i64 x.pod.l1, .int .i64 x.pod.l2, .string x.pod.img, .int .i64 x.pod.size, .int .i64 x.phase] 46)).cell? ⟨w.heap.size + 1, 5, none⟩ = some (.int .i64 x.pod.r2) := by first | (simp; done) | (rw [World.cell?_alloc_at _ _ _ _ (by simp)]; rfl) | (rw [World.cell?_alloc_past _ _ _ (by simp <;> omega), World.cell?_alloc_at _ _ _ _ (by simp)]; rfl) | (rw [World.cell?_alloc_past _ _ _ (by simp <;> omega), World.cell?_alloc_past _ _ _ (by simp <;> omega), World.cell?_alloc_at _ _ _ _ (by simp)]; rfl)
    have ee6 : ((w.alloc (.cells #[.int .i64 r, .slice a n c, .bool o.a, .bool o.b, .bool o.c] 25)).alloc (.cells #[.string x.pod.id, .int .i64 x.pod.prio, .bool x.pod.crit, .int .i64 x.pod.r0, .int .i64 x.pod.r1, .int .i64 x.pod.r2, .int .i64 x.pod.l0, .int .i64 x.pod.l1, .int .i64 x.pod.l2, .string x.pod.img, .int .i64 x.pod.size, .int .i64 x.phase] 46)).cell? ⟨w.heap.size + 1, 6, none⟩ = some (.int .i64 x.pod.l0) := by first | (simp; done) | (rw [World.cell?_alloc_at _ _ _ _ (by simp)]; rfl) | (rw [World.cell?_alloc_past _ _ _ (by simp <;> omega), World.cell?_alloc_at _ _ _ _ (by simp)]; rfl) | (rw [World.cell?_alloc_past _ _ _ (by simp <;> omega), World.cell?_alloc_past _ _ _ (by simp <;> omega), World.cell?_alloc_at _ _ _ _ (by simp)]; rfl)
    have ee7 : ((w.alloc (.cells #[.int .i64 r, .slice a n c, .bool o.a, .bool o.b, .bool o.c] 25)).alloc (.cells #[.string x.pod.id, .int .i64 x.pod.prio, .bool x.pod.crit, .int .i64 x.pod.r0, .int .i64 x.pod.r1, .int .i64 x.pod.r2, .int .i64 x.pod.l0, .int .i64 x.pod.l1, .int .i64 x.pod.l2, .string x.pod.img, .int .i64 x.pod.size, .int .i64 x.phase] 46)).cell? ⟨w.heap.size + 1, 7, none⟩ = some (.int .i64 x.pod.l1) := by first | (simp; done) | (rw [World.cell?_alloc_at _ _ _ _ (by simp)]; rfl) | (rw [World.cell?_alloc_past _ _ _ (by simp <;> omega), World.cell?_alloc_at _ _ _ _ (by simp)]; rfl) | (rw [World.cell?_alloc_past _ _ _ (by simp <;> omega), World.cell?_alloc_past _ _ _ (by simp <;> omega), World.cell?_alloc_at _ _ _ _ (by simp)]; rfl)
    have ee8 : ((w.alloc (.cells #[.int .i64 r, .slice a n c, .bool o.a, .bool o.b, .bool o.c] 25)).alloc (.cells #[.string x.pod.id, .int .i64 x.pod.prio, .bool x.pod.crit, .int .i64 x.pod.r0, .int .i64 x.pod.r1, .int .i64 x.pod.r2, .int .i64 x.pod.l0, .int .i64 x.pod.l1, .int .i64 x.pod.l2, .string x.pod.img, .int .i64 x.pod.size, .int .i64 x.phase] 46)).cell? ⟨w.heap.size + 1, 8, none⟩ = some (.int .i64 x.pod.l2) := by first | (simp; done) | (rw [World.cell?_alloc_at _ _ _ _ (by simp)]; rfl) | (rw [World.cell?_alloc_past _ _ _ (by simp <;> omega), World.cell?_alloc_at _ _ _ _ (by simp)]; rfl) | (rw [World.cell?_alloc_past _ _ _ (by simp <;> omega), World.cell?_alloc_past _ _ _ (by simp <;> omega), World.cell?_alloc_at _ _ _ _ (by simp)]; rfl)
    have ee9 : ((w.alloc (.cells #[.int .i64 r, .slice a n c, .bool o.a, .bool o.b, .bool o.c] 25)).alloc (.cells #[.string x.pod.id, .int .i64 x.pod.prio, .bool x.pod.crit, .int .i64 x.pod.r0, .int .i64 x.pod.r1, .int .i64 x.pod.r2, .int .i64 x.pod.l0, .int .i64 x.pod.l1, .int .i64 x.pod.l2, .string x.pod.img, .int .i64 x.pod.size, .int .i64 x.phase] 46)).cell? ⟨w.heap.size + 1, 9, none⟩ = some (.string x.pod.img) := by first | (simp; done) | (rw [World.cell?_alloc_at _ _ _ _ (by simp)]; rfl) | (rw [World.cell?_alloc_past _ _ _ (by simp <;> omega), World.cell?_alloc_at _ _ _ _ (by simp)]; rfl) | (rw [World.cell?_alloc_past _ _ _ (by simp <;> omega), World.cell?_alloc_past _ _ _ (by simp <;> omega), World.cell?_alloc_at _ _ _ _ (by simp)]; rfl)
    have ee10 : ((w.alloc (.cells #[.int .i64 r, .slice a n c, .bool o.a, .bool o.b, .bool o.c] 25)).alloc (.cells #[.string x.pod.id, .int .i64 x.pod.prio, .bool x.pod.crit, .int .i64 x.pod.r0, .int .i64 x.pod.r1, .int .i64 x.pod.r2, .int .i64 x.pod.l0, .int .i64 x.pod.l1, .int .i64 x.pod.l2, .string x.pod.img, .int .i64 x.pod.size, .int .i64 x.phase] 46)).cell? ⟨w.heap.size + 1, 10, none⟩ = some (.int .i64 x.pod.size) := by first | (simp; done) | (rw [World.cell?_alloc_at _ _ _ _ (by simp)]; rfl) | (rw [World.cell?_alloc_past _ _ _ (by simp <;> omega), World.cell?_alloc_at _ _ _ _ (by simp)]; rfl) | (rw [World.cell?_alloc_past _ _ _ (by simp <;> omega), World.cell?_alloc_past _ _ _ (by simp <;> omega), World.cell?_alloc_at _ _ _ _ (by simp)]; rfl)
    have ee11 : ((w.alloc (.cells #[.int .i64 r, .slice a n c, .bool o.a, .bool o.b, .bool o.c] 25)).alloc (.cells #[.string x.pod.id, .int .i64 x.pod.prio, .bool x.pod.crit, .int .i64 x.pod.r0, .int .i64 x.pod.r1, .int .i64 x.pod.r2, .int .i64 x.pod.l0, .int .i64 x.pod.l1, .int .i64 x.pod.l2, .string x.pod.img, .int .i64 x.pod.size, .int .i64 x.phase] 46)).cell? ⟨w.heap.size + 1, 11, none⟩ = some (.int .i64 x.phase) := by first | (simp; done) | (rw [World.cell?_alloc_at _ _ _ _ (by simp)]; rfl) | (rw [World.cell?_alloc_past _ _ _ (by simp <;> omega), World.cell?_alloc_at _ _ _ _ (by simp)]; rfl) | (rw [World.cell?_alloc_past _ _ _ (by simp <;> omega), World.cell?_alloc_past _ _ _ (by simp <;> omega), World.cell?_alloc_at _ _ _ _ (by simp)]; rfl)
    have hb2 := (by repeat (first | exact hbel | refine belAlloc ?_ _ | refine belDrew ?_ | refine belSet ?_ _ _ (by simp)) : Below w.heap.size w ((w.alloc (.cells #[.int .i64 r, .slice a n c, .bool o.a, .bool o.b, .bool o.c] 25)).alloc (.cells #[.string x.pod.id, .int .i64 x.pod.prio, .bool x.pod.crit, .int .i64 x.pod.r0, .int .i64 x.pod.r1, .int .i64 x.pod.r2, .int .i64 x.pod.l0, .int .i64 x.pod.l1, .int .i64 x.pod.l2, .string x.pod.img, .int .i64 x.pod.size, .int .i64 x.phase] 46)))
    replace hw := belStep hw hb2
    clear hb2 hbel
    generalize (w.alloc (.cells #[.int .i64 r, .slice a n c, .bool o.a, .bool o.b, .bool o.c] 25)).alloc (.cells #[.string x.pod.id, .int .i64 x.pod.prio, .bool x.pod.crit, .int .i64 x.pod.r0, .int .i64 x.pod.r1, .int .i64 x.pod.r2, .int .i64 x.pod.l0, .int .i64 x.pod.l1, .int .i64 x.pod.l2, .string x.pod.img, .int .i64 x.pod.size, .int .i64 x.phase] 46) = W1 at *
    replace ss0 := keep ss0
    replace ss1 := keep ss1
    replace ss2 := keep ss2
    replace ss3 := keep ss3
    replace ss4 := keep ss4
    replace ee0 := keep ee0
    replace ee1 := keep ee1
    replace ee2 := keep ee2
    replace ee3 := keep ee3
    replace ee4 := keep ee4
    replace ee5 := keep ee5
    replace ee6 := keep ee6
    replace ee7 := keep ee7
    replace ee8 := keep ee8
    replace ee9 := keep ee9
    replace ee10 := keep ee10
    replace ee11 := keep ee11
    have hbel : Below W1.heap.size W1 W1 := Below.refl _ _
    skip
    go_wp2_with (first | (go_at_call 11; (with_reducible refine (awake24 _).mono ?_); rintro e w1 ⟨rfl, hb1⟩; replace hbel := belStep hbel hb1; clear hb1) | (go_at_call 12; (with_reducible refine (CFW.out _ (belStep hw hbel)).mono ?_); rintro e wf ⟨rfl, hbf⟩; replace hbel := belStep hbel hbf; clear hbf; rcases fs with _ | _) | (go_at_call 15; (with_reducible refine (CRT.out _ (belStep hw hbel)).mono ?_); rintro e wf ⟨rfl, hbf⟩; replace hbel := belStep hbel hbf; clear hbf; rcases rs with _ | _) | (go_at_call 21; (with_reducible refine (CSM.out _).mono ?_); rintro e wf8 ⟨rfl, hbf8⟩; replace hbel := belStep hbel hbf8; clear hbf8; rcases sm with _ | _) | (go_at_call 22; (with_reducible refine (CRP.out _).mono ?_); rintro e wf9 ⟨rfl, hbf9⟩; replace hbel := belStep hbel hbf9; clear hbf9; rcases rp with _ | _))
    all_goals (go_ret; exact ⟨rfl, belStep hw hbel⟩)
  · have p1 : decide (x.phase < (1 : Int)) = false := decide_eq_false k1
    have p2 : decide ((3 : Int) < x.phase) = false := decide_eq_false k2
    have p3 : decide ((60 : Int) < (s.size : Int)) = true := decide_eq_true (by omega)
    have p4 : (60 : Int) < (s.size : Int) := by omega
    go_enter Try.func7, Try.ntmps7
    go_upto_region 1 with fail
    have ss0 : ((w.alloc (.cells #[.int .i64 r, .slice a n c, .bool o.a, .bool o.b, .bool o.c] 25)).alloc (.cells #[.string x.pod.id, .int .i64 x.pod.prio, .bool x.pod.crit, .int .i64 x.pod.r0, .int .i64 x.pod.r1, .int .i64 x.pod.r2, .int .i64 x.pod.l0, .int .i64 x.pod.l1, .int .i64 x.pod.l2, .string x.pod.img, .int .i64 x.pod.size, .int .i64 x.phase] 46)).cell? ⟨w.heap.size, 0, none⟩ = some (.int .i64 r) := by first | (simp; done) | (rw [World.cell?_alloc_at _ _ _ _ (by simp)]; rfl) | (rw [World.cell?_alloc_past _ _ _ (by simp <;> omega), World.cell?_alloc_at _ _ _ _ (by simp)]; rfl) | (rw [World.cell?_alloc_past _ _ _ (by simp <;> omega), World.cell?_alloc_past _ _ _ (by simp <;> omega), World.cell?_alloc_at _ _ _ _ (by simp)]; rfl)
    have ss1 : ((w.alloc (.cells #[.int .i64 r, .slice a n c, .bool o.a, .bool o.b, .bool o.c] 25)).alloc (.cells #[.string x.pod.id, .int .i64 x.pod.prio, .bool x.pod.crit, .int .i64 x.pod.r0, .int .i64 x.pod.r1, .int .i64 x.pod.r2, .int .i64 x.pod.l0, .int .i64 x.pod.l1, .int .i64 x.pod.l2, .string x.pod.img, .int .i64 x.pod.size, .int .i64 x.phase] 46)).cell? ⟨w.heap.size, 1, none⟩ = some (.slice a n c) := by first | (simp; done) | (rw [World.cell?_alloc_at _ _ _ _ (by simp)]; rfl) | (rw [World.cell?_alloc_past _ _ _ (by simp <;> omega), World.cell?_alloc_at _ _ _ _ (by simp)]; rfl) | (rw [World.cell?_alloc_past _ _ _ (by simp <;> omega), World.cell?_alloc_past _ _ _ (by simp <;> omega), World.cell?_alloc_at _ _ _ _ (by simp)]; rfl)
    have ss2 : ((w.alloc (.cells #[.int .i64 r, .slice a n c, .bool o.a, .bool o.b, .bool o.c] 25)).alloc (.cells #[.string x.pod.id, .int .i64 x.pod.prio, .bool x.pod.crit, .int .i64 x.pod.r0, .int .i64 x.pod.r1, .int .i64 x.pod.r2, .int .i64 x.pod.l0, .int .i64 x.pod.l1, .int .i64 x.pod.l2, .string x.pod.img, .int .i64 x.pod.size, .int .i64 x.phase] 46)).cell? ⟨w.heap.size, 2, none⟩ = some (.bool o.a) := by first | (simp; done) | (rw [World.cell?_alloc_at _ _ _ _ (by simp)]; rfl) | (rw [World.cell?_alloc_past _ _ _ (by simp <;> omega), World.cell?_alloc_at _ _ _ _ (by simp)]; rfl) | (rw [World.cell?_alloc_past _ _ _ (by simp <;> omega), World.cell?_alloc_past _ _ _ (by simp <;> omega), World.cell?_alloc_at _ _ _ _ (by simp)]; rfl)
    have ss3 : ((w.alloc (.cells #[.int .i64 r, .slice a n c, .bool o.a, .bool o.b, .bool o.c] 25)).alloc (.cells #[.string x.pod.id, .int .i64 x.pod.prio, .bool x.pod.crit, .int .i64 x.pod.r0, .int .i64 x.pod.r1, .int .i64 x.pod.r2, .int .i64 x.pod.l0, .int .i64 x.pod.l1, .int .i64 x.pod.l2, .string x.pod.img, .int .i64 x.pod.size, .int .i64 x.phase] 46)).cell? ⟨w.heap.size, 3, none⟩ = some (.bool o.b) := by first | (simp; done) | (rw [World.cell?_alloc_at _ _ _ _ (by simp)]; rfl) | (rw [World.cell?_alloc_past _ _ _ (by simp <;> omega), World.cell?_alloc_at _ _ _ _ (by simp)]; rfl) | (rw [World.cell?_alloc_past _ _ _ (by simp <;> omega), World.cell?_alloc_past _ _ _ (by simp <;> omega), World.cell?_alloc_at _ _ _ _ (by simp)]; rfl)
    have ss4 : ((w.alloc (.cells #[.int .i64 r, .slice a n c, .bool o.a, .bool o.b, .bool o.c] 25)).alloc (.cells #[.string x.pod.id, .int .i64 x.pod.prio, .bool x.pod.crit, .int .i64 x.pod.r0, .int .i64 x.pod.r1, .int .i64 x.pod.r2, .int .i64 x.pod.l0, .int .i64 x.pod.l1, .int .i64 x.pod.l2, .string x.pod.img, .int .i64 x.pod.size, .int .i64 x.phase] 46)).cell? ⟨w.heap.size, 4, none⟩ = some (.bool o.c) := by first | (simp; done) | (rw [World.cell?_alloc_at _ _ _ _ (by simp)]; rfl) | (rw [World.cell?_alloc_past _ _ _ (by simp <;> omega), World.cell?_alloc_at _ _ _ _ (by simp)]; rfl) | (rw [World.cell?_alloc_past _ _ _ (by simp <;> omega), World.cell?_alloc_past _ _ _ (by simp <;> omega), World.cell?_alloc_at _ _ _ _ (by simp)]; rfl)
    have ee0 : ((w.alloc (.cells #[.int .i64 r, .slice a n c, .bool o.a, .bool o.b, .bool o.c] 25)).alloc (.cells #[.string x.pod.id, .int .i64 x.pod.prio, .bool x.pod.crit, .int .i64 x.pod.r0, .int .i64 x.pod.r1, .int .i64 x.pod.r2, .int .i64 x.pod.l0, .int .i64 x.pod.l1, .int .i64 x.pod.l2, .string x.pod.img, .int .i64 x.pod.size, .int .i64 x.phase] 46)).cell? ⟨w.heap.size + 1, 0, none⟩ = some (.string x.pod.id) := by first | (simp; done) | (rw [World.cell?_alloc_at _ _ _ _ (by simp)]; rfl) | (rw [World.cell?_alloc_past _ _ _ (by simp <;> omega), World.cell?_alloc_at _ _ _ _ (by simp)]; rfl) | (rw [World.cell?_alloc_past _ _ _ (by simp <;> omega), World.cell?_alloc_past _ _ _ (by simp <;> omega), World.cell?_alloc_at _ _ _ _ (by simp)]; rfl)
    have ee1 : ((w.alloc (.cells #[.int .i64 r, .slice a n c, .bool o.a, .bool o.b, .bool o.c] 25)).alloc (.cells #[.string x.pod.id, .int .i64 x.pod.prio, .bool x.pod.crit, .int .i64 x.pod.r0, .int .i64 x.pod.r1, .int .i64 x.pod.r2, .int .i64 x.pod.l0, .int .i64 x.pod.l1, .int .i64 x.pod.l2, .string x.pod.img, .int .i64 x.pod.size, .int .i64 x.phase] 46)).cell? ⟨w.heap.size + 1, 1, none⟩ = some (.int .i64 x.pod.prio) := by first | (simp; done) | (rw [World.cell?_alloc_at _ _ _ _ (by simp)]; rfl) | (rw [World.cell?_alloc_past _ _ _ (by simp <;> omega), World.cell?_alloc_at _ _ _ _ (by simp)]; rfl) | (rw [World.cell?_alloc_past _ _ _ (by simp <;> omega), World.cell?_alloc_past _ _ _ (by simp <;> omega), World.cell?_alloc_at _ _ _ _ (by simp)]; rfl)
    have ee2 : ((w.alloc (.cells #[.int .i64 r, .slice a n c, .bool o.a, .bool o.b, .bool o.c] 25)).alloc (.cells #[.string x.pod.id, .int .i64 x.pod.prio, .bool x.pod.crit, .int .i64 x.pod.r0, .int .i64 x.pod.r1, .int .i64 x.pod.r2, .int .i64 x.pod.l0, .int .i64 x.pod.l1, .int .i64 x.pod.l2, .string x.pod.img, .int .i64 x.pod.size, .int .i64 x.phase] 46)).cell? ⟨w.heap.size + 1, 2, none⟩ = some (.bool x.pod.crit) := by first | (simp; done) | (rw [World.cell?_alloc_at _ _ _ _ (by simp)]; rfl) | (rw [World.cell?_alloc_past _ _ _ (by simp <;> omega), World.cell?_alloc_at _ _ _ _ (by simp)]; rfl) | (rw [World.cell?_alloc_past _ _ _ (by simp <;> omega), World.cell?_alloc_past _ _ _ (by simp <;> omega), World.cell?_alloc_at _ _ _ _ (by simp)]; rfl)
    have ee3 : ((w.alloc (.cells #[.int .i64 r, .slice a n c, .bool o.a, .bool o.b, .bool o.c] 25)).alloc (.cells #[.string x.pod.id, .int .i64 x.pod.prio, .bool x.pod.crit, .int .i64 x.pod.r0, .int .i64 x.pod.r1, .int .i64 x.pod.r2, .int .i64 x.pod.l0, .int .i64 x.pod.l1, .int .i64 x.pod.l2, .string x.pod.img, .int .i64 x.pod.size, .int .i64 x.phase] 46)).cell? ⟨w.heap.size + 1, 3, none⟩ = some (.int .i64 x.pod.r0) := by first | (simp; done) | (rw [World.cell?_alloc_at _ _ _ _ (by simp)]; rfl) | (rw [World.cell?_alloc_past _ _ _ (by simp <;> omega), World.cell?_alloc_at _ _ _ _ (by simp)]; rfl) | (rw [World.cell?_alloc_past _ _ _ (by simp <;> omega), World.cell?_alloc_past _ _ _ (by simp <;> omega), World.cell?_alloc_at _ _ _ _ (by simp)]; rfl)
    have ee4 : ((w.alloc (.cells #[.int .i64 r, .slice a n c, .bool o.a, .bool o.b, .bool o.c] 25)).alloc (.cells #[.string x.pod.id, .int .i64 x.pod.prio, .bool x.pod.crit, .int .i64 x.pod.r0, .int .i64 x.pod.r1, .int .i64 x.pod.r2, .int .i64 x.pod.l0, .int .i64 x.pod.l1, .int .i64 x.pod.l2, .string x.pod.img, .int .i64 x.pod.size, .int .i64 x.phase] 46)).cell? ⟨w.heap.size + 1, 4, none⟩ = some (.int .i64 x.pod.r1) := by first | (simp; done) | (rw [World.cell?_alloc_at _ _ _ _ (by simp)]; rfl) | (rw [World.cell?_alloc_past _ _ _ (by simp <;> omega), World.cell?_alloc_at _ _ _ _ (by simp)]; rfl) | (rw [World.cell?_alloc_past _ _ _ (by simp <;> omega), World.cell?_alloc_past _ _ _ (by simp <;> omega), World.cell?_alloc_at _ _ _ _ (by simp)]; rfl)
    have ee5 : ((w.alloc (.cells #[.int .i64 r, .slice a n c, .bool o.a, .bool o.b, .bool o.c] 25)).alloc (.cells #[.string x.pod.id, .int .i64 x.pod.prio, .bool x.pod.crit, .int .i64 x.pod.r0, .int .i64 x.pod.r1, .int .i64 x.pod.r2, .int .i64 x.pod.l0, .int .i64 x.pod.l1, .int .i64 x.pod.l2, .string x.pod.img, .int .i64 x.pod.size, .int .i64 x.phase] 46)).cell? ⟨w.heap.size + 1, 5, none⟩ = some (.int .i64 x.pod.r2) := by first | (simp; done) | (rw [World.cell?_alloc_at _ _ _ _ (by simp)]; rfl) | (rw [World.cell?_alloc_past _ _ _ (by simp <;> omega), World.cell?_alloc_at _ _ _ _ (by simp)]; rfl) | (rw [World.cell?_alloc_past _ _ _ (by simp <;> omega), World.cell?_alloc_past _ _ _ (by simp <;> omega), World.cell?_alloc_at _ _ _ _ (by simp)]; rfl)
    have ee6 : ((w.alloc (.cells #[.int .i64 r, .slice a n c, .bool o.a, .bool o.b, .bool o.c] 25)).alloc (.cells #[.string x.pod.id, .int .i64 x.pod.prio, .bool x.pod.crit, .int .i64 x.pod.r0, .int .i64 x.pod.r1, .int .i64 x.pod.r2, .int .i64 x.pod.l0, .int .i64 x.pod.l1, .int .i64 x.pod.l2, .string x.pod.img, .int .i64 x.pod.size, .int .i64 x.phase] 46)).cell? ⟨w.heap.size + 1, 6, none⟩ = some (.int .i64 x.pod.l0) := by first | (simp; done) | (rw [World.cell?_alloc_at _ _ _ _ (by simp)]; rfl) | (rw [World.cell?_alloc_past _ _ _ (by simp <;> omega), World.cell?_alloc_at _ _ _ _ (by simp)]; rfl) | (rw [World.cell?_alloc_past _ _ _ (by simp <;> omega), World.cell?_alloc_past _ _ _ (by simp <;> omega), World.cell?_alloc_at _ _ _ _ (by simp)]; rfl)
    have ee7 : ((w.alloc (.cells #[.int .i64 r, .slice a n c, .bool o.a, .bool o.b, .bool o.c] 25)).alloc (.cells #[.string x.pod.id, .int .i64 x.pod.prio, .bool x.pod.crit, .int .i64 x.pod.r0, .int .i64 x.pod.r1, .int .i64 x.pod.r2, .int .i64 x.pod.l0, .int .i64 x.pod.l1, .int .i64 x.pod.l2, .string x.pod.img, .int .i64 x.pod.size, .int .i64 x.phase] 46)).cell? ⟨w.heap.size + 1, 7, none⟩ = some (.int .i64 x.pod.l1) := by first | (simp; done) | (rw [World.cell?_alloc_at _ _ _ _ (by simp)]; rfl) | (rw [World.cell?_alloc_past _ _ _ (by simp <;> omega), World.cell?_alloc_at _ _ _ _ (by simp)]; rfl) | (rw [World.cell?_alloc_past _ _ _ (by simp <;> omega), World.cell?_alloc_past _ _ _ (by simp <;> omega), World.cell?_alloc_at _ _ _ _ (by simp)]; rfl)
    have ee8 : ((w.alloc (.cells #[.int .i64 r, .slice a n c, .bool o.a, .bool o.b, .bool o.c] 25)).alloc (.cells #[.string x.pod.id, .int .i64 x.pod.prio, .bool x.pod.crit, .int .i64 x.pod.r0, .int .i64 x.pod.r1, .int .i64 x.pod.r2, .int .i64 x.pod.l0, .int .i64 x.pod.l1, .int .i64 x.pod.l2, .string x.pod.img, .int .i64 x.pod.size, .int .i64 x.phase] 46)).cell? ⟨w.heap.size + 1, 8, none⟩ = some (.int .i64 x.pod.l2) := by first | (simp; done) | (rw [World.cell?_alloc_at _ _ _ _ (by simp)]; rfl) | (rw [World.cell?_alloc_past _ _ _ (by simp <;> omega), World.cell?_alloc_at _ _ _ _ (by simp)]; rfl) | (rw [World.cell?_alloc_past _ _ _ (by simp <;> omega), World.cell?_alloc_past _ _ _ (by simp <;> omega), World.cell?_alloc_at _ _ _ _ (by simp)]; rfl)
    have ee9 : ((w.alloc (.cells #[.int .i64 r, .slice a n c, .bool o.a, .bool o.b, .bool o.c] 25)).alloc (.cells #[.string x.pod.id, .int .i64 x.pod.prio, .bool x.pod.crit, .int .i64 x.pod.r0, .int .i64 x.pod.r1, .int .i64 x.pod.r2, .int .i64 x.pod.l0, .int .i64 x.pod.l1, .int .i64 x.pod.l2, .string x.pod.img, .int .i64 x.pod.size, .int .i64 x.phase] 46)).cell? ⟨w.heap.size + 1, 9, none⟩ = some (.string x.pod.img) := by first | (simp; done) | (rw [World.cell?_alloc_at _ _ _ _ (by simp)]; rfl) | (rw [World.cell?_alloc_past _ _ _ (by simp <;> omega), World.cell?_alloc_at _ _ _ _ (by simp)]; rfl) | (rw [World.cell?_alloc_past _ _ _ (by simp <;> omega), World.cell?_alloc_past _ _ _ (by simp <;> omega), World.cell?_alloc_at _ _ _ _ (by simp)]; rfl)
    have ee10 : ((w.alloc (.cells #[.int .i64 r, .slice a n c, .bool o.a, .bool o.b, .bool o.c] 25)).alloc (.cells #[.string x.pod.id, .int .i64 x.pod.prio, .bool x.pod.crit, .int .i64 x.pod.r0, .int .i64 x.pod.r1, .int .i64 x.pod.r2, .int .i64 x.pod.l0, .int .i64 x.pod.l1, .int .i64 x.pod.l2, .string x.pod.img, .int .i64 x.pod.size, .int .i64 x.phase] 46)).cell? ⟨w.heap.size + 1, 10, none⟩ = some (.int .i64 x.pod.size) := by first | (simp; done) | (rw [World.cell?_alloc_at _ _ _ _ (by simp)]; rfl) | (rw [World.cell?_alloc_past _ _ _ (by simp <;> omega), World.cell?_alloc_at _ _ _ _ (by simp)]; rfl) | (rw [World.cell?_alloc_past _ _ _ (by simp <;> omega), World.cell?_alloc_past _ _ _ (by simp <;> omega), World.cell?_alloc_at _ _ _ _ (by simp)]; rfl)
    have ee11 : ((w.alloc (.cells #[.int .i64 r, .slice a n c, .bool o.a, .bool o.b, .bool o.c] 25)).alloc (.cells #[.string x.pod.id, .int .i64 x.pod.prio, .bool x.pod.crit, .int .i64 x.pod.r0, .int .i64 x.pod.r1, .int .i64 x.pod.r2, .int .i64 x.pod.l0, .int .i64 x.pod.l1, .int .i64 x.pod.l2, .string x.pod.img, .int .i64 x.pod.size, .int .i64 x.phase] 46)).cell? ⟨w.heap.size + 1, 11, none⟩ = some (.int .i64 x.phase) := by first | (simp; done) | (rw [World.cell?_alloc_at _ _ _ _ (by simp)]; rfl) | (rw [World.cell?_alloc_past _ _ _ (by simp <;> omega), World.cell?_alloc_at _ _ _ _ (by simp)]; rfl) | (rw [World.cell?_alloc_past _ _ _ (by simp <;> omega), World.cell?_alloc_past _ _ _ (by simp <;> omega), World.cell?_alloc_at _ _ _ _ (by simp)]; rfl)
    have hb2 := (by repeat (first | exact hbel | refine belAlloc ?_ _ | refine belDrew ?_ | refine belSet ?_ _ _ (by simp)) : Below w.heap.size w ((w.alloc (.cells #[.int .i64 r, .slice a n c, .bool o.a, .bool o.b, .bool o.c] 25)).alloc (.cells #[.string x.pod.id, .int .i64 x.pod.prio, .bool x.pod.crit, .int .i64 x.pod.r0, .int .i64 x.pod.r1, .int .i64 x.pod.r2, .int .i64 x.pod.l0, .int .i64 x.pod.l1, .int .i64 x.pod.l2, .string x.pod.img, .int .i64 x.pod.size, .int .i64 x.phase] 46)))
    replace hw := belStep hw hb2
    clear hb2 hbel
    generalize (w.alloc (.cells #[.int .i64 r, .slice a n c, .bool o.a, .bool o.b, .bool o.c] 25)).alloc (.cells #[.string x.pod.id, .int .i64 x.pod.prio, .bool x.pod.crit, .int .i64 x.pod.r0, .int .i64 x.pod.r1, .int .i64 x.pod.r2, .int .i64 x.pod.l0, .int .i64 x.pod.l1, .int .i64 x.pod.l2, .string x.pod.img, .int .i64 x.pod.size, .int .i64 x.phase] 46) = W1 at *
    replace ss0 := keep ss0
    replace ss1 := keep ss1
    replace ss2 := keep ss2
    replace ss3 := keep ss3
    replace ss4 := keep ss4
    replace ee0 := keep ee0
    replace ee1 := keep ee1
    replace ee2 := keep ee2
    replace ee3 := keep ee3
    replace ee4 := keep ee4
    replace ee5 := keep ee5
    replace ee6 := keep ee6
    replace ee7 := keep ee7
    replace ee8 := keep ee8
    replace ee9 := keep ee9
    replace ee10 := keep ee10
    replace ee11 := keep ee11
    have hbel : Below W1.heap.size W1 W1 := Below.refl _ _
    skip
    go_wp2_with (first | (go_at_call 11; (with_reducible refine (awake24 _).mono ?_); rintro e w1 ⟨rfl, hb1⟩; replace hbel := belStep hbel hb1; clear hb1) | (go_at_call 12; (with_reducible refine (CFW.out _ (belStep hw hbel)).mono ?_); rintro e wf ⟨rfl, hbf⟩; replace hbel := belStep hbel hbf; clear hbf; rcases fs with _ | _) | (go_at_call 15; (with_reducible refine (CRT.out _ (belStep hw hbel)).mono ?_); rintro e wf ⟨rfl, hbf⟩; replace hbel := belStep hbel hbf; clear hbf; rcases rs with _ | _) | (go_at_call 21; (with_reducible refine (CSM.out _).mono ?_); rintro e wf8 ⟨rfl, hbf8⟩; replace hbel := belStep hbel hbf8; clear hbf8; rcases sm with _ | _) | (go_at_call 22; (with_reducible refine (CRP.out _).mono ?_); rintro e wf9 ⟨rfl, hbf9⟩; replace hbel := belStep hbel hbf9; clear hbf9; rcases rp with _ | _))
    all_goals (go_ret; exact ⟨rfl, belStep hw hbel⟩)
  · have p1 : decide (x.phase < (1 : Int)) = false := decide_eq_false k1
    have p2 : decide ((3 : Int) < x.phase) = false := decide_eq_false k2
    have p3 : decide ((60 : Int) < (s.size : Int)) = false := decide_eq_false (by omega)
    have p4 : ¬ (60 : Int) < (s.size : Int) := by omega
    have HPH := Lib.hid (show phB x.phase = true by unfold phB; rw [decide_eq_true (by omega), decide_eq_true (by omega)]; rfl)
    go_enter Try.func7, Try.ntmps7
    go_upto_region 1 with fail
    have ss0 : ((w.alloc (.cells #[.int .i64 r, .slice a n c, .bool o.a, .bool o.b, .bool o.c] 25)).alloc (.cells #[.string x.pod.id, .int .i64 x.pod.prio, .bool x.pod.crit, .int .i64 x.pod.r0, .int .i64 x.pod.r1, .int .i64 x.pod.r2, .int .i64 x.pod.l0, .int .i64 x.pod.l1, .int .i64 x.pod.l2, .string x.pod.img, .int .i64 x.pod.size, .int .i64 x.phase] 46)).cell? ⟨w.heap.size, 0, none⟩ = some (.int .i64 r) := by first | (simp; done) | (rw [World.cell?_alloc_at _ _ _ _ (by simp)]; rfl) | (rw [World.cell?_alloc_past _ _ _ (by simp <;> omega), World.cell?_alloc_at _ _ _ _ (by simp)]; rfl) | (rw [World.cell?_alloc_past _ _ _ (by simp <;> omega), World.cell?_alloc_past _ _ _ (by simp <;> omega), World.cell?_alloc_at _ _ _ _ (by simp)]; rfl)
    have ss1 : ((w.alloc (.cells #[.int .i64 r, .slice a n c, .bool o.a, .bool o.b, .bool o.c] 25)).alloc (.cells #[.string x.pod.id, .int .i64 x.pod.prio, .bool x.pod.crit, .int .i64 x.pod.r0, .int .i64 x.pod.r1, .int .i64 x.pod.r2, .int .i64 x.pod.l0, .int .i64 x.pod.l1, .int .i64 x.pod.l2, .string x.pod.img, .int .i64 x.pod.size, .int .i64 x.phase] 46)).cell? ⟨w.heap.size, 1, none⟩ = some (.slice a n c) := by first | (simp; done) | (rw [World.cell?_alloc_at _ _ _ _ (by simp)]; rfl) | (rw [World.cell?_alloc_past _ _ _ (by simp <;> omega), World.cell?_alloc_at _ _ _ _ (by simp)]; rfl) | (rw [World.cell?_alloc_past _ _ _ (by simp <;> omega), World.cell?_alloc_past _ _ _ (by simp <;> omega), World.cell?_alloc_at _ _ _ _ (by simp)]; rfl)
    have ss2 : ((w.alloc (.cells #[.int .i64 r, .slice a n c, .bool o.a, .bool o.b, .bool o.c] 25)).alloc (.cells #[.string x.pod.id, .int .i64 x.pod.prio, .bool x.pod.crit, .int .i64 x.pod.r0, .int .i64 x.pod.r1, .int .i64 x.pod.r2, .int .i64 x.pod.l0, .int .i64 x.pod.l1, .int .i64 x.pod.l2, .string x.pod.img, .int .i64 x.pod.size, .int .i64 x.phase] 46)).cell? ⟨w.heap.size, 2, none⟩ = some (.bool o.a) := by first | (simp; done) | (rw [World.cell?_alloc_at _ _ _ _ (by simp)]; rfl) | (rw [World.cell?_alloc_past _ _ _ (by simp <;> omega), World.cell?_alloc_at _ _ _ _ (by simp)]; rfl) | (rw [World.cell?_alloc_past _ _ _ (by simp <;> omega), World.cell?_alloc_past _ _ _ (by simp <;> omega), World.cell?_alloc_at _ _ _ _ (by simp)]; rfl)
    have ss3 : ((w.alloc (.cells #[.int .i64 r, .slice a n c, .bool o.a, .bool o.b, .bool o.c] 25)).alloc (.cells #[.string x.pod.id, .int .i64 x.pod.prio, .bool x.pod.crit, .int .i64 x.pod.r0, .int .i64 x.pod.r1, .int .i64 x.pod.r2, .int .i64 x.pod.l0, .int .i64 x.pod.l1, .int .i64 x.pod.l2, .string x.pod.img, .int .i64 x.pod.size, .int .i64 x.phase] 46)).cell? ⟨w.heap.size, 3, none⟩ = some (.bool o.b) := by first | (simp; done) | (rw [World.cell?_alloc_at _ _ _ _ (by simp)]; rfl) | (rw [World.cell?_alloc_past _ _ _ (by simp <;> omega), World.cell?_alloc_at _ _ _ _ (by simp)]; rfl) | (rw [World.cell?_alloc_past _ _ _ (by simp <;> omega), World.cell?_alloc_past _ _ _ (by simp <;> omega), World.cell?_alloc_at _ _ _ _ (by simp)]; rfl)
    have ss4 : ((w.alloc (.cells #[.int .i64 r, .slice a n c, .bool o.a, .bool o.b, .bool o.c] 25)).alloc (.cells #[.string x.pod.id, .int .i64 x.pod.prio, .bool x.pod.crit, .int .i64 x.pod.r0, .int .i64 x.pod.r1, .int .i64 x.pod.r2, .int .i64 x.pod.l0, .int .i64 x.pod.l1, .int .i64 x.pod.l2, .string x.pod.img, .int .i64 x.pod.size, .int .i64 x.phase] 46)).cell? ⟨w.heap.size, 4, none⟩ = some (.bool o.c) := by first | (simp; done) | (rw [World.cell?_alloc_at _ _ _ _ (by simp)]; rfl) | (rw [World.cell?_alloc_past _ _ _ (by simp <;> omega), World.cell?_alloc_at _ _ _ _ (by simp)]; rfl) | (rw [World.cell?_alloc_past _ _ _ (by simp <;> omega), World.cell?_alloc_past _ _ _ (by simp <;> omega), World.cell?_alloc_at _ _ _ _ (by simp)]; rfl)
    have ee0 : ((w.alloc (.cells #[.int .i64 r, .slice a n c, .bool o.a, .bool o.b, .bool o.c] 25)).alloc (.cells #[.string x.pod.id, .int .i64 x.pod.prio, .bool x.pod.crit, .int .i64 x.pod.r0, .int .i64 x.pod.r1, .int .i64 x.pod.r2, .int .i64 x.pod.l0, .int .i64 x.pod.l1, .int .i64 x.pod.l2, .string x.pod.img, .int .i64 x.pod.size, .int .i64 x.phase] 46)).cell? ⟨w.heap.size + 1, 0, none⟩ = some (.string x.pod.id) := by first | (simp; done) | (rw [World.cell?_alloc_at _ _ _ _ (by simp)]; rfl) | (rw [World.cell?_alloc_past _ _ _ (by simp <;> omega), World.cell?_alloc_at _ _ _ _ (by simp)]; rfl) | (rw [World.cell?_alloc_past _ _ _ (by simp <;> omega), World.cell?_alloc_past _ _ _ (by simp <;> omega), World.cell?_alloc_at _ _ _ _ (by simp)]; rfl)
    have ee1 : ((w.alloc (.cells #[.int .i64 r, .slice a n c, .bool o.a, .bool o.b, .bool o.c] 25)).alloc (.cells #[.string x.pod.id, .int .i64 x.pod.prio, .bool x.pod.crit, .int .i64 x.pod.r0, .int .i64 x.pod.r1, .int .i64 x.pod.r2, .int .i64 x.pod.l0, .int .i64 x.pod.l1, .int .i64 x.pod.l2, .string x.pod.img, .int .i64 x.pod.size, .int .i64 x.phase] 46)).cell? ⟨w.heap.size + 1, 1, none⟩ = some (.int .i64 x.pod.prio) := by first | (simp; done) | (rw [World.cell?_alloc_at _ _ _ _ (by simp)]; rfl) | (rw [World.cell?_alloc_past _ _ _ (by simp <;> omega), World.cell?_alloc_at _ _ _ _ (by simp)]; rfl) | (rw [World.cell?_alloc_past _ _ _ (by simp <;> omega), World.cell?_alloc_past _ _ _ (by simp <;> omega), World.cell?_alloc_at _ _ _ _ (by simp)]; rfl)
    have ee2 : ((w.alloc (.cells #[.int .i64 r, .slice a n c, .bool o.a, .bool o.b, .bool o.c] 25)).alloc (.cells #[.string x.pod.id, .int .i64 x.pod.prio, .bool x.pod.crit, .int .i64 x.pod.r0, .int .i64 x.pod.r1, .int .i64 x.pod.r2, .int .i64 x.pod.l0, .int .i64 x.pod.l1, .int .i64 x.pod.l2, .string x.pod.img, .int .i64 x.pod.size, .int .i64 x.phase] 46)).cell? ⟨w.heap.size + 1, 2, none⟩ = some (.bool x.pod.crit) := by first | (simp; done) | (rw [World.cell?_alloc_at _ _ _ _ (by simp)]; rfl) | (rw [World.cell?_alloc_past _ _ _ (by simp <;> omega), World.cell?_alloc_at _ _ _ _ (by simp)]; rfl) | (rw [World.cell?_alloc_past _ _ _ (by simp <;> omega), World.cell?_alloc_past _ _ _ (by simp <;> omega), World.cell?_alloc_at _ _ _ _ (by simp)]; rfl)
    have ee3 : ((w.alloc (.cells #[.int .i64 r, .slice a n c, .bool o.a, .bool o.b, .bool o.c] 25)).alloc (.cells #[.string x.pod.id, .int .i64 x.pod.prio, .bool x.pod.crit, .int .i64 x.pod.r0, .int .i64 x.pod.r1, .int .i64 x.pod.r2, .int .i64 x.pod.l0, .int .i64 x.pod.l1, .int .i64 x.pod.l2, .string x.pod.img, .int .i64 x.pod.size, .int .i64 x.phase] 46)).cell? ⟨w.heap.size + 1, 3, none⟩ = some (.int .i64 x.pod.r0) := by first | (simp; done) | (rw [World.cell?_alloc_at _ _ _ _ (by simp)]; rfl) | (rw [World.cell?_alloc_past _ _ _ (by simp <;> omega), World.cell?_alloc_at _ _ _ _ (by simp)]; rfl) | (rw [World.cell?_alloc_past _ _ _ (by simp <;> omega), World.cell?_alloc_past _ _ _ (by simp <;> omega), World.cell?_alloc_at _ _ _ _ (by simp)]; rfl)
    have ee4 : ((w.alloc (.cells #[.int .i64 r, .slice a n c, .bool o.a, .bool o.b, .bool o.c] 25)).alloc (.cells #[.string x.pod.id, .int .i64 x.pod.prio, .bool x.pod.crit, .int .i64 x.pod.r0, .int .i64 x.pod.r1, .int .i64 x.pod.r2, .int .i64 x.pod.l0, .int .i64 x.pod.l1, .int .i64 x.pod.l2, .string x.pod.img, .int .i64 x.pod.size, .int .i64 x.phase] 46)).cell? ⟨w.heap.size + 1, 4, none⟩ = some (.int .i64 x.pod.r1) := by first | (simp; done) | (rw [World.cell?_alloc_at _ _ _ _ (by simp)]; rfl) | (rw [World.cell?_alloc_past _ _ _ (by simp <;> omega), World.cell?_alloc_at _ _ _ _ (by simp)]; rfl) | (rw [World.cell?_alloc_past _ _ _ (by simp <;> omega), World.cell?_alloc_past _ _ _ (by simp <;> omega), World.cell?_alloc_at _ _ _ _ (by simp)]; rfl)
    have ee5 : ((w.alloc (.cells #[.int .i64 r, .slice a n c, .bool o.a, .bool o.b, .bool o.c] 25)).alloc (.cells #[.string x.pod.id, .int .i64 x.pod.prio, .bool x.pod.crit, .int .i64 x.pod.r0, .int .i64 x.pod.r1, .int .i64 x.pod.r2, .int .i64 x.pod.l0, .int .i64 x.pod.l1, .int .i64 x.pod.l2, .string x.pod.img, .int .i64 x.pod.size, .int .i64 x.phase] 46)).cell? ⟨w.heap.size + 1, 5, none⟩ = some (.int .i64 x.pod.r2) := by first | (simp; done) | (rw [World.cell?_alloc_at _ _ _ _ (by simp)]; rfl) | (rw [World.cell?_alloc_past _ _ _ (by simp <;> omega), World.cell?_alloc_at _ _ _ _ (by simp)]; rfl) | (rw [World.cell?_alloc_past _ _ _ (by simp <;> omega), World.cell?_alloc_past _ _ _ (by simp <;> omega), World.cell?_alloc_at _ _ _ _ (by simp)]; rfl)
    have ee6 : ((w.alloc (.cells #[.int .i64 r, .slice a n c, .bool o.a, .bool o.b, .bool o.c] 25)).alloc (.cells #[.string x.pod.id, .int .i64 x.pod.prio, .bool x.pod.crit, .int .i64 x.pod.r0, .int .i64 x.pod.r1, .int .i64 x.pod.r2, .int .i64 x.pod.l0, .int .i64 x.pod.l1, .int .i64 x.pod.l2, .string x.pod.img, .int .i64 x.pod.size, .int .i64 x.phase] 46)).cell? ⟨w.heap.size + 1, 6, none⟩ = some (.int .i64 x.pod.l0) := by first | (simp; done) | (rw [World.cell?_alloc_at _ _ _ _ (by simp)]; rfl) | (rw [World.cell?_alloc_past _ _ _ (by simp <;> omega), World.cell?_alloc_at _ _ _ _ (by simp)]; rfl) | (rw [World.cell?_alloc_past _ _ _ (by simp <;> omega), World.cell?_alloc_past _ _ _ (by simp <;> omega), World.cell?_alloc_at _ _ _ _ (by simp)]; rfl)
    have ee7 : ((w.alloc (.cells #[.int .i64 r, .slice a n c, .bool o.a, .bool o.b, .bool o.c] 25)).alloc (.cells #[.string x.pod.id, .int .i64 x.pod.prio, .bool x.pod.crit, .int .i64 x.pod.r0, .int .i64 x.pod.r1, .int .i64 x.pod.r2, .int .i64 x.pod.l0, .int .i64 x.pod.l1, .int .i64 x.pod.l2, .string x.pod.img, .int .i64 x.pod.size, .int .i64 x.phase] 46)).cell? ⟨w.heap.size + 1, 7, none⟩ = some (.int .i64 x.pod.l1) := by first | (simp; done) | (rw [World.cell?_alloc_at _ _ _ _ (by simp)]; rfl) | (rw [World.cell?_alloc_past _ _ _ (by simp <;> omega), World.cell?_alloc_at _ _ _ _ (by simp)]; rfl) | (rw [World.cell?_alloc_past _ _ _ (by simp <;> omega), World.cell?_alloc_past _ _ _ (by simp <;> omega), World.cell?_alloc_at _ _ _ _ (by simp)]; rfl)
    have ee8 : ((w.alloc (.cells #[.int .i64 r, .slice a n c, .bool o.a, .bool o.b, .bool o.c] 25)).alloc (.cells #[.string x.pod.id, .int .i64 x.pod.prio, .bool x.pod.crit, .int .i64 x.pod.r0, .int .i64 x.pod.r1, .int .i64 x.pod.r2, .int .i64 x.pod.l0, .int .i64 x.pod.l1, .int .i64 x.pod.l2, .string x.pod.img, .int .i64 x.pod.size, .int .i64 x.phase] 46)).cell? ⟨w.heap.size + 1, 8, none⟩ = some (.int .i64 x.pod.l2) := by first | (simp; done) | (rw [World.cell?_alloc_at _ _ _ _ (by simp)]; rfl) | (rw [World.cell?_alloc_past _ _ _ (by simp <;> omega), World.cell?_alloc_at _ _ _ _ (by simp)]; rfl) | (rw [World.cell?_alloc_past _ _ _ (by simp <;> omega), World.cell?_alloc_past _ _ _ (by simp <;> omega), World.cell?_alloc_at _ _ _ _ (by simp)]; rfl)
    have ee9 : ((w.alloc (.cells #[.int .i64 r, .slice a n c, .bool o.a, .bool o.b, .bool o.c] 25)).alloc (.cells #[.string x.pod.id, .int .i64 x.pod.prio, .bool x.pod.crit, .int .i64 x.pod.r0, .int .i64 x.pod.r1, .int .i64 x.pod.r2, .int .i64 x.pod.l0, .int .i64 x.pod.l1, .int .i64 x.pod.l2, .string x.pod.img, .int .i64 x.pod.size, .int .i64 x.phase] 46)).cell? ⟨w.heap.size + 1, 9, none⟩ = some (.string x.pod.img) := by first | (simp; done) | (rw [World.cell?_alloc_at _ _ _ _ (by simp)]; rfl) | (rw [World.cell?_alloc_past _ _ _ (by simp <;> omega), World.cell?_alloc_at _ _ _ _ (by simp)]; rfl) | (rw [World.cell?_alloc_past _ _ _ (by simp <;> omega), World.cell?_alloc_past _ _ _ (by simp <;> omega), World.cell?_alloc_at _ _ _ _ (by simp)]; rfl)
    have ee10 : ((w.alloc (.cells #[.int .i64 r, .slice a n c, .bool o.a, .bool o.b, .bool o.c] 25)).alloc (.cells #[.string x.pod.id, .int .i64 x.pod.prio, .bool x.pod.crit, .int .i64 x.pod.r0, .int .i64 x.pod.r1, .int .i64 x.pod.r2, .int .i64 x.pod.l0, .int .i64 x.pod.l1, .int .i64 x.pod.l2, .string x.pod.img, .int .i64 x.pod.size, .int .i64 x.phase] 46)).cell? ⟨w.heap.size + 1, 10, none⟩ = some (.int .i64 x.pod.size) := by first | (simp; done) | (rw [World.cell?_alloc_at _ _ _ _ (by simp)]; rfl) | (rw [World.cell?_alloc_past _ _ _ (by simp <;> omega), World.cell?_alloc_at _ _ _ _ (by simp)]; rfl) | (rw [World.cell?_alloc_past _ _ _ (by simp <;> omega), World.cell?_alloc_past _ _ _ (by simp <;> omega), World.cell?_alloc_at _ _ _ _ (by simp)]; rfl)
    have ee11 : ((w.alloc (.cells #[.int .i64 r, .slice a n c, .bool o.a, .bool o.b, .bool o.c] 25)).alloc (.cells #[.string x.pod.id, .int .i64 x.pod.prio, .bool x.pod.crit, .int .i64 x.pod.r0, .int .i64 x.pod.r1, .int .i64 x.pod.r2, .int .i64 x.pod.l0, .int .i64 x.pod.l1, .int .i64 x.pod.l2, .string x.pod.img, .int .i64 x.pod.size, .int .i64 x.phase] 46)).cell? ⟨w.heap.size + 1, 11, none⟩ = some (.int .i64 x.phase) := by first | (simp; done) | (rw [World.cell?_alloc_at _ _ _ _ (by simp)]; rfl) | (rw [World.cell?_alloc_past _ _ _ (by simp <;> omega), World.cell?_alloc_at _ _ _ _ (by simp)]; rfl) | (rw [World.cell?_alloc_past _ _ _ (by simp <;> omega), World.cell?_alloc_past _ _ _ (by simp <;> omega), World.cell?_alloc_at _ _ _ _ (by simp)]; rfl)
    have hb2 := (by repeat (first | exact hbel | refine belAlloc ?_ _ | refine belDrew ?_ | refine belSet ?_ _ _ (by simp)) : Below w.heap.size w ((w.alloc (.cells #[.int .i64 r, .slice a n c, .bool o.a, .bool o.b, .bool o.c] 25)).alloc (.cells #[.string x.pod.id, .int .i64 x.pod.prio, .bool x.pod.crit, .int .i64 x.pod.r0, .int .i64 x.pod.r1, .int .i64 x.pod.r2, .int .i64 x.pod.l0, .int .i64 x.pod.l1, .int .i64 x.pod.l2, .string x.pod.img, .int .i64 x.pod.size, .int .i64 x.phase] 46)))
    replace hw := belStep hw hb2
    clear hb2 hbel
    generalize (w.alloc (.cells #[.int .i64 r, .slice a n c, .bool o.a, .bool o.b, .bool o.c] 25)).alloc (.cells #[.string x.pod.id, .int .i64 x.pod.prio, .bool x.pod.crit, .int .i64 x.pod.r0, .int .i64 x.pod.r1, .int .i64 x.pod.r2, .int .i64 x.pod.l0, .int .i64 x.pod.l1, .int .i64 x.pod.l2, .string x.pod.img, .int .i64 x.pod.size, .int .i64 x.phase] 46) = W1 at *
    replace ss0 := keep ss0
    replace ss1 := keep ss1
    replace ss2 := keep ss2
    replace ss3 := keep ss3
    replace ss4 := keep ss4
    replace ee0 := keep ee0
    replace ee1 := keep ee1
    replace ee2 := keep ee2
    replace ee3 := keep ee3
    replace ee4 := keep ee4
    replace ee5 := keep ee5
    replace ee6 := keep ee6
    replace ee7 := keep ee7
    replace ee8 := keep ee8
    replace ee9 := keep ee9
    replace ee10 := keep ee10
    replace ee11 := keep ee11
    have hbel : Below W1.heap.size W1 W1 := Below.refl _ _
    skip
    go_upto_region 3 with (first | (go_at_call 11; (with_reducible refine (awake24 _).mono ?_); rintro e w1 ⟨rfl, hb1⟩; replace hbel := belStep hbel hb1; clear hb1) | (go_at_call 12; (with_reducible refine (CFW.out _ (belStep hw hbel)).mono ?_); rintro e wf ⟨rfl, hbf⟩; replace hbel := belStep hbel hbf; clear hbf; rcases fs with _ | _) | (go_at_call 15; (with_reducible refine (CRT.out _ (belStep hw hbel)).mono ?_); rintro e wf ⟨rfl, hbf⟩; replace hbel := belStep hbel hbf; clear hbf; rcases rs with _ | _) | (go_at_call 21; (with_reducible refine (CSM.out _).mono ?_); rintro e wf8 ⟨rfl, hbf8⟩; replace hbel := belStep hbel hbf8; clear hbf8; rcases sm with _ | _) | (go_at_call 22; (with_reducible refine (CRP.out _).mono ?_); rintro e wf9 ⟨rfl, hbf9⟩; replace hbel := belStep hbel hbf9; clear hbf9; rcases rp with _ | _))
    · go_ret
      exact ⟨rfl, belStep hw hbel⟩
    · go_ret
      exact ⟨rfl, belStep hw hbel⟩
    · go_ret
      exact ⟨rfl, belStep hw hbel⟩
    · go_ret
      exact ⟨rfl, belStep hw hbel⟩
    have hn64 : n ≤ 64 := by have h := (st_nums HRS.out).2.2; rw [HLN.out] at h; exact h
    have HEB := Lib.hid (show entB x = true by unfold entB; rw [HRP.out, HPH.out]; rfl)
    have HW1 := Lib.hid hw
    have HB := Lib.hid hbel
    clear hw CFW CRT CSM CRP HPH HRP p1 p2 p3 p4
    have HRI := Lib.hid (st_ris HRS.out)
    have HLL := Lib.hid (HLN.out)
    obtain ⟨A, M, B, hc⟩ := cut9 HRI.out x.pod.id
    obtain ⟨C, N, D, hd⟩ := cut9 HRI.out s
    have HEN := Lib.hid (st_ent HRS.out)
    obtain ⟨LA, hLA⟩ : ∃ l, withF L x = l := ⟨_, rfl⟩
    obtain ⟨LB, hLB⟩ : ∃ l, woutF L s = l := ⟨_, rfl⟩
    have HRA := Lib.hid (show withR L x = LA by rw [← hLA, hc.putR, hc.put])
    have HRB := Lib.hid (show L.filter (keepF s) = LB by rw [← hLB, hd.filt, hd.out])
    have hmA : ∀ y ∈ LA, y = x ∨ y ∈ L := by
      rw [← hLA, hc.put, hc.eq]
      intro y hy
      rcases List.mem_append.1 hy with h | h
      · exact .inr (List.mem_append_left _ h)
      rcases List.mem_cons.1 h with h | h
      · exact .inl h
      · exact .inr (List.mem_append_right _ (List.mem_append_right _ h))
    have hmB : ∀ y ∈ LB, y ∈ L := by rw [← HRB.out]; intro y hy; exact (List.mem_filter.1 hy).1
    have hlA : LA.length ≤ 65 := by rw [← hLA, hc.put]; have h1 := congrArg List.length hc.eq; have h2 := HLN.out; simp only [List.length_append, List.length_cons] at h1 ⊢; omega
    have hlB : LB.length ≤ 64 := by rw [← HRB.out]; have h1 := List.length_filter_le (keepF s) L; have h2 := HLN.out; omega
    have HSA := Lib.hid (fun (h : LA.length ≤ 64) => st_of (M := LA) HRS.out (fun y hy => (hmA y hy).elim (fun h => h ▸ HEB.out) (fun h => HEN.out y h)) (by rw [← hLA, hc.put]; exact (hc.ris HRI.out).2 x rfl) h)
    have HSB := Lib.hid (st_of (M := LB) HRS.out (fun y hy => HEN.out y (hmB y hy)) (by rw [← HRB.out, hd.filt]; exact (hd.ris HRI.out).1) hlB)
    have HOA := Lib.hid (show ∀ y ∈ LA, y.ok from fun y hy => (hmA y hy).elim (fun h => h ▸ HX.out) (fun h => HOK.out y h))
    have HOB := Lib.hid (show ∀ y ∈ LB, y.ok from fun y hy => HOK.out y (hmB y hy))
    have hth := hd.th
    have hpl := hd.pl
    have hfn := hd.fnd
    obtain ⟨th, ht⟩ : ∃ t, N.isEmpty = t := ⟨_, rfl⟩
    rw [ht] at hth hfn
    have hCl : C.length ≤ 64 := by have h1 := congrArg List.length hd.eq; have h2 := HLN.out; simp only [List.length_append] at h1; omega
    obtain ⟨p, hp⟩ : ∃ p, C.length = p := ⟨_, rfl⟩
    rw [hp] at hpl hfn hCl
    have HTH := Lib.hid hth
    have HPL := Lib.hid hpl
    have HFN := Lib.hid hfn
    clear hmA hmB hc hd hth hpl hfn ht hp
    have CWI := Lib.hid (fun u (hu : Below W1.heap.size W1 u) => hLA ▸ st_With r a n c o L x u HLN.out (HR.out.later (belStep HW1.out hu)) (by omega))
    have CWO := Lib.hid (fun u (hu : Below W1.heap.size W1 u) => hLB ▸ st_Without r a n c o L s u HLN.out (HR.out.later (belStep HW1.out hu)) (by omega))
    have CFI := Lib.hid (fun u (hu : Below W1.heap.size W1 u) => st_Find r a n c o L s u HLN.out (HR.out.later (belStep HW1.out hu)))
    have CRF := Lib.hid (fun u (hu : Below W1.heap.size W1 u) => HFN.out ▸ sref_Find r a n c o L s u HLN.out (HR.out.later (belStep HW1.out hu)))
    have CRW := Lib.hid (fun u (hu : Below W1.heap.size W1 u) => HRA.out ▸ sref_With r a n c o L x u HLN.out (HR.out.later (belStep HW1.out hu)) (by omega))
    have CRO := Lib.hid (fun u (hu : Below W1.heap.size W1 u) => HRB.out ▸ sref_Without r a n c o L s u HLN.out (HR.out.later (belStep HW1.out hu)) (by omega))
    clear hLA hLB
    go_upto_region 4 with (go_at_call 23; (with_reducible refine (CWI.out _ HB.out).mono ?_); rintro e w3 ⟨v3, rfl, ho3, hb_⟩; replace HB := Lib.hid (belStep HB.out hb_); obtain ⟨a3, c3, rfl, hr3⟩ := rowR_of_own ho3; have HA := Lib.hid hr3; clear hr3 ho3; replace hbel := HB.out; clear hb_)
    clear hbel
    have k1 : Below w3.heap.size w3 (w3.alloc (.cells #[.int .i64 r, .slice a3 LA.length c3, .bool o.a, .bool o.b, .bool o.c] 25)) := belAlloc (Below.refl _ _) _
    have hn_ := Blk.new w3 [.int .i64 r, .slice a3 LA.length c3, .bool o.a, .bool o.b, .bool o.c] 25
    replace HA := Lib.hid (HA.out.later k1)
    replace HB := Lib.hid (belStep HB.out k1)
    have HTA := Lib.hid (show Blk (w3.alloc (.cells #[.int .i64 r, .slice a3 LA.length c3, .bool o.a, .bool o.b, .bool o.c] 25)) w3.heap.size [.int .i64 r, .slice a3 LA.length c3, .bool o.a, .bool o.b, .bool o.c] 25 from hn_)
    clear hn_ k1
    generalize w3.alloc (.cells #[.int .i64 r, .slice a3 LA.length c3, .bool o.a, .bool o.b, .bool o.c] 25) = W3 at *
    have hbel := HB.out
    go_upto_region 5 with (go_at_call 24; (with_reducible refine (CWO.out _ HB.out).mono ?_); rintro e w4 ⟨v4, rfl, ho4, hb_⟩; replace HA := Lib.hid (HA.out.later hb_); replace HTA := Lib.hid (HTA.out.later hb_); replace HB := Lib.hid (belStep HB.out hb_); obtain ⟨a4, c4, rfl, hr4⟩ := rowR_of_own ho4; have HBR := Lib.hid hr4; clear hr4 ho4; replace hbel := HB.out; clear hb_)
    clear hbel
    have k1 : Below w4.heap.size w4 (w4.alloc (.cells #[.int .i64 r, .slice a4 LB.length c4, .bool o.a, .bool o.b, .bool o.c] 25)) := belAlloc (Below.refl _ _) _
    have hn_ := Blk.new w4 [.int .i64 r, .slice a4 LB.length c4, .bool o.a, .bool o.b, .bool o.c] 25
    replace HA := Lib.hid (HA.out.later k1)
    replace HTA := Lib.hid (HTA.out.later k1)
    replace HBR := Lib.hid (HBR.out.later k1)
    replace HB := Lib.hid (belStep HB.out k1)
    have HTB := Lib.hid (show Blk (w4.alloc (.cells #[.int .i64 r, .slice a4 LB.length c4, .bool o.a, .bool o.b, .bool o.c] 25)) w4.heap.size [.int .i64 r, .slice a4 LB.length c4, .bool o.a, .bool o.b, .bool o.c] 25 from hn_)
    clear hn_ k1
    generalize w4.alloc (.cells #[.int .i64 r, .slice a4 LB.length c4, .bool o.a, .bool o.b, .bool o.c] 25) = W4 at *
    have hbel := HB.out
    cases th with
    | true =>
      replace HTH := Lib.hid (show thF L s = false from HTH.out)
      have CF2 := Lib.hid (fun u (hu : Below W1.heap.size W1 u) => show Calls Try.prog 25 #[.agg #[.int .i64 r, .slice a n c, .bool o.a, .bool o.b, .bool o.c], .string s] u fun e w' => e = .returned (.tuple #[.int .i64 0, .bool false]) ∧ Below u.heap.size u w' from by have h := CFI.out u hu; rw [HTH.out] at h; exact h)
      have CRF2 := Lib.hid (fun u (hu : Below W1.heap.size W1 u) => show Calls Try.prog 26 #[.agg #[.int .i64 r, .slice a n c, .bool o.a, .bool o.b, .bool o.c], .string s] u fun e w' => e = .returned (.int .i64 (-1)) ∧ Below u.heap.size u w' from CRF.out u hu)
      have hp0 : (0 : Int) ≤ (p : Int) := by omega
      have hpd : decide ((0 : Int) ≤ (p : Int)) = true := decide_eq_true hp0
      go_upto_region 6 with (go_at_call 25; (with_reducible refine (CF2.out _ HB.out).mono ?_); rintro e w5 ⟨rfl, hb_⟩; replace HA := Lib.hid (HA.out.later hb_); replace HTA := Lib.hid (HTA.out.later hb_); replace HBR := Lib.hid (HBR.out.later hb_); replace HTB := Lib.hid (HTB.out.later hb_); replace HB := Lib.hid (belStep HB.out hb_); replace hbel := HB.out; clear hb_)
      go_upto_region 7 with (go_at_call 26; (with_reducible refine (CRF2.out _ HB.out).mono ?_); rintro e w6 ⟨rfl, hb_⟩; replace HA := Lib.hid (HA.out.later hb_); replace HTA := Lib.hid (HTA.out.later hb_); replace HBR := Lib.hid (HBR.out.later hb_); replace HTB := Lib.hid (HTB.out.later hb_); replace HB := Lib.hid (belStep HB.out hb_); replace hbel := HB.out; clear hb_)
      clear CF2 CRF2 CFI CRF
      have HB6 := Lib.hid HB.out
      clear hbel
      replace ss0 := keepOn ss0 HB.out
      replace ss1 := keepOn ss1 HB.out
      replace ss2 := keepOn ss2 HB.out
      replace ss3 := keepOn ss3 HB.out
      replace ss4 := keepOn ss4 HB.out
      replace ee0 := keepOn ee0 HB.out
      replace ee1 := keepOn ee1 HB.out
      replace ee2 := keepOn ee2 HB.out
      replace ee3 := keepOn ee3 HB.out
      replace ee4 := keepOn ee4 HB.out
      replace ee5 := keepOn ee5 HB.out
      replace ee6 := keepOn ee6 HB.out
      replace ee7 := keepOn ee7 HB.out
      replace ee8 := keepOn ee8 HB.out
      replace ee9 := keepOn ee9 HB.out
      replace ee10 := keepOn ee10 HB.out
      replace ee11 := keepOn ee11 HB.out
      have ta0 := keep (HTA.out.cell (j := 0) rfl)
      have ta1 := keep (HTA.out.cell (j := 1) rfl)
      have ta2 := keep (HTA.out.cell (j := 2) rfl)
      have ta3 := keep (HTA.out.cell (j := 3) rfl)
      have ta4 := keep (HTA.out.cell (j := 4) rfl)
      have tb0 := keep (HTB.out.cell (j := 0) rfl)
      have tb1 := keep (HTB.out.cell (j := 1) rfl)
      have tb2 := keep (HTB.out.cell (j := 2) rfl)
      have tb3 := keep (HTB.out.cell (j := 3) rfl)
      have tb4 := keep (HTB.out.cell (j := 4) rfl)
      have CSRB := Lib.hid (fun u (hu : Below w6.heap.size w6 u) => (HSB.out) ▸ st_Right r a4 LB.length c4 o LB u rfl HOB.out (HBR.out.later hu))
      have CSRA := Lib.hid (fun (h : LA.length ≤ 64) u (hu : Below w6.heap.size w6 u) => (HSA.out h) ▸ st_Right r a3 LA.length c3 o LA u rfl HOA.out (HA.out.later hu))
      have hbel : Below w6.heap.size w6 w6 := Below.refl _ _
      by_cases h64 : LA.length ≤ 64
      · have hl6 : decide ((LA.length : Int) ≤ 64) = true := decide_eq_true (by omega)
        have hl7 : (LA.length : Int) ≤ 64 := by omega
        have CRA := Lib.hid (CSRA.out h64)
        go_upto_region 11 with (first | (go_at_call 14; (with_reducible refine (CRA.out _ hbel).mono ?_); rintro e w7 ⟨rfl, hb7⟩; replace hbel := belStep hbel hb7; clear hb7 CRA) | (go_at_call 14; (with_reducible refine (CSRB.out _ hbel).mono ?_); rintro e w8 ⟨rfl, hb8⟩; replace hbel := belStep hbel hb8; clear hb8))
        have HB8 := Lib.hid hbel
        replace ss0 := keepOn ss0 hbel
        replace ss1 := keepOn ss1 hbel
        replace ss2 := keepOn ss2 hbel
        replace ss3 := keepOn ss3 hbel
        replace ss4 := keepOn ss4 hbel
        replace ee0 := keepOn ee0 hbel
        replace ee1 := keepOn ee1 hbel
        replace ee2 := keepOn ee2 hbel
        replace ee3 := keepOn ee3 hbel
        replace ee4 := keepOn ee4 hbel
        replace ee5 := keepOn ee5 hbel
        replace ee6 := keepOn ee6 hbel
        replace ee7 := keepOn ee7 hbel
        replace ee8 := keepOn ee8 hbel
        replace ee9 := keepOn ee9 hbel
        replace ee10 := keepOn ee10 hbel
        replace ee11 := keepOn ee11 hbel
        replace ta0 := keepOn ta0 hbel
        replace ta1 := keepOn ta1 hbel
        replace ta2 := keepOn ta2 hbel
        replace ta3 := keepOn ta3 hbel
        replace ta4 := keepOn ta4 hbel
        replace tb0 := keepOn tb0 hbel
        replace tb1 := keepOn tb1 hbel
        replace tb2 := keepOn tb2 hbel
        replace tb3 := keepOn tb3 hbel
        replace tb4 := keepOn tb4 hbel
        have CW2 := Lib.hid (fun u (hu : Below w8.heap.size w8 u) => CRW.out u (belStep HB6.out (belStep HB8.out hu)))
        have CO2 := Lib.hid (fun u (hu : Below w8.heap.size w8 u) => CRO.out u (belStep HB6.out (belStep HB8.out hu)))
        have CSA := Lib.hid (fun u b d (hu : Below w8.heap.size w8 u) (hr : Row u b LA.length d 12 (LA.flatMap EntV.cells)) => ((sameS_iff r o LA r o LA).2 ⟨rfl, rfl, rfl⟩) ▸ sref_SameS r a3 LA.length c3 o LA r b LA.length d o LA u rfl (HA.out.later (belStep HB8.out hu)) rfl hr)
        have CSB := Lib.hid (fun u b d (hu : Below w8.heap.size w8 u) (hr : Row u b LB.length d 12 (LB.flatMap EntV.cells)) => ((sameS_iff r o LB r o LB).2 ⟨rfl, rfl, rfl⟩) ▸ sref_SameS r a4 LB.length c4 o LB r b LB.length d o LB u rfl (HBR.out.later (belStep HB8.out hu)) rfl hr)
        clear hbel
        have hbel : Below w8.heap.size w8 w8 := Below.refl _ _
        refine wp_region_held_drew (S := fun u => Below w8.heap.size w8 u) (by kernel_rfl) (by exact (show Below w8.heap.size w8 _ by repeat (first | assumption | exact Below.refl _ _ | refine belDrew ?_ | refine belAlloc ?_ _ | refine belStep ?_ (by assumption)))) (fun hHeld => ?_)
        refine wpAnyH_take (i := 0) (oi := ?oi_k1) (v := ?v_k1) ?hi_k1 (by kernel_rfl) ?hf_k1 ?hr_k1 ?hQ_k1 (Or.inl ⟨?hw_k1, ?hy_k1⟩) (by assumption) ?rest_k1
        case hi_k1 => ((simp only [List.getElem?_toArray, List.getElem?_cons_succ, List.getElem?_cons_zero]); rfl)
        case hf_k1 => kernel_rfl
        case hr_k1 => kernel_rfl
        case hQ_k1 => exact fun _ _ _ h => h
        case hw_k1 => rfl
        case hy_k1 => ((intro w hSw; (try dsimp only at hSw); go_simp); all_goals (with_reducible rfl))
        try simp only [Act.put, List.setIfInBounds_toArray, List.set_cons_zero, List.set_cons_succ]
        refine wpAnyH_take (i := 1) (oi := ?oi_k2) (v := ?v_k2) ?hi_k2 (by kernel_rfl) ?hf_k2 ?hr_k2 ?hQ_k2 (Or.inl ⟨?hw_k2, ?hy_k2⟩) (by assumption) ?rest_k2
        case hi_k2 => ((simp only [List.getElem?_toArray, List.getElem?_cons_succ, List.getElem?_cons_zero]); rfl)
        case hf_k2 => kernel_rfl
        case hr_k2 => kernel_rfl
        case hQ_k2 => exact fun _ _ _ h => h
        case hw_k2 => rfl
        case hy_k2 => ((intro w hSw; (try dsimp only at hSw); go_simp); all_goals (with_reducible rfl))
        try simp only [Act.put, List.setIfInBounds_toArray, List.set_cons_zero, List.set_cons_succ]
        refine wpAnyH_take (i := 2) (oi := ?oi_k3) (v := ?v_k3) ?hi_k3 (by kernel_rfl) ?hf_k3 ?hr_k3 ?hQ_k3 (Or.inl ⟨?hw_k3, ?hy_k3⟩) (by assumption) ?rest_k3
        case hi_k3 => ((simp only [List.getElem?_toArray, List.getElem?_cons_succ, List.getElem?_cons_zero]); rfl)
        case hf_k3 => kernel_rfl
        case hr_k3 => kernel_rfl
        case hQ_k3 => exact fun _ _ _ h => h
        case hw_k3 => rfl
        case hy_k3 => ((intro w hSw; (try dsimp only at hSw); go_simp); all_goals (with_reducible rfl))
        try simp only [Act.put, List.setIfInBounds_toArray, List.set_cons_zero, List.set_cons_succ]
        refine wpAnyH_ready (rs := [3]) (by kernel_rfl) (by simp) ?_
        refine AllReadyH.cons (o := ?o1_k4) ?hi_k4 (fun K hK => ?rest_k4) AllReadyH.nil
        case hi_k4 => ((simp only [List.getElem?_toArray, List.getElem?_cons_succ, List.getElem?_cons_zero]); rfl)
        go_simp
        (go_at_call 27; (with_reducible refine (CW2.out _ hHeld).mono ?_); rintro e wq3 ⟨v9, rfl, ho9, hbq⟩)
        obtain ⟨a9, c9, rfl, hr9⟩ := rowR_of_own ho9
        have hu3 : Below w8.heap.size w8 wq3 := belStep hHeld hbq
        clear hbq
        try go_simp
        refine hK.out _ _ (by exact hu3) (fun hHeld => ?_)
        clear hK K
        try simp only [Act.put, List.setIfInBounds_toArray, List.set_cons_zero, List.set_cons_succ]
        refine wpAnyH_ready (rs := [4]) (by kernel_rfl) (by simp) ?_
        refine AllReadyH.cons (o := ?o1_k5) ?hi_k5 (fun K hK => ?rest_k5) AllReadyH.nil
        case hi_k5 => ((simp only [List.getElem?_toArray, List.getElem?_cons_succ, List.getElem?_cons_zero]); rfl)
        go_simp
        (go_at_call 20; (with_reducible refine (CSA.out _ a9 c9 hHeld hr9).mono ?_); rintro e wq4 ⟨rfl, hbq⟩)
        have hu4 : Below w8.heap.size w8 wq4 := belStep hHeld hbq
        clear hbq
        try go_simp
        refine hK.out _ _ (by exact hu4) (fun hHeld => ?_)
        clear hK K
        try simp only [Act.put, List.setIfInBounds_toArray, List.set_cons_zero, List.set_cons_succ]
        refine wpAnyH_take (i := 5) (oi := ?oi_k6) (v := ?v_k6) ?hi_k6 (by kernel_rfl) ?hf_k6 ?hr_k6 ?hQ_k6 (Or.inl ⟨?hw_k6, ?hy_k6⟩) (by assumption) ?rest_k6
        case hi_k6 => ((simp only [List.getElem?_toArray, List.getElem?_cons_succ, List.getElem?_cons_zero]); rfl)
        case hf_k6 => kernel_rfl
        case hr_k6 => kernel_rfl
        case hQ_k6 => exact fun _ _ _ h => h
        case hw_k6 => rfl
        case hy_k6 => ((intro w hSw; (try dsimp only at hSw); go_simp); all_goals (with_reducible rfl))
        try simp only [Act.put, List.setIfInBounds_toArray, List.set_cons_zero, List.set_cons_succ]
        refine wpAnyH_take (i := 6) (oi := ?oi_k7) (v := ?v_k7) ?hi_k7 (by kernel_rfl) ?hf_k7 ?hr_k7 ?hQ_k7 (Or.inl ⟨?hw_k7, ?hy_k7⟩) (by assumption) ?rest_k7
        case hi_k7 => ((simp only [List.getElem?_toArray, List.getElem?_cons_succ, List.getElem?_cons_zero]); rfl)
        case hf_k7 => kernel_rfl
        case hr_k7 => kernel_rfl
        case hQ_k7 => exact fun _ _ _ h => h
        case hw_k7 => rfl
        case hy_k7 => ((intro w hSw; (try dsimp only at hSw); go_simp); all_goals (with_reducible rfl))
        try simp only [Act.put, List.setIfInBounds_toArray, List.set_cons_zero, List.set_cons_succ]
        refine wpAnyH_take (i := 7) (oi := ?oi_k8) (v := ?v_k8) ?hi_k8 (by kernel_rfl) ?hf_k8 ?hr_k8 ?hQ_k8 (Or.inl ⟨?hw_k8, ?hy_k8⟩) (by assumption) ?rest_k8
        case hi_k8 => ((simp only [List.getElem?_toArray, List.getElem?_cons_succ, List.getElem?_cons_zero]); rfl)
        case hf_k8 => kernel_rfl
        case hr_k8 => kernel_rfl
        case hQ_k8 => exact fun _ _ _ h => h
        case hw_k8 => rfl
        case hy_k8 => ((intro w hSw; (try dsimp only at hSw); go_simp); all_goals (with_reducible rfl))
        try simp only [Act.put, List.setIfInBounds_toArray, List.set_cons_zero, List.set_cons_succ]
        refine wpAnyH_take (i := 8) (oi := ?oi_k9) (v := ?v_k9) ?hi_k9 (by kernel_rfl) ?hf_k9 ?hr_k9 ?hQ_k9 (Or.inl ⟨?hw_k9, ?hy_k9⟩) (by assumption) ?rest_k9
        case hi_k9 => ((simp only [List.getElem?_toArray, List.getElem?_cons_succ, List.getElem?_cons_zero]); rfl)
        case hf_k9 => kernel_rfl
        case hr_k9 => kernel_rfl
        case hQ_k9 => exact fun _ _ _ h => h
        case hw_k9 => rfl
        case hy_k9 => ((intro w hSw; (try dsimp only at hSw); go_simp); all_goals (with_reducible rfl))
        try simp only [Act.put, List.setIfInBounds_toArray, List.set_cons_zero, List.set_cons_succ]
        refine wpAnyH_ready (rs := [9]) (by kernel_rfl) (by simp) ?_
        refine AllReadyH.cons (o := ?o1_k10) ?hi_k10 (fun K hK => ?rest_k10) AllReadyH.nil
        case hi_k10 => ((simp only [List.getElem?_toArray, List.getElem?_cons_succ, List.getElem?_cons_zero]); rfl)
        go_simp
        (go_at_call 28; (with_reducible refine (CO2.out _ hHeld).mono ?_); rintro e wq9 ⟨v10, rfl, ho10, hbq⟩)
        obtain ⟨a10, c10, rfl, hr10⟩ := rowR_of_own ho10
        have hu9 : Below w8.heap.size w8 wq9 := belStep hHeld hbq
        clear hbq
        try go_simp
        refine hK.out _ _ (by exact hu9) (fun hHeld => ?_)
        clear hK K
        try simp only [Act.put, List.setIfInBounds_toArray, List.set_cons_zero, List.set_cons_succ]
        refine wpAnyH_ready (rs := [10]) (by kernel_rfl) (by simp) ?_
        refine AllReadyH.cons (o := ?o1_k11) ?hi_k11 (fun K hK => ?rest_k11) AllReadyH.nil
        case hi_k11 => ((simp only [List.getElem?_toArray, List.getElem?_cons_succ, List.getElem?_cons_zero]); rfl)
        go_simp
        (go_at_call 20; (with_reducible refine (CSB.out _ a10 c10 hHeld hr10).mono ?_); rintro e wq10 ⟨rfl, hbq⟩)
        have hu10 : Below w8.heap.size w8 wq10 := belStep hHeld hbq
        clear hbq
        try go_simp
        refine hK.out _ _ (by exact hu10) (fun hHeld => ?_)
        clear hK K
        try simp only [Act.put, List.setIfInBounds_toArray, List.set_cons_zero, List.set_cons_succ]
        refine wpAnyH_take (i := 11) (oi := ?oi_k12) (v := ?v_k12) ?hi_k12 (by kernel_rfl) ?hf_k12 ?hr_k12 ?hQ_k12 (Or.inl ⟨?hw_k12, ?hy_k12⟩) (by assumption) ?rest_k12
        case hi_k12 => ((simp only [List.getElem?_toArray, List.getElem?_cons_succ, List.getElem?_cons_zero]); rfl)
        case hf_k12 => kernel_rfl
        case hr_k12 => kernel_rfl
        case hQ_k12 => exact fun _ _ _ h => h
        case hw_k12 => rfl
        case hy_k12 => ((intro w hSw; (try dsimp only at hSw); go_simp); all_goals (with_reducible rfl))
        try simp only [Act.put, List.setIfInBounds_toArray, List.set_cons_zero, List.set_cons_succ]
        refine wpAnyH_take (i := 12) (oi := ?oi_k13) (v := ?v_k13) ?hi_k13 (by kernel_rfl) ?hf_k13 ?hr_k13 ?hQ_k13 (Or.inl ⟨?hw_k13, ?hy_k13⟩) (by assumption) ?rest_k13
        case hi_k13 => ((simp only [List.getElem?_toArray, List.getElem?_cons_succ, List.getElem?_cons_zero]); rfl)
        case hf_k13 => kernel_rfl
        case hr_k13 => kernel_rfl
        case hQ_k13 => exact fun _ _ _ h => h
        case hw_k13 => rfl
        case hy_k13 => ((intro w hSw; (try dsimp only at hSw); go_simp); all_goals (with_reducible rfl))
        try simp only [Act.put, List.setIfInBounds_toArray, List.set_cons_zero, List.set_cons_succ]
        refine wpAnyH_done (by kernel_rfl) ?_ _
        go_wp2
        go_ret
        exact ⟨rfl, belStep HW1.out (belStep HB6.out (belStep HB8.out hHeld))⟩
      · have hl6 : decide ((LA.length : Int) ≤ 64) = false := decide_eq_false (by omega)
        have hl7 : ¬ (LA.length : Int) ≤ 64 := by omega
        go_upto_region 11 with (first | (go_at_call 14; (with_reducible refine (CSRB.out _ hbel).mono ?_); rintro e w8 ⟨rfl, hb8⟩; replace hbel := belStep hbel hb8; clear hb8))
        have HB8 := Lib.hid hbel
        replace ss0 := keepOn ss0 hbel
        replace ss1 := keepOn ss1 hbel
        replace ss2 := keepOn ss2 hbel
        replace ss3 := keepOn ss3 hbel
        replace ss4 := keepOn ss4 hbel
        replace ee0 := keepOn ee0 hbel
        replace ee1 := keepOn ee1 hbel
        replace ee2 := keepOn ee2 hbel
        replace ee3 := keepOn ee3 hbel
        replace ee4 := keepOn ee4 hbel
        replace ee5 := keepOn ee5 hbel
        replace ee6 := keepOn ee6 hbel
        replace ee7 := keepOn ee7 hbel
        replace ee8 := keepOn ee8 hbel
        replace ee9 := keepOn ee9 hbel
        replace ee10 := keepOn ee10 hbel
        replace ee11 := keepOn ee11 hbel
        replace ta0 := keepOn ta0 hbel
        replace ta1 := keepOn ta1 hbel
        replace ta2 := keepOn ta2 hbel
        replace ta3 := keepOn ta3 hbel
        replace ta4 := keepOn ta4 hbel
        replace tb0 := keepOn tb0 hbel
        replace tb1 := keepOn tb1 hbel
        replace tb2 := keepOn tb2 hbel
        replace tb3 := keepOn tb3 hbel
        replace tb4 := keepOn tb4 hbel
        have CW2 := Lib.hid (fun u (hu : Below w8.heap.size w8 u) => CRW.out u (belStep HB6.out (belStep HB8.out hu)))
        have CO2 := Lib.hid (fun u (hu : Below w8.heap.size w8 u) => CRO.out u (belStep HB6.out (belStep HB8.out hu)))
        have CSA := Lib.hid (fun u b d (hu : Below w8.heap.size w8 u) (hr : Row u b LA.length d 12 (LA.flatMap EntV.cells)) => ((sameS_iff r o LA r o LA).2 ⟨rfl, rfl, rfl⟩) ▸ sref_SameS r a3 LA.length c3 o LA r b LA.length d o LA u rfl (HA.out.later (belStep HB8.out hu)) rfl hr)
        have CSB := Lib.hid (fun u b d (hu : Below w8.heap.size w8 u) (hr : Row u b LB.length d 12 (LB.flatMap EntV.cells)) => ((sameS_iff r o LB r o LB).2 ⟨rfl, rfl, rfl⟩) ▸ sref_SameS r a4 LB.length c4 o LB r b LB.length d o LB u rfl (HBR.out.later (belStep HB8.out hu)) rfl hr)
        clear hbel
        have hbel : Below w8.heap.size w8 w8 := Below.refl _ _
        refine wp_region_held_drew (S := fun u => Below w8.heap.size w8 u) (by kernel_rfl) (by exact (show Below w8.heap.size w8 _ by repeat (first | assumption | exact Below.refl _ _ | refine belDrew ?_ | refine belAlloc ?_ _ | refine belStep ?_ (by assumption)))) (fun hHeld => ?_)
        refine wpAnyH_take (i := 0) (oi := ?oi_k14) (v := ?v_k14) ?hi_k14 (by kernel_rfl) ?hf_k14 ?hr_k14 ?hQ_k14 (Or.inl ⟨?hw_k14, ?hy_k14⟩) (by assumption) ?rest_k14
        case hi_k14 => ((simp only [List.getElem?_toArray, List.getElem?_cons_succ, List.getElem?_cons_zero]); rfl)
        case hf_k14 => kernel_rfl
        case hr_k14 => kernel_rfl
        case hQ_k14 => exact fun _ _ _ h => h
        case hw_k14 => rfl
        case hy_k14 => ((intro w hSw; (try dsimp only at hSw); go_simp); all_goals (with_reducible rfl))
        try simp only [Act.put, List.setIfInBounds_toArray, List.set_cons_zero, List.set_cons_succ]
        refine wpAnyH_take (i := 1) (oi := ?oi_k15) (v := ?v_k15) ?hi_k15 (by kernel_rfl) ?hf_k15 ?hr_k15 ?hQ_k15 (Or.inl ⟨?hw_k15, ?hy_k15⟩) (by assumption) ?rest_k15
        case hi_k15 => ((simp only [List.getElem?_toArray, List.getElem?_cons_succ, List.getElem?_cons_zero]); rfl)
        case hf_k15 => kernel_rfl
        case hr_k15 => kernel_rfl
        case hQ_k15 => exact fun _ _ _ h => h
        case hw_k15 => rfl
        case hy_k15 => ((intro w hSw; (try dsimp only at hSw); go_simp); all_goals (with_reducible rfl))
        try simp only [Act.put, List.setIfInBounds_toArray, List.set_cons_zero, List.set_cons_succ]
        refine wpAnyH_take (i := 2) (oi := ?oi_k16) (v := ?v_k16) ?hi_k16 (by kernel_rfl) ?hf_k16 ?hr_k16 ?hQ_k16 (Or.inl ⟨?hw_k16, ?hy_k16⟩) (by assumption) ?rest_k16
        case hi_k16 => ((simp only [List.getElem?_toArray, List.getElem?_cons_succ, List.getElem?_cons_zero]); rfl)
        case hf_k16 => kernel_rfl
        case hr_k16 => kernel_rfl
        case hQ_k16 => exact fun _ _ _ h => h
        case hw_k16 => rfl
        case hy_k16 => ((intro w hSw; (try dsimp only at hSw); go_simp); all_goals (with_reducible rfl))
        try simp only [Act.put, List.setIfInBounds_toArray, List.set_cons_zero, List.set_cons_succ]
        refine wpAnyH_ready (rs := [3]) (by kernel_rfl) (by simp) ?_
        refine AllReadyH.cons (o := ?o1_k17) ?hi_k17 (fun K hK => ?rest_k17) AllReadyH.nil
        case hi_k17 => ((simp only [List.getElem?_toArray, List.getElem?_cons_succ, List.getElem?_cons_zero]); rfl)
        go_simp
        (go_at_call 27; (with_reducible refine (CW2.out _ hHeld).mono ?_); rintro e wq3 ⟨v9, rfl, ho9, hbq⟩)
        obtain ⟨a9, c9, rfl, hr9⟩ := rowR_of_own ho9
        have hu3 : Below w8.heap.size w8 wq3 := belStep hHeld hbq
        clear hbq
        try go_simp
        refine hK.out _ _ (by exact hu3) (fun hHeld => ?_)
        clear hK K
        try simp only [Act.put, List.setIfInBounds_toArray, List.set_cons_zero, List.set_cons_succ]
        refine wpAnyH_ready (rs := [4]) (by kernel_rfl) (by simp) ?_
        refine AllReadyH.cons (o := ?o1_k18) ?hi_k18 (fun K hK => ?rest_k18) AllReadyH.nil
        case hi_k18 => ((simp only [List.getElem?_toArray, List.getElem?_cons_succ, List.getElem?_cons_zero]); rfl)
        go_simp
        (go_at_call 20; (with_reducible refine (CSA.out _ a9 c9 hHeld hr9).mono ?_); rintro e wq4 ⟨rfl, hbq⟩)
        have hu4 : Below w8.heap.size w8 wq4 := belStep hHeld hbq
        clear hbq
        try go_simp
        refine hK.out _ _ (by exact hu4) (fun hHeld => ?_)
        clear hK K
        try simp only [Act.put, List.setIfInBounds_toArray, List.set_cons_zero, List.set_cons_succ]
        refine wpAnyH_take (i := 5) (oi := ?oi_k19) (v := ?v_k19) ?hi_k19 (by kernel_rfl) ?hf_k19 ?hr_k19 ?hQ_k19 (Or.inl ⟨?hw_k19, ?hy_k19⟩) (by assumption) ?rest_k19
        case hi_k19 => ((simp only [List.getElem?_toArray, List.getElem?_cons_succ, List.getElem?_cons_zero]); rfl)
        case hf_k19 => kernel_rfl
        case hr_k19 => kernel_rfl
        case hQ_k19 => exact fun _ _ _ h => h
        case hw_k19 => rfl
        case hy_k19 => ((intro w hSw; (try dsimp only at hSw); go_simp); all_goals (with_reducible rfl))
        try simp only [Act.put, List.setIfInBounds_toArray, List.set_cons_zero, List.set_cons_succ]
        refine wpAnyH_take (i := 6) (oi := ?oi_k20) (v := ?v_k20) ?hi_k20 (by kernel_rfl) ?hf_k20 ?hr_k20 ?hQ_k20 (Or.inl ⟨?hw_k20, ?hy_k20⟩) (by assumption) ?rest_k20
        case hi_k20 => ((simp only [List.getElem?_toArray, List.getElem?_cons_succ, List.getElem?_cons_zero]); rfl)
        case hf_k20 => kernel_rfl
        case hr_k20 => kernel_rfl
        case hQ_k20 => exact fun _ _ _ h => h
        case hw_k20 => rfl
        case hy_k20 => ((intro w hSw; (try dsimp only at hSw); go_simp); all_goals (with_reducible rfl))
        try simp only [Act.put, List.setIfInBounds_toArray, List.set_cons_zero, List.set_cons_succ]
        refine wpAnyH_take (i := 7) (oi := ?oi_k21) (v := ?v_k21) ?hi_k21 (by kernel_rfl) ?hf_k21 ?hr_k21 ?hQ_k21 (Or.inl ⟨?hw_k21, ?hy_k21⟩) (by assumption) ?rest_k21
        case hi_k21 => ((simp only [List.getElem?_toArray, List.getElem?_cons_succ, List.getElem?_cons_zero]); rfl)
        case hf_k21 => kernel_rfl
        case hr_k21 => kernel_rfl
        case hQ_k21 => exact fun _ _ _ h => h
        case hw_k21 => rfl
        case hy_k21 => ((intro w hSw; (try dsimp only at hSw); go_simp); all_goals (with_reducible rfl))
        try simp only [Act.put, List.setIfInBounds_toArray, List.set_cons_zero, List.set_cons_succ]
        refine wpAnyH_take (i := 8) (oi := ?oi_k22) (v := ?v_k22) ?hi_k22 (by kernel_rfl) ?hf_k22 ?hr_k22 ?hQ_k22 (Or.inl ⟨?hw_k22, ?hy_k22⟩) (by assumption) ?rest_k22
        case hi_k22 => ((simp only [List.getElem?_toArray, List.getElem?_cons_succ, List.getElem?_cons_zero]); rfl)
        case hf_k22 => kernel_rfl
        case hr_k22 => kernel_rfl
        case hQ_k22 => exact fun _ _ _ h => h
        case hw_k22 => rfl
        case hy_k22 => ((intro w hSw; (try dsimp only at hSw); go_simp); all_goals (with_reducible rfl))
        try simp only [Act.put, List.setIfInBounds_toArray, List.set_cons_zero, List.set_cons_succ]
        refine wpAnyH_ready (rs := [9]) (by kernel_rfl) (by simp) ?_
        refine AllReadyH.cons (o := ?o1_k23) ?hi_k23 (fun K hK => ?rest_k23) AllReadyH.nil
        case hi_k23 => ((simp only [List.getElem?_toArray, List.getElem?_cons_succ, List.getElem?_cons_zero]); rfl)
        go_simp
        (go_at_call 28; (with_reducible refine (CO2.out _ hHeld).mono ?_); rintro e wq9 ⟨v10, rfl, ho10, hbq⟩)
        obtain ⟨a10, c10, rfl, hr10⟩ := rowR_of_own ho10
        have hu9 : Below w8.heap.size w8 wq9 := belStep hHeld hbq
        clear hbq
        try go_simp
        refine hK.out _ _ (by exact hu9) (fun hHeld => ?_)
        clear hK K
        try simp only [Act.put, List.setIfInBounds_toArray, List.set_cons_zero, List.set_cons_succ]
        refine wpAnyH_ready (rs := [10]) (by kernel_rfl) (by simp) ?_
        refine AllReadyH.cons (o := ?o1_k24) ?hi_k24 (fun K hK => ?rest_k24) AllReadyH.nil
        case hi_k24 => ((simp only [List.getElem?_toArray, List.getElem?_cons_succ, List.getElem?_cons_zero]); rfl)
        go_simp
        (go_at_call 20; (with_reducible refine (CSB.out _ a10 c10 hHeld hr10).mono ?_); rintro e wq10 ⟨rfl, hbq⟩)
        have hu10 : Below w8.heap.size w8 wq10 := belStep hHeld hbq
        clear hbq
        try go_simp
        refine hK.out _ _ (by exact hu10) (fun hHeld => ?_)
        clear hK K
        try simp only [Act.put, List.setIfInBounds_toArray, List.set_cons_zero, List.set_cons_succ]
        refine wpAnyH_take (i := 11) (oi := ?oi_k25) (v := ?v_k25) ?hi_k25 (by kernel_rfl) ?hf_k25 ?hr_k25 ?hQ_k25 (Or.inl ⟨?hw_k25, ?hy_k25⟩) (by assumption) ?rest_k25
        case hi_k25 => ((simp only [List.getElem?_toArray, List.getElem?_cons_succ, List.getElem?_cons_zero]); rfl)
        case hf_k25 => kernel_rfl
        case hr_k25 => kernel_rfl
        case hQ_k25 => exact fun _ _ _ h => h
        case hw_k25 => rfl
        case hy_k25 => ((intro w hSw; (try dsimp only at hSw); go_simp); all_goals (with_reducible rfl))
        try simp only [Act.put, List.setIfInBounds_toArray, List.set_cons_zero, List.set_cons_succ]
        refine wpAnyH_take (i := 12) (oi := ?oi_k26) (v := ?v_k26) ?hi_k26 (by kernel_rfl) ?hf_k26 ?hr_k26 ?hQ_k26 (Or.inl ⟨?hw_k26, ?hy_k26⟩) (by assumption) ?rest_k26
        case hi_k26 => ((simp only [List.getElem?_toArray, List.getElem?_cons_succ, List.getElem?_cons_zero]); rfl)
        case hf_k26 => kernel_rfl
        case hr_k26 => kernel_rfl
        case hQ_k26 => exact fun _ _ _ h => h
        case hw_k26 => rfl
        case hy_k26 => ((intro w hSw; (try dsimp only at hSw); go_simp); all_goals (with_reducible rfl))
        try simp only [Act.put, List.setIfInBounds_toArray, List.set_cons_zero, List.set_cons_succ]
        refine wpAnyH_done (by kernel_rfl) ?_ _
        go_wp2
        go_ret
        exact ⟨rfl, belStep HW1.out (belStep HB6.out (belStep HB8.out hHeld))⟩
    | false =>
      replace HTH := Lib.hid (show thF L s = true from HTH.out)
      have CF2 := Lib.hid (fun u (hu : Below W1.heap.size W1 u) => show Calls Try.prog 25 #[.agg #[.int .i64 r, .slice a n c, .bool o.a, .bool o.b, .bool o.c], .string s] u fun e w' => e = .returned (.tuple #[.int .i64 p, .bool true]) ∧ Below u.heap.size u w' from by have h := CFI.out u hu; rw [HTH.out, HPL.out] at h; exact h)
      have CRF2 := Lib.hid (fun u (hu : Below W1.heap.size W1 u) => show Calls Try.prog 26 #[.agg #[.int .i64 r, .slice a n c, .bool o.a, .bool o.b, .bool o.c], .string s] u fun e w' => e = .returned (.int .i64 (p : Int)) ∧ Below u.heap.size u w' from CRF.out u hu)
      have hp0 : (0 : Int) ≤ (p : Int) := by omega
      have hpd : decide ((0 : Int) ≤ (p : Int)) = true := decide_eq_true hp0
      go_upto_region 6 with (go_at_call 25; (with_reducible refine (CF2.out _ HB.out).mono ?_); rintro e w5 ⟨rfl, hb_⟩; replace HA := Lib.hid (HA.out.later hb_); replace HTA := Lib.hid (HTA.out.later hb_); replace HBR := Lib.hid (HBR.out.later hb_); replace HTB := Lib.hid (HTB.out.later hb_); replace HB := Lib.hid (belStep HB.out hb_); replace hbel := HB.out; clear hb_)
      go_upto_region 7 with (go_at_call 26; (with_reducible refine (CRF2.out _ HB.out).mono ?_); rintro e w6 ⟨rfl, hb_⟩; replace HA := Lib.hid (HA.out.later hb_); replace HTA := Lib.hid (HTA.out.later hb_); replace HBR := Lib.hid (HBR.out.later hb_); replace HTB := Lib.hid (HTB.out.later hb_); replace HB := Lib.hid (belStep HB.out hb_); replace hbel := HB.out; clear hb_)
      clear CF2 CRF2 CFI CRF
      have HB6 := Lib.hid HB.out
      clear hbel
      replace ss0 := keepOn ss0 HB.out
      replace ss1 := keepOn ss1 HB.out
      replace ss2 := keepOn ss2 HB.out
      replace ss3 := keepOn ss3 HB.out
      replace ss4 := keepOn ss4 HB.out
      replace ee0 := keepOn ee0 HB.out
      replace ee1 := keepOn ee1 HB.out
      replace ee2 := keepOn ee2 HB.out
      replace ee3 := keepOn ee3 HB.out
      replace ee4 := keepOn ee4 HB.out
      replace ee5 := keepOn ee5 HB.out
      replace ee6 := keepOn ee6 HB.out
      replace ee7 := keepOn ee7 HB.out
      replace ee8 := keepOn ee8 HB.out
      replace ee9 := keepOn ee9 HB.out
      replace ee10 := keepOn ee10 HB.out
      replace ee11 := keepOn ee11 HB.out
      have ta0 := keep (HTA.out.cell (j := 0) rfl)
      have ta1 := keep (HTA.out.cell (j := 1) rfl)
      have ta2 := keep (HTA.out.cell (j := 2) rfl)
      have ta3 := keep (HTA.out.cell (j := 3) rfl)
      have ta4 := keep (HTA.out.cell (j := 4) rfl)
      have tb0 := keep (HTB.out.cell (j := 0) rfl)
      have tb1 := keep (HTB.out.cell (j := 1) rfl)
      have tb2 := keep (HTB.out.cell (j := 2) rfl)
      have tb3 := keep (HTB.out.cell (j := 3) rfl)
      have tb4 := keep (HTB.out.cell (j := 4) rfl)
      have CSRB := Lib.hid (fun u (hu : Below w6.heap.size w6 u) => (HSB.out) ▸ st_Right r a4 LB.length c4 o LB u rfl HOB.out (HBR.out.later hu))
      have CSRA := Lib.hid (fun (h : LA.length ≤ 64) u (hu : Below w6.heap.size w6 u) => (HSA.out h) ▸ st_Right r a3 LA.length c3 o LA u rfl HOA.out (HA.out.later hu))
      have hbel : Below w6.heap.size w6 w6 := Below.refl _ _
      by_cases h64 : LA.length ≤ 64
      · have hl6 : decide ((LA.length : Int) ≤ 64) = true := decide_eq_true (by omega)
        have hl7 : (LA.length : Int) ≤ 64 := by omega
        have CRA := Lib.hid (CSRA.out h64)
        go_upto_region 11 with (first | (go_at_call 14; (with_reducible refine (CRA.out _ hbel).mono ?_); rintro e w7 ⟨rfl, hb7⟩; replace hbel := belStep hbel hb7; clear hb7 CRA) | (go_at_call 14; (with_reducible refine (CSRB.out _ hbel).mono ?_); rintro e w8 ⟨rfl, hb8⟩; replace hbel := belStep hbel hb8; clear hb8))
        have HB8 := Lib.hid hbel
        replace ss0 := keepOn ss0 hbel
        replace ss1 := keepOn ss1 hbel
        replace ss2 := keepOn ss2 hbel
        replace ss3 := keepOn ss3 hbel
        replace ss4 := keepOn ss4 hbel
        replace ee0 := keepOn ee0 hbel
        replace ee1 := keepOn ee1 hbel
        replace ee2 := keepOn ee2 hbel
        replace ee3 := keepOn ee3 hbel
        replace ee4 := keepOn ee4 hbel
        replace ee5 := keepOn ee5 hbel
        replace ee6 := keepOn ee6 hbel
        replace ee7 := keepOn ee7 hbel
        replace ee8 := keepOn ee8 hbel
        replace ee9 := keepOn ee9 hbel
        replace ee10 := keepOn ee10 hbel
        replace ee11 := keepOn ee11 hbel
        replace ta0 := keepOn ta0 hbel
        replace ta1 := keepOn ta1 hbel
        replace ta2 := keepOn ta2 hbel
        replace ta3 := keepOn ta3 hbel
        replace ta4 := keepOn ta4 hbel
        replace tb0 := keepOn tb0 hbel
        replace tb1 := keepOn tb1 hbel
        replace tb2 := keepOn tb2 hbel
        replace tb3 := keepOn tb3 hbel
        replace tb4 := keepOn tb4 hbel
        have CW2 := Lib.hid (fun u (hu : Below w8.heap.size w8 u) => CRW.out u (belStep HB6.out (belStep HB8.out hu)))
        have CO2 := Lib.hid (fun u (hu : Below w8.heap.size w8 u) => CRO.out u (belStep HB6.out (belStep HB8.out hu)))
        have CSA := Lib.hid (fun u b d (hu : Below w8.heap.size w8 u) (hr : Row u b LA.length d 12 (LA.flatMap EntV.cells)) => ((sameS_iff r o LA r o LA).2 ⟨rfl, rfl, rfl⟩) ▸ sref_SameS r a3 LA.length c3 o LA r b LA.length d o LA u rfl (HA.out.later (belStep HB8.out hu)) rfl hr)
        have CSB := Lib.hid (fun u b d (hu : Below w8.heap.size w8 u) (hr : Row u b LB.length d 12 (LB.flatMap EntV.cells)) => ((sameS_iff r o LB r o LB).2 ⟨rfl, rfl, rfl⟩) ▸ sref_SameS r a4 LB.length c4 o LB r b LB.length d o LB u rfl (HBR.out.later (belStep HB8.out hu)) rfl hr)
        clear hbel
        have hbel : Below w8.heap.size w8 w8 := Below.refl _ _
        refine wp_region_held_drew (S := fun u => Below w8.heap.size w8 u) (by kernel_rfl) (by exact (show Below w8.heap.size w8 _ by repeat (first | assumption | exact Below.refl _ _ | refine belDrew ?_ | refine belAlloc ?_ _ | refine belStep ?_ (by assumption)))) (fun hHeld => ?_)
        refine wpAnyH_take (i := 0) (oi := ?oi_k27) (v := ?v_k27) ?hi_k27 (by kernel_rfl) ?hf_k27 ?hr_k27 ?hQ_k27 (Or.inl ⟨?hw_k27, ?hy_k27⟩) (by assumption) ?rest_k27
        case hi_k27 => ((simp only [List.getElem?_toArray, List.getElem?_cons_succ, List.getElem?_cons_zero]); rfl)
        case hf_k27 => kernel_rfl
        case hr_k27 => kernel_rfl
        case hQ_k27 => exact fun _ _ _ h => h
        case hw_k27 => rfl
        case hy_k27 => ((intro w hSw; (try dsimp only at hSw); go_simp); all_goals (with_reducible rfl))
        try simp only [Act.put, List.setIfInBounds_toArray, List.set_cons_zero, List.set_cons_succ]
        refine wpAnyH_take (i := 1) (oi := ?oi_k28) (v := ?v_k28) ?hi_k28 (by kernel_rfl) ?hf_k28 ?hr_k28 ?hQ_k28 (Or.inl ⟨?hw_k28, ?hy_k28⟩) (by assumption) ?rest_k28
        case hi_k28 => ((simp only [List.getElem?_toArray, List.getElem?_cons_succ, List.getElem?_cons_zero]); rfl)
        case hf_k28 => kernel_rfl
        case hr_k28 => kernel_rfl
        case hQ_k28 => exact fun _ _ _ h => h
        case hw_k28 => rfl
        case hy_k28 => ((intro w hSw; (try dsimp only at hSw); go_simp); all_goals (with_reducible rfl))
        try simp only [Act.put, List.setIfInBounds_toArray, List.set_cons_zero, List.set_cons_succ]
        refine wpAnyH_take (i := 2) (oi := ?oi_k29) (v := ?v_k29) ?hi_k29 (by kernel_rfl) ?hf_k29 ?hr_k29 ?hQ_k29 (Or.inl ⟨?hw_k29, ?hy_k29⟩) (by assumption) ?rest_k29
        case hi_k29 => ((simp only [List.getElem?_toArray, List.getElem?_cons_succ, List.getElem?_cons_zero]); rfl)
        case hf_k29 => kernel_rfl
        case hr_k29 => kernel_rfl
        case hQ_k29 => exact fun _ _ _ h => h
        case hw_k29 => rfl
        case hy_k29 => ((intro w hSw; (try dsimp only at hSw); go_simp); all_goals (with_reducible rfl))
        try simp only [Act.put, List.setIfInBounds_toArray, List.set_cons_zero, List.set_cons_succ]
        refine wpAnyH_ready (rs := [3]) (by kernel_rfl) (by simp) ?_
        refine AllReadyH.cons (o := ?o1_k30) ?hi_k30 (fun K hK => ?rest_k30) AllReadyH.nil
        case hi_k30 => ((simp only [List.getElem?_toArray, List.getElem?_cons_succ, List.getElem?_cons_zero]); rfl)
        go_simp
        (go_at_call 27; (with_reducible refine (CW2.out _ hHeld).mono ?_); rintro e wq3 ⟨v9, rfl, ho9, hbq⟩)
        obtain ⟨a9, c9, rfl, hr9⟩ := rowR_of_own ho9
        have hu3 : Below w8.heap.size w8 wq3 := belStep hHeld hbq
        clear hbq
        try go_simp
        refine hK.out _ _ (by exact hu3) (fun hHeld => ?_)
        clear hK K
        try simp only [Act.put, List.setIfInBounds_toArray, List.set_cons_zero, List.set_cons_succ]
        refine wpAnyH_ready (rs := [4]) (by kernel_rfl) (by simp) ?_
        refine AllReadyH.cons (o := ?o1_k31) ?hi_k31 (fun K hK => ?rest_k31) AllReadyH.nil
        case hi_k31 => ((simp only [List.getElem?_toArray, List.getElem?_cons_succ, List.getElem?_cons_zero]); rfl)
        go_simp
        (go_at_call 20; (with_reducible refine (CSA.out _ a9 c9 hHeld hr9).mono ?_); rintro e wq4 ⟨rfl, hbq⟩)
        have hu4 : Below w8.heap.size w8 wq4 := belStep hHeld hbq
        clear hbq
        try go_simp
        refine hK.out _ _ (by exact hu4) (fun hHeld => ?_)
        clear hK K
        try simp only [Act.put, List.setIfInBounds_toArray, List.set_cons_zero, List.set_cons_succ]
        refine wpAnyH_take (i := 5) (oi := ?oi_k32) (v := ?v_k32) ?hi_k32 (by kernel_rfl) ?hf_k32 ?hr_k32 ?hQ_k32 (Or.inl ⟨?hw_k32, ?hy_k32⟩) (by assumption) ?rest_k32
        case hi_k32 => ((simp only [List.getElem?_toArray, List.getElem?_cons_succ, List.getElem?_cons_zero]); rfl)
        case hf_k32 => kernel_rfl
        case hr_k32 => kernel_rfl
        case hQ_k32 => exact fun _ _ _ h => h
        case hw_k32 => rfl
        case hy_k32 => ((intro w hSw; (try dsimp only at hSw); go_simp); all_goals (with_reducible rfl))
        try simp only [Act.put, List.setIfInBounds_toArray, List.set_cons_zero, List.set_cons_succ]
        refine wpAnyH_take (i := 6) (oi := ?oi_k33) (v := ?v_k33) ?hi_k33 (by kernel_rfl) ?hf_k33 ?hr_k33 ?hQ_k33 (Or.inl ⟨?hw_k33, ?hy_k33⟩) (by assumption) ?rest_k33
        case hi_k33 => ((simp only [List.getElem?_toArray, List.getElem?_cons_succ, List.getElem?_cons_zero]); rfl)
        case hf_k33 => kernel_rfl
        case hr_k33 => kernel_rfl
        case hQ_k33 => exact fun _ _ _ h => h
        case hw_k33 => rfl
        case hy_k33 => ((intro w hSw; (try dsimp only at hSw); go_simp); all_goals (with_reducible rfl))
        try simp only [Act.put, List.setIfInBounds_toArray, List.set_cons_zero, List.set_cons_succ]
        refine wpAnyH_take (i := 7) (oi := ?oi_k34) (v := ?v_k34) ?hi_k34 (by kernel_rfl) ?hf_k34 ?hr_k34 ?hQ_k34 (Or.inl ⟨?hw_k34, ?hy_k34⟩) (by assumption) ?rest_k34
        case hi_k34 => ((simp only [List.getElem?_toArray, List.getElem?_cons_succ, List.getElem?_cons_zero]); rfl)
        case hf_k34 => kernel_rfl
        case hr_k34 => kernel_rfl
        case hQ_k34 => exact fun _ _ _ h => h
        case hw_k34 => rfl
        case hy_k34 => ((intro w hSw; (try dsimp only at hSw); go_simp); all_goals (with_reducible rfl))
        try simp only [Act.put, List.setIfInBounds_toArray, List.set_cons_zero, List.set_cons_succ]
        refine wpAnyH_take (i := 8) (oi := ?oi_k35) (v := ?v_k35) ?hi_k35 (by kernel_rfl) ?hf_k35 ?hr_k35 ?hQ_k35 (Or.inl ⟨?hw_k35, ?hy_k35⟩) (by assumption) ?rest_k35
        case hi_k35 => ((simp only [List.getElem?_toArray, List.getElem?_cons_succ, List.getElem?_cons_zero]); rfl)
        case hf_k35 => kernel_rfl
        case hr_k35 => kernel_rfl
        case hQ_k35 => exact fun _ _ _ h => h
        case hw_k35 => rfl
        case hy_k35 => ((intro w hSw; (try dsimp only at hSw); go_simp); all_goals (with_reducible rfl))
        try simp only [Act.put, List.setIfInBounds_toArray, List.set_cons_zero, List.set_cons_succ]
        refine wpAnyH_ready (rs := [9]) (by kernel_rfl) (by simp) ?_
        refine AllReadyH.cons (o := ?o1_k36) ?hi_k36 (fun K hK => ?rest_k36) AllReadyH.nil
        case hi_k36 => ((simp only [List.getElem?_toArray, List.getElem?_cons_succ, List.getElem?_cons_zero]); rfl)
        go_simp
        (go_at_call 28; (with_reducible refine (CO2.out _ hHeld).mono ?_); rintro e wq9 ⟨v10, rfl, ho10, hbq⟩)
        obtain ⟨a10, c10, rfl, hr10⟩ := rowR_of_own ho10
        have hu9 : Below w8.heap.size w8 wq9 := belStep hHeld hbq
        clear hbq
        try go_simp
        refine hK.out _ _ (by exact hu9) (fun hHeld => ?_)
        clear hK K
        try simp only [Act.put, List.setIfInBounds_toArray, List.set_cons_zero, List.set_cons_succ]
        refine wpAnyH_ready (rs := [10]) (by kernel_rfl) (by simp) ?_
        refine AllReadyH.cons (o := ?o1_k37) ?hi_k37 (fun K hK => ?rest_k37) AllReadyH.nil
        case hi_k37 => ((simp only [List.getElem?_toArray, List.getElem?_cons_succ, List.getElem?_cons_zero]); rfl)
        go_simp
        (go_at_call 20; (with_reducible refine (CSB.out _ a10 c10 hHeld hr10).mono ?_); rintro e wq10 ⟨rfl, hbq⟩)
        have hu10 : Below w8.heap.size w8 wq10 := belStep hHeld hbq
        clear hbq
        try go_simp
        refine hK.out _ _ (by exact hu10) (fun hHeld => ?_)
        clear hK K
        try simp only [Act.put, List.setIfInBounds_toArray, List.set_cons_zero, List.set_cons_succ]
        refine wpAnyH_take (i := 11) (oi := ?oi_k38) (v := ?v_k38) ?hi_k38 (by kernel_rfl) ?hf_k38 ?hr_k38 ?hQ_k38 (Or.inl ⟨?hw_k38, ?hy_k38⟩) (by assumption) ?rest_k38
        case hi_k38 => ((simp only [List.getElem?_toArray, List.getElem?_cons_succ, List.getElem?_cons_zero]); rfl)
        case hf_k38 => kernel_rfl
        case hr_k38 => kernel_rfl
        case hQ_k38 => exact fun _ _ _ h => h
        case hw_k38 => rfl
        case hy_k38 => ((intro w hSw; (try dsimp only at hSw); go_simp); all_goals (with_reducible rfl))
        try simp only [Act.put, List.setIfInBounds_toArray, List.set_cons_zero, List.set_cons_succ]
        refine wpAnyH_take (i := 12) (oi := ?oi_k39) (v := ?v_k39) ?hi_k39 (by kernel_rfl) ?hf_k39 ?hr_k39 ?hQ_k39 (Or.inl ⟨?hw_k39, ?hy_k39⟩) (by assumption) ?rest_k39
        case hi_k39 => ((simp only [List.getElem?_toArray, List.getElem?_cons_succ, List.getElem?_cons_zero]); rfl)
        case hf_k39 => kernel_rfl
        case hr_k39 => kernel_rfl
        case hQ_k39 => exact fun _ _ _ h => h
        case hw_k39 => rfl
        case hy_k39 => ((intro w hSw; (try dsimp only at hSw); go_simp); all_goals (with_reducible rfl))
        try simp only [Act.put, List.setIfInBounds_toArray, List.set_cons_zero, List.set_cons_succ]
        refine wpAnyH_done (by kernel_rfl) ?_ _
        go_wp2
        go_ret
        exact ⟨rfl, belStep HW1.out (belStep HB6.out (belStep HB8.out hHeld))⟩
      · have hl6 : decide ((LA.length : Int) ≤ 64) = false := decide_eq_false (by omega)
        have hl7 : ¬ (LA.length : Int) ≤ 64 := by omega
        go_upto_region 11 with (first | (go_at_call 14; (with_reducible refine (CSRB.out _ hbel).mono ?_); rintro e w8 ⟨rfl, hb8⟩; replace hbel := belStep hbel hb8; clear hb8))
        have HB8 := Lib.hid hbel
        replace ss0 := keepOn ss0 hbel
        replace ss1 := keepOn ss1 hbel
        replace ss2 := keepOn ss2 hbel
        replace ss3 := keepOn ss3 hbel
        replace ss4 := keepOn ss4 hbel
        replace ee0 := keepOn ee0 hbel
        replace ee1 := keepOn ee1 hbel
        replace ee2 := keepOn ee2 hbel
        replace ee3 := keepOn ee3 hbel
        replace ee4 := keepOn ee4 hbel
        replace ee5 := keepOn ee5 hbel
        replace ee6 := keepOn ee6 hbel
        replace ee7 := keepOn ee7 hbel
        replace ee8 := keepOn ee8 hbel
        replace ee9 := keepOn ee9 hbel
        replace ee10 := keepOn ee10 hbel
        replace ee11 := keepOn ee11 hbel
        replace ta0 := keepOn ta0 hbel
        replace ta1 := keepOn ta1 hbel
        replace ta2 := keepOn ta2 hbel
        replace ta3 := keepOn ta3 hbel
        replace ta4 := keepOn ta4 hbel
        replace tb0 := keepOn tb0 hbel
        replace tb1 := keepOn tb1 hbel
        replace tb2 := keepOn tb2 hbel
        replace tb3 := keepOn tb3 hbel
        replace tb4 := keepOn tb4 hbel
        have CW2 := Lib.hid (fun u (hu : Below w8.heap.size w8 u) => CRW.out u (belStep HB6.out (belStep HB8.out hu)))
        have CO2 := Lib.hid (fun u (hu : Below w8.heap.size w8 u) => CRO.out u (belStep HB6.out (belStep HB8.out hu)))
        have CSA := Lib.hid (fun u b d (hu : Below w8.heap.size w8 u) (hr : Row u b LA.length d 12 (LA.flatMap EntV.cells)) => ((sameS_iff r o LA r o LA).2 ⟨rfl, rfl, rfl⟩) ▸ sref_SameS r a3 LA.length c3 o LA r b LA.length d o LA u rfl (HA.out.later (belStep HB8.out hu)) rfl hr)
        have CSB := Lib.hid (fun u b d (hu : Below w8.heap.size w8 u) (hr : Row u b LB.length d 12 (LB.flatMap EntV.cells)) => ((sameS_iff r o LB r o LB).2 ⟨rfl, rfl, rfl⟩) ▸ sref_SameS r a4 LB.length c4 o LB r b LB.length d o LB u rfl (HBR.out.later (belStep HB8.out hu)) rfl hr)
        clear hbel
        have hbel : Below w8.heap.size w8 w8 := Below.refl _ _
        refine wp_region_held_drew (S := fun u => Below w8.heap.size w8 u) (by kernel_rfl) (by exact (show Below w8.heap.size w8 _ by repeat (first | assumption | exact Below.refl _ _ | refine belDrew ?_ | refine belAlloc ?_ _ | refine belStep ?_ (by assumption)))) (fun hHeld => ?_)
        refine wpAnyH_take (i := 0) (oi := ?oi_k40) (v := ?v_k40) ?hi_k40 (by kernel_rfl) ?hf_k40 ?hr_k40 ?hQ_k40 (Or.inl ⟨?hw_k40, ?hy_k40⟩) (by assumption) ?rest_k40
        case hi_k40 => ((simp only [List.getElem?_toArray, List.getElem?_cons_succ, List.getElem?_cons_zero]); rfl)
        case hf_k40 => kernel_rfl
        case hr_k40 => kernel_rfl
        case hQ_k40 => exact fun _ _ _ h => h
        case hw_k40 => rfl
        case hy_k40 => ((intro w hSw; (try dsimp only at hSw); go_simp); all_goals (with_reducible rfl))
        try simp only [Act.put, List.setIfInBounds_toArray, List.set_cons_zero, List.set_cons_succ]
        refine wpAnyH_take (i := 1) (oi := ?oi_k41) (v := ?v_k41) ?hi_k41 (by kernel_rfl) ?hf_k41 ?hr_k41 ?hQ_k41 (Or.inl ⟨?hw_k41, ?hy_k41⟩) (by assumption) ?rest_k41
        case hi_k41 => ((simp only [List.getElem?_toArray, List.getElem?_cons_succ, List.getElem?_cons_zero]); rfl)
        case hf_k41 => kernel_rfl
        case hr_k41 => kernel_rfl
        case hQ_k41 => exact fun _ _ _ h => h
        case hw_k41 => rfl
        case hy_k41 => ((intro w hSw; (try dsimp only at hSw); go_simp); all_goals (with_reducible rfl))
        try simp only [Act.put, List.setIfInBounds_toArray, List.set_cons_zero, List.set_cons_succ]
        refine wpAnyH_take (i := 2) (oi := ?oi_k42) (v := ?v_k42) ?hi_k42 (by kernel_rfl) ?hf_k42 ?hr_k42 ?hQ_k42 (Or.inl ⟨?hw_k42, ?hy_k42⟩) (by assumption) ?rest_k42
        case hi_k42 => ((simp only [List.getElem?_toArray, List.getElem?_cons_succ, List.getElem?_cons_zero]); rfl)
        case hf_k42 => kernel_rfl
        case hr_k42 => kernel_rfl
        case hQ_k42 => exact fun _ _ _ h => h
        case hw_k42 => rfl
        case hy_k42 => ((intro w hSw; (try dsimp only at hSw); go_simp); all_goals (with_reducible rfl))
        try simp only [Act.put, List.setIfInBounds_toArray, List.set_cons_zero, List.set_cons_succ]
        refine wpAnyH_ready (rs := [3]) (by kernel_rfl) (by simp) ?_
        refine AllReadyH.cons (o := ?o1_k43) ?hi_k43 (fun K hK => ?rest_k43) AllReadyH.nil
        case hi_k43 => ((simp only [List.getElem?_toArray, List.getElem?_cons_succ, List.getElem?_cons_zero]); rfl)
        go_simp
        (go_at_call 27; (with_reducible refine (CW2.out _ hHeld).mono ?_); rintro e wq3 ⟨v9, rfl, ho9, hbq⟩)
        obtain ⟨a9, c9, rfl, hr9⟩ := rowR_of_own ho9
        have hu3 : Below w8.heap.size w8 wq3 := belStep hHeld hbq
        clear hbq
        try go_simp
        refine hK.out _ _ (by exact hu3) (fun hHeld => ?_)
        clear hK K
        try simp only [Act.put, List.setIfInBounds_toArray, List.set_cons_zero, List.set_cons_succ]
        refine wpAnyH_ready (rs := [4]) (by kernel_rfl) (by simp) ?_
        refine AllReadyH.cons (o := ?o1_k44) ?hi_k44 (fun K hK => ?rest_k44) AllReadyH.nil
        case hi_k44 => ((simp only [List.getElem?_toArray, List.getElem?_cons_succ, List.getElem?_cons_zero]); rfl)
        go_simp
        (go_at_call 20; (with_reducible refine (CSA.out _ a9 c9 hHeld hr9).mono ?_); rintro e wq4 ⟨rfl, hbq⟩)
        have hu4 : Below w8.heap.size w8 wq4 := belStep hHeld hbq
        clear hbq
        try go_simp
        refine hK.out _ _ (by exact hu4) (fun hHeld => ?_)
        clear hK K
        try simp only [Act.put, List.setIfInBounds_toArray, List.set_cons_zero, List.set_cons_succ]
        refine wpAnyH_take (i := 5) (oi := ?oi_k45) (v := ?v_k45) ?hi_k45 (by kernel_rfl) ?hf_k45 ?hr_k45 ?hQ_k45 (Or.inl ⟨?hw_k45, ?hy_k45⟩) (by assumption) ?rest_k45
        case hi_k45 => ((simp only [List.getElem?_toArray, List.getElem?_cons_succ, List.getElem?_cons_zero]); rfl)
        case hf_k45 => kernel_rfl
        case hr_k45 => kernel_rfl
        case hQ_k45 => exact fun _ _ _ h => h
        case hw_k45 => rfl
        case hy_k45 => ((intro w hSw; (try dsimp only at hSw); go_simp); all_goals (with_reducible rfl))
        try simp only [Act.put, List.setIfInBounds_toArray, List.set_cons_zero, List.set_cons_succ]
        refine wpAnyH_take (i := 6) (oi := ?oi_k46) (v := ?v_k46) ?hi_k46 (by kernel_rfl) ?hf_k46 ?hr_k46 ?hQ_k46 (Or.inl ⟨?hw_k46, ?hy_k46⟩) (by assumption) ?rest_k46
        case hi_k46 => ((simp only [List.getElem?_toArray, List.getElem?_cons_succ, List.getElem?_cons_zero]); rfl)
        case hf_k46 => kernel_rfl
        case hr_k46 => kernel_rfl
        case hQ_k46 => exact fun _ _ _ h => h
        case hw_k46 => rfl
        case hy_k46 => ((intro w hSw; (try dsimp only at hSw); go_simp); all_goals (with_reducible rfl))
        try simp only [Act.put, List.setIfInBounds_toArray, List.set_cons_zero, List.set_cons_succ]
        refine wpAnyH_take (i := 7) (oi := ?oi_k47) (v := ?v_k47) ?hi_k47 (by kernel_rfl) ?hf_k47 ?hr_k47 ?hQ_k47 (Or.inl ⟨?hw_k47, ?hy_k47⟩) (by assumption) ?rest_k47
        case hi_k47 => ((simp only [List.getElem?_toArray, List.getElem?_cons_succ, List.getElem?_cons_zero]); rfl)
        case hf_k47 => kernel_rfl
        case hr_k47 => kernel_rfl
        case hQ_k47 => exact fun _ _ _ h => h
        case hw_k47 => rfl
        case hy_k47 => ((intro w hSw; (try dsimp only at hSw); go_simp); all_goals (with_reducible rfl))
        try simp only [Act.put, List.setIfInBounds_toArray, List.set_cons_zero, List.set_cons_succ]
        refine wpAnyH_take (i := 8) (oi := ?oi_k48) (v := ?v_k48) ?hi_k48 (by kernel_rfl) ?hf_k48 ?hr_k48 ?hQ_k48 (Or.inl ⟨?hw_k48, ?hy_k48⟩) (by assumption) ?rest_k48
        case hi_k48 => ((simp only [List.getElem?_toArray, List.getElem?_cons_succ, List.getElem?_cons_zero]); rfl)
        case hf_k48 => kernel_rfl
        case hr_k48 => kernel_rfl
        case hQ_k48 => exact fun _ _ _ h => h
        case hw_k48 => rfl
        case hy_k48 => ((intro w hSw; (try dsimp only at hSw); go_simp); all_goals (with_reducible rfl))
        try simp only [Act.put, List.setIfInBounds_toArray, List.set_cons_zero, List.set_cons_succ]
        refine wpAnyH_ready (rs := [9]) (by kernel_rfl) (by simp) ?_
        refine AllReadyH.cons (o := ?o1_k49) ?hi_k49 (fun K hK => ?rest_k49) AllReadyH.nil
        case hi_k49 => ((simp only [List.getElem?_toArray, List.getElem?_cons_succ, List.getElem?_cons_zero]); rfl)
        go_simp
        (go_at_call 28; (with_reducible refine (CO2.out _ hHeld).mono ?_); rintro e wq9 ⟨v10, rfl, ho10, hbq⟩)
        obtain ⟨a10, c10, rfl, hr10⟩ := rowR_of_own ho10
        have hu9 : Below w8.heap.size w8 wq9 := belStep hHeld hbq
        clear hbq
        try go_simp
        refine hK.out _ _ (by exact hu9) (fun hHeld => ?_)
        clear hK K
        try simp only [Act.put, List.setIfInBounds_toArray, List.set_cons_zero, List.set_cons_succ]
        refine wpAnyH_ready (rs := [10]) (by kernel_rfl) (by simp) ?_
        refine AllReadyH.cons (o := ?o1_k50) ?hi_k50 (fun K hK => ?rest_k50) AllReadyH.nil
        case hi_k50 => ((simp only [List.getElem?_toArray, List.getElem?_cons_succ, List.getElem?_cons_zero]); rfl)
        go_simp
        (go_at_call 20; (with_reducible refine (CSB.out _ a10 c10 hHeld hr10).mono ?_); rintro e wq10 ⟨rfl, hbq⟩)
        have hu10 : Below w8.heap.size w8 wq10 := belStep hHeld hbq
        clear hbq
        try go_simp
        refine hK.out _ _ (by exact hu10) (fun hHeld => ?_)
        clear hK K
        try simp only [Act.put, List.setIfInBounds_toArray, List.set_cons_zero, List.set_cons_succ]
        refine wpAnyH_take (i := 11) (oi := ?oi_k51) (v := ?v_k51) ?hi_k51 (by kernel_rfl) ?hf_k51 ?hr_k51 ?hQ_k51 (Or.inl ⟨?hw_k51, ?hy_k51⟩) (by assumption) ?rest_k51
        case hi_k51 => ((simp only [List.getElem?_toArray, List.getElem?_cons_succ, List.getElem?_cons_zero]); rfl)
        case hf_k51 => kernel_rfl
        case hr_k51 => kernel_rfl
        case hQ_k51 => exact fun _ _ _ h => h
        case hw_k51 => rfl
        case hy_k51 => ((intro w hSw; (try dsimp only at hSw); go_simp); all_goals (with_reducible rfl))
        try simp only [Act.put, List.setIfInBounds_toArray, List.set_cons_zero, List.set_cons_succ]
        refine wpAnyH_take (i := 12) (oi := ?oi_k52) (v := ?v_k52) ?hi_k52 (by kernel_rfl) ?hf_k52 ?hr_k52 ?hQ_k52 (Or.inl ⟨?hw_k52, ?hy_k52⟩) (by assumption) ?rest_k52
        case hi_k52 => ((simp only [List.getElem?_toArray, List.getElem?_cons_succ, List.getElem?_cons_zero]); rfl)
        case hf_k52 => kernel_rfl
        case hr_k52 => kernel_rfl
        case hQ_k52 => exact fun _ _ _ h => h
        case hw_k52 => rfl
        case hy_k52 => ((intro w hSw; (try dsimp only at hSw); go_simp); all_goals (with_reducible rfl))
        try simp only [Act.put, List.setIfInBounds_toArray, List.set_cons_zero, List.set_cons_succ]
        refine wpAnyH_done (by kernel_rfl) ?_ _
        go_wp2
        go_ret
        exact ⟨rfl, belStep HW1.out (belStep HB6.out (belStep HB8.out hHeld))⟩

set_option maxRecDepth 100000 in
theorem lifted (os : Os) (started : os.Started) (H : Type) (enc : TypeId × Value → H) :
    ReturnsInHanded {} Try.checked os 7 .any (Rows.stateTableSpec.pre6 enc Try.prog Try.f7 Rows.stateTableRow.domain false) (Rows.stateTableSpec.post enc Try.prog Try.f7 false true false false) := by
  refine returnsInHanded_of_change (C := Try.checked) own started (by kernel_rfl) Try.func7
    (ChangeSpec.witness6 (enc := enc) (C := Try.checked) false ⟨#[], #[.agg #[.int .i64 0, .slice none 0 0, .bool false, .bool false, .bool false], .agg #[.string ByteArray.empty, .int .i64 0, .bool false, .int .i64 0, .int .i64 0, .int .i64 0, .int .i64 0, .int .i64 0, .int .i64 0, .string ByteArray.empty, .int .i64 0, .int .i64 0], .string ByteArray.empty], []⟩ 8 (by kernel_rfl) (by kernel_rfl) (by kernel_rfl) (by kernel_rfl)) ?_
  intro W base args ds gs before hval0 hW hcnd _
  have hval : ∀ (j : Nat) t v, Try.f7.params[j]? = some t → args[j]? = some v → Value.okWide Try.prog W .any base t v := hval0
  have hW' := hW
  obtain ⟨p, q, hA0, hV, rfl, hfz, hnd⟩ := hW
  have hA : DataW.TrodAll enc Try.prog W 0 (fun _ => true) true Try.f7.params.toList args.toList ds p := hA0
  rw [Try.params7] at hA hval
  obtain ⟨v0, vs0, d0, ds0, p0, q0, hargs, rfl, rfl, h0, r0⟩ := trodAll_cons hA
  obtain ⟨v1, vs1, d1, ds1, p1, q1, rfl, rfl, rfl, h1, r1⟩ := trodAll_cons r0
  obtain ⟨v2, vs2, d2, ds2, p2, q2, rfl, rfl, rfl, h2, r2⟩ := trodAll_cons r1
  obtain ⟨rfl, rfl, rfl⟩ := trodAll_nil r2
  obtain rfl : args = #[v0, v1, v2] := by cases args; simp_all
  obtain ⟨rfl, rfl⟩ := trodVars_none hV
  have k0 := h0
  have lt0 : ∀ x ∈ p0, x.block < W.heap.size := by obtain ⟨m, hm⟩ := k0; exact DataW.trod_lt m _ _ _ hm
  have o0 : Value.okWide Try.prog W .any base 25 v0 := hval 0 25 v0 rfl rfl
  obtain ⟨xr0, xa0, xn0, xc0, xo0, xl0, rfl, fa0, fb0, fc0, fd0⟩ := open_state o0 h0
  have k1 := h1
  have lt1 : ∀ x ∈ p1, x.block < W.heap.size := by obtain ⟨m, hm⟩ := k1; exact DataW.trod_lt m _ _ _ hm
  have o1 : Value.okWide Try.prog W .any base 46 v1 := hval 1 46 v1 rfl rfl
  obtain ⟨xe1, rfl, fe1⟩ := open_ent o1 h1
  have k2 := h2
  have lt2 : ∀ x ∈ p2, x.block < W.heap.size := by obtain ⟨m, hm⟩ := k2; exact DataW.trod_lt m _ _ _ hm
  have o2 : Value.okWide Try.prog W .any base 9 v2 := hval 2 9 v2 rfl rfl
  obtain ⟨a2, rfl, rfl, rfl, w2⟩ := open_string Try.underlying9 o2 h2
  clear hA0 hval0
  refine (walk xr0 xa0 xn0 xc0 xo0 xl0 xe1 a2 W fa0 fb0 fc0 fd0 fe1 w2).mono fun e W' ⟨he, bel⟩ => ?_
  subst he
  exact ⟨_, rfl, _, _, _, [], _, [], hW', trodAll_mk1 (shut_bool Try.underlying4 _), (trodAll_cons_mk (Below.trod laidOut (by kernel_rfl) (of_decide_eq_true (by kernel_rfl)) k0 bel lt0) (trodAll_cons_mk (Below.trod laidOut (by kernel_rfl) (of_decide_eq_true (by kernel_rfl)) k1 bel lt1) (trodAll_cons_mk (Below.trod laidOut (by kernel_rfl) (of_decide_eq_true (by kernel_rfl)) k2 bel lt2) trodAll_mk0))), rfl, bel.frame _, fun h => by cases h⟩

theorem over : Rows.stateTableRow.holds Try.pinned (OpenSpec.ofChange Rows.stateTableSpec) :=
  OpenClaim.holds_of_wide 7 Try.f7 rfl rfl rfl rfl rfl rfl rfl ⟨rfl, rfl, rfl, rfl, rfl⟩ rfl rfl rfl rfl rfl (by kernel_rfl) Try.func7 (by kernel_rfl)
    (of_decide_eq_true (by kernel_rfl)) (by unfold Func.isWrapper; first | (rw [if_pos (by decide +kernel)]; kernel_rfl) | (rw [if_neg (by decide +kernel)]; exact ⟨rfl, rfl⟩))
    (fun os started H enc _ => lifted os started H enc)

/-- The statement. -/
theorem proved : Rows.StateTableSaid := over
#print axioms proved

end Go.Proofs.Ytpmkhimmlpnbpaa.stateTable
