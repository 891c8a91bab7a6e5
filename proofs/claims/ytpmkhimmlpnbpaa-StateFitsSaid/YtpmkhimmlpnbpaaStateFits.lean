
/- StateFits holds for all its arguments. No conditions. -/
import Derived.Test.YtpmkhimmlpnbpaaStLM
namespace Go.Proofs.Ytpmkhimmlpnbpaa.stateFits
open Go.ChangeShapes Go.WideShapes Go.ChangeAt Go.RowKit
open Go.ChangeMaps (open_string shut_string)
set_option linter.unusedVariables false
set_option linter.unusedSimpArgs false
set_option maxRecDepth 100000 in
set_option maxHeartbeats 16000000 in
theorem walk (r : Int) (a : Option Addr) (n c : Nat) (o : On) (L : List EntV) (q : CfgV) (w : World) (hr : InI r) (hl : L.length = n) (hok : ∀ x ∈ L, x.ok) (hR : Row w a n c 12 (L.flatMap EntV.cells)) (hc : q.ok w) :
    Calls Try.prog 9 #[.agg #[.int .i64 r, .slice a n c, .bool o.a, .bool o.b, .bool o.c], .agg #[.int .i64 q.k0, .int .i64 q.k1, .int .i64 q.k2, .int .i64 q.a0, .int .i64 q.a1, .int .i64 q.a2, .slice q.ta q.tl q.tc, .int .i64 q.per, .int .i64 q.ret, .int .i64 q.age, .int .i64 q.dead]] w fun e w' => e = .returned (.bool true) ∧ Below w.heap.size w w' := by
  have hw : Below w.heap.size w w := Below.refl _ _
  have hbel := hw
  have hbd : n ≤ c ∧ c ≤ 9223372036854775807 := by obtain ⟨_, h1, h2, _⟩ := hR; unfold maxLen at h2; exact ⟨h1, h2⟩
  obtain ⟨hbd1, hbd2⟩ := hbd
  have HR := Lib.hid hR
  have HOK := Lib.hid hok
  have HLN := Lib.hid hl
  obtain ⟨fs, hfs⟩ : ∃ b, fewS L = b := ⟨_, rfl⟩
  obtain ⟨rs, hrs⟩ : ∃ b, stB r L = b := ⟨_, rfl⟩
  have CFW := Lib.hid (fun v (hv : Below w.heap.size w v) => hfs ▸ sref_Few r a n c o L v hl hok (hR.later hv))
  have CRT := Lib.hid (fun v (hv : Below w.heap.size w v) => hrs ▸ sref_Right r a n c o L v hl hok (hR.later hv))
  have HFS := Lib.hid hfs
  have HRS := Lib.hid hrs
  clear hR hok hl hfs hrs hr
  have HCO := Lib.hid hc
  have CCF := Lib.hid (fun v (hv : Below w.heap.size w v) => ref7_Right q v (hc.later hv))
  clear hc
  go_enter Try.func9, Try.ntmps9
  go_upto_region 1 with fail
  have ss0 : ((w.alloc (.cells #[.int .i64 r, .slice a n c, .bool o.a, .bool o.b, .bool o.c] 25)).alloc (.cells #[.int .i64 q.k0, .int .i64 q.k1, .int .i64 q.k2, .int .i64 q.a0, .int .i64 q.a1, .int .i64 q.a2, .slice q.ta q.tl q.tc, .int .i64 q.per, .int .i64 q.ret, .int .i64 q.age, .int .i64 q.dead] 57)).cell? ⟨w.heap.size, 0, none⟩ = some (.int .i64 r) := by first | (simp; done) | (rw [World.cell?_alloc_at _ _ _ _ (by simp)]; rfl) | (rw [World.cell?_alloc_past _ _ _ (by simp <;> omega), World.cell?_alloc_at _ _ _ _ (by simp)]; rfl) | (rw [World.cell?_alloc_past _ _ _ (by simp <;> omega), World.cell?_alloc_past _ _ _ (by simp <;> omega), World.cell?_alloc_at _ _ _ _ (by simp)]; rfl)
  have ss1 : ((w.alloc (.cells #[.int .i64 r, .slice a n c, .bool o.a, .bool o.b, .bool o.c] 25)).alloc (.cells #[.int .i64 q.k0, .int .i64 q.k1, .int .i64 q.k2, .int .i64 q.a0, .int .i64 q.a1, .int .i64 q.a2, .slice q.ta q.tl q.tc, .int .i64 q.per, .int .i64 q.ret, .int .i64 q.age, .int .i64 q.dead] 57)).cell? ⟨w.heap.size, 1, none⟩ = some (.slice a n c) := by first | (simp; done) | (rw [World.cell?_alloc_at _ _ _ _ (by simp)]; rfl) | (rw [World.cell?_alloc_past _ _ _ (by simp <;> omega), World.cell?_alloc_at _ _ _ _ (by simp)]; rfl) | (rw [World.cell?_alloc_past _ _ _ (by simp <;> omega), World.cell?_alloc_past _ _ _ (by simp <;> omega), World.cell?_alloc_at _ _ _ _ (by simp)]; rfl)
  have ss2 : ((w.alloc (.cells #[.int .i64 r, .slice a n c, .bool o.a, .bool o.b, .bool o.c] 25)).alloc (.cells #[.int .i64 q.k0, .int .i64 q.k1, .int .i64 q.k2, .int .i64 q.a0, .int .i64 q.a1, .int .i64 q.a2, .slice q.ta q.tl q.tc, .int .i64 q.per, .int .i64 q.ret, .int .i64 q.age, .int .i64 q.dead] 57)).cell? ⟨w.heap.size, 2, none⟩ = some (.bool o.a) := by first | (simp; done) | (rw [World.cell?_alloc_at _ _ _ _ (by simp)]; rfl) | (rw [World.cell?_alloc_past _ _ _ (by simp <;> omega), World.cell?_alloc_at _ _ _ _ (by simp)]; rfl) | (rw [World.cell?_alloc_past _ _ _ (by simp <;> omega), World.cell?_alloc_past _ _ _ (by simp <;> omega), World.cell?_alloc_at _ _ _ _ (by simp)]; rfl)
  have ss3 : ((w.alloc (.cells #[.int .i64 r, .slice a n c, .bool o.a, .bool o.b, .bool o.c] 25)).alloc (.cells #[.int .i64 q.k0, .int .i64 q.k1, .int .i64 q.k2, .int .i64 q.a0, .int .i64 q.a1, .int .i64 q.a2, .slice q.ta q.tl q.tc, .int .i64 q.per, .int .i64 q.ret, .int .i64 q.age, .int .i64 q.dead] 57)).cell? ⟨w.heap.size, 3, none⟩ = some (.bool o.b) := by first | (simp; done) | (rw [World.cell?_alloc_at _ _ _ _ (by simp)]; rfl) | (rw [World.cell?_alloc_past _ _ _ (by simp <;> omega), World.cell?_alloc_at _ _ _ _ (by simp)]; rfl) | (rw [World.cell?_alloc_past _ _ _ (by simp <;> omega), World.cell?_alloc_past _ _ _ (by simp <;> omega), World.cell?_alloc_at _ _ _ _ (by simp)]; rfl)
  have ss4 : ((w.alloc (.cells #[.int .i64 r, .slice a n c, .bool o.a, .bool o.b, .bool o.c] 25)).alloc (.cells #[.int .i64 q.k0, .int .i64 q.k1, .int .i64 q.k2, .int .i64 q.a0, .int .i64 q.a1, .int .i64 q.a2, .slice q.ta q.tl q.tc, .int .i64 q.per, .int .i64 q.ret, .int .i64 q.age, .int .i64 q.dead] 57)).cell? ⟨w.heap.size, 4, none⟩ = some (.bool o.c) := by first | (simp; done) | (rw [World.cell?_alloc_at _ _ _ _ (by simp)]; rfl) | (rw [World.cell?_alloc_past _ _ _ (by simp <;> omega), World.cell?_alloc_at _ _ _ _ (by simp)]; rfl) | (rw [World.cell?_alloc_past _ _ _ (by simp <;> omega), World.cell?_alloc_past _ _ _ (by simp <;> omega), World.cell?_alloc_at _ _ _ _ (by simp)]; rfl)
  have cc0 : ((w.alloc (.cells #[.int .i64 r, .slice a n c, .bool o.a, .bool o.b, .bool o.c] 25)).alloc (.cells #[.int .i64 q.k0, .int .i64 q.k1, .int .i64 q.k2, .int .i64 q.a0, .int .i64 q.a1, .int .i64 q.a2, .slice q.ta q.tl q.tc, .int .i64 q.per, .int .i64 q.ret, .int .i64 q.age, .int .i64 q.dead] 57)).cell? ⟨w.heap.size + 1, 0, none⟩ = some (.int .i64 q.k0) := by first | (simp; done) | (rw [World.cell?_alloc_at _ _ _ _ (by simp)]; rfl) | (rw [World.cell?_alloc_past _ _ _ (by simp <;> omega), World.cell?_alloc_at _ _ _ _ (by simp)]; rfl) | (rw [World.cell?_alloc_past _ _ _ (by simp <;> omega), World.cell?_alloc_past _ _ _ (by simp <;> omega), World.cell?_alloc_at _ _ _ _ (by simp)]; rfl)
  have cc1 : ((w.alloc (.cells #[.int .i64 r, .slice a n c, .bool o.a, .bool o.b, .bool o.c] 25)).alloc (.cells #[.int .i64 q.k0, .int .i64 q.k1, .int .i64 q.k2, .int .i64 q.a0, .int .i64 q.a1, .int .i64 q.a2, .slice q.ta q.tl q.tc, .int .i64 q.per, .int .i64 q.ret, .int .i64 q.age, .int .i64 q.dead] 57)).cell? ⟨w.heap.size + 1, 1, none⟩ = some (.int .i64 q.k1) := by first | (simp; done) | (rw [World.cell?_alloc_at _ _ _ _ (by simp)]; rfl) | (rw [World.cell?_alloc_past _ _ _ (by simp <;> omega), World.cell?_alloc_at _ _ _ _ (by simp)]; rfl) | (rw [World.cell?_alloc_past _ _ _ (by simp <;> omega), World.cell?_alloc_past _ _ _ (by simp <;> omega), World.cell?_alloc_at _ _ _ _ (by simp)]; rfl)
  have cc2 : ((w.alloc (.cells #[.int .i64 r, .slice a n c, .bool o.a, .bool o.b, .bool o.c] 25)).alloc (.cells #[.int .i64 q.k0, .int .i64 q.k1, .int .i64 q.k2, .int .i64 q.a0, .int .i64 q.a1, .int .i64 q.a2, .slice q.ta q.tl q.tc, .int .i64 q.per, .int .i64 q.ret, .int .i64 q.age, .int .i64 q.dead] 57)).cell? ⟨w.heap.size + 1, 2, none⟩ = some (.int .i64 q.k2) := by first | (simp; done) | (rw [World.cell?_alloc_at _ _ _ _ (by simp)]; rfl) | (rw [World.cell?_alloc_past _ _ _ (by simp <;> omega), World.cell?_alloc_at _ _ _ _ (by simp)]; rfl) | (rw [World.cell?_alloc_past _ _ _ (by simp <;> omega), World.cell?_alloc_past _ _ _ (by simp <;> omega), World.cell?_alloc_at _ _ _ _ (by simp)]; rfl)
  have cc3 : ((w.alloc (.cells #[.int .i64 r, .slice a n c, .bool o.a, .bool o.b, .bool o.c] 25)).alloc (.cells #[.int .i64 q.k0, .int .i64 q.k1, .int .i64 q.k2, .int .i64 q.a0, .int .i64 q.a1, .int .i64 q.a2, .slice q.ta q.tl q.tc, .int .i64 q.per, .int .i64 q.ret, .int .i64 q.age, .int .i64 q.dead] 57)).cell? ⟨w.heap.size + 1, 3, none⟩ = some (.int .i64 q.a0) := by first | (simp; done) | (rw [World.cell?_alloc_at _ _ _ _ (by simp)]; rfl) | (rw [World.cell?_alloc_past _ _ _ (by simp <;> omega), World.cell?_alloc_at _ _ _ _ (by simp)]; rfl) | (rw [World.cell?_alloc_past _ _ _ (by simp <;> omega), World.cell?_alloc_past _ _ _ (by simp <;> omega), World.cell?_alloc_at _ _ _ _ (by simp)]; rfl)
  have cc4 : ((w.alloc (.cells #[.int .i64 r, .slice a n c, .bool o.a, .bool o.b, .bool o.c] 25)).alloc (.cells #[.int .i64 q.k0, .int .i64 q.k1, .int .i64 q.k2, .int .i64 q.a0, .int .i64 q.a1, .int .i64 q.a2, .slice q.ta q.tl q.tc, .int .i64 q.per, .int .i64 q.ret, .int .i64 q.age, .int .i64 q.dead] 57)).cell? ⟨w.heap.size + 1, 4, none⟩ = some (.int .i64 q.a1) := by first | (simp; done) | (rw [World.cell?_alloc_at _ _ _ _ (by simp)]; rfl) | (rw [World.cell?_alloc_past _ _ _ (by simp <;> omega), World.cell?_alloc_at _ _ _ _ (by simp)]; rfl) | (rw [World.cell?_alloc_past _ _ _ (by simp <;> omega), World.cell?_alloc_past _ _ _ (by simp <;> omega), World.cell?_alloc_at _ _ _ _ (by simp)]; rfl)
  have cc5 : ((w.alloc (.cells #[.int .i64 r, .slice a n c, .bool o.a, .bool o.b, .bool o.c] 25)).alloc (.cells #[.int .i64 q.k0, .int .i64 q.k1, .int .i64 q.k2, .int .i64 q.a0, .int .i64 q.a1, .int .i64 q.a2, .slice q.ta q.tl q.tc, .int .i64 q.per, .int .i64 q.ret, .int .i64 q.age, .int .i64 q.dead] 57)).cell? ⟨w.heap.size + 1, 5, none⟩ = some (.int .i64 q.a2) := by first | (simp; done) | (rw [World.cell?_alloc_at _ _ _ _ (by simp)]; rfl) | (rw [World.cell?_alloc_past _ _ _ (by simp <;> omega), World.cell?_alloc_at _ _ _ _ (by simp)]; rfl) | (rw [World.cell?_alloc_past _ _ _ (by simp <;> omega), World.cell?_alloc_past _ _ _ (by simp <;> omega), World.cell?_alloc_at _ _ _ _ (by simp)]; rfl)
  have cc6 : ((w.alloc (.cells #[.int .i64 r, .slice a n c, .bool o.a, .bool o.b, .bool o.c] 25)).alloc (.cells #[.int .i64 q.k0, .int .i64 q.k1, .int .i64 q.k2, .int .i64 q.a0, .int .i64 q.a1, .int .i64 q.a2, .slice q.ta q.tl q.tc, .int .i64 q.per, .int .i64 q.ret, .int .i64 q.age, .int .i64 q.dead] 57)).cell? ⟨w.heap.size + 1, 6, none⟩ = some (.slice q.ta q.tl q.tc) := by first | (simp; done) | (rw [World.cell?_alloc_at _ _ _ _ (by simp)]; rfl) | (rw [World.cell?_alloc_past _ _ _ (by simp <;> omega), World.cell?_alloc_at _ _ _ _ (by simp)]; rfl) | (rw [World.cell?_alloc_past _ _ _ (by simp <;> omega), World.cell?_alloc_past _ _ _ (by simp <;> omega), World.cell?_alloc_at _ _ _ _ (by simp)]; rfl)
  have cc7 : ((w.alloc (.cells #[.int .i64 r, .slice a n c, .bool o.a, .bool o.b, .bool o.c] 25)).alloc (.cells #[.int .i64 q.k0, .int .i64 q.k1, .int .i64 q.k2, .int .i64 q.a0, .int .i64 q.a1, .int .i64 q.a2, .slice q.ta q.tl q.tc, .int .i64 q.per, .int .i64 q.ret, .int .i64 q.age, .int .i64 q.dead] 57)).cell? ⟨w.heap.size + 1, 7, none⟩ = some (.int .i64 q.per) := by first | (simp; done) | (rw [World.cell?_alloc_at _ _ _ _ (by simp)]; rfl) | (rw [World.cell?_alloc_past _ _ _ (by simp <;> omega), World.cell?_alloc_at _ _ _ _ (by simp)]; rfl) | (rw [World.cell?_alloc_past _ _ _ (by simp <;> omega), World.cell?_alloc_past _ _ _ (by simp <;> omega), World.cell?_alloc_at _ _ _ _ (by simp)]; rfl)
  have cc8 : ((w.alloc (.cells #[.int .i64 r, .slice a n c, .bool o.a, .bool o.b, .bool o.c] 25)).alloc (.cells #[.int .i64 q.k0, .int .i64 q.k1, .int .i64 q.k2, .int .i64 q.a0, .int .i64 q.a1, .int .i64 q.a2, .slice q.ta q.tl q.tc, .int .i64 q.per, .int .i64 q.ret, .int .i64 q.age, .int .i64 q.dead] 57)).cell? ⟨w.heap.size + 1, 8, none⟩ = some (.int .i64 q.ret) := by first | (simp; done) | (rw [World.cell?_alloc_at _ _ _ _ (by simp)]; rfl) | (rw [World.cell?_alloc_past _ _ _ (by simp <;> omega), World.cell?_alloc_at _ _ _ _ (by simp)]; rfl) | (rw [World.cell?_alloc_past _ _ _ (by simp <;> omega), World.cell?_alloc_past _ _ _ (by simp <;> omega), World.cell?_alloc_at _ _ _ _ (by simp)]; rfl)
  have cc9 : ((w.alloc (.cells #[.int .i64 r, .slice a n c, .bool o.a, .bool o.b, .bool o.c] 25)).alloc (.cells #[.int .i64 q.k0, .int .i64 q.k1, .int .i64 q.k2, .int .i64 q.a0, .int .i64 q.a1, .int .i64 q.a2, .slice q.ta q.tl q.tc, .int .i64 q.per, .int .i64 q.ret, .int .i64 q.age, .int .i64 q.dead] 57)).cell? ⟨w.heap.size + 1, 9, none⟩ = some (.int .i64 q.age) := by first | (simp; done) | (rw [World.cell?_alloc_at _ _ _ _ (by simp)]; rfl) | (rw [World.cell?_alloc_past _ _ _ (by simp <;> omega), World.cell?_alloc_at _ _ _ _ (by simp)]; rfl) | (rw [World.cell?_alloc_past _ _ _ (by simp <;> omega), World.cell?_alloc_past _ _ _ (by simp <;> omega), World.cell?_alloc_at _ _ _ _ (by simp)]; rfl)
  have cc10 : ((w.alloc (.cells #[.int .i64 r, .slice a n c, .bool o.a, .bool o.b, .bool o.c] 25)).alloc (.cells #[.int .i64 q.k0, .int .i64 q.k1, .int .i64 q.k2, .int .i64 q.a0, .int .i64 q.a1, .int .i64 q.a2, .slice q.ta q.tl q.tc, .int .i64 q.per, .int .i64 q.ret, .int .i64 q.age, .int .i64 q.dead] 57)).cell? ⟨w.heap.size + 1, 10, none⟩ = some (.int .i64 q.dead) := by first | (simp; done) | (rw [World.cell?_alloc_at _ _ _ _ (by simp)]; rfl) | (rw [World.cell?_alloc_past _ _ _ (by simp <;> omega), World.cell?_alloc_at _ _ _ _ (by simp)]; rfl) | (rw [World.cell?_alloc_past _ _ _ (by simp <;> omega), World.cell?_alloc_past _ _ _ (by simp <;> omega), World.cell?_alloc_at _ _ _ _ (by simp)]; rfl)
  have hb2 := (by repeat (first | exact hbel | refine belAlloc ?_ _ | refine belDrew ?_ | refine belSet ?_ _ _ (by simp)) : Below w.heap.size w ((w.alloc (.cells #[.int .i64 r, .slice a n c, .bool o.a, .bool o.b, .bool o.c] 25)).alloc (.cells #[.int .i64 q.k0, .int .i64 q.k1, .int .i64 q.k2, .int .i64 q.a0, .int .i64 q.a1, .int .i64 q.a2, .slice q.ta q.tl q.tc, .int .i64 q.per, .int .i64 q.ret, .int .i64 q.age, .int .i64 q.dead] 57)))
  replace hw := belStep hw hb2
  clear hb2 hbel
  generalize (w.alloc (.cells #[.int .i64 r, .slice a n c, .bool o.a, .bool o.b, .bool o.c] 25)).alloc (.cells #[.int .i64 q.k0, .int .i64 q.k1, .int .i64 q.k2, .int .i64 q.a0, .int .i64 q.a1, .int .i64 q.a2, .slice q.ta q.tl q.tc, .int .i64 q.per, .int .i64 q.ret, .int .i64 q.age, .int .i64 q.dead] 57) = W1 at *
  replace ss0 := keep ss0
  replace ss1 := keep ss1
  replace ss2 := keep ss2
  replace ss3 := keep ss3
  replace ss4 := keep ss4
  replace cc0 := keep cc0
  replace cc1 := keep cc1
  replace cc2 := keep cc2
  replace cc3 := keep cc3
  replace cc4 := keep cc4
  replace cc5 := keep cc5
  replace cc6 := keep cc6
  replace cc7 := keep cc7
  replace cc8 := keep cc8
  replace cc9 := keep cc9
  replace cc10 := keep cc10
  have hbel : Below W1.heap.size W1 W1 := Below.refl _ _
  skip
  go_upto_region 3 with (first | (go_at_call 11; (with_reducible refine (awake24 _).mono ?_); rintro e w1 ⟨rfl, hb1⟩; replace hbel := belStep hbel hb1; clear hb1) | (go_at_call 12; (with_reducible refine (CFW.out _ (belStep hw hbel)).mono ?_); rintro e wf ⟨rfl, hbf⟩; replace hbel := belStep hbel hbf; clear hbf; rcases fs with _ | _) | (go_at_call 15; (with_reducible refine (CRT.out _ (belStep hw hbel)).mono ?_); rintro e wf ⟨rfl, hbf⟩; replace hbel := belStep hbel hbf; clear hbf; rcases rs with _ | _) | (go_at_call 29; (with_reducible refine (CCF.out _ (belStep hw hbel)).mono ?_); rintro e wg ⟨⟨bq, rfl, hq⟩, hbg⟩; replace hbel := belStep hbel hbg; clear hbg; have HC := Lib.hid hq; clear hq; rcases bq with _ | _))
  · go_ret
    exact ⟨rfl, belStep hw hbel⟩
  · go_ret
    exact ⟨rfl, belStep hw hbel⟩
  · go_ret
    exact ⟨rfl, belStep hw hbel⟩
  have hn64 : n ≤ 64 := by have h := (st_nums HRS.out).2.2; rw [HLN.out] at h; exact h
  replace HC := Lib.hid (HC.out (by trivial))
  have HW1 := Lib.hid hw
  have hpl : (podsOf L).length = n := by rw [podsOf_len]; exact HLN.out
  have CFI := Lib.hid (fun u (hu : Below W1.heap.size W1 u) => st_Fits r a n c o L q u HLN.out HOK.out (by omega) (HR.out.later (belStep HW1.out hu)))
  have CPO := Lib.hid (fun u (hu : Below W1.heap.size W1 u) => aref_Pods a n c L u HLN.out (HR.out.later (belStep HW1.out hu)) (by omega))
  obtain ⟨fb, hfb⟩ : ∃ b, fitsB ⟨q.a0, q.a1, q.a2⟩ (podsOf L) = b := ⟨_, rfl⟩
  have CWI := Lib.hid (fun u b d (hrow : Row u b (podsOf L).length d 11 ((podsOf L).flatMap PodV.cells)) => hfb ▸ rref_Within ⟨q.a0, q.a1, q.a2⟩ b _ d (podsOf L) u rfl (podsOf_ok HOK.out) hrow (pods_right HRS.out) ⟨HC.out.caps.1.2, HCO.out.ca.1⟩ ⟨HC.out.caps.2.1.2, HCO.out.ca.2.1⟩ ⟨HC.out.caps.2.2.2, HCO.out.ca.2.2⟩)
  rw [hfb] at CFI
  clear hfb HC HCO CCF CRT CFW
  obtain ⟨PL, hPL⟩ : ∃ l, podsOf L = l := ⟨_, rfl⟩
  rw [hPL] at CPO CWI
  clear hPL hpl
  have hBW := Lib.hid hbel
  have HBV := Lib.hid hbel
  refine wp_region_held_drew (S := fun u => Below W1.heap.size W1 u) (by kernel_rfl) (by exact (show Below W1.heap.size W1 _ by repeat (first | assumption | exact Below.refl _ _ | refine belDrew ?_ | refine belAlloc ?_ _ | refine belStep ?_ (by assumption)))) (fun hHeld => ?_)
  refine wpAnyH_take (i := 0) (oi := ?oi_k3) (v := ?v_k3) ?hi_k3 (by kernel_rfl) ?hf_k3 ?hr_k3 ?hQ_k3 (Or.inl ⟨?hw_k3, ?hy_k3⟩) (by assumption) ?rest_k3
  case hi_k3 => ((simp only [List.getElem?_toArray, List.getElem?_cons_succ, List.getElem?_cons_zero]); rfl)
  case hf_k3 => kernel_rfl
  case hr_k3 => kernel_rfl
  case hQ_k3 => exact fun _ _ _ h => h
  case hw_k3 => rfl
  case hy_k3 => ((intro w hSw; (try dsimp only at hSw); go_simp); all_goals (with_reducible rfl))
  try simp only [Act.put, List.setIfInBounds_toArray, List.set_cons_zero, List.set_cons_succ]
  refine wpAnyH_take (i := 1) (oi := ?oi_k4) (v := ?v_k4) ?hi_k4 (by kernel_rfl) ?hf_k4 ?hr_k4 ?hQ_k4 (Or.inl ⟨?hw_k4, ?hy_k4⟩) (by assumption) ?rest_k4
  case hi_k4 => ((simp only [List.getElem?_toArray, List.getElem?_cons_succ, List.getElem?_cons_zero]); rfl)
  case hf_k4 => kernel_rfl
  case hr_k4 => kernel_rfl
  case hQ_k4 => exact fun _ _ _ h => h
  case hw_k4 => rfl
  case hy_k4 => ((intro w hSw; (try dsimp only at hSw); go_simp); all_goals (with_reducible rfl))
  try simp only [Act.put, List.setIfInBounds_toArray, List.set_cons_zero, List.set_cons_succ]
  refine wpAnyH_take (i := 3) (oi := ?oi_k5) (v := ?v_k5) ?hi_k5 (by kernel_rfl) ?hf_k5 ?hr_k5 ?hQ_k5 (Or.inl ⟨?hw_k5, ?hy_k5⟩) (by assumption) ?rest_k5
  case hi_k5 => ((simp only [List.getElem?_toArray, List.getElem?_cons_succ, List.getElem?_cons_zero]); rfl)
  case hf_k5 => kernel_rfl
  case hr_k5 => kernel_rfl
  case hQ_k5 => exact fun _ _ _ h => h
  case hw_k5 => rfl
  case hy_k5 => ((intro w hSw; (try dsimp only at hSw); go_simp); all_goals (with_reducible rfl))
  try simp only [Act.put, List.setIfInBounds_toArray, List.set_cons_zero, List.set_cons_succ]
  refine wpAnyH_take (i := 4) (oi := ?oi_k6) (v := ?v_k6) ?hi_k6 (by kernel_rfl) ?hf_k6 ?hr_k6 ?hQ_k6 (Or.inl ⟨?hw_k6, ?hy_k6⟩) (by assumption) ?rest_k6
  case hi_k6 => ((simp only [List.getElem?_toArray, List.getElem?_cons_succ, List.getElem?_cons_zero]); rfl)
  case hf_k6 => kernel_rfl
  case hr_k6 => kernel_rfl
  case hQ_k6 => exact fun _ _ _ h => h
  case hw_k6 => rfl
  case hy_k6 => ((intro w hSw; (try dsimp only at hSw); go_simp); all_goals (with_reducible rfl))
  try simp only [Act.put, List.setIfInBounds_toArray, List.set_cons_zero, List.set_cons_succ]
  refine wpAnyH_take (i := 5) (oi := ?oi_k7) (v := ?v_k7) ?hi_k7 (by kernel_rfl) ?hf_k7 ?hr_k7 ?hQ_k7 (Or.inl ⟨?hw_k7, ?hy_k7⟩) (by assumption) ?rest_k7
  case hi_k7 => ((simp only [List.getElem?_toArray, List.getElem?_cons_succ, List.getElem?_cons_zero]); rfl)
  case hf_k7 => kernel_rfl
  case hr_k7 => kernel_rfl
  case hQ_k7 => exact fun _ _ _ h => h
  case hw_k7 => rfl
  case hy_k7 => ((intro w hSw; (try dsimp only at hSw); go_simp); all_goals (with_reducible rfl))
  try simp only [Act.put, List.setIfInBounds_toArray, List.set_cons_zero, List.set_cons_succ]
  refine wpAnyH_take (i := 6) (oi := ?oi_k8) (v := ?v_k8) ?hi_k8 (by kernel_rfl) ?hf_k8 ?hr_k8 ?hQ_k8 (Or.inl ⟨?hw_k8, ?hy_k8⟩) (by assumption) ?rest_k8
  case hi_k8 => ((simp only [List.getElem?_toArray, List.getElem?_cons_succ, List.getElem?_cons_zero]); rfl)
  case hf_k8 => kernel_rfl
  case hr_k8 => kernel_rfl
  case hQ_k8 => exact fun _ _ _ h => h
  case hw_k8 => rfl
  case hy_k8 => ((intro w hSw; (try dsimp only at hSw); go_simp); all_goals (with_reducible rfl))
  try simp only [Act.put, List.setIfInBounds_toArray, List.set_cons_zero, List.set_cons_succ]
  refine krip (fun u u' => Below u.heap.size u u') [25, 30, 31] [[], [], [], [], [], [], [], [2], [2, 7], [2, 7, 8], [2, 7, 8]] [[], [], [25], [], [], [], [], [30], [31], [], []] [2, 7, 8] (krF [(2, fun t u => t 25 = .bool fb), (7, fun t u => OwnR u (W1.heap.size) 44 11 (t 30) (PL.length) (PL.flatMap PodV.cells)), (8, fun t u => t 31 = .bool fb)]) 2 #[true, true, true, true, true, true, true, true, true, false, false] (by kernel_rfl) (by kernel_rfl) (by kernel_rfl) (by assumption) (AllL.cons ?s_2_q9 (AllL.cons ?s_7_q9 (AllL.cons ?s_8_q9 AllL.nil))) (AllL.cons ?o_2_q9 (AllL.cons ?o_7_q9 (AllL.cons ?o_8_q9 AllL.nil))) ?e_q9
  case s_2_q9 => exact fun t u u' hle h => h
  case s_7_q9 => exact fun t u u' hle h => OwnR.later h hle
  case s_8_q9 => exact fun t u u' hle h => h
  case o_2_q9 =>
    refine KrOp.of (o := ?oo_2_q9) ?hi_2_q9 (fun t u hHeld hF K hK => ?rr_2_q9)
    case hi_2_q9 => ((simp only [List.getElem?_toArray, List.getElem?_cons_succ, List.getElem?_cons_zero]); rfl)
    case rr_2_q9 =>
      clear hF
      simp only [setl, List.foldl_cons, List.foldl_nil, Act.put, List.setIfInBounds_toArray, List.set_cons_zero, List.set_cons_succ] at hK ⊢
      go_simp
      (go_at_call 30; (with_reducible refine (CFI.out _ hHeld).mono ?_); rintro e wq ⟨rfl, hbq⟩)
      try go_simp
      refine hK.out _ _ (by exact (by repeat (first | assumption | exact Below.refl _ _ | refine belDrew ?_ | refine belAlloc ?_ _ | refine belStep ?_ (by assumption)))) (by exact (show Below W1.heap.size W1 _ by repeat (first | assumption | exact Below.refl _ _ | refine belDrew ?_ | refine belAlloc ?_ _ | refine belStep ?_ (by assumption)))) ?_
      exact rfl
  case o_7_q9 =>
    refine KrOp.of (o := ?oo_7_q9) ?hi_7_q9 (fun t u hHeld hF K hK => ?rr_7_q9)
    case hi_7_q9 => ((simp only [List.getElem?_toArray, List.getElem?_cons_succ, List.getElem?_cons_zero]); rfl)
    case rr_7_q9 =>
      have h2 : t 25 = .bool fb := hF 2 rfl rfl
      clear hF
      simp only [setl, List.foldl_cons, List.foldl_nil, Act.put, List.setIfInBounds_toArray, List.set_cons_zero, List.set_cons_succ] at hK ⊢
      generalize t 25 = x25 at *
      subst h2
      go_simp
      (go_at_call 32; (with_reducible refine (CPO.out _ hHeld).mono ?_); rintro e wq ⟨vq, rfl, hoq, hbq⟩)
      try go_simp
      refine hK.out _ _ (by exact (by repeat (first | assumption | exact Below.refl _ _ | refine belDrew ?_ | refine belAlloc ?_ _ | refine belStep ?_ (by assumption)))) (by exact (show Below W1.heap.size W1 _ by repeat (first | assumption | exact Below.refl _ _ | refine belDrew ?_ | refine belAlloc ?_ _ | refine belStep ?_ (by assumption)))) ?_
      exact OwnR.mono hoq (Below.size hHeld)
  case o_8_q9 =>
    refine KrOp.of (o := ?oo_8_q9) ?hi_8_q9 (fun t u hHeld hF K hK => ?rr_8_q9)
    case hi_8_q9 => ((simp only [List.getElem?_toArray, List.getElem?_cons_succ, List.getElem?_cons_zero]); rfl)
    case rr_8_q9 =>
      have h2 : t 25 = .bool fb := hF 2 rfl rfl
      have h7 : OwnR u (W1.heap.size) 44 11 (t 30) (PL.length) (PL.flatMap PodV.cells) := hF 7 rfl rfl
      clear hF
      simp only [setl, List.foldl_cons, List.foldl_nil, Act.put, List.setIfInBounds_toArray, List.set_cons_zero, List.set_cons_succ] at hK ⊢
      generalize t 25 = x25 at *
      generalize t 30 = x30 at *
      subst h2
      obtain ⟨a9, c9, e9, hr9⟩ := rowR_of_own h7
      subst e9
      go_simp
      (go_at_call 31; (with_reducible refine (CWI.out _ _ _ hr9).mono ?_); rintro e wq ⟨rfl, hbq⟩)
      try go_simp
      refine hK.out _ _ (by exact (by repeat (first | assumption | exact Below.refl _ _ | refine belDrew ?_ | refine belAlloc ?_ _ | refine belStep ?_ (by assumption)))) (by exact (show Below W1.heap.size W1 _ by repeat (first | assumption | exact Below.refl _ _ | refine belDrew ?_ | refine belAlloc ?_ _ | refine belStep ?_ (by assumption)))) ?_
      exact rfl
  case e_q9 =>
    intro t u hHeld hF
    have h2 : t 25 = .bool fb := hF 2 rfl
    have h7 : OwnR u (W1.heap.size) 44 11 (t 30) (PL.length) (PL.flatMap PodV.cells) := hF 7 rfl
    have h8 : t 31 = .bool fb := hF 8 rfl
    clear hF
    simp only [setl, List.foldl_cons, List.foldl_nil, Act.put, List.setIfInBounds_toArray, List.set_cons_zero, List.set_cons_succ]
    generalize t 25 = x25 at *
    generalize t 30 = x30 at *
    generalize t 31 = x31 at *
    subst h8
    subst h2
    refine wpAnyH_take (i := 9) (oi := ?oi_k1) (v := ?v_k1) ?hi_k1 (by kernel_rfl) ?hf_k1 ?hr_k1 ?hQ_k1 (Or.inl ⟨?hw_k1, ?hy_k1⟩) (by assumption) ?rest_k1
    case hi_k1 => ((simp only [List.getElem?_toArray, List.getElem?_cons_succ, List.getElem?_cons_zero]); rfl)
    case hf_k1 => kernel_rfl
    case hr_k1 => kernel_rfl
    case hQ_k1 => exact fun _ _ _ h => h
    case hw_k1 => rfl
    case hy_k1 => ((intro w hSw; (try dsimp only at hSw); go_simp); all_goals (with_reducible rfl))
    try simp only [Act.put, List.setIfInBounds_toArray, List.set_cons_zero, List.set_cons_succ]
    refine wpAnyH_take (i := 10) (oi := ?oi_k2) (v := ?v_k2) ?hi_k2 (by kernel_rfl) ?hf_k2 ?hr_k2 ?hQ_k2 (Or.inl ⟨?hw_k2, ?hy_k2⟩) (by assumption) ?rest_k2
    case hi_k2 => ((simp only [List.getElem?_toArray, List.getElem?_cons_succ, List.getElem?_cons_zero]); rfl)
    case hf_k2 => kernel_rfl
    case hr_k2 => kernel_rfl
    case hQ_k2 => exact fun _ _ _ h => h
    case hw_k2 => rfl
    case hy_k2 => ((intro w hSw; (try dsimp only at hSw); go_simp); all_goals (with_reducible rfl))
    try simp only [Act.put, List.setIfInBounds_toArray, List.set_cons_zero, List.set_cons_succ]
    refine wpAnyH_done (by kernel_rfl) ?_ _
    go_wp2
    go_ret
    exact ⟨by simp, belStep HW1.out hHeld⟩

set_option maxRecDepth 100000 in
theorem lifted (os : Os) (started : os.Started) (H : Type) (enc : TypeId × Value → H) :
    ReturnsInHanded {} Try.checked os 9 .any (Rows.stateFitsSpec.pre6 enc Try.prog Try.f9 Rows.stateFitsRow.domain false) (Rows.stateFitsSpec.post enc Try.prog Try.f9 false true false false) := by
  refine returnsInHanded_of_change (C := Try.checked) own started (by kernel_rfl) Try.func9
    (ChangeSpec.witness6 (enc := enc) (C := Try.checked) false ⟨#[], #[.agg #[.int .i64 0, .slice none 0 0, .bool false, .bool false, .bool false], .agg #[.int .i64 0, .int .i64 0, .int .i64 0, .int .i64 0, .int .i64 0, .int .i64 0, .slice none 0 0, .int .i64 0, .int .i64 0, .int .i64 0, .int .i64 0]], []⟩ 8 (by kernel_rfl) (by kernel_rfl) (by kernel_rfl) (by kernel_rfl)) ?_
  intro W base args ds gs before hval0 hW hcnd _
  have hval : ∀ (j : Nat) t v, Try.f9.params[j]? = some t → args[j]? = some v → Value.okWide Try.prog W .any base t v := hval0
  have hW' := hW
  obtain ⟨p, q, hA0, hV, rfl, hfz, hnd⟩ := hW
  have hA : DataW.TrodAll enc Try.prog W 0 (fun _ => true) true Try.f9.params.toList args.toList ds p := hA0
  rw [Try.params9] at hA hval
  obtain ⟨v0, vs0, d0, ds0, p0, q0, hargs, rfl, rfl, h0, r0⟩ := trodAll_cons hA
  obtain ⟨v1, vs1, d1, ds1, p1, q1, rfl, rfl, rfl, h1, r1⟩ := trodAll_cons r0
  obtain ⟨rfl, rfl, rfl⟩ := trodAll_nil r1
  obtain rfl : args = #[v0, v1] := by cases args; simp_all
  obtain ⟨rfl, rfl⟩ := trodVars_none hV
  have k0 := h0
  have lt0 : ∀ x ∈ p0, x.block < W.heap.size := by obtain ⟨m, hm⟩ := k0; exact DataW.trod_lt m _ _ _ hm
  have o0 : Value.okWide Try.prog W .any base 25 v0 := hval 0 25 v0 rfl rfl
  obtain ⟨xr0, xa0, xn0, xc0, xo0, xl0, rfl, fa0, fb0, fc0, fd0⟩ := open_state o0 h0
  have k1 := h1
  have lt1 : ∀ x ∈ p1, x.block < W.heap.size := by obtain ⟨m, hm⟩ := k1; exact DataW.trod_lt m _ _ _ hm
  have o1 : Value.okWide Try.prog W .any base 57 v1 := hval 1 57 v1 rfl rfl
  obtain ⟨xq1, rfl, fq1⟩ := open_cfg o1 h1
  clear hA0 hval0
  refine (walk xr0 xa0 xn0 xc0 xo0 xl0 xq1 W fa0 fb0 fc0 fd0 fq1).mono fun e W' ⟨he, bel⟩ => ?_
  subst he
  exact ⟨_, rfl, _, _, _, [], _, [], hW', trodAll_mk1 (shut_bool Try.underlying4 _), (trodAll_cons_mk (Below.trod laidOut (by kernel_rfl) (of_decide_eq_true (by kernel_rfl)) k0 bel lt0) (trodAll_cons_mk (Below.trod laidOut (by kernel_rfl) (of_decide_eq_true (by kernel_rfl)) k1 bel lt1) trodAll_mk0)), rfl, bel.frame _, fun h => by cases h⟩

theorem over : Rows.stateFitsRow.holds Try.pinned (OpenSpec.ofChange Rows.stateFitsSpec) :=
  OpenClaim.holds_of_wide 9 Try.f9 rfl rfl rfl rfl rfl rfl rfl ⟨rfl, rfl, rfl, rfl, rfl⟩ rfl rfl rfl rfl rfl (by kernel_rfl) Try.func9 (by kernel_rfl)
    (of_decide_eq_true (by kernel_rfl)) (by unfold Func.isWrapper; first | (rw [if_pos (by decide +kernel)]; kernel_rfl) | (rw [if_neg (by decide +kernel)]; exact ⟨rfl, rfl⟩))
    (fun os started H enc _ => lifted os started H enc)

/-- The statement. -/
theorem proved : Rows.StateFitsSaid := over
#print axioms proved

end Go.Proofs.Ytpmkhimmlpnbpaa.stateFits
