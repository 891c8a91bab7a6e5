
/- ThreshBack holds for every threshold and every text. No conditions but that the library's variables lie as its own text lays them. -/
import Derived.Test.YtdmnogljdkncpaaDoorThrPr
import Derived.Test.YtdmnogljdkncpaaDoorAwake06
import Derived.Test.YtdmnogljdkncpaaDoorThrCard
import Derived.Test.YtdmnogljdkncpaaDoorThrOpen
namespace Go.Proofs.YtdmnogljdkncpaaDoor.threshBack
open Go.ChangeShapes Go.WideShapes Go.ChangeAt Go.RowKit
open Go.ChangeMaps (open_string shut_string)
set_option linter.unusedVariables false
set_option linter.unusedSimpArgs false

theorem rd_some (s : ByteArray) (t : ThrV) (v : World) (hs : s.size ≤ 1000000) (he : Env v) (h : thF s.toList = some t) : Calls Tryd.prog 7 #[.string s] v fun e w' => e = .returned (.tuple #[.agg #[.int .i64 t.sig, .int .i64 t.pct, .int .i64 t.amt, .bool t.soft, .int .i64 t.grace], .int .i64 0]) ∧ Below v.heap.size v w' := by
  have hr := thr_Read s v hs he
  unfold thV thE at hr
  rw [h] at hr
  exact hr
theorem rd_none (s : ByteArray) (v : World) (hs : s.size ≤ 1000000) (he : Env v) (h : thF s.toList = none) : Calls Tryd.prog 7 #[.string s] v fun e w' => e = .returned (.tuple #[.agg #[.int .i64 0, .int .i64 0, .int .i64 0, .bool false, .int .i64 0], .int .i64 2]) ∧ Below v.heap.size v w' := by
  have hr := thr_Read s v hs he
  unfold thV thE at hr
  rw [h] at hr
  exact hr
set_option maxRecDepth 100000 in
set_option maxHeartbeats 16000000 in
theorem walk (sg pc am gr : Int) (so : Bool) (s : ByteArray) (W : World) (ht : Env W) (ha : InI am) (hs : s.size ≤ maxLen) : Calls Tryd.prog 3 #[.agg #[.int .i64 sg, .int .i64 pc, .int .i64 am, .bool so, .int .i64 gr], .string s] W fun e w' => e = .returned (.bool true) ∧ Below W.heap.size W w' := by
  have hw : Below W.heap.size W W := Below.refl _ _
  have hbel := hw
  have CA := Lib.hid (fun v (hv : Below W.heap.size W v) => awake06 v (ht.later hv))
  have hs2 : (s.size : Int) ≤ 9223372036854775807 := by unfold maxLen at hs; omega
  by_cases h1000 : 1000 < s.size
  · clear ht hs
    go_enter Tryd.func3, Tryd.ntmps3
    go_upto_region 1 with fail
    have tt0 : (W.alloc (.cells #[.int .i64 sg, .int .i64 pc, .int .i64 am, .bool so, .int .i64 gr] 23)).cell? ⟨W.heap.size, 0, none⟩ = some (.int .i64 sg) := by first | (simp; done) | (rw [World.cell?_alloc_at _ _ _ _ (by simp)]; rfl) | (rw [World.cell?_alloc_past _ _ _ (by simp <;> omega), World.cell?_alloc_at _ _ _ _ (by simp)]; rfl) | (rw [World.cell?_alloc_past _ _ _ (by simp <;> omega), World.cell?_alloc_past _ _ _ (by simp <;> omega), World.cell?_alloc_at _ _ _ _ (by simp)]; rfl)
    have tt1 : (W.alloc (.cells #[.int .i64 sg, .int .i64 pc, .int .i64 am, .bool so, .int .i64 gr] 23)).cell? ⟨W.heap.size, 1, none⟩ = some (.int .i64 pc) := by first | (simp; done) | (rw [World.cell?_alloc_at _ _ _ _ (by simp)]; rfl) | (rw [World.cell?_alloc_past _ _ _ (by simp <;> omega), World.cell?_alloc_at _ _ _ _ (by simp)]; rfl) | (rw [World.cell?_alloc_past _ _ _ (by simp <;> omega), World.cell?_alloc_past _ _ _ (by simp <;> omega), World.cell?_alloc_at _ _ _ _ (by simp)]; rfl)
    have tt2 : (W.alloc (.cells #[.int .i64 sg, .int .i64 pc, .int .i64 am, .bool so, .int .i64 gr] 23)).cell? ⟨W.heap.size, 2, none⟩ = some (.int .i64 am) := by first | (simp; done) | (rw [World.cell?_alloc_at _ _ _ _ (by simp)]; rfl) | (rw [World.cell?_alloc_past _ _ _ (by simp <;> omega), World.cell?_alloc_at _ _ _ _ (by simp)]; rfl) | (rw [World.cell?_alloc_past _ _ _ (by simp <;> omega), World.cell?_alloc_past _ _ _ (by simp <;> omega), World.cell?_alloc_at _ _ _ _ (by simp)]; rfl)
    have tt3 : (W.alloc (.cells #[.int .i64 sg, .int .i64 pc, .int .i64 am, .bool so, .int .i64 gr] 23)).cell? ⟨W.heap.size, 3, none⟩ = some (.bool so) := by first | (simp; done) | (rw [World.cell?_alloc_at _ _ _ _ (by simp)]; rfl) | (rw [World.cell?_alloc_past _ _ _ (by simp <;> omega), World.cell?_alloc_at _ _ _ _ (by simp)]; rfl) | (rw [World.cell?_alloc_past _ _ _ (by simp <;> omega), World.cell?_alloc_past _ _ _ (by simp <;> omega), World.cell?_alloc_at _ _ _ _ (by simp)]; rfl)
    have tt4 : (W.alloc (.cells #[.int .i64 sg, .int .i64 pc, .int .i64 am, .bool so, .int .i64 gr] 23)).cell? ⟨W.heap.size, 4, none⟩ = some (.int .i64 gr) := by first | (simp; done) | (rw [World.cell?_alloc_at _ _ _ _ (by simp)]; rfl) | (rw [World.cell?_alloc_past _ _ _ (by simp <;> omega), World.cell?_alloc_at _ _ _ _ (by simp)]; rfl) | (rw [World.cell?_alloc_past _ _ _ (by simp <;> omega), World.cell?_alloc_past _ _ _ (by simp <;> omega), World.cell?_alloc_at _ _ _ _ (by simp)]; rfl)
    have hb2 := (by repeat (first | exact hbel | refine belAlloc ?_ _ | refine belDrew ?_ | refine belSet ?_ _ _ (by simp)) : Below W.heap.size W (W.alloc (.cells #[.int .i64 sg, .int .i64 pc, .int .i64 am, .bool so, .int .i64 gr] 23)))
    replace hw := belStep hw hb2
    clear hb2 hbel
    generalize W.alloc (.cells #[.int .i64 sg, .int .i64 pc, .int .i64 am, .bool so, .int .i64 gr] 23) = W0 at *
    replace tt0 := keep tt0
    replace tt1 := keep tt1
    replace tt2 := keep tt2
    replace tt3 := keep tt3
    replace tt4 := keep tt4
    have hbel : Below W0.heap.size W0 W0 := Below.refl _ _
    skip
    go_wp2_with (first | (go_at_call 4; (with_reducible refine (CA.out _ (belStep hw hbel)).mono ?_); rintro e w1 ⟨rfl, hb1⟩; replace hbel := belStep hbel hb1; clear hb1))
    go_ret
    exact ⟨rfl, belStep hw hbel⟩
  have hsm : s.size ≤ 1000000 := by omega
  have hbk := fun (h : (⟨sg, pc, am, so, gr⟩ : ThrV).right = true) => read_right h ha.2
  have hsz := fun (h : (⟨sg, pc, am, so, gr⟩ : ThrV).right = true) => prThr_size h ha.2
  have CP := fun (h : (⟨sg, pc, am, so, gr⟩ : ThrV).right = true) u (hu : Below W.heap.size W u) => thr_Print ⟨sg, pc, am, so, gr⟩ u h ha (ht.later hu).tab
  have CQ := fun (h : (⟨sg, pc, am, so, gr⟩ : ThrV).right = true) u => ref_tPrint ⟨sg, pc, am, so, gr⟩ u h ha
  have CD := fun (h : (⟨sg, pc, am, so, gr⟩ : ThrV).right = true) u (hu : Below W.heap.size W u) => rd_some (prThr ⟨sg, pc, am, so, gr⟩) ⟨sg, pc, am, so, gr⟩ u (Nat.le_trans (hsz h) (by omega)) (ht.later hu) (hbk h)
  have CR := Lib.hid (fun u => thr_RightAny sg pc am gr so u)
  have CS := Lib.hid (fun u => ref_Right sg pc am gr so u)
  have heq : ∀ u : World, (Op.equalIn 10000 23 (.agg #[.int .i64 sg, .int .i64 pc, .int .i64 am, .bool so, .int .i64 gr]) (.agg #[.int .i64 sg, .int .i64 pc, .int .i64 am, .bool so, .int .i64 gr])).run Tryd.prog u = .ok true u := fun u => by have := eq_thr ⟨sg, pc, am, so, gr⟩ ⟨sg, pc, am, so, gr⟩ u; simpa using this
  clear hbk hsz
  generalize (⟨sg, pc, am, so, gr⟩ : ThrV).right = ri at *
  generalize prThr ⟨sg, pc, am, so, gr⟩ = px at *
  cases hf : thF s.toList with
  | none =>
    have C1 := Lib.hid (fun v (hv : Below W.heap.size W v) => rd_none s v hsm (ht.later hv) hf)
    clear hf ht hs hsm
    rcases ri with _ | _
    · clear CP CQ CD
      go_enter Tryd.func3, Tryd.ntmps3
      go_upto_region 1 with fail
      have tt0 : (W.alloc (.cells #[.int .i64 sg, .int .i64 pc, .int .i64 am, .bool so, .int .i64 gr] 23)).cell? ⟨W.heap.size, 0, none⟩ = some (.int .i64 sg) := by first | (simp; done) | (rw [World.cell?_alloc_at _ _ _ _ (by simp)]; rfl) | (rw [World.cell?_alloc_past _ _ _ (by simp <;> omega), World.cell?_alloc_at _ _ _ _ (by simp)]; rfl) | (rw [World.cell?_alloc_past _ _ _ (by simp <;> omega), World.cell?_alloc_past _ _ _ (by simp <;> omega), World.cell?_alloc_at _ _ _ _ (by simp)]; rfl)
      have tt1 : (W.alloc (.cells #[.int .i64 sg, .int .i64 pc, .int .i64 am, .bool so, .int .i64 gr] 23)).cell? ⟨W.heap.size, 1, none⟩ = some (.int .i64 pc) := by first | (simp; done) | (rw [World.cell?_alloc_at _ _ _ _ (by simp)]; rfl) | (rw [World.cell?_alloc_past _ _ _ (by simp <;> omega), World.cell?_alloc_at _ _ _ _ (by simp)]; rfl) | (rw [World.cell?_alloc_past _ _ _ (by simp <;> omega), World.cell?_alloc_past _ _ _ (by simp <;> omega), World.cell?_alloc_at _ _ _ _ (by simp)]; rfl)
      have tt2 : (W.alloc (.cells #[.int .i64 sg, .int .i64 pc, .int .i64 am, .bool so, .int .i64 gr] 23)).cell? ⟨W.heap.size, 2, none⟩ = some (.int .i64 am) := by first | (simp; done) | (rw [World.cell?_alloc_at _ _ _ _ (by simp)]; rfl) | (rw [World.cell?_alloc_past _ _ _ (by simp <;> omega), World.cell?_alloc_at _ _ _ _ (by simp)]; rfl) | (rw [World.cell?_alloc_past _ _ _ (by simp <;> omega), World.cell?_alloc_past _ _ _ (by simp <;> omega), World.cell?_alloc_at _ _ _ _ (by simp)]; rfl)
      have tt3 : (W.alloc (.cells #[.int .i64 sg, .int .i64 pc, .int .i64 am, .bool so, .int .i64 gr] 23)).cell? ⟨W.heap.size, 3, none⟩ = some (.bool so) := by first | (simp; done) | (rw [World.cell?_alloc_at _ _ _ _ (by simp)]; rfl) | (rw [World.cell?_alloc_past _ _ _ (by simp <;> omega), World.cell?_alloc_at _ _ _ _ (by simp)]; rfl) | (rw [World.cell?_alloc_past _ _ _ (by simp <;> omega), World.cell?_alloc_past _ _ _ (by simp <;> omega), World.cell?_alloc_at _ _ _ _ (by simp)]; rfl)
      have tt4 : (W.alloc (.cells #[.int .i64 sg, .int .i64 pc, .int .i64 am, .bool so, .int .i64 gr] 23)).cell? ⟨W.heap.size, 4, none⟩ = some (.int .i64 gr) := by first | (simp; done) | (rw [World.cell?_alloc_at _ _ _ _ (by simp)]; rfl) | (rw [World.cell?_alloc_past _ _ _ (by simp <;> omega), World.cell?_alloc_at _ _ _ _ (by simp)]; rfl) | (rw [World.cell?_alloc_past _ _ _ (by simp <;> omega), World.cell?_alloc_past _ _ _ (by simp <;> omega), World.cell?_alloc_at _ _ _ _ (by simp)]; rfl)
      have hb2 := (by repeat (first | exact hbel | refine belAlloc ?_ _ | refine belDrew ?_ | refine belSet ?_ _ _ (by simp)) : Below W.heap.size W (W.alloc (.cells #[.int .i64 sg, .int .i64 pc, .int .i64 am, .bool so, .int .i64 gr] 23)))
      replace hw := belStep hw hb2
      clear hb2 hbel
      generalize W.alloc (.cells #[.int .i64 sg, .int .i64 pc, .int .i64 am, .bool so, .int .i64 gr] 23) = W0 at *
      replace tt0 := keep tt0
      replace tt1 := keep tt1
      replace tt2 := keep tt2
      replace tt3 := keep tt3
      replace tt4 := keep tt4
      have hbel : Below W0.heap.size W0 W0 := Below.refl _ _
      skip
      go_upto_region 3 with (first | (go_at_call 4; (with_reducible refine (CA.out _ (belStep hw hbel)).mono ?_); rintro e w1 ⟨rfl, hb1⟩; replace hbel := belStep hbel hb1; clear hb1))
      replace tt0 := keepOnP tt0 hbel
      replace tt1 := keepOnP tt1 hbel
      replace tt2 := keepOnP tt2 hbel
      replace tt3 := keepOnP tt3 hbel
      replace tt4 := keepOnP tt4 hbel
      replace hw := belStep hw hbel
      clear hbel
      generalize w1 = W1 at *
      have hbel : Below W1.heap.size W1 W1 := Below.refl _ _
      have kk := fun d os => belStep hbel (below_regrown _ d os)
      refine wp_region_quiet_below (by kernel_rfl) (by kernel_rfl) ?_
      repeat ((with_reducible refine wpQuiet_step (fun K hK => ?_)); go_simp; (try (rw [if_neg]; rotate_left; · decide)); first | ((with_reducible refine hK _ ?_); clear hK K) | (apply Exists.intro; refine ⟨fun _ => ?_, hK _ ?_⟩; (first | (go_at_call 5; with_reducible exact Calls.regrown_of (CR.out _)) | (go_at_call 6; with_reducible exact Calls.regrown_of (CS.out _))); clear hK K))
      refine wpQuiet_nil (fun w1 hw1 => ?_)
      replace hbel := belStep hbel (bel_of_class hw1)
      clear hw1 kk
      replace tt0 := keepOnP tt0 hbel
      replace tt1 := keepOnP tt1 hbel
      replace tt2 := keepOnP tt2 hbel
      replace tt3 := keepOnP tt3 hbel
      replace tt4 := keepOnP tt4 hbel
      replace hw := belStep hw hbel
      clear hbel
      generalize w1 = W2 at *
      have hbel : Below W2.heap.size W2 W2 := Below.refl _ _
      go_upto_region 6 with (first | (go_at_call 7; (with_reducible refine (C1.out _ (belStep hw hbel)).mono ?_); rintro e w1 ⟨rfl, hb1⟩; replace hbel := belStep hbel hb1; clear hb1))
      replace tt0 := keepOnP tt0 hbel
      replace tt1 := keepOnP tt1 hbel
      replace tt2 := keepOnP tt2 hbel
      replace tt3 := keepOnP tt3 hbel
      replace tt4 := keepOnP tt4 hbel
      replace hw := belStep hw hbel
      clear hbel
      generalize w1 = W3 at *
      have hbel : Below W3.heap.size W3 W3 := Below.refl _ _
      have uu0 : (W3.alloc (.cells #[.int .i64 0, .int .i64 0, .int .i64 0, .bool false, .int .i64 0] 23)).cell? ⟨W3.heap.size, 0, none⟩ = some (.int .i64 0) := by first | (simp; done) | (rw [World.cell?_alloc_at _ _ _ _ (by simp)]; rfl) | (rw [World.cell?_alloc_past _ _ _ (by simp <;> omega), World.cell?_alloc_at _ _ _ _ (by simp)]; rfl) | (rw [World.cell?_alloc_past _ _ _ (by simp <;> omega), World.cell?_alloc_past _ _ _ (by simp <;> omega), World.cell?_alloc_at _ _ _ _ (by simp)]; rfl)
      have uu1 : (W3.alloc (.cells #[.int .i64 0, .int .i64 0, .int .i64 0, .bool false, .int .i64 0] 23)).cell? ⟨W3.heap.size, 1, none⟩ = some (.int .i64 0) := by first | (simp; done) | (rw [World.cell?_alloc_at _ _ _ _ (by simp)]; rfl) | (rw [World.cell?_alloc_past _ _ _ (by simp <;> omega), World.cell?_alloc_at _ _ _ _ (by simp)]; rfl) | (rw [World.cell?_alloc_past _ _ _ (by simp <;> omega), World.cell?_alloc_past _ _ _ (by simp <;> omega), World.cell?_alloc_at _ _ _ _ (by simp)]; rfl)
      have uu2 : (W3.alloc (.cells #[.int .i64 0, .int .i64 0, .int .i64 0, .bool false, .int .i64 0] 23)).cell? ⟨W3.heap.size, 2, none⟩ = some (.int .i64 0) := by first | (simp; done) | (rw [World.cell?_alloc_at _ _ _ _ (by simp)]; rfl) | (rw [World.cell?_alloc_past _ _ _ (by simp <;> omega), World.cell?_alloc_at _ _ _ _ (by simp)]; rfl) | (rw [World.cell?_alloc_past _ _ _ (by simp <;> omega), World.cell?_alloc_past _ _ _ (by simp <;> omega), World.cell?_alloc_at _ _ _ _ (by simp)]; rfl)
      have uu3 : (W3.alloc (.cells #[.int .i64 0, .int .i64 0, .int .i64 0, .bool false, .int .i64 0] 23)).cell? ⟨W3.heap.size, 3, none⟩ = some (.bool false) := by first | (simp; done) | (rw [World.cell?_alloc_at _ _ _ _ (by simp)]; rfl) | (rw [World.cell?_alloc_past _ _ _ (by simp <;> omega), World.cell?_alloc_at _ _ _ _ (by simp)]; rfl) | (rw [World.cell?_alloc_past _ _ _ (by simp <;> omega), World.cell?_alloc_past _ _ _ (by simp <;> omega), World.cell?_alloc_at _ _ _ _ (by simp)]; rfl)
      have uu4 : (W3.alloc (.cells #[.int .i64 0, .int .i64 0, .int .i64 0, .bool false, .int .i64 0] 23)).cell? ⟨W3.heap.size, 4, none⟩ = some (.int .i64 0) := by first | (simp; done) | (rw [World.cell?_alloc_at _ _ _ _ (by simp)]; rfl) | (rw [World.cell?_alloc_past _ _ _ (by simp <;> omega), World.cell?_alloc_at _ _ _ _ (by simp)]; rfl) | (rw [World.cell?_alloc_past _ _ _ (by simp <;> omega), World.cell?_alloc_past _ _ _ (by simp <;> omega), World.cell?_alloc_at _ _ _ _ (by simp)]; rfl)
      have hb2 := (by repeat (first | exact hbel | refine belAlloc ?_ _ | refine belDrew ?_ | refine belSet ?_ _ _ (by simp)) : Below W3.heap.size W3 (W3.alloc (.cells #[.int .i64 0, .int .i64 0, .int .i64 0, .bool false, .int .i64 0] 23)))
      replace tt0 := keepOnP tt0 hb2
      replace tt1 := keepOnP tt1 hb2
      replace tt2 := keepOnP tt2 hb2
      replace tt3 := keepOnP tt3 hb2
      replace tt4 := keepOnP tt4 hb2
      replace hw := belStep hw hb2
      clear hb2 hbel
      generalize W3.alloc (.cells #[.int .i64 0, .int .i64 0, .int .i64 0, .bool false, .int .i64 0] 23) = W4 at *
      replace uu0 := keep uu0
      replace uu1 := keep uu1
      replace uu2 := keep uu2
      replace uu3 := keep uu3
      replace uu4 := keep uu4
      generalize W3.heap.size = P1 at *
      have hbel : Below W4.heap.size W4 W4 := Below.refl _ _
      skip
      go_wp2_with (first | (go_at_call 5; (with_reducible refine (CR.out _).mono ?_); rintro e w1 ⟨rfl, hb1⟩; replace hbel := belStep hbel hb1; clear hb1))
      go_ret
      exact ⟨rfl, belStep hw hbel⟩
    · have HP := Lib.hid (CP rfl)
      have HQ := Lib.hid (CQ rfl)
      have HD := Lib.hid (CD rfl)
      clear CP CQ CD
      go_enter Tryd.func3, Tryd.ntmps3
      go_upto_region 1 with fail
      have tt0 : (W.alloc (.cells #[.int .i64 sg, .int .i64 pc, .int .i64 am, .bool so, .int .i64 gr] 23)).cell? ⟨W.heap.size, 0, none⟩ = some (.int .i64 sg) := by first | (simp; done) | (rw [World.cell?_alloc_at _ _ _ _ (by simp)]; rfl) | (rw [World.cell?_alloc_past _ _ _ (by simp <;> omega), World.cell?_alloc_at _ _ _ _ (by simp)]; rfl) | (rw [World.cell?_alloc_past _ _ _ (by simp <;> omega), World.cell?_alloc_past _ _ _ (by simp <;> omega), World.cell?_alloc_at _ _ _ _ (by simp)]; rfl)
      have tt1 : (W.alloc (.cells #[.int .i64 sg, .int .i64 pc, .int .i64 am, .bool so, .int .i64 gr] 23)).cell? ⟨W.heap.size, 1, none⟩ = some (.int .i64 pc) := by first | (simp; done) | (rw [World.cell?_alloc_at _ _ _ _ (by simp)]; rfl) | (rw [World.cell?_alloc_past _ _ _ (by simp <;> omega), World.cell?_alloc_at _ _ _ _ (by simp)]; rfl) | (rw [World.cell?_alloc_past _ _ _ (by simp <;> omega), World.cell?_alloc_past _ _ _ (by simp <;> omega), World.cell?_alloc_at _ _ _ _ (by simp)]; rfl)
      have tt2 : (W.alloc (.cells #[.int .i64 sg, .int .i64 pc, .int .i64 am, .bool so, .int .i64 gr] 23)).cell? ⟨W.heap.size, 2, none⟩ = some (.int .i64 am) := by first | (simp; done) | (rw [World.cell?_alloc_at _ _ _ _ (by simp)]; rfl) | (rw [World.cell?_alloc_past _ _ _ (by simp <;> omega), World.cell?_alloc_at _ _ _ _ (by simp)]; rfl) | (rw [World.cell?_alloc_past _ _ _ (by simp <;> omega), World.cell?_alloc_past _ _ _ (by simp <;> omega), World.cell?_alloc_at _ _ _ _ (by simp)]; rfl)
      have tt3 : (W.alloc (.cells #[.int .i64 sg, .int .i64 pc, .int .i64 am, .bool so, .int .i64 gr] 23)).cell? ⟨W.heap.size, 3, none⟩ = some (.bool so) := by first | (simp; done) | (rw [World.cell?_alloc_at _ _ _ _ (by simp)]; rfl) | (rw [World.cell?_alloc_past _ _ _ (by simp <;> omega), World.cell?_alloc_at _ _ _ _ (by simp)]; rfl) | (rw [World.cell?_alloc_past _ _ _ (by simp <;> omega), World.cell?_alloc_past _ _ _ (by simp <;> omega), World.cell?_alloc_at _ _ _ _ (by simp)]; rfl)
      have tt4 : (W.alloc (.cells #[.int .i64 sg, .int .i64 pc, .int .i64 am, .bool so, .int .i64 gr] 23)).cell? ⟨W.heap.size, 4, none⟩ = some (.int .i64 gr) := by first | (simp; done) | (rw [World.cell?_alloc_at _ _ _ _ (by simp)]; rfl) | (rw [World.cell?_alloc_past _ _ _ (by simp <;> omega), World.cell?_alloc_at _ _ _ _ (by simp)]; rfl) | (rw [World.cell?_alloc_past _ _ _ (by simp <;> omega), World.cell?_alloc_past _ _ _ (by simp <;> omega), World.cell?_alloc_at _ _ _ _ (by simp)]; rfl)
      have hb2 := (by repeat (first | exact hbel | refine belAlloc ?_ _ | refine belDrew ?_ | refine belSet ?_ _ _ (by simp)) : Below W.heap.size W (W.alloc (.cells #[.int .i64 sg, .int .i64 pc, .int .i64 am, .bool so, .int .i64 gr] 23)))
      replace hw := belStep hw hb2
      clear hb2 hbel
      generalize W.alloc (.cells #[.int .i64 sg, .int .i64 pc, .int .i64 am, .bool so, .int .i64 gr] 23) = W0 at *
      replace tt0 := keep tt0
      replace tt1 := keep tt1
      replace tt2 := keep tt2
      replace tt3 := keep tt3
      replace tt4 := keep tt4
      have hbel : Below W0.heap.size W0 W0 := Below.refl _ _
      skip
      go_upto_region 3 with (first | (go_at_call 4; (with_reducible refine (CA.out _ (belStep hw hbel)).mono ?_); rintro e w1 ⟨rfl, hb1⟩; replace hbel := belStep hbel hb1; clear hb1))
      replace tt0 := keepOnP tt0 hbel
      replace tt1 := keepOnP tt1 hbel
      replace tt2 := keepOnP tt2 hbel
      replace tt3 := keepOnP tt3 hbel
      replace tt4 := keepOnP tt4 hbel
      replace hw := belStep hw hbel
      clear hbel
      generalize w1 = W1 at *
      have hbel : Below W1.heap.size W1 W1 := Below.refl _ _
      have kk := fun d os => belStep hbel (below_regrown _ d os)
      refine wp_region_quiet_below (by kernel_rfl) (by kernel_rfl) ?_
      repeat ((with_reducible refine wpQuiet_step (fun K hK => ?_)); go_simp; (try (rw [if_neg]; rotate_left; · decide)); first | ((with_reducible refine hK _ ?_); clear hK K) | (apply Exists.intro; refine ⟨fun _ => ?_, hK _ ?_⟩; (first | (go_at_call 5; with_reducible exact Calls.regrown_of (CR.out _)) | (go_at_call 6; with_reducible exact Calls.regrown_of (CS.out _))); clear hK K))
      refine wpQuiet_nil (fun w1 hw1 => ?_)
      replace hbel := belStep hbel (bel_of_class hw1)
      clear hw1 kk
      replace tt0 := keepOnP tt0 hbel
      replace tt1 := keepOnP tt1 hbel
      replace tt2 := keepOnP tt2 hbel
      replace tt3 := keepOnP tt3 hbel
      replace tt4 := keepOnP tt4 hbel
      replace hw := belStep hw hbel
      clear hbel
      generalize w1 = W2 at *
      have hbel : Below W2.heap.size W2 W2 := Below.refl _ _
      go_upto_region 6 with (first | (go_at_call 7; (with_reducible refine (C1.out _ (belStep hw hbel)).mono ?_); rintro e w1 ⟨rfl, hb1⟩; replace hbel := belStep hbel hb1; clear hb1))
      replace tt0 := keepOnP tt0 hbel
      replace tt1 := keepOnP tt1 hbel
      replace tt2 := keepOnP tt2 hbel
      replace tt3 := keepOnP tt3 hbel
      replace tt4 := keepOnP tt4 hbel
      replace hw := belStep hw hbel
      clear hbel
      generalize w1 = W3 at *
      have hbel : Below W3.heap.size W3 W3 := Below.refl _ _
      have uu0 : (W3.alloc (.cells #[.int .i64 0, .int .i64 0, .int .i64 0, .bool false, .int .i64 0] 23)).cell? ⟨W3.heap.size, 0, none⟩ = some (.int .i64 0) := by first | (simp; done) | (rw [World.cell?_alloc_at _ _ _ _ (by simp)]; rfl) | (rw [World.cell?_alloc_past _ _ _ (by simp <;> omega), World.cell?_alloc_at _ _ _ _ (by simp)]; rfl) | (rw [World.cell?_alloc_past _ _ _ (by simp <;> omega), World.cell?_alloc_past _ _ _ (by simp <;> omega), World.cell?_alloc_at _ _ _ _ (by simp)]; rfl)
      have uu1 : (W3.alloc (.cells #[.int .i64 0, .int .i64 0, .int .i64 0, .bool false, .int .i64 0] 23)).cell? ⟨W3.heap.size, 1, none⟩ = some (.int .i64 0) := by first | (simp; done) | (rw [World.cell?_alloc_at _ _ _ _ (by simp)]; rfl) | (rw [World.cell?_alloc_past _ _ _ (by simp <;> omega), World.cell?_alloc_at _ _ _ _ (by simp)]; rfl) | (rw [World.cell?_alloc_past _ _ _ (by simp <;> omega), World.cell?_alloc_past _ _ _ (by simp <;> omega), World.cell?_alloc_at _ _ _ _ (by simp)]; rfl)
      have uu2 : (W3.alloc (.cells #[.int .i64 0, .int .i64 0, .int .i64 0, .bool false, .int .i64 0] 23)).cell? ⟨W3.heap.size, 2, none⟩ = some (.int .i64 0) := by first | (simp; done) | (rw [World.cell?_alloc_at _ _ _ _ (by simp)]; rfl) | (rw [World.cell?_alloc_past _ _ _ (by simp <;> omega), World.cell?_alloc_at _ _ _ _ (by simp)]; rfl) | (rw [World.cell?_alloc_past _ _ _ (by simp <;> omega), World.cell?_alloc_past _ _ _ (by simp <;> omega), World.cell?_alloc_at _ _ _ _ (by simp)]; rfl)
      have uu3 : (W3.alloc (.cells #[.int .i64 0, .int .i64 0, .int .i64 0, .bool false, .int .i64 0] 23)).cell? ⟨W3.heap.size, 3, none⟩ = some (.bool false) := by first | (simp; done) | (rw [World.cell?_alloc_at _ _ _ _ (by simp)]; rfl) | (rw [World.cell?_alloc_past _ _ _ (by simp <;> omega), World.cell?_alloc_at _ _ _ _ (by simp)]; rfl) | (rw [World.cell?_alloc_past _ _ _ (by simp <;> omega), World.cell?_alloc_past _ _ _ (by simp <;> omega), World.cell?_alloc_at _ _ _ _ (by simp)]; rfl)
      have uu4 : (W3.alloc (.cells #[.int .i64 0, .int .i64 0, .int .i64 0, .bool false, .int .i64 0] 23)).cell? ⟨W3.heap.size, 4, none⟩ = some (.int .i64 0) := by first | (simp; done) | (rw [World.cell?_alloc_at _ _ _ _ (by simp)]; rfl) | (rw [World.cell?_alloc_past _ _ _ (by simp <;> omega), World.cell?_alloc_at _ _ _ _ (by simp)]; rfl) | (rw [World.cell?_alloc_past _ _ _ (by simp <;> omega), World.cell?_alloc_past _ _ _ (by simp <;> omega), World.cell?_alloc_at _ _ _ _ (by simp)]; rfl)
      have hb2 := (by repeat (first | exact hbel | refine belAlloc ?_ _ | refine belDrew ?_ | refine belSet ?_ _ _ (by simp)) : Below W3.heap.size W3 (W3.alloc (.cells #[.int .i64 0, .int .i64 0, .int .i64 0, .bool false, .int .i64 0] 23)))
      replace tt0 := keepOnP tt0 hb2
      replace tt1 := keepOnP tt1 hb2
      replace tt2 := keepOnP tt2 hb2
      replace tt3 := keepOnP tt3 hb2
      replace tt4 := keepOnP tt4 hb2
      replace hw := belStep hw hb2
      clear hb2 hbel
      generalize W3.alloc (.cells #[.int .i64 0, .int .i64 0, .int .i64 0, .bool false, .int .i64 0] 23) = W4 at *
      replace uu0 := keep uu0
      replace uu1 := keep uu1
      replace uu2 := keep uu2
      replace uu3 := keep uu3
      replace uu4 := keep uu4
      generalize W3.heap.size = P1 at *
      have hbel : Below W4.heap.size W4 W4 := Below.refl _ _
      skip
      go_upto_region 12 with (first | (go_at_call 5; (with_reducible refine (CR.out _).mono ?_); rintro e w1 ⟨rfl, hb1⟩; replace hbel := belStep hbel hb1; clear hb1) | (go_at_call 8; (with_reducible refine (HP.out _ (belStep hw hbel)).mono ?_); rintro e w1 ⟨rfl, hb1⟩; replace hbel := belStep hbel hb1; clear hb1) | (go_at_call 7; (with_reducible refine (HD.out _ (belStep hw hbel)).mono ?_); rintro e w1 ⟨rfl, hb1⟩; replace hbel := belStep hbel hb1; clear hb1))
      replace tt0 := keepOnP tt0 hbel
      replace tt1 := keepOnP tt1 hbel
      replace tt2 := keepOnP tt2 hbel
      replace tt3 := keepOnP tt3 hbel
      replace tt4 := keepOnP tt4 hbel
      replace uu0 := keepOnP uu0 hbel
      replace uu1 := keepOnP uu1 hbel
      replace uu2 := keepOnP uu2 hbel
      replace uu3 := keepOnP uu3 hbel
      replace uu4 := keepOnP uu4 hbel
      replace hw := belStep hw hbel
      clear hbel
      generalize w1 = W5 at *
      have hbel : Below W5.heap.size W5 W5 := Below.refl _ _
      have vv0 : (W5.alloc (.cells #[.int .i64 sg, .int .i64 pc, .int .i64 am, .bool so, .int .i64 gr] 23)).cell? ⟨W5.heap.size, 0, none⟩ = some (.int .i64 sg) := by first | (simp; done) | (rw [World.cell?_alloc_at _ _ _ _ (by simp)]; rfl) | (rw [World.cell?_alloc_past _ _ _ (by simp <;> omega), World.cell?_alloc_at _ _ _ _ (by simp)]; rfl) | (rw [World.cell?_alloc_past _ _ _ (by simp <;> omega), World.cell?_alloc_past _ _ _ (by simp <;> omega), World.cell?_alloc_at _ _ _ _ (by simp)]; rfl)
      have vv1 : (W5.alloc (.cells #[.int .i64 sg, .int .i64 pc, .int .i64 am, .bool so, .int .i64 gr] 23)).cell? ⟨W5.heap.size, 1, none⟩ = some (.int .i64 pc) := by first | (simp; done) | (rw [World.cell?_alloc_at _ _ _ _ (by simp)]; rfl) | (rw [World.cell?_alloc_past _ _ _ (by simp <;> omega), World.cell?_alloc_at _ _ _ _ (by simp)]; rfl) | (rw [World.cell?_alloc_past _ _ _ (by simp <;> omega), World.cell?_alloc_past _ _ _ (by simp <;> omega), World.cell?_alloc_at _ _ _ _ (by simp)]; rfl)
      have vv2 : (W5.alloc (.cells #[.int .i64 sg, .int .i64 pc, .int .i64 am, .bool so, .int .i64 gr] 23)).cell? ⟨W5.heap.size, 2, none⟩ = some (.int .i64 am) := by first | (simp; done) | (rw [World.cell?_alloc_at _ _ _ _ (by simp)]; rfl) | (rw [World.cell?_alloc_past _ _ _ (by simp <;> omega), World.cell?_alloc_at _ _ _ _ (by simp)]; rfl) | (rw [World.cell?_alloc_past _ _ _ (by simp <;> omega), World.cell?_alloc_past _ _ _ (by simp <;> omega), World.cell?_alloc_at _ _ _ _ (by simp)]; rfl)
      have vv3 : (W5.alloc (.cells #[.int .i64 sg, .int .i64 pc, .int .i64 am, .bool so, .int .i64 gr] 23)).cell? ⟨W5.heap.size, 3, none⟩ = some (.bool so) := by first | (simp; done) | (rw [World.cell?_alloc_at _ _ _ _ (by simp)]; rfl) | (rw [World.cell?_alloc_past _ _ _ (by simp <;> omega), World.cell?_alloc_at _ _ _ _ (by simp)]; rfl) | (rw [World.cell?_alloc_past _ _ _ (by simp <;> omega), World.cell?_alloc_past _ _ _ (by simp <;> omega), World.cell?_alloc_at _ _ _ _ (by simp)]; rfl)
      have vv4 : (W5.alloc (.cells #[.int .i64 sg, .int .i64 pc, .int .i64 am, .bool so, .int .i64 gr] 23)).cell? ⟨W5.heap.size, 4, none⟩ = some (.int .i64 gr) := by first | (simp; done) | (rw [World.cell?_alloc_at _ _ _ _ (by simp)]; rfl) | (rw [World.cell?_alloc_past _ _ _ (by simp <;> omega), World.cell?_alloc_at _ _ _ _ (by simp)]; rfl) | (rw [World.cell?_alloc_past _ _ _ (by simp <;> omega), World.cell?_alloc_past _ _ _ (by simp <;> omega), World.cell?_alloc_at _ _ _ _ (by simp)]; rfl)
      have hb2 := (by repeat (first | exact hbel | refine belAlloc ?_ _ | refine belDrew ?_ | refine belSet ?_ _ _ (by simp)) : Below W5.heap.size W5 (W5.alloc (.cells #[.int .i64 sg, .int .i64 pc, .int .i64 am, .bool so, .int .i64 gr] 23)))
      replace tt0 := keepOnP tt0 hb2
      replace tt1 := keepOnP tt1 hb2
      replace tt2 := keepOnP tt2 hb2
      replace tt3 := keepOnP tt3 hb2
      replace tt4 := keepOnP tt4 hb2
      replace uu0 := keepOnP uu0 hb2
      replace uu1 := keepOnP uu1 hb2
      replace uu2 := keepOnP uu2 hb2
      replace uu3 := keepOnP uu3 hb2
      replace uu4 := keepOnP uu4 hb2
      replace hw := belStep hw hb2
      clear hb2 hbel
      generalize W5.alloc (.cells #[.int .i64 sg, .int .i64 pc, .int .i64 am, .bool so, .int .i64 gr] 23) = W6 at *
      replace vv0 := keep vv0
      replace vv1 := keep vv1
      replace vv2 := keep vv2
      replace vv3 := keep vv3
      replace vv4 := keep vv4
      generalize W5.heap.size = P2 at *
      have hbel : Below W6.heap.size W6 W6 := Below.refl _ _
      skip
      go_wp2_with (first | (go_at_call 9; (with_reducible refine (HQ.out _).mono ?_); rintro e w1 ⟨rfl, hb1⟩; replace hbel := belStep hbel hb1; clear hb1))
      go_ret
      exact ⟨rfl, belStep hw hbel⟩
  | some t =>
    have hrt := read_is_right hf
    have C1 := Lib.hid (fun v (hv : Below W.heap.size W v) => rd_some s t v hsm (ht.later hv) hf)
    obtain ⟨tg, tp, ta, ts, tr⟩ := t
    have C3 := Lib.hid (show ∀ u, Calls Tryd.prog 5 #[.agg #[.int .i64 tg, .int .i64 tp, .int .i64 ta, .bool ts, .int .i64 tr]] u fun e w' => e = .returned (.bool true) ∧ Below u.heap.size u w' from fun u => hrt ▸ thr_RightAny tg tp ta tr ts u)
    clear hrt
    clear hf ht hs hsm
    rcases ri with _ | _
    · clear CP CQ CD
      go_enter Tryd.func3, Tryd.ntmps3
      go_upto_region 1 with fail
      have tt0 : (W.alloc (.cells #[.int .i64 sg, .int .i64 pc, .int .i64 am, .bool so, .int .i64 gr] 23)).cell? ⟨W.heap.size, 0, none⟩ = some (.int .i64 sg) := by first | (simp; done) | (rw [World.cell?_alloc_at _ _ _ _ (by simp)]; rfl) | (rw [World.cell?_alloc_past _ _ _ (by simp <;> omega), World.cell?_alloc_at _ _ _ _ (by simp)]; rfl) | (rw [World.cell?_alloc_past _ _ _ (by simp <;> omega), World.cell?_alloc_past _ _ _ (by simp <;> omega), World.cell?_alloc_at _ _ _ _ (by simp)]; rfl)
      have tt1 : (W.alloc (.cells #[.int .i64 sg, .int .i64 pc, .int .i64 am, .bool so, .int .i64 gr] 23)).cell? ⟨W.heap.size, 1, none⟩ = some (.int .i64 pc) := by first | (simp; done) | (rw [World.cell?_alloc_at _ _ _ _ (by simp)]; rfl) | (rw [World.cell?_alloc_past _ _ _ (by simp <;> omega), World.cell?_alloc_at _ _ _ _ (by simp)]; rfl) | (rw [World.cell?_alloc_past _ _ _ (by simp <;> omega), World.cell?_alloc_past _ _ _ (by simp <;> omega), World.cell?_alloc_at _ _ _ _ (by simp)]; rfl)
      have tt2 : (W.alloc (.cells #[.int .i64 sg, .int .i64 pc, .int .i64 am, .bool so, .int .i64 gr] 23)).cell? ⟨W.heap.size, 2, none⟩ = some (.int .i64 am) := by first | (simp; done) | (rw [World.cell?_alloc_at _ _ _ _ (by simp)]; rfl) | (rw [World.cell?_alloc_past _ _ _ (by simp <;> omega), World.cell?_alloc_at _ _ _ _ (by simp)]; rfl) | (rw [World.cell?_alloc_past _ _ _ (by simp <;> omega), World.cell?_alloc_past _ _ _ (by simp <;> omega), World.cell?_alloc_at _ _ _ _ (by simp)]; rfl)
      have tt3 : (W.alloc (.cells #[.int .i64 sg, .int .i64 pc, .int .i64 am, .bool so, .int .i64 gr] 23)).cell? ⟨W.heap.size, 3, none⟩ = some (.bool so) := by first | (simp; done) | (rw [World.cell?_alloc_at _ _ _ _ (by simp)]; rfl) | (rw [World.cell?_alloc_past _ _ _ (by simp <;> omega), World.cell?_alloc_at _ _ _ _ (by simp)]; rfl) | (rw [World.cell?_alloc_past _ _ _ (by simp <;> omega), World.cell?_alloc_past _ _ _ (by simp <;> omega), World.cell?_alloc_at _ _ _ _ (by simp)]; rfl)
      have tt4 : (W.alloc (.cells #[.int .i64 sg, .int .i64 pc, .int .i64 am, .bool so, .int .i64 gr] 23)).cell? ⟨W.heap.size, 4, none⟩ = some (.int .i64 gr) := by first | (simp; done) | (rw [World.cell?_alloc_at _ _ _ _ (by simp)]; rfl) | (rw [World.cell?_alloc_past _ _ _ (by simp <;> omega), World.cell?_alloc_at _ _ _ _ (by simp)]; rfl) | (rw [World.cell?_alloc_past _ _ _ (by simp <;> omega), World.cell?_alloc_past _ _ _ (by simp <;> omega), World.cell?_alloc_at _ _ _ _ (by simp)]; rfl)
      have hb2 := (by repeat (first | exact hbel | refine belAlloc ?_ _ | refine belDrew ?_ | refine belSet ?_ _ _ (by simp)) : Below W.heap.size W (W.alloc (.cells #[.int .i64 sg, .int .i64 pc, .int .i64 am, .bool so, .int .i64 gr] 23)))
      replace hw := belStep hw hb2
      clear hb2 hbel
      generalize W.alloc (.cells #[.int .i64 sg, .int .i64 pc, .int .i64 am, .bool so, .int .i64 gr] 23) = W0 at *
      replace tt0 := keep tt0
      replace tt1 := keep tt1
      replace tt2 := keep tt2
      replace tt3 := keep tt3
      replace tt4 := keep tt4
      have hbel : Below W0.heap.size W0 W0 := Below.refl _ _
      skip
      go_upto_region 3 with (first | (go_at_call 4; (with_reducible refine (CA.out _ (belStep hw hbel)).mono ?_); rintro e w1 ⟨rfl, hb1⟩; replace hbel := belStep hbel hb1; clear hb1))
      replace tt0 := keepOnP tt0 hbel
      replace tt1 := keepOnP tt1 hbel
      replace tt2 := keepOnP tt2 hbel
      replace tt3 := keepOnP tt3 hbel
      replace tt4 := keepOnP tt4 hbel
      replace hw := belStep hw hbel
      clear hbel
      generalize w1 = W1 at *
      have hbel : Below W1.heap.size W1 W1 := Below.refl _ _
      have kk := fun d os => belStep hbel (below_regrown _ d os)
      refine wp_region_quiet_below (by kernel_rfl) (by kernel_rfl) ?_
      repeat ((with_reducible refine wpQuiet_step (fun K hK => ?_)); go_simp; (try (rw [if_neg]; rotate_left; · decide)); first | ((with_reducible refine hK _ ?_); clear hK K) | (apply Exists.intro; refine ⟨fun _ => ?_, hK _ ?_⟩; (first | (go_at_call 5; with_reducible exact Calls.regrown_of (CR.out _)) | (go_at_call 6; with_reducible exact Calls.regrown_of (CS.out _))); clear hK K))
      refine wpQuiet_nil (fun w1 hw1 => ?_)
      replace hbel := belStep hbel (bel_of_class hw1)
      clear hw1 kk
      replace tt0 := keepOnP tt0 hbel
      replace tt1 := keepOnP tt1 hbel
      replace tt2 := keepOnP tt2 hbel
      replace tt3 := keepOnP tt3 hbel
      replace tt4 := keepOnP tt4 hbel
      replace hw := belStep hw hbel
      clear hbel
      generalize w1 = W2 at *
      have hbel : Below W2.heap.size W2 W2 := Below.refl _ _
      go_upto_region 6 with (first | (go_at_call 7; (with_reducible refine (C1.out _ (belStep hw hbel)).mono ?_); rintro e w1 ⟨rfl, hb1⟩; replace hbel := belStep hbel hb1; clear hb1))
      replace tt0 := keepOnP tt0 hbel
      replace tt1 := keepOnP tt1 hbel
      replace tt2 := keepOnP tt2 hbel
      replace tt3 := keepOnP tt3 hbel
      replace tt4 := keepOnP tt4 hbel
      replace hw := belStep hw hbel
      clear hbel
      generalize w1 = W3 at *
      have hbel : Below W3.heap.size W3 W3 := Below.refl _ _
      have uu0 : (W3.alloc (.cells #[.int .i64 tg, .int .i64 tp, .int .i64 ta, .bool ts, .int .i64 tr] 23)).cell? ⟨W3.heap.size, 0, none⟩ = some (.int .i64 tg) := by first | (simp; done) | (rw [World.cell?_alloc_at _ _ _ _ (by simp)]; rfl) | (rw [World.cell?_alloc_past _ _ _ (by simp <;> omega), World.cell?_alloc_at _ _ _ _ (by simp)]; rfl) | (rw [World.cell?_alloc_past _ _ _ (by simp <;> omega), World.cell?_alloc_past _ _ _ (by simp <;> omega), World.cell?_alloc_at _ _ _ _ (by simp)]; rfl)
      have uu1 : (W3.alloc (.cells #[.int .i64 tg, .int .i64 tp, .int .i64 ta, .bool ts, .int .i64 tr] 23)).cell? ⟨W3.heap.size, 1, none⟩ = some (.int .i64 tp) := by first | (simp; done) | (rw [World.cell?_alloc_at _ _ _ _ (by simp)]; rfl) | (rw [World.cell?_alloc_past _ _ _ (by simp <;> omega), World.cell?_alloc_at _ _ _ _ (by simp)]; rfl) | (rw [World.cell?_alloc_past _ _ _ (by simp <;> omega), World.cell?_alloc_past _ _ _ (by simp <;> omega), World.cell?_alloc_at _ _ _ _ (by simp)]; rfl)
      have uu2 : (W3.alloc (.cells #[.int .i64 tg, .int .i64 tp, .int .i64 ta, .bool ts, .int .i64 tr] 23)).cell? ⟨W3.heap.size, 2, none⟩ = some (.int .i64 ta) := by first | (simp; done) | (rw [World.cell?_alloc_at _ _ _ _ (by simp)]; rfl) | (rw [World.cell?_alloc_past _ _ _ (by simp <;> omega), World.cell?_alloc_at _ _ _ _ (by simp)]; rfl) | (rw [World.cell?_alloc_past _ _ _ (by simp <;> omega), World.cell?_alloc_past _ _ _ (by simp <;> omega), World.cell?_alloc_at _ _ _ _ (by simp)]; rfl)
      have uu3 : (W3.alloc (.cells #[.int .i64 tg, .int .i64 tp, .int .i64 ta, .bool ts, .int .i64 tr] 23)).cell? ⟨W3.heap.size, 3, none⟩ = some (.bool ts) := by first | (simp; done) | (rw [World.cell?_alloc_at _ _ _ _ (by simp)]; rfl) | (rw [World.cell?_alloc_past _ _ _ (by simp <;> omega), World.cell?_alloc_at _ _ _ _ (by simp)]; rfl) | (rw [World.cell?_alloc_past _ _ _ (by simp <;> omega), World.cell?_alloc_past _ _ _ (by simp <;> omega), World.cell?_alloc_at _ _ _ _ (by simp)]; rfl)
      have uu4 : (W3.alloc (.cells #[.int .i64 tg, .int .i64 tp, .int .i64 ta, .bool ts, .int .i64 tr] 23)).cell? ⟨W3.heap.size, 4, none⟩ = some (.int .i64 tr) := by first | (simp; done) | (rw [World.cell?_alloc_at _ _ _ _ (by simp)]; rfl) | (rw [World.cell?_alloc_past _ _ _ (by simp <;> omega), World.cell?_alloc_at _ _ _ _ (by simp)]; rfl) | (rw [World.cell?_alloc_past _ _ _ (by simp <;> omega), World.cell?_alloc_past _ _ _ (by simp <;> omega), World.cell?_alloc_at _ _ _ _ (by simp)]; rfl)
      have hb2 := (by repeat (first | exact hbel | refine belAlloc ?_ _ | refine belDrew ?_ | refine belSet ?_ _ _ (by simp)) : Below W3.heap.size W3 (W3.alloc (.cells #[.int .i64 tg, .int .i64 tp, .int .i64 ta, .bool ts, .int .i64 tr] 23)))
      replace tt0 := keepOnP tt0 hb2
      replace tt1 := keepOnP tt1 hb2
      replace tt2 := keepOnP tt2 hb2
      replace tt3 := keepOnP tt3 hb2
      replace tt4 := keepOnP tt4 hb2
      replace hw := belStep hw hb2
      clear hb2 hbel
      generalize W3.alloc (.cells #[.int .i64 tg, .int .i64 tp, .int .i64 ta, .bool ts, .int .i64 tr] 23) = W4 at *
      replace uu0 := keep uu0
      replace uu1 := keep uu1
      replace uu2 := keep uu2
      replace uu3 := keep uu3
      replace uu4 := keep uu4
      generalize W3.heap.size = P1 at *
      have hbel : Below W4.heap.size W4 W4 := Below.refl _ _
      skip
      go_wp2_with (first | (go_at_call 5; (with_reducible refine (C3.out _).mono ?_); rintro e w1 ⟨rfl, hb1⟩; replace hbel := belStep hbel hb1; clear hb1) | (go_at_call 5; (with_reducible refine (CR.out _).mono ?_); rintro e w1 ⟨rfl, hb1⟩; replace hbel := belStep hbel hb1; clear hb1))
      go_ret
      exact ⟨rfl, belStep hw hbel⟩
    · have HP := Lib.hid (CP rfl)
      have HQ := Lib.hid (CQ rfl)
      have HD := Lib.hid (CD rfl)
      clear CP CQ CD
      go_enter Tryd.func3, Tryd.ntmps3
      go_upto_region 1 with fail
      have tt0 : (W.alloc (.cells #[.int .i64 sg, .int .i64 pc, .int .i64 am, .bool so, .int .i64 gr] 23)).cell? ⟨W.heap.size, 0, none⟩ = some (.int .i64 sg) := by first | (simp; done) | (rw [World.cell?_alloc_at _ _ _ _ (by simp)]; rfl) | (rw [World.cell?_alloc_past _ _ _ (by simp <;> omega), World.cell?_alloc_at _ _ _ _ (by simp)]; rfl) | (rw [World.cell?_alloc_past _ _ _ (by simp <;> omega), World.cell?_alloc_past _ _ _ (by simp <;> omega), World.cell?_alloc_at _ _ _ _ (by simp)]; rfl)
      have tt1 : (W.alloc (.cells #[.int .i64 sg, .int .i64 pc, .int .i64 am, .bool so, .int .i64 gr] 23)).cell? ⟨W.heap.size, 1, none⟩ = some (.int .i64 pc) := by first | (simp; done) | (rw [World.cell?_alloc_at _ _ _ _ (by simp)]; rfl) | (rw [World.cell?_alloc_past _ _ _ (by simp <;> omega), World.cell?_alloc_at _ _ _ _ (by simp)]; rfl) | (rw [World.cell?_alloc_past _ _ _ (by simp <;> omega), World.cell?_alloc_past _ _ _ (by simp <;> omega), World.cell?_alloc_at _ _ _ _ (by simp)]; rfl)
      have tt2 : (W.alloc (.cells #[.int .i64 sg, .int .i64 pc, .int .i64 am, .bool so, .int .i64 gr] 23)).cell? ⟨W.heap.size, 2, none⟩ = some (.int .i64 am) := by first | (simp; done) | (rw [World.cell?_alloc_at _ _ _ _ (by simp)]; rfl) | (rw [World.cell?_alloc_past _ _ _ (by simp <;> omega), World.cell?_alloc_at _ _ _ _ (by simp)]; rfl) | (rw [World.cell?_alloc_past _ _ _ (by simp <;> omega), World.cell?_alloc_past _ _ _ (by simp <;> omega), World.cell?_alloc_at _ _ _ _ (by simp)]; rfl)
      have tt3 : (W.alloc (.cells #[.int .i64 sg, .int .i64 pc, .int .i64 am, .bool so, .int .i64 gr] 23)).cell? ⟨W.heap.size, 3, none⟩ = some (.bool so) := by first | (simp; done) | (rw [World.cell?_alloc_at _ _ _ _ (by simp)]; rfl) | (rw [World.cell?_alloc_past _ _ _ (by simp <;> omega), World.cell?_alloc_at _ _ _ _ (by simp)]; rfl) | (rw [World.cell?_alloc_past _ _ _ (by simp <;> omega), World.cell?_alloc_past _ _ _ (by simp <;> omega), World.cell?_alloc_at _ _ _ _ (by simp)]; rfl)
      have tt4 : (W.alloc (.cells #[.int .i64 sg, .int .i64 pc, .int .i64 am, .bool so, .int .i64 gr] 23)).cell? ⟨W.heap.size, 4, none⟩ = some (.int .i64 gr) := by first | (simp; done) | (rw [World.cell?_alloc_at _ _ _ _ (by simp)]; rfl) | (rw [World.cell?_alloc_past _ _ _ (by simp <;> omega), World.cell?_alloc_at _ _ _ _ (by simp)]; rfl) | (rw [World.cell?_alloc_past _ _ _ (by simp <;> omega), World.cell?_alloc_past _ _ _ (by simp <;> omega), World.cell?_alloc_at _ _ _ _ (by simp)]; rfl)
      have hb2 := (by repeat (first | exact hbel | refine belAlloc ?_ _ | refine belDrew ?_ | refine belSet ?_ _ _ (by simp)) : Below W.heap.size W (W.alloc (.cells #[.int .i64 sg, .int .i64 pc, .int .i64 am, .bool so, .int .i64 gr] 23)))
      replace hw := belStep hw hb2
      clear hb2 hbel
      generalize W.alloc (.cells #[.int .i64 sg, .int .i64 pc, .int .i64 am, .bool so, .int .i64 gr] 23) = W0 at *
      replace tt0 := keep tt0
      replace tt1 := keep tt1
      replace tt2 := keep tt2
      replace tt3 := keep tt3
      replace tt4 := keep tt4
      have hbel : Below W0.heap.size W0 W0 := Below.refl _ _
      skip
      go_upto_region 3 with (first | (go_at_call 4; (with_reducible refine (CA.out _ (belStep hw hbel)).mono ?_); rintro e w1 ⟨rfl, hb1⟩; replace hbel := belStep hbel hb1; clear hb1))
      replace tt0 := keepOnP tt0 hbel
      replace tt1 := keepOnP tt1 hbel
      replace tt2 := keepOnP tt2 hbel
      replace tt3 := keepOnP tt3 hbel
      replace tt4 := keepOnP tt4 hbel
      replace hw := belStep hw hbel
      clear hbel
      generalize w1 = W1 at *
      have hbel : Below W1.heap.size W1 W1 := Below.refl _ _
      have kk := fun d os => belStep hbel (below_regrown _ d os)
      refine wp_region_quiet_below (by kernel_rfl) (by kernel_rfl) ?_
      repeat ((with_reducible refine wpQuiet_step (fun K hK => ?_)); go_simp; (try (rw [if_neg]; rotate_left; · decide)); first | ((with_reducible refine hK _ ?_); clear hK K) | (apply Exists.intro; refine ⟨fun _ => ?_, hK _ ?_⟩; (first | (go_at_call 5; with_reducible exact Calls.regrown_of (CR.out _)) | (go_at_call 6; with_reducible exact Calls.regrown_of (CS.out _))); clear hK K))
      refine wpQuiet_nil (fun w1 hw1 => ?_)
      replace hbel := belStep hbel (bel_of_class hw1)
      clear hw1 kk
      replace tt0 := keepOnP tt0 hbel
      replace tt1 := keepOnP tt1 hbel
      replace tt2 := keepOnP tt2 hbel
      replace tt3 := keepOnP tt3 hbel
      replace tt4 := keepOnP tt4 hbel
      replace hw := belStep hw hbel
      clear hbel
      generalize w1 = W2 at *
      have hbel : Below W2.heap.size W2 W2 := Below.refl _ _
      go_upto_region 6 with (first | (go_at_call 7; (with_reducible refine (C1.out _ (belStep hw hbel)).mono ?_); rintro e w1 ⟨rfl, hb1⟩; replace hbel := belStep hbel hb1; clear hb1))
      replace tt0 := keepOnP tt0 hbel
      replace tt1 := keepOnP tt1 hbel
      replace tt2 := keepOnP tt2 hbel
      replace tt3 := keepOnP tt3 hbel
      replace tt4 := keepOnP tt4 hbel
      replace hw := belStep hw hbel
      clear hbel
      generalize w1 = W3 at *
      have hbel : Below W3.heap.size W3 W3 := Below.refl _ _
      have uu0 : (W3.alloc (.cells #[.int .i64 tg, .int .i64 tp, .int .i64 ta, .bool ts, .int .i64 tr] 23)).cell? ⟨W3.heap.size, 0, none⟩ = some (.int .i64 tg) := by first | (simp; done) | (rw [World.cell?_alloc_at _ _ _ _ (by simp)]; rfl) | (rw [World.cell?_alloc_past _ _ _ (by simp <;> omega), World.cell?_alloc_at _ _ _ _ (by simp)]; rfl) | (rw [World.cell?_alloc_past _ _ _ (by simp <;> omega), World.cell?_alloc_past _ _ _ (by simp <;> omega), World.cell?_alloc_at _ _ _ _ (by simp)]; rfl)
      have uu1 : (W3.alloc (.cells #[.int .i64 tg, .int .i64 tp, .int .i64 ta, .bool ts, .int .i64 tr] 23)).cell? ⟨W3.heap.size, 1, none⟩ = some (.int .i64 tp) := by first | (simp; done) | (rw [World.cell?_alloc_at _ _ _ _ (by simp)]; rfl) | (rw [World.cell?_alloc_past _ _ _ (by simp <;> omega), World.cell?_alloc_at _ _ _ _ (by simp)]; rfl) | (rw [World.cell?_alloc_past _ _ _ (by simp <;> omega), World.cell?_alloc_past _ _ _ (by simp <;> omega), World.cell?_alloc_at _ _ _ _ (by simp)]; rfl)
      have uu2 : (W3.alloc (.cells #[.int .i64 tg, .int .i64 tp, .int .i64 ta, .bool ts, .int .i64 tr] 23)).cell? ⟨W3.heap.size, 2, none⟩ = some (.int .i64 ta) := by first | (simp; done) | (rw [World.cell?_alloc_at _ _ _ _ (by simp)]; rfl) | (rw [World.cell?_alloc_past _ _ _ (by simp <;> omega), World.cell?_alloc_at _ _ _ _ (by simp)]; rfl) | (rw [World.cell?_alloc_past _ _ _ (by simp <;> omega), World.cell?_alloc_past _ _ _ (by simp <;> omega), World.cell?_alloc_at _ _ _ _ (by simp)]; rfl)
      have uu3 : (W3.alloc (.cells #[.int .i64 tg, .int .i64 tp, .int .i64 ta, .bool ts, .int .i64 tr] 23)).cell? ⟨W3.heap.size, 3, none⟩ = some (.bool ts) := by first | (simp; done) | (rw [World.cell?_alloc_at _ _ _ _ (by simp)]; rfl) | (rw [World.cell?_alloc_past _ _ _ (by simp <;> omega), World.cell?_alloc_at _ _ _ _ (by simp)]; rfl) | (rw [World.cell?_alloc_past _ _ _ (by simp <;> omega), World.cell?_alloc_past _ _ _ (by simp <;> omega), World.cell?_alloc_at _ _ _ _ (by simp)]; rfl)
      have uu4 : (W3.alloc (.cells #[.int .i64 tg, .int .i64 tp, .int .i64 ta, .bool ts, .int .i64 tr] 23)).cell? ⟨W3.heap.size, 4, none⟩ = some (.int .i64 tr) := by first | (simp; done) | (rw [World.cell?_alloc_at _ _ _ _ (by simp)]; rfl) | (rw [World.cell?_alloc_past _ _ _ (by simp <;> omega), World.cell?_alloc_at _ _ _ _ (by simp)]; rfl) | (rw [World.cell?_alloc_past _ _ _ (by simp <;> omega), World.cell?_alloc_past _ _ _ (by simp <;> omega), World.cell?_alloc_at _ _ _ _ (by simp)]; rfl)
      have hb2 := (by repeat (first | exact hbel | refine belAlloc ?_ _ | refine belDrew ?_ | refine belSet ?_ _ _ (by simp)) : Below W3.heap.size W3 (W3.alloc (.cells #[.int .i64 tg, .int .i64 tp, .int .i64 ta, .bool ts, .int .i64 tr] 23)))
      replace tt0 := keepOnP tt0 hb2
      replace tt1 := keepOnP tt1 hb2
      replace tt2 := keepOnP tt2 hb2
      replace tt3 := keepOnP tt3 hb2
      replace tt4 := keepOnP tt4 hb2
      replace hw := belStep hw hb2
      clear hb2 hbel
      generalize W3.alloc (.cells #[.int .i64 tg, .int .i64 tp, .int .i64 ta, .bool ts, .int .i64 tr] 23) = W4 at *
      replace uu0 := keep uu0
      replace uu1 := keep uu1
      replace uu2 := keep uu2
      replace uu3 := keep uu3
      replace uu4 := keep uu4
      generalize W3.heap.size = P1 at *
      have hbel : Below W4.heap.size W4 W4 := Below.refl _ _
      skip
      go_upto_region 12 with (first | (go_at_call 5; (with_reducible refine (C3.out _).mono ?_); rintro e w1 ⟨rfl, hb1⟩; replace hbel := belStep hbel hb1; clear hb1) | (go_at_call 5; (with_reducible refine (CR.out _).mono ?_); rintro e w1 ⟨rfl, hb1⟩; replace hbel := belStep hbel hb1; clear hb1) | (go_at_call 8; (with_reducible refine (HP.out _ (belStep hw hbel)).mono ?_); rintro e w1 ⟨rfl, hb1⟩; replace hbel := belStep hbel hb1; clear hb1) | (go_at_call 7; (with_reducible refine (HD.out _ (belStep hw hbel)).mono ?_); rintro e w1 ⟨rfl, hb1⟩; replace hbel := belStep hbel hb1; clear hb1))
      replace tt0 := keepOnP tt0 hbel
      replace tt1 := keepOnP tt1 hbel
      replace tt2 := keepOnP tt2 hbel
      replace tt3 := keepOnP tt3 hbel
      replace tt4 := keepOnP tt4 hbel
      replace uu0 := keepOnP uu0 hbel
      replace uu1 := keepOnP uu1 hbel
      replace uu2 := keepOnP uu2 hbel
      replace uu3 := keepOnP uu3 hbel
      replace uu4 := keepOnP uu4 hbel
      replace hw := belStep hw hbel
      clear hbel
      generalize w1 = W5 at *
      have hbel : Below W5.heap.size W5 W5 := Below.refl _ _
      have vv0 : (W5.alloc (.cells #[.int .i64 sg, .int .i64 pc, .int .i64 am, .bool so, .int .i64 gr] 23)).cell? ⟨W5.heap.size, 0, none⟩ = some (.int .i64 sg) := by first | (simp; done) | (rw [World.cell?_alloc_at _ _ _ _ (by simp)]; rfl) | (rw [World.cell?_alloc_past _ _ _ (by simp <;> omega), World.cell?_alloc_at _ _ _ _ (by simp)]; rfl) | (rw [World.cell?_alloc_past _ _ _ (by simp <;> omega), World.cell?_alloc_past _ _ _ (by simp <;> omega), World.cell?_alloc_at _ _ _ _ (by simp)]; rfl)
      have vv1 : (W5.alloc (.cells #[.int .i64 sg, .int .i64 pc, .int .i64 am, .bool so, .int .i64 gr] 23)).cell? ⟨W5.heap.size, 1, none⟩ = some (.int .i64 pc) := by first | (simp; done) | (rw [World.cell?_alloc_at _ _ _ _ (by simp)]; rfl) | (rw [World.cell?_alloc_past _ _ _ (by simp <;> omega), World.cell?_alloc_at _ _ _ _ (by simp)]; rfl) | (rw [World.cell?_alloc_past _ _ _ (by simp <;> omega), World.cell?_alloc_past _ _ _ (by simp <;> omega), World.cell?_alloc_at _ _ _ _ (by simp)]; rfl)
      have vv2 : (W5.alloc (.cells #[.int .i64 sg, .int .i64 pc, .int .i64 am, .bool so, .int .i64 gr] 23)).cell? ⟨W5.heap.size, 2, none⟩ = some (.int .i64 am) := by first | (simp; done) | (rw [World.cell?_alloc_at _ _ _ _ (by simp)]; rfl) | (rw [World.cell?_alloc_past _ _ _ (by simp <;> omega), World.cell?_alloc_at _ _ _ _ (by simp)]; rfl) | (rw [World.cell?_alloc_past _ _ _ (by simp <;> omega), World.cell?_alloc_past _ _ _ (by simp <;> omega), World.cell?_alloc_at _ _ _ _ (by simp)]; rfl)
      have vv3 : (W5.alloc (.cells #[.int .i64 sg, .int .i64 pc, .int .i64 am, .bool so, .int .i64 gr] 23)).cell? ⟨W5.heap.size, 3, none⟩ = some (.bool so) := by first | (simp; done) | (rw [World.cell?_alloc_at _ _ _ _ (by simp)]; rfl) | (rw [World.cell?_alloc_past _ _ _ (by simp <;> omega), World.cell?_alloc_at _ _ _ _ (by simp)]; rfl) | (rw [World.cell?_alloc_past _ _ _ (by simp <;> omega), World.cell?_alloc_past _ _ _ (by simp <;> omega), World.cell?_alloc_at _ _ _ _ (by simp)]; rfl)
      have vv4 : (W5.alloc (.cells #[.int .i64 sg, .int .i64 pc, .int .i64 am, .bool so, .int .i64 gr] 23)).cell? ⟨W5.heap.size, 4, none⟩ = some (.int .i64 gr) := by first | (simp; done) | (rw [World.cell?_alloc_at _ _ _ _ (by simp)]; rfl) | (rw [World.cell?_alloc_past _ _ _ (by simp <;> omega), World.cell?_alloc_at _ _ _ _ (by simp)]; rfl) | (rw [World.cell?_alloc_past _ _ _ (by simp <;> omega), World.cell?_alloc_past _ _ _ (by simp <;> omega), World.cell?_alloc_at _ _ _ _ (by simp)]; rfl)
      have hb2 := (by repeat (first | exact hbel | refine belAlloc ?_ _ | refine belDrew ?_ | refine belSet ?_ _ _ (by simp)) : Below W5.heap.size W5 (W5.alloc (.cells #[.int .i64 sg, .int .i64 pc, .int .i64 am, .bool so, .int .i64 gr] 23)))
      replace tt0 := keepOnP tt0 hb2
      replace tt1 := keepOnP tt1 hb2
      replace tt2 := keepOnP tt2 hb2
      replace tt3 := keepOnP tt3 hb2
      replace tt4 := keepOnP tt4 hb2
      replace uu0 := keepOnP uu0 hb2
      replace uu1 := keepOnP uu1 hb2
      replace uu2 := keepOnP uu2 hb2
      replace uu3 := keepOnP uu3 hb2
      replace uu4 := keepOnP uu4 hb2
      replace hw := belStep hw hb2
      clear hb2 hbel
      generalize W5.alloc (.cells #[.int .i64 sg, .int .i64 pc, .int .i64 am, .bool so, .int .i64 gr] 23) = W6 at *
      replace vv0 := keep vv0
      replace vv1 := keep vv1
      replace vv2 := keep vv2
      replace vv3 := keep vv3
      replace vv4 := keep vv4
      generalize W5.heap.size = P2 at *
      have hbel : Below W6.heap.size W6 W6 := Below.refl _ _
      skip
      go_wp2_with (first | (go_at_call 9; (with_reducible refine (HQ.out _).mono ?_); rintro e w1 ⟨rfl, hb1⟩; replace hbel := belStep hbel hb1; clear hb1))
      go_ret
      exact ⟨rfl, belStep hw hbel⟩

set_option maxRecDepth 100000 in
theorem door_met (os : Os) (args : Array Value) : laidMet Tryd.prog Rows.threshBackRow.laid ((World.doorLaid Tryd.prog 400 os).forCall (fun _ _ => 0) ⟨#[], args, []⟩).memory :=
  laidMet_of_run' 8 (by kernel_rfl) (by kernel_rfl)
set_option maxRecDepth 100000 in
theorem lifted (os : Os) (started : os.Started) (H : Type) (enc : TypeId × Value → H) :
    ReturnsInHanded {} Tryd.checked os 3 .any (fun w args => (Rows.threshBackSpec.pre enc Tryd.prog Tryd.f3 [] false w args ∧ laidMetH Tryd.prog Rows.threshBackRow.laid w) ∧ sizedMet enc Tryd.prog Tryd.f3 (OpenSpec.ofChange Rows.threshBackSpec) false w args) (Rows.threshBackSpec.post enc Tryd.prog Tryd.f3 false true false false) := by
  refine returnsInHanded_of_change_and_shaped (C := Tryd.checked) (X := fun w _ => laidMetH Tryd.prog Rows.threshBackRow.laid w) (fun _ _ _ hh h => h.of_heap hh) own started (by kernel_rfl) Tryd.func3
    (ChangeSpec.witness_shaped (enc := enc) (C := Tryd.checked) (os := os) (X := fun w _ => laidMetH Tryd.prog Rows.threshBackRow.laid w) false (World.doorLaid Tryd.prog 400 os) #[.agg #[.int .i64 0, .int .i64 0, .int .i64 0, .bool false, .int .i64 0], .string ByteArray.empty] 8 rfl (World.shaped_of_RefB (by kernel_rfl) (by kernel_rfl)) (by kernel_rfl) (by kernel_rfl) (by kernel_rfl) (by rw [MakeChecks.laidMetH_plain _ _ _ (by kernel_rfl)]; exact door_met os _)) ?_
  intro W base args ds gs before hval0 hW hL hsh
  rw [MakeChecks.laidMetH_plain _ _ _ (by kernel_rfl)] at hL
  have ht : Env W := env_of hL hsh
  clear hL
  have hval : ∀ (j : Nat) t v, Tryd.f3.params[j]? = some t → args[j]? = some v → Value.okWide Tryd.prog W .any base t v := hval0
  have hW' := hW
  obtain ⟨p, q, hA0, hV, rfl, hfz, hnd⟩ := hW
  have hA : DataW.TrodAll enc Tryd.prog W 0 (fun _ => true) true Tryd.f3.params.toList args.toList ds p := hA0
  rw [Tryd.params3] at hA hval
  obtain ⟨v0, vs0, d0, ds0, p0, q0, hargs, rfl, rfl, h0, r0⟩ := trodAll_cons hA
  obtain ⟨v1, vs1, d1, ds1, p1, q1, rfl, rfl, rfl, h1, r1⟩ := trodAll_cons r0
  obtain ⟨rfl, rfl, rfl⟩ := trodAll_nil r1
  obtain rfl : args = #[v0, v1] := by cases args; simp_all
  obtain ⟨rfl, rfl⟩ := trodVars_none hV
  have k0 := h0
  have lt0 : ∀ x ∈ p0, x.block < W.heap.size := by obtain ⟨m, hm⟩ := k0; exact DataW.trod_lt m _ _ _ hm
  have o0 : Value.okWide Tryd.prog W .any base 23 v0 := hval 0 23 v0 rfl rfl
  obtain ⟨sg0, pc0, am0, gr0, so0, rfl, ha0⟩ := open_thr o0 h0
  have k1 := h1
  have lt1 : ∀ x ∈ p1, x.block < W.heap.size := by obtain ⟨m, hm⟩ := k1; exact DataW.trod_lt m _ _ _ hm
  have o1 : Value.okWide Tryd.prog W .any base 9 v1 := hval 1 9 v1 rfl rfl
  obtain ⟨a1, rfl, rfl, rfl, w1⟩ := open_string Tryd.underlying9 o1 h1
  clear hA0 hval0
  refine (walk sg0 pc0 am0 gr0 so0 a1 W ht ha0 w1).mono fun e W' ⟨he, bel⟩ => ?_
  subst he
  exact ⟨_, rfl, _, _, _, [], _, [], hW', trodAll_mk1 (shut_bool Tryd.underlying4 _), (trodAll_cons_mk (Below.trod laidOut (by kernel_rfl) (of_decide_eq_true (by kernel_rfl)) k0 bel lt0) (trodAll_cons_mk (Below.trod laidOut (by kernel_rfl) (of_decide_eq_true (by kernel_rfl)) k1 bel lt1) trodAll_mk0)), rfl, bel.frame _, fun h => by cases h⟩

theorem over : Rows.threshBackRow.holds Tryd.pinned (OpenSpec.ofChange Rows.threshBackSpec) :=
  OpenClaim.holds_of_wide 3 Tryd.f3 rfl rfl rfl rfl rfl rfl rfl ⟨rfl, rfl, rfl, rfl, rfl⟩ rfl rfl rfl rfl rfl (by kernel_rfl) Tryd.func3 (by kernel_rfl)
    (of_decide_eq_true (by kernel_rfl)) (by unfold Func.isWrapper; first | (rw [if_pos (by decide +kernel)]; kernel_rfl) | (rw [if_neg (by decide +kernel)]; exact ⟨rfl, rfl⟩))
    (fun os started H enc _ => lifted os started H enc)

/-- The statement. -/
theorem proved : Rows.ThreshBackCardSaid :=
  Claim7.holds_tied_plain_at .later [] Rows.threshBackCard.laidKinds true Rows.threshBackCard.stood.harness true
    over (fun _ h => by cases h) (by kernel_rfl) (fun _ h => by cases h) threshBack_row_tie rfl ⟨rfl, rfl⟩ (by kernel_rfl) rfl
    (fun f fn hf hfn => by
      obtain rfl : f = 3 := Option.some.inj ((show Tryd.prog.funcNamed Rows.threshBackRow.func = some 3 by kernel_rfl).symm.trans hf) |>.symm
      obtain rfl : fn = Tryd.f3 := (Option.some.inj (Tryd.func3.symm.trans hfn)).symm
      exact ⟨by kernel_rfl, fun j t ht => by
        rw [Tryd.params3] at ht
        have hm : t ∈ [23, 9] := by simpa using Array.mem_of_getElem? ht
        have hall : ([23, 9].all fun u => !Tryd.prog.wantsStandIn u) = true := by kernel_rfl
        exact (show Tryd.prog.wantsStandIn t = false by simpa using List.all_eq_true.1 hall t hm)⟩)
    (by kernel_rfl)
#print axioms proved

end Go.Proofs.YtdmnogljdkncpaaDoor.threshBack
