/- bilgeref23.Same, bilgeref23.Within, bilgeref20.Fit: contracts. -/
import Derived.Test.YtafojeeehehplaaAdm3
import Derived.Test.YtafojeeehehplaaVicX
namespace Go.Proofs.Ytafojeeehehplaa
open Go.RowKit
set_option linter.unusedVariables false
set_option linter.unusedSimpArgs false
def sameV (V W : VerdV) : Bool := V.kind == W.kind && (V.sig == W.sig && sameB V.go W.go)
theorem sameV_refl (V : VerdV) : sameV V V = true := by unfold sameV; rw [same_refl]; simp
set_option maxRecDepth 100000 in
set_option maxHeartbeats 16000000 in
theorem rref_Same (V W : VerdV) (a1 a2 : Option Addr) (c1 c2 : Nat) (w : World) (h1 : Row w a1 V.go.length c1 1 (V.go.map Value.string)) (h2 : Row w a2 W.go.length c2 1 (W.go.map Value.string)) :
    Calls Try.prog 19 #[.agg #[.int .i64 V.kind, .int .i64 V.sig, .slice a1 V.go.length c1], .agg #[.int .i64 W.kind, .int .i64 W.sig, .slice a2 W.go.length c2]] w fun e w' => e = .returned (.bool (sameV V W)) ∧ Below w.heap.size w w' := by
  have hw : Below w.heap.size w w := Below.refl _ _
  have hbel := hw
  have CS := Lib.hid (fun u (hu : Below w.heap.size w u) => sames_any a1 a2 V.go.length W.go.length c1 c2 V.go W.go u rfl rfl (h1.later hu) (h2.later hu))
  clear h1 h2
  obtain ⟨k1, g1, G⟩ := V
  obtain ⟨k2, g2, H⟩ := W
  simp only at CS ⊢
  go_enter Try.func19, Try.ntmps19
  go_upto_region 1 with fail
  have vv0 : ((w.alloc (.cells #[.int .i64 k1, .int .i64 g1, .slice a1 G.length c1] 36)).alloc (.cells #[.int .i64 k2, .int .i64 g2, .slice a2 H.length c2] 36)).cell? ⟨w.heap.size, 0, none⟩ = some (.int .i64 k1) := by first | (simp; done) | (rw [World.cell?_alloc_at _ _ _ _ (by simp)]; rfl) | (rw [World.cell?_alloc_past _ _ _ (by simp <;> omega), World.cell?_alloc_at _ _ _ _ (by simp)]; rfl) | (rw [World.cell?_alloc_past _ _ _ (by simp <;> omega), World.cell?_alloc_past _ _ _ (by simp <;> omega), World.cell?_alloc_at _ _ _ _ (by simp)]; rfl)
  have vv1 : ((w.alloc (.cells #[.int .i64 k1, .int .i64 g1, .slice a1 G.length c1] 36)).alloc (.cells #[.int .i64 k2, .int .i64 g2, .slice a2 H.length c2] 36)).cell? ⟨w.heap.size, 1, none⟩ = some (.int .i64 g1) := by first | (simp; done) | (rw [World.cell?_alloc_at _ _ _ _ (by simp)]; rfl) | (rw [World.cell?_alloc_past _ _ _ (by simp <;> omega), World.cell?_alloc_at _ _ _ _ (by simp)]; rfl) | (rw [World.cell?_alloc_past _ _ _ (by simp <;> omega), World.cell?_alloc_past _ _ _ (by simp <;> omega), World.cell?_alloc_at _ _ _ _ (by simp)]; rfl)
  have vv2 : ((w.alloc (.cells #[.int .i64 k1, .int .i64 g1, .slice a1 G.length c1] 36)).alloc (.cells #[.int .i64 k2, .int .i64 g2, .slice a2 H.length c2] 36)).cell? ⟨w.heap.size, 2, none⟩ = some (.slice a1 G.length c1) := by first | (simp; done) | (rw [World.cell?_alloc_at _ _ _ _ (by simp)]; rfl) | (rw [World.cell?_alloc_past _ _ _ (by simp <;> omega), World.cell?_alloc_at _ _ _ _ (by simp)]; rfl) | (rw [World.cell?_alloc_past _ _ _ (by simp <;> omega), World.cell?_alloc_past _ _ _ (by simp <;> omega), World.cell?_alloc_at _ _ _ _ (by simp)]; rfl)
  have ww0 : ((w.alloc (.cells #[.int .i64 k1, .int .i64 g1, .slice a1 G.length c1] 36)).alloc (.cells #[.int .i64 k2, .int .i64 g2, .slice a2 H.length c2] 36)).cell? ⟨w.heap.size + 1, 0, none⟩ = some (.int .i64 k2) := by first | (simp; done) | (rw [World.cell?_alloc_at _ _ _ _ (by simp)]; rfl) | (rw [World.cell?_alloc_past _ _ _ (by simp <;> omega), World.cell?_alloc_at _ _ _ _ (by simp)]; rfl) | (rw [World.cell?_alloc_past _ _ _ (by simp <;> omega), World.cell?_alloc_past _ _ _ (by simp <;> omega), World.cell?_alloc_at _ _ _ _ (by simp)]; rfl)
  have ww1 : ((w.alloc (.cells #[.int .i64 k1, .int .i64 g1, .slice a1 G.length c1] 36)).alloc (.cells #[.int .i64 k2, .int .i64 g2, .slice a2 H.length c2] 36)).cell? ⟨w.heap.size + 1, 1, none⟩ = some (.int .i64 g2) := by first | (simp; done) | (rw [World.cell?_alloc_at _ _ _ _ (by simp)]; rfl) | (rw [World.cell?_alloc_past _ _ _ (by simp <;> omega), World.cell?_alloc_at _ _ _ _ (by simp)]; rfl) | (rw [World.cell?_alloc_past _ _ _ (by simp <;> omega), World.cell?_alloc_past _ _ _ (by simp <;> omega), World.cell?_alloc_at _ _ _ _ (by simp)]; rfl)
  have ww2 : ((w.alloc (.cells #[.int .i64 k1, .int .i64 g1, .slice a1 G.length c1] 36)).alloc (.cells #[.int .i64 k2, .int .i64 g2, .slice a2 H.length c2] 36)).cell? ⟨w.heap.size + 1, 2, none⟩ = some (.slice a2 H.length c2) := by first | (simp; done) | (rw [World.cell?_alloc_at _ _ _ _ (by simp)]; rfl) | (rw [World.cell?_alloc_past _ _ _ (by simp <;> omega), World.cell?_alloc_at _ _ _ _ (by simp)]; rfl) | (rw [World.cell?_alloc_past _ _ _ (by simp <;> omega), World.cell?_alloc_past _ _ _ (by simp <;> omega), World.cell?_alloc_at _ _ _ _ (by simp)]; rfl)
  have hb2 := (by repeat (first | exact hbel | refine belAlloc ?_ _ | refine belDrew ?_ | refine belSet ?_ _ _ (by simp)) : Below w.heap.size w ((w.alloc (.cells #[.int .i64 k1, .int .i64 g1, .slice a1 G.length c1] 36)).alloc (.cells #[.int .i64 k2, .int .i64 g2, .slice a2 H.length c2] 36)))
  replace hw := belStep hw hb2
  clear hb2 hbel
  generalize (w.alloc (.cells #[.int .i64 k1, .int .i64 g1, .slice a1 G.length c1] 36)).alloc (.cells #[.int .i64 k2, .int .i64 g2, .slice a2 H.length c2] 36) = W1 at *
  replace vv0 := keep vv0
  replace vv1 := keep vv1
  replace vv2 := keep vv2
  replace ww0 := keep ww0
  replace ww1 := keep ww1
  replace ww2 := keep ww2
  have hbel : Below W1.heap.size W1 W1 := Below.refl _ _
  skip
  by_cases hk : k1 = k2
  · have hq : (k1 == k2) = true := by simp [hk]
    by_cases hg : g1 = g2
    · have hr : (g1 == g2) = true := by simp [hg]
      have HV := Lib.hid (show sameV ⟨k1, g1, G⟩ ⟨k2, g2, H⟩ = sameB G H by unfold sameV; rw [hq, hr]; simp)
      clear hk hg
      go_wp2_with (go_at_call 33; (with_reducible refine (CS.out _ (belStep hw hbel)).mono ?_); rintro e w1 ⟨rfl, hb1⟩; replace hbel := belStep hbel hb1; clear hb1)
      go_ret
      exact ⟨by rw [HV.out]; rfl, belStep hw hbel⟩
    · have hr : (g1 == g2) = false := by simp [hg]
      have HV := Lib.hid (show sameV ⟨k1, g1, G⟩ ⟨k2, g2, H⟩ = false by unfold sameV; rw [hq, hr]; simp)
      clear hk hg
      go_wp2_with (go_at_call 33; (with_reducible refine (CS.out _ (belStep hw hbel)).mono ?_); rintro e w1 ⟨rfl, hb1⟩; replace hbel := belStep hbel hb1; clear hb1)
      go_ret
      exact ⟨by rw [HV.out]; rfl, belStep hw hbel⟩
  · have hq : (k1 == k2) = false := by simp [hk]
    have HV := Lib.hid (show sameV ⟨k1, g1, G⟩ ⟨k2, g2, H⟩ = false by unfold sameV; rw [hq]; simp)
    clear hk
    go_wp2_with (go_at_call 33; (with_reducible refine (CS.out _ (belStep hw hbel)).mono ?_); rintro e w1 ⟨rfl, hb1⟩; replace hbel := belStep hbel hb1; clear hb1)
    go_ret
    exact ⟨by rw [HV.out]; rfl, belStep hw hbel⟩
set_option maxRecDepth 100000 in
set_option maxHeartbeats 16000000 in
theorem rref_Within (R : Room) (a : Option Addr) (len cap : Nat) (L : List PodV) (w : World) (hl : L.length = len) (hok : ∀ x ∈ L, x.ok) (hR : Row w a len cap 11 (L.flatMap PodV.cells)) (hr : ∀ x ∈ L, rightB x = true) (ha : 0 ≤ R.a ∧ InI R.a) (hb : 0 ≤ R.b ∧ InI R.b) (hc : 0 ≤ R.c ∧ InI R.c) :
    Calls Try.prog 22 #[.agg #[.int .i64 R.a, .int .i64 R.b, .int .i64 R.c], .slice a len cap] w fun e w' => e = .returned (.bool (fitsB R L)) ∧ Below w.heap.size w w' := by
  have hw : Below w.heap.size w w := Below.refl _ _
  have hbel := hw
  have HR := Lib.hid hR
  subst hl
  have S0 := (sumF_X PodV.r0 L (fun x hx => (PodV.right_pos x (hr x hx)).1)).2
  have CE0 := Lib.hid (fun v (hv : Below w.heap.size w v) => ref_Exact0 a L.length cap L v rfl (fun x hx => ⟨(PodV.right_pos x (hr x hx)).1, by have := hok x hx; unfold PodV.ok InI at this; omega⟩) (HR.out.later hv))
  have u0 : IntKind.u64.wrap R.a = R.a := IntWalk.u64_in _ (by unfold InI at ha; omega)
  have S1 := (sumF_X PodV.r1 L (fun x hx => (PodV.right_pos x (hr x hx)).2.1)).2
  have CE1 := Lib.hid (fun v (hv : Below w.heap.size w v) => ref_Exact1 a L.length cap L v rfl (fun x hx => ⟨(PodV.right_pos x (hr x hx)).2.1, by have := hok x hx; unfold PodV.ok InI at this; omega⟩) (HR.out.later hv))
  have u1 : IntKind.u64.wrap R.b = R.b := IntWalk.u64_in _ (by unfold InI at hb; omega)
  have S2 := (sumF_X PodV.r2 L (fun x hx => (PodV.right_pos x (hr x hx)).2.2)).2
  have CE2 := Lib.hid (fun v (hv : Below w.heap.size w v) => ref_Exact2 a L.length cap L v rfl (fun x hx => ⟨(PodV.right_pos x (hr x hx)).2.2, by have := hok x hx; unfold PodV.ok InI at this; omega⟩) (HR.out.later hv))
  have u2 : IntKind.u64.wrap R.c = R.c := IntWalk.u64_in _ (by unfold InI at hc; omega)
  have HX := Lib.hid (fits_X R L hr)
  clear hR hok hr ha hb hc
  go_enter Try.func22, Try.ntmps22
  go_upto_region 1 with fail
  have rm0 : (w.alloc (.cells #[.int .i64 R.a, .int .i64 R.b, .int .i64 R.c] 22)).cell? ⟨w.heap.size, 0, none⟩ = some (.int .i64 R.a) := by first | (simp; done) | (rw [World.cell?_alloc_at _ _ _ _ (by simp)]; rfl) | (rw [World.cell?_alloc_past _ _ _ (by simp <;> omega), World.cell?_alloc_at _ _ _ _ (by simp)]; rfl) | (rw [World.cell?_alloc_past _ _ _ (by simp <;> omega), World.cell?_alloc_past _ _ _ (by simp <;> omega), World.cell?_alloc_at _ _ _ _ (by simp)]; rfl)
  have rm1 : (w.alloc (.cells #[.int .i64 R.a, .int .i64 R.b, .int .i64 R.c] 22)).cell? ⟨w.heap.size, 1, none⟩ = some (.int .i64 R.b) := by first | (simp; done) | (rw [World.cell?_alloc_at _ _ _ _ (by simp)]; rfl) | (rw [World.cell?_alloc_past _ _ _ (by simp <;> omega), World.cell?_alloc_at _ _ _ _ (by simp)]; rfl) | (rw [World.cell?_alloc_past _ _ _ (by simp <;> omega), World.cell?_alloc_past _ _ _ (by simp <;> omega), World.cell?_alloc_at _ _ _ _ (by simp)]; rfl)
  have rm2 : (w.alloc (.cells #[.int .i64 R.a, .int .i64 R.b, .int .i64 R.c] 22)).cell? ⟨w.heap.size, 2, none⟩ = some (.int .i64 R.c) := by first | (simp; done) | (rw [World.cell?_alloc_at _ _ _ _ (by simp)]; rfl) | (rw [World.cell?_alloc_past _ _ _ (by simp <;> omega), World.cell?_alloc_at _ _ _ _ (by simp)]; rfl) | (rw [World.cell?_alloc_past _ _ _ (by simp <;> omega), World.cell?_alloc_past _ _ _ (by simp <;> omega), World.cell?_alloc_at _ _ _ _ (by simp)]; rfl)
  have hb2 := (by repeat (first | exact hbel | refine belAlloc ?_ _ | refine belDrew ?_ | refine belSet ?_ _ _ (by simp)) : Below w.heap.size w (w.alloc (.cells #[.int .i64 R.a, .int .i64 R.b, .int .i64 R.c] 22)))
  replace hw := belStep hw hb2
  clear hb2 hbel
  generalize w.alloc (.cells #[.int .i64 R.a, .int .i64 R.b, .int .i64 R.c] 22) = W1 at *
  replace rm0 := keep rm0
  replace rm1 := keep rm1
  replace rm2 := keep rm2
  have hbel : Below W1.heap.size W1 W1 := Below.refl _ _
  skip
  have HB := Lib.hid hbel
  clear hbel
  go_wp2
  go_loopw [5] (fun i wr => ∃ k : Nat, k ≤ 3 ∧ i = .int .i64 k ∧ Hid (exB R L k = true) ∧ Below W1.heap.size W1 wr) (fun i _ => 3 - (intOf i).toNat)
  case atStart => exact ⟨0, by omega, rfl, Lib.hid rfl, HB.out⟩
  case round =>
    obtain ⟨k, hk, rfl, HE, hbel⟩ := hrel
    have key : k = 0 ∨ k = 1 ∨ k = 2 ∨ k = 3 := by omega
    clear hk HB
    rcases key with rfl | rfl | rfl | rfl
    · have q1 := ex_cases (room := R.a) S0
      have q2 := CE0
      have HYES : Hid (exG R.a (sumX PodV.r0 L) = true → exB R L 1 = true) := Lib.hid (fun h => by exact h)
      have HNO : Hid (exG R.a (sumX PodV.r0 L) = false → fitsB R L = false) := Lib.hid (fun h => by rw [HX.out]; show (exG R.a (sumX PodV.r0 L) && exG R.b (sumX PodV.r1 L) && exG R.c (sumX PodV.r2 L)) = false; rw [h]; simp)
      generalize sumX PodV.r0 L / 18446744073709551616 = H at q1 q2
      generalize sumX PodV.r0 L % 18446744073709551616 = N at q1 q2
      clear S0 S1 S2 CE0 CE1 CE2
      rcases q1 with ⟨k0, k1, k2, k3⟩ | ⟨k0, k1 | ⟨k1, k2⟩ | ⟨k1, k2, k3⟩⟩
      · have HY := Lib.hid (HYES.out k0)
        clear k0
        go_wp2_with (go_at_call 34; (with_reducible refine (q2.out _ (belStep hw hbel)).mono ?_); rintro e w5 ⟨rfl, rfl⟩)
        go_roundw
        case rel => exact ⟨1, by omega, rfl, HY, hbel⟩
        case measure => simp [intOf] <;> omega
      · have HN := Lib.hid (HNO.out k0)
        clear k0
        go_wp2_with (go_at_call 34; (with_reducible refine (q2.out _ (belStep hw hbel)).mono ?_); rintro e w5 ⟨rfl, rfl⟩)
        go_ret
        exact ⟨by rw [HN.out]; rfl, belStep hw hbel⟩
      · have HN := Lib.hid (HNO.out k0)
        clear k0
        go_wp2_with (go_at_call 34; (with_reducible refine (q2.out _ (belStep hw hbel)).mono ?_); rintro e w5 ⟨rfl, rfl⟩)
        go_ret
        exact ⟨by rw [HN.out]; rfl, belStep hw hbel⟩
      · have HN := Lib.hid (HNO.out k0)
        clear k0
        go_wp2_with (go_at_call 34; (with_reducible refine (q2.out _ (belStep hw hbel)).mono ?_); rintro e w5 ⟨rfl, rfl⟩)
        go_ret
        exact ⟨by rw [HN.out]; rfl, belStep hw hbel⟩
    · have q1 := ex_cases (room := R.b) S1
      have q2 := CE1
      have HYES : Hid (exG R.b (sumX PodV.r1 L) = true → exB R L 2 = true) := Lib.hid (fun h => by have e := HE.out; show (exG R.a (sumX PodV.r0 L) && exG R.b (sumX PodV.r1 L)) = true; rw [h, show exG R.a (sumX PodV.r0 L) = true from e]; rfl)
      have HNO : Hid (exG R.b (sumX PodV.r1 L) = false → fitsB R L = false) := Lib.hid (fun h => by rw [HX.out]; show (exG R.a (sumX PodV.r0 L) && exG R.b (sumX PodV.r1 L) && exG R.c (sumX PodV.r2 L)) = false; rw [h]; simp)
      generalize sumX PodV.r1 L / 18446744073709551616 = H at q1 q2
      generalize sumX PodV.r1 L % 18446744073709551616 = N at q1 q2
      clear S0 S1 S2 CE0 CE1 CE2
      rcases q1 with ⟨k0, k1, k2, k3⟩ | ⟨k0, k1 | ⟨k1, k2⟩ | ⟨k1, k2, k3⟩⟩
      · have HY := Lib.hid (HYES.out k0)
        clear k0
        go_wp2_with (go_at_call 34; (with_reducible refine (q2.out _ (belStep hw hbel)).mono ?_); rintro e w5 ⟨rfl, rfl⟩)
        go_roundw
        case rel => exact ⟨2, by omega, rfl, HY, hbel⟩
        case measure => simp [intOf] <;> omega
      · have HN := Lib.hid (HNO.out k0)
        clear k0
        go_wp2_with (go_at_call 34; (with_reducible refine (q2.out _ (belStep hw hbel)).mono ?_); rintro e w5 ⟨rfl, rfl⟩)
        go_ret
        exact ⟨by rw [HN.out]; rfl, belStep hw hbel⟩
      · have HN := Lib.hid (HNO.out k0)
        clear k0
        go_wp2_with (go_at_call 34; (with_reducible refine (q2.out _ (belStep hw hbel)).mono ?_); rintro e w5 ⟨rfl, rfl⟩)
        go_ret
        exact ⟨by rw [HN.out]; rfl, belStep hw hbel⟩
      · have HN := Lib.hid (HNO.out k0)
        clear k0
        go_wp2_with (go_at_call 34; (with_reducible refine (q2.out _ (belStep hw hbel)).mono ?_); rintro e w5 ⟨rfl, rfl⟩)
        go_ret
        exact ⟨by rw [HN.out]; rfl, belStep hw hbel⟩
    · have q1 := ex_cases (room := R.c) S2
      have q2 := CE2
      have HYES : Hid (exG R.c (sumX PodV.r2 L) = true → exB R L 3 = true) := Lib.hid (fun h => by have e := HE.out; show (exG R.a (sumX PodV.r0 L) && exG R.b (sumX PodV.r1 L) && exG R.c (sumX PodV.r2 L)) = true; rw [h, show (exG R.a (sumX PodV.r0 L) && exG R.b (sumX PodV.r1 L)) = true from e]; rfl)
      have HNO : Hid (exG R.c (sumX PodV.r2 L) = false → fitsB R L = false) := Lib.hid (fun h => by rw [HX.out]; show (exG R.a (sumX PodV.r0 L) && exG R.b (sumX PodV.r1 L) && exG R.c (sumX PodV.r2 L)) = false; rw [h]; simp)
      generalize sumX PodV.r2 L / 18446744073709551616 = H at q1 q2
      generalize sumX PodV.r2 L % 18446744073709551616 = N at q1 q2
      clear S0 S1 S2 CE0 CE1 CE2
      rcases q1 with ⟨k0, k1, k2, k3⟩ | ⟨k0, k1 | ⟨k1, k2⟩ | ⟨k1, k2, k3⟩⟩
      · have HY := Lib.hid (HYES.out k0)
        clear k0
        go_wp2_with (go_at_call 34; (with_reducible refine (q2.out _ (belStep hw hbel)).mono ?_); rintro e w5 ⟨rfl, rfl⟩)
        go_roundw
        case rel => exact ⟨3, by omega, rfl, HY, hbel⟩
        case measure => simp [intOf] <;> omega
      · have HN := Lib.hid (HNO.out k0)
        clear k0
        go_wp2_with (go_at_call 34; (with_reducible refine (q2.out _ (belStep hw hbel)).mono ?_); rintro e w5 ⟨rfl, rfl⟩)
        go_ret
        exact ⟨by rw [HN.out]; rfl, belStep hw hbel⟩
      · have HN := Lib.hid (HNO.out k0)
        clear k0
        go_wp2_with (go_at_call 34; (with_reducible refine (q2.out _ (belStep hw hbel)).mono ?_); rintro e w5 ⟨rfl, rfl⟩)
        go_ret
        exact ⟨by rw [HN.out]; rfl, belStep hw hbel⟩
      · have HN := Lib.hid (HNO.out k0)
        clear k0
        go_wp2_with (go_at_call 34; (with_reducible refine (q2.out _ (belStep hw hbel)).mono ?_); rintro e w5 ⟨rfl, rfl⟩)
        go_ret
        exact ⟨by rw [HN.out]; rfl, belStep hw hbel⟩
    · have HY := Lib.hid (HX.out.trans HE.out)
      go_wp2
      go_ret
      exact ⟨by rw [HY.out]; rfl, belStep hw hbel⟩
def TabP (T : List EntV) (w : World) (e : Ending) (w' : World) : Prop := (∃ b, e = .returned (.bool b) ∧ (b = true → TabOK T)) ∧ Below w.heap.size w w'
theorem TabP.no {T : List EntV} {w w' : World} {e : Ending} (he : e = .returned (.bool false)) (hb : Below w.heap.size w w') : TabP T w e w' := ⟨⟨false, he, fun h => by cases h⟩, hb⟩
theorem TabP.yes {T : List EntV} {w w' : World} {e : Ending} (he : e = .returned (.bool true)) (h : TabOK T) (hb : Below w.heap.size w w') : TabP T w e w' := ⟨⟨true, he, fun _ => h⟩, hb⟩
theorem ents_next {T : List EntV} {P : EntV → Prop} {k : Nat} {x : EntV} (h : T[k]? = some x) (ha : ∀ y ∈ T.take k, P y) (hx : P x) : ∀ y ∈ T.take (k + 1), P y := by
  rw [List.take_add_one, h]
  intro y hy
  rcases List.mem_append.1 hy with q | q
  · exact ha y q
  · simp at q; subst q; exact hx
theorem entd_next {T : List EntV} {k : Nat} {x : EntV} (h : T[k]? = some x) (hd : Dist (podsOf (T.take k))) (hn : ∀ y ∈ T.take k, y.pod.id ≠ x.pod.id) : Dist (podsOf (T.take (k + 1))) := by
  rw [podsOf_next h]
  refine dist_all hd (fun y hy => ?_)
  unfold podsOf at hy
  obtain ⟨z, hz, rfl⟩ := List.mem_map.1 hy
  exact hn z hz
set_option maxRecDepth 100000 in
set_option maxHeartbeats 16000000 in
theorem rref_Fit (a : Option Addr) (len cap : Nat) (T : List EntV) (w : World) (hl : T.length = len) (hok : ∀ x ∈ T, x.ok) (hR : Row w a len cap 12 (T.flatMap EntV.cells)) :
    Calls Try.prog 12 #[.slice a len cap] w fun e w' => TabP T w e w' := by
  have hw : Below w.heap.size w w := Below.refl _ _
  have hbel := hw
  have hbd_t : len ≤ cap ∧ cap ≤ 9223372036854775807 := by obtain ⟨_, h1, h2, _⟩ := hR; unfold maxLen at h2; exact ⟨h1, h2⟩
  obtain ⟨hbd1_t, hbd2_t⟩ := hbd_t
  have HR := Lib.hid hR
  have HOK := Lib.hid hok
  clear hR hok
  subst hl
  by_cases hb : 64 < T.length
  · have hb1 : (64 : Int) < (T.length : Int) := by omega
    go_enter Try.func12, Try.ntmps12
    go_wp2
    go_ret
    exact TabP.no rfl hbel
  · have hb1 : ¬ ((64 : Int) < (T.length : Int)) := by omega
    go_enter Try.func12, Try.ntmps12
    go_wp2
    have HB := Lib.hid hbel
    clear hbel
    go_loopw [3] (fun i wr => ∃ k : Nat, k ≤ T.length ∧ i = .int .i64 k ∧ Hid (∀ x ∈ T.take k, rightB x.pod = true ∧ 1 ≤ x.phase ∧ x.phase ≤ 3) ∧ Hid (Dist (podsOf (T.take k))) ∧ Below w.heap.size w wr) (fun i _ => T.length - (intOf i).toNat)
    case atStart => exact ⟨0, Nat.zero_le _, rfl, Lib.hid (fun x hx => by cases hx), Lib.hid List.Pairwise.nil, HB.out⟩
    case round =>
      obtain ⟨k, hk, rfl, HA, HD, hbel⟩ := hrel
      clear HB
      by_cases hlt : k < T.length
      · obtain ⟨x, hx⟩ : ∃ x, T[k]? = some x := ⟨T[k], List.getElem?_eq_getElem hlt⟩
        obtain ⟨bc, oc, ec, _, hcc⟩ := (HR.out).elem EntV.cells_len (by omega) hx
        subst ec
        have c0 := keep (hcc 0 _ rfl)
        have c1 := keep (hcc 1 _ rfl)
        have c2 := keep (hcc 2 _ rfl)
        have c3 := keep (hcc 3 _ rfl)
        have c4 := keep (hcc 4 _ rfl)
        have c5 := keep (hcc 5 _ rfl)
        have c6 := keep (hcc 6 _ rfl)
        have c7 := keep (hcc 7 _ rfl)
        have c8 := keep (hcc 8 _ rfl)
        have c9 := keep (hcc 9 _ rfl)
        have c10 := keep (hcc 10 _ rfl)
        have c11 := keep (hcc 11 _ rfl)
        rw [Nat.add_zero] at c0
        have hd : decide ((k : Int) < (T.length : Int)) = true := decide_eq_true (by omega)
        have CS := Lib.hid (fun v => pref_Small x.pod v (HOK.out x (List.mem_of_getElem? hx)).1)
        have CR := Lib.hid (fun v => pref_Right x.pod v (HOK.out x (List.mem_of_getElem? hx)).1)
        have HX := Lib.hid hx
        clear hx hcc
        obtain ⟨sm, hsm⟩ : ∃ b, smallB x.pod = b := ⟨_, rfl⟩
        obtain ⟨rt, hrt⟩ : ∃ b, rightB x.pod = b := ⟨_, rfl⟩
        rw [hsm] at CS
        rw [hrt] at CR
        have HRT := Lib.hid hrt
        clear hsm hrt
        have key : sm = false ∨ (sm = true ∧ rt = false) ∨ (sm = true ∧ rt = true ∧ x.phase < 1) ∨ (sm = true ∧ rt = true ∧ ¬ x.phase < 1 ∧ 3 < x.phase) ∨ (sm = true ∧ rt = true ∧ ¬ x.phase < 1 ∧ ¬ 3 < x.phase) := by cases sm <;> cases rt <;> simp <;> omega
        rcases key with rfl | ⟨rfl, rfl⟩ | ⟨rfl, rfl, k1⟩ | ⟨rfl, rfl, k1, k2⟩ | ⟨rfl, rfl, k1, k2⟩
        · go_wp2_with (first | (go_at_call 13; (with_reducible refine (CS.out _).mono ?_); rintro e w1 ⟨rfl, hb1⟩; replace hbel := belStep hbel hb1; clear hb1) | (go_at_call 16; (with_reducible refine (CR.out _).mono ?_); rintro e w1 ⟨rfl, hb1⟩; replace hbel := belStep hbel hb1; clear hb1))
          go_ret
          exact TabP.no rfl hbel
        · go_wp2_with (first | (go_at_call 13; (with_reducible refine (CS.out _).mono ?_); rintro e w1 ⟨rfl, hb1⟩; replace hbel := belStep hbel hb1; clear hb1) | (go_at_call 16; (with_reducible refine (CR.out _).mono ?_); rintro e w1 ⟨rfl, hb1⟩; replace hbel := belStep hbel hb1; clear hb1))
          go_ret
          exact TabP.no rfl hbel
        · go_wp2_with (first | (go_at_call 13; (with_reducible refine (CS.out _).mono ?_); rintro e w1 ⟨rfl, hb1⟩; replace hbel := belStep hbel hb1; clear hb1) | (go_at_call 16; (with_reducible refine (CR.out _).mono ?_); rintro e w1 ⟨rfl, hb1⟩; replace hbel := belStep hbel hb1; clear hb1))
          go_ret
          exact TabP.no rfl hbel
        · go_wp2_with (first | (go_at_call 13; (with_reducible refine (CS.out _).mono ?_); rintro e w1 ⟨rfl, hb1⟩; replace hbel := belStep hbel hb1; clear hb1) | (go_at_call 16; (with_reducible refine (CR.out _).mono ?_); rintro e w1 ⟨rfl, hb1⟩; replace hbel := belStep hbel hb1; clear hb1))
          go_ret
          exact TabP.no rfl hbel
        · have HAN := Lib.hid (ents_next HX.out HA.out ⟨HRT.out, by omega, by omega⟩)
          go_wp2_with (first | (go_at_call 13; (with_reducible refine (CS.out _).mono ?_); rintro e w1 ⟨rfl, hb1⟩; replace hbel := belStep hbel hb1; clear hb1) | (go_at_call 16; (with_reducible refine (CR.out _).mono ?_); rintro e w1 ⟨rfl, hb1⟩; replace hbel := belStep hbel hb1; clear hb1))
          clear k1 k2
          have HB0 := Lib.hid hbel
          clear hbel hd
          go_loopw [4] (fun i wi => ∃ m : Nat, m ≤ k ∧ i = .int .i64 m ∧ Hid (∀ y ∈ T.take m, y.pod.id ≠ x.pod.id) ∧ Below w.heap.size w wi) (fun i _ => k - (intOf i).toNat)
          case atStart => exact ⟨0, Nat.zero_le _, rfl, Lib.hid (fun y hy => by cases hy), HB0.out⟩
          case round =>
            obtain ⟨m, hm, rfl, HM, hbel⟩ := hrel
            clear HB0
            by_cases hmt : m < k
            · obtain ⟨y, hy⟩ : ∃ y, T[m]? = some y := ⟨T[m], List.getElem?_eq_getElem (by omega)⟩
              obtain ⟨bd, od, ed, _, hcd⟩ := (HR.out).elem EntV.cells_len (by omega) hy
              simp only [Option.some.injEq, Addr.mk.injEq, and_true] at ed
              obtain ⟨rfl, rfl⟩ := ed
              have d0 := keep (hcd 0 _ rfl)
              have d1 := keep (hcd 1 _ rfl)
              have d2 := keep (hcd 2 _ rfl)
              have d3 := keep (hcd 3 _ rfl)
              have d4 := keep (hcd 4 _ rfl)
              have d5 := keep (hcd 5 _ rfl)
              have d6 := keep (hcd 6 _ rfl)
              have d7 := keep (hcd 7 _ rfl)
              have d8 := keep (hcd 8 _ rfl)
              have d9 := keep (hcd 9 _ rfl)
              have d10 := keep (hcd 10 _ rfl)
              have d11 := keep (hcd 11 _ rfl)
              rw [Nat.add_zero] at d0
              have hd : decide ((m : Int) < (k : Int)) = true := decide_eq_true (by omega)
              have HY := Lib.hid hy
              have hml : m < T.length := by omega
              clear hy hcd
              cases he : (y.pod.id.toList == x.pod.id.toList) with
              | true =>
                go_upto_region 11 with fail
                have kk := fun d os => belStep hbel (below_regrown _ d os)
                refine wp_region_quiet_below (by kernel_rfl) (by kernel_rfl) ?_
                repeat ((with_reducible refine wpQuiet_step (fun K hK => ?_)); go_simp; (try (rw [if_neg]; rotate_left; · decide)); first | ((with_reducible refine hK _ ?_); clear hK K) | (apply Exists.intro; refine ⟨fun _ => ?_, hK _ ?_⟩; (fail); clear hK K))
                refine wpQuiet_nil (fun w1 hw1 => ?_)
                replace hbel := belStep hbel (bel_of_class hw1)
                clear hw1 kk
                go_wp2
                go_ret
                exact TabP.no rfl hbel
              | false =>
                have HN := Lib.hid (ents_next (P := fun y => y.pod.id ≠ x.pod.id) HY.out HM.out (id_bne he))
                go_upto_region 11 with fail
                have kk := fun d os => belStep hbel (below_regrown _ d os)
                refine wp_region_quiet_below (by kernel_rfl) (by kernel_rfl) ?_
                repeat ((with_reducible refine wpQuiet_step (fun K hK => ?_)); go_simp; (try (rw [if_neg]; rotate_left; · decide)); first | ((with_reducible refine hK _ ?_); clear hK K) | (apply Exists.intro; refine ⟨fun _ => ?_, hK _ ?_⟩; (fail); clear hK K))
                refine wpQuiet_nil (fun w1 hw1 => ?_)
                replace hbel := belStep hbel (bel_of_class hw1)
                clear hw1 kk
                go_wp2
                go_roundw
                case rel => exact ⟨m + 1, by omega, by push_cast; rfl, HN, hbel⟩
                case measure => simp [intOf] <;> omega
            · obtain rfl : k = m := by omega
              have hd : decide ((k : Int) < (k : Int)) = false := decide_eq_false (by omega)
              have HDN := Lib.hid (entd_next HX.out HD.out HM.out)
              go_wp2
              go_roundw
              case rel => exact ⟨k + 1, by omega, by push_cast; rfl, HAN, HDN, hbel⟩
              case measure => simp [intOf] <;> omega
      · obtain rfl : k = T.length := by omega
        have hd : decide ((T.length : Int) < (T.length : Int)) = false := decide_eq_false (by omega)
        rw [List.take_length] at HA HD
        go_wp2
        go_ret
        exact TabP.yes rfl ⟨by omega, HA.out, HD.out⟩ hbel
end Go.Proofs.Ytafojeeehehplaa
