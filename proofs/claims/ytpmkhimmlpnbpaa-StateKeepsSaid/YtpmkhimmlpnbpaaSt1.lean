
/- state.phased, state.Right; the reference's Right and Few: contracts. -/
import Derived.Test.YtpmkhimmlpnbpaaStMath
import Derived.Test.YtpmkhimmlpnbpaaPod1
import Derived.Laws.Cover1
namespace Go.Proofs.Ytpmkhimmlpnbpaa
open Go.RowKit
set_option linter.unusedVariables false
set_option linter.unusedSimpArgs false
theorem st_phased (n : Int) (w : World) : Calls Try.prog 35 #[.int .i64 n] w fun e w' => e = .returned (.bool (phB n)) ∧ Below w.heap.size w w' := by
  have hbel : Below w.heap.size w w := Below.refl _ _
  have key : n = 1 ∨ n = 2 ∨ n = 3 ∨ (n ≠ 1 ∧ n ≠ 2 ∧ n ≠ 3) := by omega
  rcases key with rfl | rfl | rfl | ⟨k1, k2, k3⟩
  · go_enter Try.func35, Try.ntmps35
    go_wp2
    go_ret
    exact ⟨rfl, hbel⟩
  · go_enter Try.func35, Try.ntmps35
    go_wp2
    go_ret
    exact ⟨rfl, hbel⟩
  · go_enter Try.func35, Try.ntmps35
    go_wp2
    go_ret
    exact ⟨rfl, hbel⟩
  · have HN := Lib.hid (show phB n = false by unfold phB; rw [← Bool.decide_and]; exact decide_eq_false (by omega))
    have j1 : (n == 1) = false := by simpa using k1
    have j2 : (n == 2) = false := by simpa using k2
    have j3 : (n == 3) = false := by simpa using k3
    go_enter Try.func35, Try.ntmps35
    go_wp2
    go_ret
    exact ⟨by rw [HN.out]; rfl, hbel⟩
set_option maxRecDepth 100000 in
set_option maxHeartbeats 16000000 in
theorem sref_Few (r : Int) (a : Option Addr) (n c : Nat) (o : On) (L : List EntV) (w : World) (hl : L.length = n) (hok : ∀ x ∈ L, x.ok) (hR : Row w a n c 12 (L.flatMap EntV.cells)) :
    Calls Try.prog 12 #[.agg #[.int .i64 r, .slice a n c, .bool o.a, .bool o.b, .bool o.c]] w fun e w' => e = .returned (.bool (fewS L)) ∧ Below w.heap.size w w' := by
  have hbd : n ≤ c ∧ c ≤ 9223372036854775807 := by obtain ⟨_, h1, h2, _⟩ := hR; unfold maxLen at h2; exact ⟨h1, h2⟩
  obtain ⟨hbd1, hbd2⟩ := hbd
  have HR := Lib.hid hR
  have HOK := Lib.hid hok
  subst hl
  clear hR hok
  have hw : Below w.heap.size w w := Below.refl _ _
  have hbel := hw
  go_enter Try.func12, Try.ntmps12
  go_upto_region 1 with fail
  have ss0 : (w.alloc (.cells #[.int .i64 r, .slice a L.length c, .bool o.a, .bool o.b, .bool o.c] 25)).cell? ⟨w.heap.size, 0, none⟩ = some (.int .i64 r) := by first | (simp; done) | (rw [World.cell?_alloc_at _ _ _ _ (by simp)]; rfl) | (rw [World.cell?_alloc_past _ _ _ (by simp <;> omega), World.cell?_alloc_at _ _ _ _ (by simp)]; rfl) | (rw [World.cell?_alloc_past _ _ _ (by simp <;> omega), World.cell?_alloc_past _ _ _ (by simp <;> omega), World.cell?_alloc_at _ _ _ _ (by simp)]; rfl)
  have ss1 : (w.alloc (.cells #[.int .i64 r, .slice a L.length c, .bool o.a, .bool o.b, .bool o.c] 25)).cell? ⟨w.heap.size, 1, none⟩ = some (.slice a L.length c) := by first | (simp; done) | (rw [World.cell?_alloc_at _ _ _ _ (by simp)]; rfl) | (rw [World.cell?_alloc_past _ _ _ (by simp <;> omega), World.cell?_alloc_at _ _ _ _ (by simp)]; rfl) | (rw [World.cell?_alloc_past _ _ _ (by simp <;> omega), World.cell?_alloc_past _ _ _ (by simp <;> omega), World.cell?_alloc_at _ _ _ _ (by simp)]; rfl)
  have ss2 : (w.alloc (.cells #[.int .i64 r, .slice a L.length c, .bool o.a, .bool o.b, .bool o.c] 25)).cell? ⟨w.heap.size, 2, none⟩ = some (.bool o.a) := by first | (simp; done) | (rw [World.cell?_alloc_at _ _ _ _ (by simp)]; rfl) | (rw [World.cell?_alloc_past _ _ _ (by simp <;> omega), World.cell?_alloc_at _ _ _ _ (by simp)]; rfl) | (rw [World.cell?_alloc_past _ _ _ (by simp <;> omega), World.cell?_alloc_past _ _ _ (by simp <;> omega), World.cell?_alloc_at _ _ _ _ (by simp)]; rfl)
  have ss3 : (w.alloc (.cells #[.int .i64 r, .slice a L.length c, .bool o.a, .bool o.b, .bool o.c] 25)).cell? ⟨w.heap.size, 3, none⟩ = some (.bool o.b) := by first | (simp; done) | (rw [World.cell?_alloc_at _ _ _ _ (by simp)]; rfl) | (rw [World.cell?_alloc_past _ _ _ (by simp <;> omega), World.cell?_alloc_at _ _ _ _ (by simp)]; rfl) | (rw [World.cell?_alloc_past _ _ _ (by simp <;> omega), World.cell?_alloc_past _ _ _ (by simp <;> omega), World.cell?_alloc_at _ _ _ _ (by simp)]; rfl)
  have ss4 : (w.alloc (.cells #[.int .i64 r, .slice a L.length c, .bool o.a, .bool o.b, .bool o.c] 25)).cell? ⟨w.heap.size, 4, none⟩ = some (.bool o.c) := by first | (simp; done) | (rw [World.cell?_alloc_at _ _ _ _ (by simp)]; rfl) | (rw [World.cell?_alloc_past _ _ _ (by simp <;> omega), World.cell?_alloc_at _ _ _ _ (by simp)]; rfl) | (rw [World.cell?_alloc_past _ _ _ (by simp <;> omega), World.cell?_alloc_past _ _ _ (by simp <;> omega), World.cell?_alloc_at _ _ _ _ (by simp)]; rfl)
  have hb2 := (by repeat (first | exact hbel | refine belAlloc ?_ _ | refine belDrew ?_ | refine belSet ?_ _ _ (by simp)) : Below w.heap.size w (w.alloc (.cells #[.int .i64 r, .slice a L.length c, .bool o.a, .bool o.b, .bool o.c] 25)))
  replace hw := belStep hw hb2
  clear hb2 hbel
  generalize w.alloc (.cells #[.int .i64 r, .slice a L.length c, .bool o.a, .bool o.b, .bool o.c] 25) = W1 at *
  replace ss0 := keep ss0
  replace ss1 := keep ss1
  replace ss2 := keep ss2
  replace ss3 := keep ss3
  replace ss4 := keep ss4
  have hbel : Below W1.heap.size W1 W1 := Below.refl _ _
  skip
  have HW1 := Lib.hid hw
  clear hw
  have hb0 : Below W1.heap.size W1 W1 := Below.refl _ _
  go_wp2
  clear hbel
  go_loopw [3] (fun i wr => ∃ k : Nat, k ≤ L.length ∧ k ≤ 200 ∧ i = .int .i64 k ∧ Hid ((L.take k).all (fun x => smallB x.pod) = true) ∧ Below W1.heap.size W1 wr) (fun i _ => L.length - (intOf i).toNat)
  case atStart => exact ⟨0, Nat.zero_le _, by omega, rfl, Lib.hid rfl, hb0⟩
  case round =>
    obtain ⟨k, hk, hk2, rfl, HC, hbr⟩ := hrel
    clear hb0
    have HRW := Lib.hid (HR.out.later (belStep HW1.out hbr))
    have s1 := keepOn ss1 hbr
    have hbel : Below wr.heap.size wr wr := Below.refl _ _
    have HB9 := Lib.hid hbr
    by_cases hlt : k < min L.length 200
    · have hlt1 : k < L.length := by omega
      have hd : decide ((k : Int) < (L.length : Int)) = true := decide_eq_true (by omega)
      have hki : (k : Int) < (L.length : Int) := by omega
      have hk0 : (0 : Int) ≤ (k : Int) := by omega
      have hd2 : decide ((k : Int) < 200) = true := decide_eq_true (by omega)
      have hd3 : (k : Int) < 200 := by omega
      obtain ⟨x, hx⟩ : ∃ x, L[k]? = some x := ⟨L[k]'(hlt1), List.getElem?_eq_getElem _⟩
      obtain ⟨bc, oc, ec, _, hcc⟩ := (HRW.out).elem EntV.cells_len (by omega) hx
      subst ec
      have c0 := keep (hcc 0 _ rfl)
      have c1 := keep (hcc 1 _ rfl)
      have c2 := keep (hcc 2 _ rfl)
      have c3 := keep (hcc 3 _ rfl)
      have c4 := keep (hcc 4 _ rfl)
      have c5 := keep (hcc 5 _ rfl)
      have c6 := keep (hcc 6 _ rfl)
      have c7 := keep (hcc 7 _ rfl)
      have c8 := keep (hcc 8 _ rfl)
      have c9 := keep (hcc 9 _ rfl)
      have c10 := keep (hcc 10 _ rfl)
      have c11 := keep (hcc 11 _ rfl)
      rw [Nat.add_zero] at c0
      clear hcc
      have CS := fun v => pref_Small x.pod v (HOK.out x (List.mem_of_getElem? hx)).1
      obtain ⟨sm, hsm⟩ : ∃ b, smallB x.pod = b := ⟨_, rfl⟩
      rw [hsm] at CS
      have CSh := Lib.hid CS
      have HX := Lib.hid hx
      have HSM := Lib.hid hsm
      clear CS hx hsm hbr
      cases sm with
      | false =>
        have HN := Lib.hid (show fewS L = false by unfold fewS; rw [alls_not _ L HX.out HSM.out hlt]; rfl)
        go_wp2_with (first | (go_at_call 21; (with_reducible refine (CSh.out _).mono ?_); rintro e w1 ⟨rfl, hb1⟩; replace hbel := belStep hbel hb1; clear hb1))
        go_ret
        exact ⟨by rw [HN.out]; rfl, belStep HW1.out (belStep HB9.out hbel)⟩
      | true =>
        have HS := Lib.hid (show (L.take (k + 1)).all (fun x => smallB x.pod) = true by rw [alls_next _ L HX.out, HC.out, HSM.out]; rfl)
        go_wp2_with (first | (go_at_call 21; (with_reducible refine (CSh.out _).mono ?_); rintro e w1 ⟨rfl, hb1⟩; replace hbel := belStep hbel hb1; clear hb1))
        go_roundw
        case rel => exact ⟨k + 1, by omega, by omega, by push_cast; rfl, HS, belStep HB9.out hbel⟩
        case measure => simp [intOf] <;> omega
    · obtain rfl : k = min L.length 200 := by omega
      have HN := Lib.hid (show fewS L = decide (L.length ≤ 70) by unfold fewS; rw [HC.out]; rfl)
      clear hbr
      by_cases hln : L.length < 200
      · have hmi : min L.length 200 = L.length := by omega
        rw [hmi] at HC ⊢
        have hd : decide ((L.length : Int) < (L.length : Int)) = false := decide_eq_false (by omega)
        have k10 : decide ((L.length : Int) ≤ 70) = decide (L.length ≤ 70) := decide_eq_decide.2 (by omega)
        go_wp2
        go_ret
        exact ⟨by rw [HN.out]; first | rfl | (rw [← k10]; rfl), belStep HW1.out (belStep HB9.out hbel)⟩
      · have hmi : min L.length 200 = 200 := by omega
        rw [hmi] at HC ⊢
        have HN2 := Lib.hid (show fewS L = false by rw [HN.out]; exact decide_eq_false (by omega))
        by_cases hl2 : L.length = 200
        · have hd : decide (((200 : Nat) : Int) < (L.length : Int)) = false := decide_eq_false (by omega)
          have hd4 : decide ((200 : Int) < (L.length : Int)) = false := decide_eq_false (by omega)
          have k10 : decide ((L.length : Int) ≤ 70) = false := decide_eq_false (by omega)
          go_wp2
          go_ret
          exact ⟨by rw [HN2.out]; rfl, belStep HW1.out (belStep HB9.out hbel)⟩
        · have hd : decide (((200 : Nat) : Int) < (L.length : Int)) = true := decide_eq_true (by omega)
          have hd4 : decide ((200 : Int) < (L.length : Int)) = true := decide_eq_true (by omega)
          have hd5 : (200 : Int) < (L.length : Int) := by omega
          have k10 : decide ((L.length : Int) ≤ 70) = false := decide_eq_false (by omega)
          go_wp2
          go_ret
          exact ⟨by rw [HN2.out]; rfl, belStep HW1.out (belStep HB9.out hbel)⟩
set_option maxRecDepth 100000 in
set_option maxHeartbeats 16000000 in
theorem st_Right (r : Int) (a : Option Addr) (n c : Nat) (o : On) (L : List EntV) (w : World) (hl : L.length = n) (hok : ∀ x ∈ L, x.ok) (hR : Row w a n c 12 (L.flatMap EntV.cells)) :
    Calls Try.prog 14 #[.agg #[.int .i64 r, .slice a n c, .bool o.a, .bool o.b, .bool o.c]] w fun e w' => e = .returned (.bool (stB r L)) ∧ Below w.heap.size w w' := by
  have hbd : n ≤ c ∧ c ≤ 9223372036854775807 := by obtain ⟨_, h1, h2, _⟩ := hR; unfold maxLen at h2; exact ⟨h1, h2⟩
  obtain ⟨hbd1, hbd2⟩ := hbd
  have HR := Lib.hid hR
  have HOK := Lib.hid hok
  subst hl
  clear hR hok
  have hw : Below w.heap.size w w := Below.refl _ _
  have hbel := hw
  go_enter Try.func14, Try.ntmps14
  go_upto_region 1 with fail
  have ss0 : (w.alloc (.cells #[.int .i64 r, .slice a L.length c, .bool o.a, .bool o.b, .bool o.c] 25)).cell? ⟨w.heap.size, 0, none⟩ = some (.int .i64 r) := by first | (simp; done) | (rw [World.cell?_alloc_at _ _ _ _ (by simp)]; rfl) | (rw [World.cell?_alloc_past _ _ _ (by simp <;> omega), World.cell?_alloc_at _ _ _ _ (by simp)]; rfl) | (rw [World.cell?_alloc_past _ _ _ (by simp <;> omega), World.cell?_alloc_past _ _ _ (by simp <;> omega), World.cell?_alloc_at _ _ _ _ (by simp)]; rfl)
  have ss1 : (w.alloc (.cells #[.int .i64 r, .slice a L.length c, .bool o.a, .bool o.b, .bool o.c] 25)).cell? ⟨w.heap.size, 1, none⟩ = some (.slice a L.length c) := by first | (simp; done) | (rw [World.cell?_alloc_at _ _ _ _ (by simp)]; rfl) | (rw [World.cell?_alloc_past _ _ _ (by simp <;> omega), World.cell?_alloc_at _ _ _ _ (by simp)]; rfl) | (rw [World.cell?_alloc_past _ _ _ (by simp <;> omega), World.cell?_alloc_past _ _ _ (by simp <;> omega), World.cell?_alloc_at _ _ _ _ (by simp)]; rfl)
  have ss2 : (w.alloc (.cells #[.int .i64 r, .slice a L.length c, .bool o.a, .bool o.b, .bool o.c] 25)).cell? ⟨w.heap.size, 2, none⟩ = some (.bool o.a) := by first | (simp; done) | (rw [World.cell?_alloc_at _ _ _ _ (by simp)]; rfl) | (rw [World.cell?_alloc_past _ _ _ (by simp <;> omega), World.cell?_alloc_at _ _ _ _ (by simp)]; rfl) | (rw [World.cell?_alloc_past _ _ _ (by simp <;> omega), World.cell?_alloc_past _ _ _ (by simp <;> omega), World.cell?_alloc_at _ _ _ _ (by simp)]; rfl)
  have ss3 : (w.alloc (.cells #[.int .i64 r, .slice a L.length c, .bool o.a, .bool o.b, .bool o.c] 25)).cell? ⟨w.heap.size, 3, none⟩ = some (.bool o.b) := by first | (simp; done) | (rw [World.cell?_alloc_at _ _ _ _ (by simp)]; rfl) | (rw [World.cell?_alloc_past _ _ _ (by simp <;> omega), World.cell?_alloc_at _ _ _ _ (by simp)]; rfl) | (rw [World.cell?_alloc_past _ _ _ (by simp <;> omega), World.cell?_alloc_past _ _ _ (by simp <;> omega), World.cell?_alloc_at _ _ _ _ (by simp)]; rfl)
  have ss4 : (w.alloc (.cells #[.int .i64 r, .slice a L.length c, .bool o.a, .bool o.b, .bool o.c] 25)).cell? ⟨w.heap.size, 4, none⟩ = some (.bool o.c) := by first | (simp; done) | (rw [World.cell?_alloc_at _ _ _ _ (by simp)]; rfl) | (rw [World.cell?_alloc_past _ _ _ (by simp <;> omega), World.cell?_alloc_at _ _ _ _ (by simp)]; rfl) | (rw [World.cell?_alloc_past _ _ _ (by simp <;> omega), World.cell?_alloc_past _ _ _ (by simp <;> omega), World.cell?_alloc_at _ _ _ _ (by simp)]; rfl)
  have hb2 := (by repeat (first | exact hbel | refine belAlloc ?_ _ | refine belDrew ?_ | refine belSet ?_ _ _ (by simp)) : Below w.heap.size w (w.alloc (.cells #[.int .i64 r, .slice a L.length c, .bool o.a, .bool o.b, .bool o.c] 25)))
  replace hw := belStep hw hb2
  clear hb2 hbel
  generalize w.alloc (.cells #[.int .i64 r, .slice a L.length c, .bool o.a, .bool o.b, .bool o.c] 25) = W1 at *
  replace ss0 := keep ss0
  replace ss1 := keep ss1
  replace ss2 := keep ss2
  replace ss3 := keep ss3
  replace ss4 := keep ss4
  have hbel : Below W1.heap.size W1 W1 := Below.refl _ _
  skip
  have HW1 := Lib.hid hw
  clear hw
  have hb0 : Below W1.heap.size W1 W1 := Below.refl _ _
  go_wp2
  clear hbel
  go_loopw [8] (fun i wr => ∃ k : Nat, k ≤ L.length ∧ i = .int .i64 k ∧ Hid (chkB L k = true) ∧ Below W1.heap.size W1 wr) (fun i _ => L.length - (intOf i).toNat)
  case atStart => exact ⟨0, Nat.zero_le _, rfl, Lib.hid rfl, hb0⟩
  case round =>
    obtain ⟨k, hk, rfl, HC, hbr⟩ := hrel
    clear hb0
    have HRW := Lib.hid (HR.out.later (belStep HW1.out hbr))
    have hbel := hbr
    have hw := HW1.out
    by_cases hlt : k < L.length
    · have hd : decide ((k : Int) < (L.length : Int)) = true := decide_eq_true (by omega)
      have hki : (k : Int) < (L.length : Int) := by omega
      have hk0 : (0 : Int) ≤ (k : Int) := by omega
      obtain ⟨x, hx⟩ : ∃ x, L[k]? = some x := ⟨L[k]'(hlt), List.getElem?_eq_getElem _⟩
      obtain ⟨bc, oc, ec, _, hcc⟩ := (HRW.out).elem EntV.cells_len (by omega) hx
      subst ec
      have c0 := keep (hcc 0 _ rfl)
      have c1 := keep (hcc 1 _ rfl)
      have c2 := keep (hcc 2 _ rfl)
      have c3 := keep (hcc 3 _ rfl)
      have c4 := keep (hcc 4 _ rfl)
      have c5 := keep (hcc 5 _ rfl)
      have c6 := keep (hcc 6 _ rfl)
      have c7 := keep (hcc 7 _ rfl)
      have c8 := keep (hcc 8 _ rfl)
      have c9 := keep (hcc 9 _ rfl)
      have c10 := keep (hcc 10 _ rfl)
      have c11 := keep (hcc 11 _ rfl)
      rw [Nat.add_zero] at c0
      clear hcc
      have CR := fun v => pod_Right x.pod v (HOK.out x (List.mem_of_getElem? hx)).1
      obtain ⟨rp, hrp⟩ : ∃ b, rightB x.pod = b := ⟨_, rfl⟩
      rw [hrp] at CR
      have CPH := fun v => st_phased x.phase v
      obtain ⟨ph, hph⟩ : ∃ b, phB x.phase = b := ⟨_, rfl⟩
      rw [hph] at CPH
      have HEB := Lib.hid (show entB x = (rp && ph) by unfold entB; rw [hrp, hph])
      clear hrp hph
      have HX := Lib.hid hx
      clear hx
      skip
      have s0 := keepOn ss0 hbr
      have s1 := keepOn ss1 hbr
      have s2 := keepOn ss2 hbr
      have s3 := keepOn ss3 hbr
      have s4 := keepOn ss4 hbr
      have hbel : Below wr.heap.size wr wr := Below.refl _ _
      have hw : Below wr.heap.size wr wr := Below.refl _ _
      go_upto_region 4 with fail
      have ee0 : (wr.alloc (.cells #[.string x.pod.id, .int .i64 x.pod.prio, .bool x.pod.crit, .int .i64 x.pod.r0, .int .i64 x.pod.r1, .int .i64 x.pod.r2, .int .i64 x.pod.l0, .int .i64 x.pod.l1, .int .i64 x.pod.l2, .string x.pod.img, .int .i64 x.pod.size, .int .i64 x.phase] 46)).cell? ⟨wr.heap.size, 0, none⟩ = some (.string x.pod.id) := by first | (simp; done) | (rw [World.cell?_alloc_at _ _ _ _ (by simp)]; rfl) | (rw [World.cell?_alloc_past _ _ _ (by simp <;> omega), World.cell?_alloc_at _ _ _ _ (by simp)]; rfl) | (rw [World.cell?_alloc_past _ _ _ (by simp <;> omega), World.cell?_alloc_past _ _ _ (by simp <;> omega), World.cell?_alloc_at _ _ _ _ (by simp)]; rfl)
      have ee1 : (wr.alloc (.cells #[.string x.pod.id, .int .i64 x.pod.prio, .bool x.pod.crit, .int .i64 x.pod.r0, .int .i64 x.pod.r1, .int .i64 x.pod.r2, .int .i64 x.pod.l0, .int .i64 x.pod.l1, .int .i64 x.pod.l2, .string x.pod.img, .int .i64 x.pod.size, .int .i64 x.phase] 46)).cell? ⟨wr.heap.size, 1, none⟩ = some (.int .i64 x.pod.prio) := by first | (simp; done) | (rw [World.cell?_alloc_at _ _ _ _ (by simp)]; rfl) | (rw [World.cell?_alloc_past _ _ _ (by simp <;> omega), World.cell?_alloc_at _ _ _ _ (by simp)]; rfl) | (rw [World.cell?_alloc_past _ _ _ (by simp <;> omega), World.cell?_alloc_past _ _ _ (by simp <;> omega), World.cell?_alloc_at _ _ _ _ (by simp)]; rfl)
      have ee2 : (wr.alloc (.cells #[.string x.pod.id, .int .i64 x.pod.prio, .bool x.pod.crit, .int .i64 x.pod.r0, .int .i64 x.pod.r1, .int .i64 x.pod.r2, .int .i64 x.pod.l0, .int .i64 x.pod.l1, .int .i64 x.pod.l2, .string x.pod.img, .int .i64 x.pod.size, .int .i64 x.phase] 46)).cell? ⟨wr.heap.size, 2, none⟩ = some (.bool x.pod.crit) := by first | (simp; done) | (rw [World.cell?_alloc_at _ _ _ _ (by simp)]; rfl) | (rw [World.cell?_alloc_past _ _ _ (by simp <;> omega), World.cell?_alloc_at _ _ _ _ (by simp)]; rfl) | (rw [World.cell?_alloc_past _ _ _ (by simp <;> omega), World.cell?_alloc_past _ _ _ (by simp <;> omega), World.cell?_alloc_at _ _ _ _ (by simp)]; rfl)
      have ee3 : (wr.alloc (.cells #[.string x.pod.id, .int .i64 x.pod.prio, .bool x.pod.crit, .int .i64 x.pod.r0, .int .i64 x.pod.r1, .int .i64 x.pod.r2, .int .i64 x.pod.l0, .int .i64 x.pod.l1, .int .i64 x.pod.l2, .string x.pod.img, .int .i64 x.pod.size, .int .i64 x.phase] 46)).cell? ⟨wr.heap.size, 3, none⟩ = some (.int .i64 x.pod.r0) := by first | (simp; done) | (rw [World.cell?_alloc_at _ _ _ _ (by simp)]; rfl) | (rw [World.cell?_alloc_past _ _ _ (by simp <;> omega), World.cell?_alloc_at _ _ _ _ (by simp)]; rfl) | (rw [World.cell?_alloc_past _ _ _ (by simp <;> omega), World.cell?_alloc_past _ _ _ (by simp <;> omega), World.cell?_alloc_at _ _ _ _ (by simp)]; rfl)
      have ee4 : (wr.alloc (.cells #[.string x.pod.id, .int .i64 x.pod.prio, .bool x.pod.crit, .int .i64 x.pod.r0, .int .i64 x.pod.r1, .int .i64 x.pod.r2, .int .i64 x.pod.l0, .int .i64 x.pod.l1, .int .i64 x.pod.l2, .string x.pod.img, .int .i64 x.pod.size, .int .i64 x.phase] 46)).cell? ⟨wr.heap.size, 4, none⟩ = some (.int .i64 x.pod.r1) := by first | (simp; done) | (rw [World.cell?_alloc_at _ _ _ _ (by simp)]; rfl) | (rw [World.cell?_alloc_past _ _ _ (by simp <;> omega), World.cell?_alloc_at _ _ _ _ (by simp)]; rfl) | (rw [World.cell?_alloc_past _ _ _ (by simp <;> omega), World.cell?_alloc_past _ _ _ (by simp <;> omega), World.cell?_alloc_at _ _ _ _ (by simp)]; rfl)
      have ee5 : (wr.alloc (.cells #[.string x.pod.id, .int .i64 x.pod.prio, .bool x.pod.crit, .int .i64 x.pod.r0, .int .i64 x.pod.r1, .int .i64 x.pod.r2, .int .i64 x.pod.l0, .int .i64 x.pod.l1, .int .i64 x.pod.l2, .string x.pod.img, .int .i64 x.pod.size, .int .i64 x.phase] 46)).cell? ⟨wr.heap.size, 5, none⟩ = some (.int .i64 x.pod.r2) := by first | (simp; done) | (rw [World.cell?_alloc_at _ _ _ _ (by simp)]; rfl) | (rw [World.cell?_alloc_past _ _ _ (by simp <;> omega), World.cell?_alloc_at _ _ _ _ (by simp)]; rfl) | (rw [World.cell?_alloc_past _ _ _ (by simp <;> omega), World.cell?_alloc_past _ _ _ (by simp <;> omega), World.cell?_alloc_at _ _ _ _ (by simp)]; rfl)
      have ee6 : (wr.alloc (.cells #[.string x.pod.id, .int .i64 x.pod.prio, .bool x.pod.crit, .int .i64 x.pod.r0, .int .i64 x.pod.r1, .int .i64 x.pod.r2, .int .i64 x.pod.l0, .int .i64 x.pod.l1, .int .i64 x.pod.l2, .string x.pod.img, .int .i64 x.pod.size, .int .i64 x.phase] 46)).cell? ⟨wr.heap.size, 6, none⟩ = some (.int .i64 x.pod.l0) := by first | (simp; done) | (rw [World.cell?_alloc_at _ _ _ _ (by simp)]; rfl) | (rw [World.cell?_alloc_past _ _ _ (by simp <;> omega), World.cell?_alloc_at _ _ _ _ (by simp)]; rfl) | (rw [World.cell?_alloc_past _ _ _ (by simp <;> omega), World.cell?_alloc_past _ _ _ (by simp <;> omega), World.cell?_alloc_at _ _ _ _ (by simp)]; rfl)
      have ee7 : (wr.alloc (.cells #[.string x.pod.id, .int .i64 x.pod.prio, .bool x.pod.crit, .int .i64 x.pod.r0, .int .i64 x.pod.r1, .int .i64 x.pod.r2, .int .i64 x.pod.l0, .int .i64 x.pod.l1, .int .i64 x.pod.l2, .string x.pod.img, .int .i64 x.pod.size, .int .i64 x.phase] 46)).cell? ⟨wr.heap.size, 7, none⟩ = some (.int .i64 x.pod.l1) := by first | (simp; done) | (rw [World.cell?_alloc_at _ _ _ _ (by simp)]; rfl) | (rw [World.cell?_alloc_past _ _ _ (by simp <;> omega), World.cell?_alloc_at _ _ _ _ (by simp)]; rfl) | (rw [World.cell?_alloc_past _ _ _ (by simp <;> omega), World.cell?_alloc_past _ _ _ (by simp <;> omega), World.cell?_alloc_at _ _ _ _ (by simp)]; rfl)
      have ee8 : (wr.alloc (.cells #[.string x.pod.id, .int .i64 x.pod.prio, .bool x.pod.crit, .int .i64 x.pod.r0, .int .i64 x.pod.r1, .int .i64 x.pod.r2, .int .i64 x.pod.l0, .int .i64 x.pod.l1, .int .i64 x.pod.l2, .string x.pod.img, .int .i64 x.pod.size, .int .i64 x.phase] 46)).cell? ⟨wr.heap.size, 8, none⟩ = some (.int .i64 x.pod.l2) := by first | (simp; done) | (rw [World.cell?_alloc_at _ _ _ _ (by simp)]; rfl) | (rw [World.cell?_alloc_past _ _ _ (by simp <;> omega), World.cell?_alloc_at _ _ _ _ (by simp)]; rfl) | (rw [World.cell?_alloc_past _ _ _ (by simp <;> omega), World.cell?_alloc_past _ _ _ (by simp <;> omega), World.cell?_alloc_at _ _ _ _ (by simp)]; rfl)
      have ee9 : (wr.alloc (.cells #[.string x.pod.id, .int .i64 x.pod.prio, .bool x.pod.crit, .int .i64 x.pod.r0, .int .i64 x.pod.r1, .int .i64 x.pod.r2, .int .i64 x.pod.l0, .int .i64 x.pod.l1, .int .i64 x.pod.l2, .string x.pod.img, .int .i64 x.pod.size, .int .i64 x.phase] 46)).cell? ⟨wr.heap.size, 9, none⟩ = some (.string x.pod.img) := by first | (simp; done) | (rw [World.cell?_alloc_at _ _ _ _ (by simp)]; rfl) | (rw [World.cell?_alloc_past _ _ _ (by simp <;> omega), World.cell?_alloc_at _ _ _ _ (by simp)]; rfl) | (rw [World.cell?_alloc_past _ _ _ (by simp <;> omega), World.cell?_alloc_past _ _ _ (by simp <;> omega), World.cell?_alloc_at _ _ _ _ (by simp)]; rfl)
      have ee10 : (wr.alloc (.cells #[.string x.pod.id, .int .i64 x.pod.prio, .bool x.pod.crit, .int .i64 x.pod.r0, .int .i64 x.pod.r1, .int .i64 x.pod.r2, .int .i64 x.pod.l0, .int .i64 x.pod.l1, .int .i64 x.pod.l2, .string x.pod.img, .int .i64 x.pod.size, .int .i64 x.phase] 46)).cell? ⟨wr.heap.size, 10, none⟩ = some (.int .i64 x.pod.size) := by first | (simp; done) | (rw [World.cell?_alloc_at _ _ _ _ (by simp)]; rfl) | (rw [World.cell?_alloc_past _ _ _ (by simp <;> omega), World.cell?_alloc_at _ _ _ _ (by simp)]; rfl) | (rw [World.cell?_alloc_past _ _ _ (by simp <;> omega), World.cell?_alloc_past _ _ _ (by simp <;> omega), World.cell?_alloc_at _ _ _ _ (by simp)]; rfl)
      have ee11 : (wr.alloc (.cells #[.string x.pod.id, .int .i64 x.pod.prio, .bool x.pod.crit, .int .i64 x.pod.r0, .int .i64 x.pod.r1, .int .i64 x.pod.r2, .int .i64 x.pod.l0, .int .i64 x.pod.l1, .int .i64 x.pod.l2, .string x.pod.img, .int .i64 x.pod.size, .int .i64 x.phase] 46)).cell? ⟨wr.heap.size, 11, none⟩ = some (.int .i64 x.phase) := by first | (simp; done) | (rw [World.cell?_alloc_at _ _ _ _ (by simp)]; rfl) | (rw [World.cell?_alloc_past _ _ _ (by simp <;> omega), World.cell?_alloc_at _ _ _ _ (by simp)]; rfl) | (rw [World.cell?_alloc_past _ _ _ (by simp <;> omega), World.cell?_alloc_past _ _ _ (by simp <;> omega), World.cell?_alloc_at _ _ _ _ (by simp)]; rfl)
      have hb2 := (by repeat (first | exact hbel | refine belAlloc ?_ _ | refine belDrew ?_ | refine belSet ?_ _ _ (by simp)) : Below wr.heap.size wr (wr.alloc (.cells #[.string x.pod.id, .int .i64 x.pod.prio, .bool x.pod.crit, .int .i64 x.pod.r0, .int .i64 x.pod.r1, .int .i64 x.pod.r2, .int .i64 x.pod.l0, .int .i64 x.pod.l1, .int .i64 x.pod.l2, .string x.pod.img, .int .i64 x.pod.size, .int .i64 x.phase] 46)))
      replace s0 := keepOnP s0 hb2
      replace s1 := keepOnP s1 hb2
      replace s2 := keepOnP s2 hb2
      replace s3 := keepOnP s3 hb2
      replace s4 := keepOnP s4 hb2
      replace c0 := keepOnP c0 hb2
      replace c1 := keepOnP c1 hb2
      replace c2 := keepOnP c2 hb2
      replace c3 := keepOnP c3 hb2
      replace c4 := keepOnP c4 hb2
      replace c5 := keepOnP c5 hb2
      replace c6 := keepOnP c6 hb2
      replace c7 := keepOnP c7 hb2
      replace c8 := keepOnP c8 hb2
      replace c9 := keepOnP c9 hb2
      replace c10 := keepOnP c10 hb2
      replace c11 := keepOnP c11 hb2
      replace hw := belStep hw hb2
      clear hb2 hbel
      generalize wr.alloc (.cells #[.string x.pod.id, .int .i64 x.pod.prio, .bool x.pod.crit, .int .i64 x.pod.r0, .int .i64 x.pod.r1, .int .i64 x.pod.r2, .int .i64 x.pod.l0, .int .i64 x.pod.l1, .int .i64 x.pod.l2, .string x.pod.img, .int .i64 x.pod.size, .int .i64 x.phase] 46) = W2 at *
      replace ee0 := keep ee0
      replace ee1 := keep ee1
      replace ee2 := keep ee2
      replace ee3 := keep ee3
      replace ee4 := keep ee4
      replace ee5 := keep ee5
      replace ee6 := keep ee6
      replace ee7 := keep ee7
      replace ee8 := keep ee8
      replace ee9 := keep ee9
      replace ee10 := keep ee10
      replace ee11 := keep ee11
      have hbel : Below W2.heap.size W2 W2 := Below.refl _ _
      skip
      have HV2 := Lib.hid hw
      have HW2 := Lib.hid (belStep hbr hw)
      clear hw
      cases rp with
      | false =>
        have HS := Lib.hid (show stepB L k = false from (by have he := HEB.out; unfold stepB; rw [HX.out]; simp only; rw [he]; simp))
        have HN := Lib.hid (show stB r L = false by unfold stB; rw [chk_no hlt HS.out]; rfl)
        have CRh := Lib.hid CR
        clear CR
        have CPHh := Lib.hid CPH
        clear CPH
        have kk := fun d os => belStep hbel (below_regrown _ d os)
        refine wp_region_quiet_below (by kernel_rfl) (by kernel_rfl) ?_
        repeat ((with_reducible refine wpQuiet_step (fun K hK => ?_)); go_simp; (try (rw [if_neg]; rotate_left; · decide)); first | ((with_reducible refine hK _ ?_); clear hK K) | (apply Exists.intro; refine ⟨fun _ => ?_, hK _ ?_⟩; (first | (go_at_call 34; with_reducible exact Calls.regrown_of (CRh.out _)) | (go_at_call 35; with_reducible exact Calls.regrown_of (CPHh.out _))); clear hK K))
        refine wpQuiet_nil (fun w1 hw1 => ?_)
        replace hbel := belStep hbel (bel_of_class hw1)
        clear hw1 kk
        go_wp2
        go_ret
        exact ⟨by rw [HN.out]; rfl, belStep HW1.out (belStep HW2.out hbel)⟩
      | true =>
        cases ph with
        | false =>
          have HS := Lib.hid (show stepB L k = false from (by have he := HEB.out; unfold stepB; rw [HX.out]; simp only; rw [he]; simp))
          have HN := Lib.hid (show stB r L = false by unfold stB; rw [chk_no hlt HS.out]; rfl)
          have CRh := Lib.hid CR
          clear CR
          have CPHh := Lib.hid CPH
          clear CPH
          have kk := fun d os => belStep hbel (below_regrown _ d os)
          refine wp_region_quiet_below (by kernel_rfl) (by kernel_rfl) ?_
          repeat ((with_reducible refine wpQuiet_step (fun K hK => ?_)); go_simp; (try (rw [if_neg]; rotate_left; · decide)); first | ((with_reducible refine hK _ ?_); clear hK K) | (apply Exists.intro; refine ⟨fun _ => ?_, hK _ ?_⟩; (first | (go_at_call 34; with_reducible exact Calls.regrown_of (CRh.out _)) | (go_at_call 35; with_reducible exact Calls.regrown_of (CPHh.out _))); clear hK K))
          refine wpQuiet_nil (fun w1 hw1 => ?_)
          replace hbel := belStep hbel (bel_of_class hw1)
          clear hw1 kk
          go_wp2
          go_ret
          exact ⟨by rw [HN.out]; rfl, belStep HW1.out (belStep HW2.out hbel)⟩
        | true =>
          by_cases hk9 : k = 0
          · have hg : decide ((0 : Int) < (k : Int)) = false := decide_eq_false (by omega)
            have hg2 : ¬ (0 : Int) < (k : Int) := by omega
            have hg3 : ¬ 0 < k := by omega
            have HK9 := Lib.hid hk9
            clear hk9
            have HS := Lib.hid (show chkB L (k + 1) = true by unfold chkB; rw [HC.out, Bool.true_and]; exact (by have hx2 := HX.out; rw [HK9.out] at hx2 ⊢; rw [step_0 hx2, HEB.out]; rfl))
            have CRh := Lib.hid CR
            clear CR
            have CPHh := Lib.hid CPH
            clear CPH
            have kk := fun d os => belStep hbel (below_regrown _ d os)
            refine wp_region_quiet_below (by kernel_rfl) (by kernel_rfl) ?_
            repeat ((with_reducible refine wpQuiet_step (fun K hK => ?_)); go_simp; (try (rw [if_neg]; rotate_left; · decide)); first | ((with_reducible refine hK _ ?_); clear hK K) | (apply Exists.intro; refine ⟨fun _ => ?_, hK _ ?_⟩; (first | (go_at_call 34; with_reducible exact Calls.regrown_of (CRh.out _)) | (go_at_call 35; with_reducible exact Calls.regrown_of (CPHh.out _))); clear hK K))
            refine wpQuiet_nil (fun w1 hw1 => ?_)
            replace hbel := belStep hbel (bel_of_class hw1)
            clear hw1 kk
            go_wp2
            go_roundw
            case rel => exact ⟨k + 1, by omega, by push_cast; rfl, HS, belStep HW2.out hbel⟩
            case measure => simp [intOf] <;> omega
          · obtain ⟨j, hj9⟩ : ∃ j, k = j + 1 := ⟨k - 1, by omega⟩
            have hg : decide ((0 : Int) < (k : Int)) = true := decide_eq_true (by omega)
            have hg2 : (0 : Int) < (k : Int) := by omega
            have hg3 : 0 < k := by omega
            have hj1 : IntKind.i64.wrap ((k : Int) - 1) = (j : Int) := by rw [show (k : Int) - 1 = (j : Int) by omega]; exact IntWalk.i64_in _ (by omega)
            have hj0 : (k : Int) - 1 = (j : Int) := by omega
            have hj4 : IntKind.i64.wrap (j : Int) = (j : Int) := IntWalk.i64_in _ (by omega)
            have hj2 : (j : Int) < (L.length : Int) := by omega
            have hj3 : (0 : Int) ≤ (j : Int) := by omega
            obtain ⟨y, hy⟩ : ∃ y, L[j]? = some y := ⟨L[j]'(by omega), List.getElem?_eq_getElem _⟩
            obtain ⟨bd, od, ed, _, hcd⟩ := (HRW.out).elem EntV.cells_len (by omega) hy
            simp only [Option.some.injEq, Addr.mk.injEq, and_true] at ed
            obtain ⟨rfl, rfl⟩ := ed
            have d0 := keep (hcd 0 _ rfl)
            have d1 := keep (hcd 1 _ rfl)
            have d2 := keep (hcd 2 _ rfl)
            have d3 := keep (hcd 3 _ rfl)
            have d4 := keep (hcd 4 _ rfl)
            have d5 := keep (hcd 5 _ rfl)
            have d6 := keep (hcd 6 _ rfl)
            have d7 := keep (hcd 7 _ rfl)
            have d8 := keep (hcd 8 _ rfl)
            have d9 := keep (hcd 9 _ rfl)
            have d10 := keep (hcd 10 _ rfl)
            have d11 := keep (hcd 11 _ rfl)
            rw [Nat.add_zero] at d0
            clear hcd
            replace d0 := keepOn d0 HV2.out
            have HY := Lib.hid hy
            have HX2 := Lib.hid (show L[j + 1]? = some x from hj9 ▸ HX.out)
            have HJ9 := Lib.hid hj9
            clear hj9
            clear hy d1 d2 d3 d4 d5 d6 d7 d8 d9 d10 d11
            obtain ⟨lb, hlb⟩ : ∃ b, lessB y x = b := ⟨_, rfl⟩
            have HLB := Lib.hid hlb
            have hlb2 : Op.bytesLess y.pod.id.toList x.pod.id.toList = lb := hlb
            clear hlb
            cases lb with
            | false =>
              have HS := Lib.hid (show stepB L k = false from (by rw [HJ9.out, step_s HX2.out HY.out, HLB.out]; simp))
              have HN := Lib.hid (show stB r L = false by unfold stB; rw [chk_no hlt HS.out]; rfl)
              have CRh := Lib.hid CR
              clear CR
              have CPHh := Lib.hid CPH
              clear CPH
              have kk := fun d os => belStep hbel (below_regrown _ d os)
              refine wp_region_quiet_below (by kernel_rfl) (by kernel_rfl) ?_
              repeat ((with_reducible refine wpQuiet_step (fun K hK => ?_)); go_simp; (try (rw [if_neg]; rotate_left; · decide)); first | ((with_reducible refine hK _ ?_); clear hK K) | (apply Exists.intro; refine ⟨fun _ => ?_, hK _ ?_⟩; (first | (go_at_call 34; with_reducible exact Calls.regrown_of (CRh.out _)) | (go_at_call 35; with_reducible exact Calls.regrown_of (CPHh.out _))); clear hK K))
              refine wpQuiet_nil (fun w1 hw1 => ?_)
              replace hbel := belStep hbel (bel_of_class hw1)
              clear hw1 kk
              go_wp2
              go_ret
              exact ⟨by rw [HN.out]; rfl, belStep HW1.out (belStep HW2.out hbel)⟩
            | true =>
              have HS := Lib.hid (show chkB L (k + 1) = true by unfold chkB; rw [HC.out, Bool.true_and]; exact (by rw [HJ9.out, step_s HX2.out HY.out, HEB.out, HLB.out]; rfl))
              have CRh := Lib.hid CR
              clear CR
              have CPHh := Lib.hid CPH
              clear CPH
              have kk := fun d os => belStep hbel (below_regrown _ d os)
              refine wp_region_quiet_below (by kernel_rfl) (by kernel_rfl) ?_
              repeat ((with_reducible refine wpQuiet_step (fun K hK => ?_)); go_simp; (try (rw [if_neg]; rotate_left; · decide)); first | ((with_reducible refine hK _ ?_); clear hK K) | (apply Exists.intro; refine ⟨fun _ => ?_, hK _ ?_⟩; (first | (go_at_call 34; with_reducible exact Calls.regrown_of (CRh.out _)) | (go_at_call 35; with_reducible exact Calls.regrown_of (CPHh.out _))); clear hK K))
              refine wpQuiet_nil (fun w1 hw1 => ?_)
              replace hbel := belStep hbel (bel_of_class hw1)
              clear hw1 kk
              go_wp2
              go_roundw
              case rel => exact ⟨k + 1, by omega, by push_cast; rfl, HS, belStep HW2.out hbel⟩
              case measure => simp [intOf] <;> omega
    · obtain rfl : k = L.length := by omega
      have hd : decide ((L.length : Int) < (L.length : Int)) = false := decide_eq_false (by omega)
      have s0 := keepOn ss0 hbr
      have s1 := keepOn ss1 hbr
      have hbel : Below wr.heap.size wr wr := Below.refl _ _
      have HB9 := Lib.hid hbr
      clear hbr
      have HN := Lib.hid (show stB r L = (decide (0 ≤ r) && decide (r ≤ 1099511627776) && decide (L.length ≤ 64)) by unfold stB; rw [HC.out, Bool.true_and])
      clear hlt
      have key : ¬ 0 ≤ r ∨ (0 ≤ r ∧ ¬ r ≤ 1099511627776) ∨ (0 ≤ r ∧ r ≤ 1099511627776) := by omega
      rcases key with k1 | ⟨k1, k2⟩ | ⟨k1, k2⟩
      · have k8 : decide ((0 : Int) ≤ r) = false := decide_eq_false k1
        go_wp2
        go_ret
        exact ⟨by rw [HN.out, k8]; rfl, belStep HW1.out (belStep HB9.out hbel)⟩
      · have k8 : decide ((0 : Int) ≤ r) = true := decide_eq_true k1
        have k9 : decide (r ≤ (1099511627776 : Int)) = false := decide_eq_false k2
        go_wp2
        go_ret
        exact ⟨by rw [HN.out, k8, k9]; rfl, belStep HW1.out (belStep HB9.out hbel)⟩
      · have k8 : decide ((0 : Int) ≤ r) = true := decide_eq_true k1
        have k9 : decide (r ≤ (1099511627776 : Int)) = true := decide_eq_true k2
        have k10 : decide ((L.length : Int) ≤ 64) = decide (L.length ≤ 64) := decide_eq_decide.2 (by omega)
        go_wp2
        go_ret
        exact ⟨by rw [HN.out, k8, k9]; first | rfl | (rw [← k10]; rfl) | (simp only [Bool.true_and]; rw [← k10]; rfl), belStep HW1.out (belStep HB9.out hbel)⟩
set_option maxRecDepth 100000 in
set_option maxHeartbeats 16000000 in
theorem sref_Right (r : Int) (a : Option Addr) (n c : Nat) (o : On) (L : List EntV) (w : World) (hl : L.length = n) (hok : ∀ x ∈ L, x.ok) (hR : Row w a n c 12 (L.flatMap EntV.cells)) :
    Calls Try.prog 15 #[.agg #[.int .i64 r, .slice a n c, .bool o.a, .bool o.b, .bool o.c]] w fun e w' => e = .returned (.bool (stB r L)) ∧ Below w.heap.size w w' := by
  have hbd : n ≤ c ∧ c ≤ 9223372036854775807 := by obtain ⟨_, h1, h2, _⟩ := hR; unfold maxLen at h2; exact ⟨h1, h2⟩
  obtain ⟨hbd1, hbd2⟩ := hbd
  have HR := Lib.hid hR
  have HOK := Lib.hid hok
  subst hl
  clear hR hok
  have hw : Below w.heap.size w w := Below.refl _ _
  have hbel := hw
  go_enter Try.func15, Try.ntmps15
  go_upto_region 1 with fail
  have ss0 : (w.alloc (.cells #[.int .i64 r, .slice a L.length c, .bool o.a, .bool o.b, .bool o.c] 25)).cell? ⟨w.heap.size, 0, none⟩ = some (.int .i64 r) := by first | (simp; done) | (rw [World.cell?_alloc_at _ _ _ _ (by simp)]; rfl) | (rw [World.cell?_alloc_past _ _ _ (by simp <;> omega), World.cell?_alloc_at _ _ _ _ (by simp)]; rfl) | (rw [World.cell?_alloc_past _ _ _ (by simp <;> omega), World.cell?_alloc_past _ _ _ (by simp <;> omega), World.cell?_alloc_at _ _ _ _ (by simp)]; rfl)
  have ss1 : (w.alloc (.cells #[.int .i64 r, .slice a L.length c, .bool o.a, .bool o.b, .bool o.c] 25)).cell? ⟨w.heap.size, 1, none⟩ = some (.slice a L.length c) := by first | (simp; done) | (rw [World.cell?_alloc_at _ _ _ _ (by simp)]; rfl) | (rw [World.cell?_alloc_past _ _ _ (by simp <;> omega), World.cell?_alloc_at _ _ _ _ (by simp)]; rfl) | (rw [World.cell?_alloc_past _ _ _ (by simp <;> omega), World.cell?_alloc_past _ _ _ (by simp <;> omega), World.cell?_alloc_at _ _ _ _ (by simp)]; rfl)
  have ss2 : (w.alloc (.cells #[.int .i64 r, .slice a L.length c, .bool o.a, .bool o.b, .bool o.c] 25)).cell? ⟨w.heap.size, 2, none⟩ = some (.bool o.a) := by first | (simp; done) | (rw [World.cell?_alloc_at _ _ _ _ (by simp)]; rfl) | (rw [World.cell?_alloc_past _ _ _ (by simp <;> omega), World.cell?_alloc_at _ _ _ _ (by simp)]; rfl) | (rw [World.cell?_alloc_past _ _ _ (by simp <;> omega), World.cell?_alloc_past _ _ _ (by simp <;> omega), World.cell?_alloc_at _ _ _ _ (by simp)]; rfl)
  have ss3 : (w.alloc (.cells #[.int .i64 r, .slice a L.length c, .bool o.a, .bool o.b, .bool o.c] 25)).cell? ⟨w.heap.size, 3, none⟩ = some (.bool o.b) := by first | (simp; done) | (rw [World.cell?_alloc_at _ _ _ _ (by simp)]; rfl) | (rw [World.cell?_alloc_past _ _ _ (by simp <;> omega), World.cell?_alloc_at _ _ _ _ (by simp)]; rfl) | (rw [World.cell?_alloc_past _ _ _ (by simp <;> omega), World.cell?_alloc_past _ _ _ (by simp <;> omega), World.cell?_alloc_at _ _ _ _ (by simp)]; rfl)
  have ss4 : (w.alloc (.cells #[.int .i64 r, .slice a L.length c, .bool o.a, .bool o.b, .bool o.c] 25)).cell? ⟨w.heap.size, 4, none⟩ = some (.bool o.c) := by first | (simp; done) | (rw [World.cell?_alloc_at _ _ _ _ (by simp)]; rfl) | (rw [World.cell?_alloc_past _ _ _ (by simp <;> omega), World.cell?_alloc_at _ _ _ _ (by simp)]; rfl) | (rw [World.cell?_alloc_past _ _ _ (by simp <;> omega), World.cell?_alloc_past _ _ _ (by simp <;> omega), World.cell?_alloc_at _ _ _ _ (by simp)]; rfl)
  have hb2 := (by repeat (first | exact hbel | refine belAlloc ?_ _ | refine belDrew ?_ | refine belSet ?_ _ _ (by simp)) : Below w.heap.size w (w.alloc (.cells #[.int .i64 r, .slice a L.length c, .bool o.a, .bool o.b, .bool o.c] 25)))
  replace hw := belStep hw hb2
  clear hb2 hbel
  generalize w.alloc (.cells #[.int .i64 r, .slice a L.length c, .bool o.a, .bool o.b, .bool o.c] 25) = W1 at *
  replace ss0 := keep ss0
  replace ss1 := keep ss1
  replace ss2 := keep ss2
  replace ss3 := keep ss3
  replace ss4 := keep ss4
  have hbel : Below W1.heap.size W1 W1 := Below.refl _ _
  skip
  have key : r < 0 ∨ (¬ r < 0 ∧ 1099511627776 < r) ∨ (¬ r < 0 ∧ ¬ 1099511627776 < r ∧ 64 < L.length) ∨ (¬ r < 0 ∧ ¬ 1099511627776 < r ∧ ¬ 64 < L.length) := by omega
  rcases key with k1 | ⟨k1, k2⟩ | ⟨k1, k2, k3⟩ | ⟨k1, k2, k3⟩
  · have HN := Lib.hid (show stB r L = false by unfold stB; rw [show (decide (0 ≤ r) && decide (r ≤ 1099511627776) && decide (L.length ≤ 64)) = false by simp; omega, Bool.and_false])
    have k9 : decide (r < (0 : Int)) = true := decide_eq_true k1
    go_wp2
    go_ret
    exact ⟨by rw [HN.out]; rfl, belStep hw hbel⟩
  · have HN := Lib.hid (show stB r L = false by unfold stB; rw [show (decide (0 ≤ r) && decide (r ≤ 1099511627776) && decide (L.length ≤ 64)) = false by simp; omega, Bool.and_false])
    have k8 : decide (r < (0 : Int)) = false := decide_eq_false k1
    have k9 : decide ((1099511627776 : Int) < r) = true := decide_eq_true k2
    go_wp2
    go_ret
    exact ⟨by rw [HN.out]; rfl, belStep hw hbel⟩
  · have HN := Lib.hid (show stB r L = false by unfold stB; rw [show (decide (0 ≤ r) && decide (r ≤ 1099511627776) && decide (L.length ≤ 64)) = false by simp; omega, Bool.and_false])
    have k7 : decide (r < (0 : Int)) = false := decide_eq_false k1
    have k8 : decide ((1099511627776 : Int) < r) = false := decide_eq_false k2
    have k9 : decide ((64 : Int) < (L.length : Int)) = true := decide_eq_true (by omega)
    have k10 : (64 : Int) < (L.length : Int) := by omega
    go_wp2
    go_ret
    exact ⟨by rw [HN.out]; rfl, belStep hw hbel⟩
  · have k7 : decide (r < (0 : Int)) = false := decide_eq_false k1
    have k8 : decide ((1099511627776 : Int) < r) = false := decide_eq_false k2
    have k9 : decide ((64 : Int) < (L.length : Int)) = false := decide_eq_false (by omega)
    have k10 : ¬ (64 : Int) < (L.length : Int) := by omega
    have HNUM := Lib.hid (show stB r L = chkB L L.length by unfold stB; rw [show (decide (0 ≤ r) && decide (r ≤ 1099511627776) && decide (L.length ≤ 64)) = true by simp; omega, Bool.and_true])
    have HW1 := Lib.hid hw
    clear hw
    have hb0 : Below W1.heap.size W1 W1 := Below.refl _ _
    go_wp2
    clear hbel
    go_loopw [3] (fun i wr => ∃ k : Nat, k ≤ L.length ∧ i = .int .i64 k ∧ Hid (chkB L k = true) ∧ Below W1.heap.size W1 wr) (fun i _ => L.length - (intOf i).toNat)
    case atStart => exact ⟨0, Nat.zero_le _, rfl, Lib.hid rfl, hb0⟩
    case round =>
      obtain ⟨k, hk, rfl, HC, hbr⟩ := hrel
      clear hb0
      have HRW := Lib.hid (HR.out.later (belStep HW1.out hbr))
      have hbel := hbr
      have hw := HW1.out
      by_cases hlt : k < L.length
      · have hd : decide ((k : Int) < (L.length : Int)) = true := decide_eq_true (by omega)
        have hki : (k : Int) < (L.length : Int) := by omega
        have hk0 : (0 : Int) ≤ (k : Int) := by omega
        obtain ⟨x, hx⟩ : ∃ x, L[k]? = some x := ⟨L[k]'(hlt), List.getElem?_eq_getElem _⟩
        obtain ⟨bc, oc, ec, _, hcc⟩ := (HRW.out).elem EntV.cells_len (by omega) hx
        subst ec
        have c0 := keep (hcc 0 _ rfl)
        have c1 := keep (hcc 1 _ rfl)
        have c2 := keep (hcc 2 _ rfl)
        have c3 := keep (hcc 3 _ rfl)
        have c4 := keep (hcc 4 _ rfl)
        have c5 := keep (hcc 5 _ rfl)
        have c6 := keep (hcc 6 _ rfl)
        have c7 := keep (hcc 7 _ rfl)
        have c8 := keep (hcc 8 _ rfl)
        have c9 := keep (hcc 9 _ rfl)
        have c10 := keep (hcc 10 _ rfl)
        have c11 := keep (hcc 11 _ rfl)
        rw [Nat.add_zero] at c0
        clear hcc
        have CR := fun v => pref_Right x.pod v (HOK.out x (List.mem_of_getElem? hx)).1
        obtain ⟨rp, hrp⟩ : ∃ b, rightB x.pod = b := ⟨_, rfl⟩
        rw [hrp] at CR
        obtain ⟨ph, hph⟩ : ∃ b, phB x.phase = b := ⟨_, rfl⟩
        have HEB := Lib.hid (show entB x = (rp && ph) by unfold entB; rw [hrp, hph])
        have hpk : (ph = true ∧ ¬ x.phase < 1 ∧ ¬ 3 < x.phase) ∨ (ph = false ∧ x.phase < 1) ∨ (ph = false ∧ ¬ x.phase < 1 ∧ 3 < x.phase) := by rw [← hph]; unfold phB; rw [← Bool.decide_and]; simp only [decide_eq_true_eq, decide_eq_false_iff_not]; omega
        clear hrp hph
        have HX := Lib.hid hx
        clear hx
        skip
        have s0 := keepOn ss0 hbr
        have s1 := keepOn ss1 hbr
        have s2 := keepOn ss2 hbr
        have s3 := keepOn ss3 hbr
        have s4 := keepOn ss4 hbr
        have hbel : Below wr.heap.size wr wr := Below.refl _ _
        have hw : Below wr.heap.size wr wr := Below.refl _ _
        go_upto_region 7 with fail
        have ee0 : (wr.alloc (.cells #[.string x.pod.id, .int .i64 x.pod.prio, .bool x.pod.crit, .int .i64 x.pod.r0, .int .i64 x.pod.r1, .int .i64 x.pod.r2, .int .i64 x.pod.l0, .int .i64 x.pod.l1, .int .i64 x.pod.l2, .string x.pod.img, .int .i64 x.pod.size, .int .i64 x.phase] 46)).cell? ⟨wr.heap.size, 0, none⟩ = some (.string x.pod.id) := by first | (simp; done) | (rw [World.cell?_alloc_at _ _ _ _ (by simp)]; rfl) | (rw [World.cell?_alloc_past _ _ _ (by simp <;> omega), World.cell?_alloc_at _ _ _ _ (by simp)]; rfl) | (rw [World.cell?_alloc_past _ _ _ (by simp <;> omega), World.cell?_alloc_past _ _ _ (by simp <;> omega), World.cell?_alloc_at _ _ _ _ (by simp)]; rfl)
        have ee1 : (wr.alloc (.cells #[.string x.pod.id, .int .i64 x.pod.prio, .bool x.pod.crit, .int .i64 x.pod.r0, .int .i64 x.pod.r1, .int .i64 x.pod.r2, .int .i64 x.pod.l0, .int .i64 x.pod.l1, .int .i64 x.pod.l2, .string x.pod.img, .int .i64 x.pod.size, .int .i64 x.phase] 46)).cell? ⟨wr.heap.size, 1, none⟩ = some (.int .i64 x.pod.prio) := by first | (simp; done) | (rw [World.cell?_alloc_at _ _ _ _ (by simp)]; rfl) | (rw [World.cell?_alloc_past _ _ _ (by simp <;> omega), World.cell?_alloc_at _ _ _ _ (by simp)]; rfl) | (rw [World.cell?_alloc_past _ _ _ (by simp <;> omega), World.cell?_alloc_past _ _ _ (by simp <;> omega), World.cell?_alloc_at _ _ _ _ (by simp)]; rfl)
        have ee2 : (wr.alloc (.cells #[.string x.pod.id, .int .i64 x.pod.prio, .bool x.pod.crit, .int .i64 x.pod.r0, .int .i64 x.pod.r1, .int .i64 x.pod.r2, .int .i64 x.pod.l0, .int .i64 x.pod.l1, .int .i64 x.pod.l2, .string x.pod.img, .int .i64 x.pod.size, .int .i64 x.phase] 46)).cell? ⟨wr.heap.size, 2, none⟩ = some (.bool x.pod.crit) := by first | (simp; done) | (rw [World.cell?_alloc_at _ _ _ _ (by simp)]; rfl) | (rw [World.cell?_alloc_past _ _ _ (by simp <;> omega), World.cell?_alloc_at _ _ _ _ (by simp)]; rfl) | (rw [World.cell?_alloc_past _ _ _ (by simp <;> omega), World.cell?_alloc_past _ _ _ (by simp <;> omega), World.cell?_alloc_at _ _ _ _ (by simp)]; rfl)
        have ee3 : (wr.alloc (.cells #[.string x.pod.id, .int .i64 x.pod.prio, .bool x.pod.crit, .int .i64 x.pod.r0, .int .i64 x.pod.r1, .int .i64 x.pod.r2, .int .i64 x.pod.l0, .int .i64 x.pod.l1, .int .i64 x.pod.l2, .string x.pod.img, .int .i64 x.pod.size, .int .i64 x.phase] 46)).cell? ⟨wr.heap.size, 3, none⟩ = some (.int .i64 x.pod.r0) := by first | (simp; done) | (rw [World.cell?_alloc_at _ _ _ _ (by simp)]; rfl) | (rw [World.cell?_alloc_past _ _ _ (by simp <;> omega), World.cell?_alloc_at _ _ _ _ (by simp)]; rfl) | (rw [World.cell?_alloc_past _ _ _ (by simp <;> omega), World.cell?_alloc_past _ _ _ (by simp <;> omega), World.cell?_alloc_at _ _ _ _ (by simp)]; rfl)
        have ee4 : (wr.alloc (.cells #[.string x.pod.id, .int .i64 x.pod.prio, .bool x.pod.crit, .int .i64 x.pod.r0, .int .i64 x.pod.r1, .int .i64 x.pod.r2, .int .i64 x.pod.l0, .int .i64 x.pod.l1, .int .i64 x.pod.l2, .string x.pod.img, .int .i64 x.pod.size, .int .i64 x.phase] 46)).cell? ⟨wr.heap.size, 4, none⟩ = some (.int .i64 x.pod.r1) := by first | (simp; done) | (rw [World.cell?_alloc_at _ _ _ _ (by simp)]; rfl) | (rw [World.cell?_alloc_past _ _ _ (by simp <;> omega), World.cell?_alloc_at _ _ _ _ (by simp)]; rfl) | (rw [World.cell?_alloc_past _ _ _ (by simp <;> omega), World.cell?_alloc_past _ _ _ (by simp <;> omega), World.cell?_alloc_at _ _ _ _ (by simp)]; rfl)
        have ee5 : (wr.alloc (.cells #[.string x.pod.id, .int .i64 x.pod.prio, .bool x.pod.crit, .int .i64 x.pod.r0, .int .i64 x.pod.r1, .int .i64 x.pod.r2, .int .i64 x.pod.l0, .int .i64 x.pod.l1, .int .i64 x.pod.l2, .string x.pod.img, .int .i64 x.pod.size, .int .i64 x.phase] 46)).cell? ⟨wr.heap.size, 5, none⟩ = some (.int .i64 x.pod.r2) := by first | (simp; done) | (rw [World.cell?_alloc_at _ _ _ _ (by simp)]; rfl) | (rw [World.cell?_alloc_past _ _ _ (by simp <;> omega), World.cell?_alloc_at _ _ _ _ (by simp)]; rfl) | (rw [World.cell?_alloc_past _ _ _ (by simp <;> omega), World.cell?_alloc_past _ _ _ (by simp <;> omega), World.cell?_alloc_at _ _ _ _ (by simp)]; rfl)
        have ee6 : (wr.alloc (.cells #[.string x.pod.id, .int .i64 x.pod.prio, .bool x.pod.crit, .int .i64 x.pod.r0, .int .i64 x.pod.r1, .int .i64 x.pod.r2, .int .i64 x.pod.l0, .int .i64 x.pod.l1, .int .i64 x.pod.l2, .string x.pod.img, .int .i64 x.pod.size, .int .i64 x.phase] 46)).cell? ⟨wr.heap.size, 6, none⟩ = some (.int .i64 x.pod.l0) := by first | (simp; done) | (rw [World.cell?_alloc_at _ _ _ _ (by simp)]; rfl) | (rw [World.cell?_alloc_past _ _ _ (by simp <;> omega), World.cell?_alloc_at _ _ _ _ (by simp)]; rfl) | (rw [World.cell?_alloc_past _ _ _ (by simp <;> omega), World.cell?_alloc_past _ _ _ (by simp <;> omega), World.cell?_alloc_at _ _ _ _ (by simp)]; rfl)
        have ee7 : (wr.alloc (.cells #[.string x.pod.id, .int .i64 x.pod.prio, .bool x.pod.crit, .int .i64 x.pod.r0, .int .i64 x.pod.r1, .int .i64 x.pod.r2, .int .i64 x.pod.l0, .int .i64 x.pod.l1, .int .i64 x.pod.l2, .string x.pod.img, .int .i64 x.pod.size, .int .i64 x.phase] 46)).cell? ⟨wr.heap.size, 7, none⟩ = some (.int .i64 x.pod.l1) := by first | (simp; done) | (rw [World.cell?_alloc_at _ _ _ _ (by simp)]; rfl) | (rw [World.cell?_alloc_past _ _ _ (by simp <;> omega), World.cell?_alloc_at _ _ _ _ (by simp)]; rfl) | (rw [World.cell?_alloc_past _ _ _ (by simp <;> omega), World.cell?_alloc_past _ _ _ (by simp <;> omega), World.cell?_alloc_at _ _ _ _ (by simp)]; rfl)
        have ee8 : (wr.alloc (.cells #[.string x.pod.id, .int .i64 x.pod.prio, .bool x.pod.crit, .int .i64 x.pod.r0, .int .i64 x.pod.r1, .int .i64 x.pod.r2, .int .i64 x.pod.l0, .int .i64 x.pod.l1, .int .i64 x.pod.l2, .string x.pod.img, .int .i64 x.pod.size, .int .i64 x.phase] 46)).cell? ⟨wr.heap.size, 8, none⟩ = some (.int .i64 x.pod.l2) := by first | (simp; done) | (rw [World.cell?_alloc_at _ _ _ _ (by simp)]; rfl) | (rw [World.cell?_alloc_past _ _ _ (by simp <;> omega), World.cell?_alloc_at _ _ _ _ (by simp)]; rfl) | (rw [World.cell?_alloc_past _ _ _ (by simp <;> omega), World.cell?_alloc_past _ _ _ (by simp <;> omega), World.cell?_alloc_at _ _ _ _ (by simp)]; rfl)
        have ee9 : (wr.alloc (.cells #[.string x.pod.id, .int .i64 x.pod.prio, .bool x.pod.crit, .int .i64 x.pod.r0, .int .i64 x.pod.r1, .int .i64 x.pod.r2, .int .i64 x.pod.l0, .int .i64 x.pod.l1, .int .i64 x.pod.l2, .string x.pod.img, .int .i64 x.pod.size, .int .i64 x.phase] 46)).cell? ⟨wr.heap.size, 9, none⟩ = some (.string x.pod.img) := by first | (simp; done) | (rw [World.cell?_alloc_at _ _ _ _ (by simp)]; rfl) | (rw [World.cell?_alloc_past _ _ _ (by simp <;> omega), World.cell?_alloc_at _ _ _ _ (by simp)]; rfl) | (rw [World.cell?_alloc_past _ _ _ (by simp <;> omega), World.cell?_alloc_past _ _ _ (by simp <;> omega), World.cell?_alloc_at _ _ _ _ (by simp)]; rfl)
        have ee10 : (wr.alloc (.cells #[.string x.pod.id, .int .i64 x.pod.prio, .bool x.pod.crit, .int .i64 x.pod.r0, .int .i64 x.pod.r1, .int .i64 x.pod.r2, .int .i64 x.pod.l0, .int .i64 x.pod.l1, .int .i64 x.pod.l2, .string x.pod.img, .int .i64 x.pod.size, .int .i64 x.phase] 46)).cell? ⟨wr.heap.size, 10, none⟩ = some (.int .i64 x.pod.size) := by first | (simp; done) | (rw [World.cell?_alloc_at _ _ _ _ (by simp)]; rfl) | (rw [World.cell?_alloc_past _ _ _ (by simp <;> omega), World.cell?_alloc_at _ _ _ _ (by simp)]; rfl) | (rw [World.cell?_alloc_past _ _ _ (by simp <;> omega), World.cell?_alloc_past _ _ _ (by simp <;> omega), World.cell?_alloc_at _ _ _ _ (by simp)]; rfl)
        have ee11 : (wr.alloc (.cells #[.string x.pod.id, .int .i64 x.pod.prio, .bool x.pod.crit, .int .i64 x.pod.r0, .int .i64 x.pod.r1, .int .i64 x.pod.r2, .int .i64 x.pod.l0, .int .i64 x.pod.l1, .int .i64 x.pod.l2, .string x.pod.img, .int .i64 x.pod.size, .int .i64 x.phase] 46)).cell? ⟨wr.heap.size, 11, none⟩ = some (.int .i64 x.phase) := by first | (simp; done) | (rw [World.cell?_alloc_at _ _ _ _ (by simp)]; rfl) | (rw [World.cell?_alloc_past _ _ _ (by simp <;> omega), World.cell?_alloc_at _ _ _ _ (by simp)]; rfl) | (rw [World.cell?_alloc_past _ _ _ (by simp <;> omega), World.cell?_alloc_past _ _ _ (by simp <;> omega), World.cell?_alloc_at _ _ _ _ (by simp)]; rfl)
        have hb2 := (by repeat (first | exact hbel | refine belAlloc ?_ _ | refine belDrew ?_ | refine belSet ?_ _ _ (by simp)) : Below wr.heap.size wr (wr.alloc (.cells #[.string x.pod.id, .int .i64 x.pod.prio, .bool x.pod.crit, .int .i64 x.pod.r0, .int .i64 x.pod.r1, .int .i64 x.pod.r2, .int .i64 x.pod.l0, .int .i64 x.pod.l1, .int .i64 x.pod.l2, .string x.pod.img, .int .i64 x.pod.size, .int .i64 x.phase] 46)))
        replace s0 := keepOnP s0 hb2
        replace s1 := keepOnP s1 hb2
        replace s2 := keepOnP s2 hb2
        replace s3 := keepOnP s3 hb2
        replace s4 := keepOnP s4 hb2
        replace c0 := keepOnP c0 hb2
        replace c1 := keepOnP c1 hb2
        replace c2 := keepOnP c2 hb2
        replace c3 := keepOnP c3 hb2
        replace c4 := keepOnP c4 hb2
        replace c5 := keepOnP c5 hb2
        replace c6 := keepOnP c6 hb2
        replace c7 := keepOnP c7 hb2
        replace c8 := keepOnP c8 hb2
        replace c9 := keepOnP c9 hb2
        replace c10 := keepOnP c10 hb2
        replace c11 := keepOnP c11 hb2
        replace hw := belStep hw hb2
        clear hb2 hbel
        generalize wr.alloc (.cells #[.string x.pod.id, .int .i64 x.pod.prio, .bool x.pod.crit, .int .i64 x.pod.r0, .int .i64 x.pod.r1, .int .i64 x.pod.r2, .int .i64 x.pod.l0, .int .i64 x.pod.l1, .int .i64 x.pod.l2, .string x.pod.img, .int .i64 x.pod.size, .int .i64 x.phase] 46) = W2 at *
        replace ee0 := keep ee0
        replace ee1 := keep ee1
        replace ee2 := keep ee2
        replace ee3 := keep ee3
        replace ee4 := keep ee4
        replace ee5 := keep ee5
        replace ee6 := keep ee6
        replace ee7 := keep ee7
        replace ee8 := keep ee8
        replace ee9 := keep ee9
        replace ee10 := keep ee10
        replace ee11 := keep ee11
        have hbel : Below W2.heap.size W2 W2 := Below.refl _ _
        skip
        have HV2 := Lib.hid hw
        have HW2 := Lib.hid (belStep hbr hw)
        clear hw
        cases rp with
        | false =>
          have HS := Lib.hid (show stepB L k = false from (by have he := HEB.out; unfold stepB; rw [HX.out]; simp only; rw [he]; simp))
          have HN := Lib.hid (show stB r L = false by rw [HNUM.out]; exact chk_no hlt HS.out)
          have CRh := Lib.hid CR
          clear CR
          have kk := fun d os => belStep hbel (below_regrown _ d os)
          refine wp_region_quiet_below (by kernel_rfl) (by kernel_rfl) ?_
          repeat ((with_reducible refine wpQuiet_step (fun K hK => ?_)); go_simp; (try (rw [if_neg]; rotate_left; · decide)); first | ((with_reducible refine hK _ ?_); clear hK K) | (apply Exists.intro; refine ⟨fun _ => ?_, hK _ ?_⟩; (first | (go_at_call 22; with_reducible exact Calls.regrown_of (CRh.out _))); clear hK K))
          refine wpQuiet_nil (fun w1 hw1 => ?_)
          replace hbel := belStep hbel (bel_of_class hw1)
          clear hw1 kk
          go_wp2
          go_ret
          exact ⟨by rw [HN.out]; rfl, belStep HW1.out (belStep HW2.out hbel)⟩
        | true =>
          rcases hpk with ⟨rfl, p1, p2⟩ | ⟨rfl, p1⟩ | ⟨rfl, p1, p2⟩
          · have p3 : decide (x.phase < (1 : Int)) = false := decide_eq_false p1
            have p4 : decide ((3 : Int) < x.phase) = false := decide_eq_false p2
            by_cases hk9 : k = 0
            · have hg : decide ((0 : Int) < (k : Int)) = false := decide_eq_false (by omega)
              have hg2 : ¬ (0 : Int) < (k : Int) := by omega
              have hg3 : ¬ 0 < k := by omega
              have HK9 := Lib.hid hk9
              clear hk9
              have HS := Lib.hid (show chkB L (k + 1) = true by unfold chkB; rw [HC.out, Bool.true_and]; exact (by have hx2 := HX.out; rw [HK9.out] at hx2 ⊢; rw [step_0 hx2, HEB.out]; rfl))
              have CRh := Lib.hid CR
              clear CR
              have kk := fun d os => belStep hbel (below_regrown _ d os)
              refine wp_region_quiet_below (by kernel_rfl) (by kernel_rfl) ?_
              repeat ((with_reducible refine wpQuiet_step (fun K hK => ?_)); go_simp; (try (rw [if_neg]; rotate_left; · decide)); first | ((with_reducible refine hK _ ?_); clear hK K) | (apply Exists.intro; refine ⟨fun _ => ?_, hK _ ?_⟩; (first | (go_at_call 22; with_reducible exact Calls.regrown_of (CRh.out _))); clear hK K))
              refine wpQuiet_nil (fun w1 hw1 => ?_)
              replace hbel := belStep hbel (bel_of_class hw1)
              clear hw1 kk
              go_wp2
              go_roundw
              case rel => exact ⟨k + 1, by omega, by push_cast; rfl, HS, belStep HW2.out hbel⟩
              case measure => simp [intOf] <;> omega
            · obtain ⟨j, hj9⟩ : ∃ j, k = j + 1 := ⟨k - 1, by omega⟩
              have hg : decide ((0 : Int) < (k : Int)) = true := decide_eq_true (by omega)
              have hg2 : (0 : Int) < (k : Int) := by omega
              have hg3 : 0 < k := by omega
              have hj1 : IntKind.i64.wrap ((k : Int) - 1) = (j : Int) := by rw [show (k : Int) - 1 = (j : Int) by omega]; exact IntWalk.i64_in _ (by omega)
              have hj0 : (k : Int) - 1 = (j : Int) := by omega
              have hj4 : IntKind.i64.wrap (j : Int) = (j : Int) := IntWalk.i64_in _ (by omega)
              have hj2 : (j : Int) < (L.length : Int) := by omega
              have hj3 : (0 : Int) ≤ (j : Int) := by omega
              obtain ⟨y, hy⟩ : ∃ y, L[j]? = some y := ⟨L[j]'(by omega), List.getElem?_eq_getElem _⟩
              obtain ⟨bd, od, ed, _, hcd⟩ := (HRW.out).elem EntV.cells_len (by omega) hy
              simp only [Option.some.injEq, Addr.mk.injEq, and_true] at ed
              obtain ⟨rfl, rfl⟩ := ed
              have d0 := keep (hcd 0 _ rfl)
              have d1 := keep (hcd 1 _ rfl)
              have d2 := keep (hcd 2 _ rfl)
              have d3 := keep (hcd 3 _ rfl)
              have d4 := keep (hcd 4 _ rfl)
              have d5 := keep (hcd 5 _ rfl)
              have d6 := keep (hcd 6 _ rfl)
              have d7 := keep (hcd 7 _ rfl)
              have d8 := keep (hcd 8 _ rfl)
              have d9 := keep (hcd 9 _ rfl)
              have d10 := keep (hcd 10 _ rfl)
              have d11 := keep (hcd 11 _ rfl)
              rw [Nat.add_zero] at d0
              clear hcd
              replace d0 := keepOn d0 HV2.out
              have HY := Lib.hid hy
              have HX2 := Lib.hid (show L[j + 1]? = some x from hj9 ▸ HX.out)
              have HJ9 := Lib.hid hj9
              clear hj9
              clear hy d1 d2 d3 d4 d5 d6 d7 d8 d9 d10 d11
              obtain ⟨lb, hlb⟩ : ∃ b, lessB y x = b := ⟨_, rfl⟩
              have HLB := Lib.hid hlb
              have hlb2 : Op.bytesLess y.pod.id.toList x.pod.id.toList = lb := hlb
              clear hlb
              cases lb with
              | false =>
                have HS := Lib.hid (show stepB L k = false from (by rw [HJ9.out, step_s HX2.out HY.out, HLB.out]; simp))
                have HN := Lib.hid (show stB r L = false by rw [HNUM.out]; exact chk_no hlt HS.out)
                have CRh := Lib.hid CR
                clear CR
                have kk := fun d os => belStep hbel (below_regrown _ d os)
                refine wp_region_quiet_below (by kernel_rfl) (by kernel_rfl) ?_
                repeat ((with_reducible refine wpQuiet_step (fun K hK => ?_)); go_simp; (try (rw [if_neg]; rotate_left; · decide)); first | ((with_reducible refine hK _ ?_); clear hK K) | (apply Exists.intro; refine ⟨fun _ => ?_, hK _ ?_⟩; (first | (go_at_call 22; with_reducible exact Calls.regrown_of (CRh.out _))); clear hK K))
                refine wpQuiet_nil (fun w1 hw1 => ?_)
                replace hbel := belStep hbel (bel_of_class hw1)
                clear hw1 kk
                go_wp2
                go_ret
                exact ⟨by rw [HN.out]; rfl, belStep HW1.out (belStep HW2.out hbel)⟩
              | true =>
                have HS := Lib.hid (show chkB L (k + 1) = true by unfold chkB; rw [HC.out, Bool.true_and]; exact (by rw [HJ9.out, step_s HX2.out HY.out, HEB.out, HLB.out]; rfl))
                have CRh := Lib.hid CR
                clear CR
                have kk := fun d os => belStep hbel (below_regrown _ d os)
                refine wp_region_quiet_below (by kernel_rfl) (by kernel_rfl) ?_
                repeat ((with_reducible refine wpQuiet_step (fun K hK => ?_)); go_simp; (try (rw [if_neg]; rotate_left; · decide)); first | ((with_reducible refine hK _ ?_); clear hK K) | (apply Exists.intro; refine ⟨fun _ => ?_, hK _ ?_⟩; (first | (go_at_call 22; with_reducible exact Calls.regrown_of (CRh.out _))); clear hK K))
                refine wpQuiet_nil (fun w1 hw1 => ?_)
                replace hbel := belStep hbel (bel_of_class hw1)
                clear hw1 kk
                go_wp2
                go_roundw
                case rel => exact ⟨k + 1, by omega, by push_cast; rfl, HS, belStep HW2.out hbel⟩
                case measure => simp [intOf] <;> omega
          · have p3 : decide (x.phase < (1 : Int)) = true := decide_eq_true p1
            have HS := Lib.hid (show stepB L k = false from (by have he := HEB.out; unfold stepB; rw [HX.out]; simp only; rw [he]; simp))
            have HN := Lib.hid (show stB r L = false by rw [HNUM.out]; exact chk_no hlt HS.out)
            have CRh := Lib.hid CR
            clear CR
            have kk := fun d os => belStep hbel (below_regrown _ d os)
            refine wp_region_quiet_below (by kernel_rfl) (by kernel_rfl) ?_
            repeat ((with_reducible refine wpQuiet_step (fun K hK => ?_)); go_simp; (try (rw [if_neg]; rotate_left; · decide)); first | ((with_reducible refine hK _ ?_); clear hK K) | (apply Exists.intro; refine ⟨fun _ => ?_, hK _ ?_⟩; (first | (go_at_call 22; with_reducible exact Calls.regrown_of (CRh.out _))); clear hK K))
            refine wpQuiet_nil (fun w1 hw1 => ?_)
            replace hbel := belStep hbel (bel_of_class hw1)
            clear hw1 kk
            go_wp2
            go_ret
            exact ⟨by rw [HN.out]; rfl, belStep HW1.out (belStep HW2.out hbel)⟩
          · have p3 : decide (x.phase < (1 : Int)) = false := decide_eq_false p1
            have p4 : decide ((3 : Int) < x.phase) = true := decide_eq_true p2
            have HS := Lib.hid (show stepB L k = false from (by have he := HEB.out; unfold stepB; rw [HX.out]; simp only; rw [he]; simp))
            have HN := Lib.hid (show stB r L = false by rw [HNUM.out]; exact chk_no hlt HS.out)
            have CRh := Lib.hid CR
            clear CR
            have kk := fun d os => belStep hbel (below_regrown _ d os)
            refine wp_region_quiet_below (by kernel_rfl) (by kernel_rfl) ?_
            repeat ((with_reducible refine wpQuiet_step (fun K hK => ?_)); go_simp; (try (rw [if_neg]; rotate_left; · decide)); first | ((with_reducible refine hK _ ?_); clear hK K) | (apply Exists.intro; refine ⟨fun _ => ?_, hK _ ?_⟩; (first | (go_at_call 22; with_reducible exact Calls.regrown_of (CRh.out _))); clear hK K))
            refine wpQuiet_nil (fun w1 hw1 => ?_)
            replace hbel := belStep hbel (bel_of_class hw1)
            clear hw1 kk
            go_wp2
            go_ret
            exact ⟨by rw [HN.out]; rfl, belStep HW1.out (belStep HW2.out hbel)⟩
      · obtain rfl : k = L.length := by omega
        have hd : decide ((L.length : Int) < (L.length : Int)) = false := decide_eq_false (by omega)
        have s0 := keepOn ss0 hbr
        have s1 := keepOn ss1 hbr
        have hbel : Below wr.heap.size wr wr := Below.refl _ _
        have HB9 := Lib.hid hbr
        clear hbr
        have HN := Lib.hid (show stB r L = true by rw [HNUM.out]; exact HC.out)
        go_wp2
        go_ret
        exact ⟨by rw [HN.out]; rfl, belStep HW1.out (belStep HB9.out hbel)⟩
end Go.Proofs.Ytpmkhimmlpnbpaa
