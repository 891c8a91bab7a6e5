
/- bilgeref17.Right: contract. -/
import Derived.Test.YtcgpmihjodolmaaSmp7
namespace Go.Proofs.Ytcgpmihjodolmaa
open Go.RowKit
set_option linter.unusedVariables false
set_option linter.unusedSimpArgs false
set_option maxRecDepth 100000 in
set_option maxHeartbeats 16000000 in
theorem sref_Right (r : RawV) (a : Option Addr) (len cap : Nat) (L : List UsgV) (w : World) (hl : L.length = len) (hr : r.ok) (hok : ∀ x ∈ L, x.ok) (hR : Row w a len cap 4 (L.flatMap UsgV.cells)) :
    Calls Try.prog 22 #[.agg #[.int .i64 r.t, .float .f64 r.x, .float .f64 r.y, .float .f64 r.z, .slice a len cap]] w fun e w' => e = .returned (.bool (rightR r L)) ∧ Below w.heap.size w w' := by
  have hw : Below w.heap.size w w := Below.refl _ _
  have hbel := hw
  have hbd_a : len ≤ cap ∧ cap ≤ 9223372036854775807 := by obtain ⟨_, h1, h2, _⟩ := hR; unfold maxLen at h2; exact ⟨h1, h2⟩
  obtain ⟨hbd1_a, hbd2_a⟩ := hbd_a
  have HR := Lib.hid hR
  have HOK := Lib.hid hok
  obtain ⟨_, hr1, hr2, hr3⟩ := hr
  have CK := Lib.hid (fun k u => ref_Kind (fl3 r.x r.y r.z k) u (fl3_in hr1 hr2 hr3 k))
  clear hR hok hr1 hr2 hr3
  subst hl
  go_enter Try.func22, Try.ntmps22
  go_upto_region 1 with fail
  have rw0 : (w.alloc (.cells #[.int .i64 r.t, .float .f64 r.x, .float .f64 r.y, .float .f64 r.z, .slice a L.length cap] 26)).cell? ⟨w.heap.size, 0, none⟩ = some (.int .i64 r.t) := by first | (simp; done) | (rw [World.cell?_alloc_at _ _ _ _ (by simp)]; rfl) | (rw [World.cell?_alloc_past _ _ _ (by simp <;> omega), World.cell?_alloc_at _ _ _ _ (by simp)]; rfl) | (rw [World.cell?_alloc_past _ _ _ (by simp <;> omega), World.cell?_alloc_past _ _ _ (by simp <;> omega), World.cell?_alloc_at _ _ _ _ (by simp)]; rfl)
  have rw1 : (w.alloc (.cells #[.int .i64 r.t, .float .f64 r.x, .float .f64 r.y, .float .f64 r.z, .slice a L.length cap] 26)).cell? ⟨w.heap.size, 1, none⟩ = some (.float .f64 r.x) := by first | (simp; done) | (rw [World.cell?_alloc_at _ _ _ _ (by simp)]; rfl) | (rw [World.cell?_alloc_past _ _ _ (by simp <;> omega), World.cell?_alloc_at _ _ _ _ (by simp)]; rfl) | (rw [World.cell?_alloc_past _ _ _ (by simp <;> omega), World.cell?_alloc_past _ _ _ (by simp <;> omega), World.cell?_alloc_at _ _ _ _ (by simp)]; rfl)
  have rw2 : (w.alloc (.cells #[.int .i64 r.t, .float .f64 r.x, .float .f64 r.y, .float .f64 r.z, .slice a L.length cap] 26)).cell? ⟨w.heap.size, 2, none⟩ = some (.float .f64 r.y) := by first | (simp; done) | (rw [World.cell?_alloc_at _ _ _ _ (by simp)]; rfl) | (rw [World.cell?_alloc_past _ _ _ (by simp <;> omega), World.cell?_alloc_at _ _ _ _ (by simp)]; rfl) | (rw [World.cell?_alloc_past _ _ _ (by simp <;> omega), World.cell?_alloc_past _ _ _ (by simp <;> omega), World.cell?_alloc_at _ _ _ _ (by simp)]; rfl)
  have rw3 : (w.alloc (.cells #[.int .i64 r.t, .float .f64 r.x, .float .f64 r.y, .float .f64 r.z, .slice a L.length cap] 26)).cell? ⟨w.heap.size, 3, none⟩ = some (.float .f64 r.z) := by first | (simp; done) | (rw [World.cell?_alloc_at _ _ _ _ (by simp)]; rfl) | (rw [World.cell?_alloc_past _ _ _ (by simp <;> omega), World.cell?_alloc_at _ _ _ _ (by simp)]; rfl) | (rw [World.cell?_alloc_past _ _ _ (by simp <;> omega), World.cell?_alloc_past _ _ _ (by simp <;> omega), World.cell?_alloc_at _ _ _ _ (by simp)]; rfl)
  have rw4 : (w.alloc (.cells #[.int .i64 r.t, .float .f64 r.x, .float .f64 r.y, .float .f64 r.z, .slice a L.length cap] 26)).cell? ⟨w.heap.size, 4, none⟩ = some (.slice a L.length cap) := by first | (simp; done) | (rw [World.cell?_alloc_at _ _ _ _ (by simp)]; rfl) | (rw [World.cell?_alloc_past _ _ _ (by simp <;> omega), World.cell?_alloc_at _ _ _ _ (by simp)]; rfl) | (rw [World.cell?_alloc_past _ _ _ (by simp <;> omega), World.cell?_alloc_past _ _ _ (by simp <;> omega), World.cell?_alloc_at _ _ _ _ (by simp)]; rfl)
  have hb2 := (by repeat (first | exact hbel | refine belAlloc ?_ _ | refine belDrew ?_ | refine belSet ?_ _ _ (by simp)) : Below w.heap.size w (w.alloc (.cells #[.int .i64 r.t, .float .f64 r.x, .float .f64 r.y, .float .f64 r.z, .slice a L.length cap] 26)))
  replace hw := belStep hw hb2
  clear hb2 hbel
  generalize w.alloc (.cells #[.int .i64 r.t, .float .f64 r.x, .float .f64 r.y, .float .f64 r.z, .slice a L.length cap] 26) = W1 at *
  replace rw0 := keep rw0
  replace rw1 := keep rw1
  replace rw2 := keep rw2
  replace rw3 := keep rw3
  replace rw4 := keep rw4
  have hbel : Below W1.heap.size W1 W1 := Below.refl _ _
  skip
  have HRL := Lib.hid (fun u (hu : Below W1.heap.size W1 u) => HR.out.later (belStep hw hu))
  by_cases h128 : L.length ≤ 128
  rotate_left 1
  · have hd : (128 : Int) < (L.length : Int) := by omega
    have HV := Lib.hid (rightR_len (r := r) h128)
    clear h128
    go_wp2
    go_ret
    exact ⟨ret_bool HV.out.symm, hw⟩
  · have hd : ¬ (128 : Int) < (L.length : Int) := by omega
    go_wp2
    clear hd
    go_loopw [3] (fun i wr => ∃ k : Nat, k ≤ 3 ∧ i = .int .i64 k ∧ Hid (∀ j, j < k → notNaN (fl3 r.x r.y r.z j) = true) ∧ W1 = wr) (fun i _ => 3 - (intOf i).toNat)
    case atStart => exact ⟨0, by omega, rfl, Lib.hid (fun j hj => by omega), rfl⟩
    case round =>
      obtain ⟨k, hk, rfl, HF, rfl⟩ := hrel
      by_cases hlt : k < 3
      · have xk : W1.cell? ⟨w.heap.size, 1 + k, none⟩ = some (.float .f64 (fl3 r.x r.y r.z k)) := by
          match k, hlt with
          | 0, _ => exact rw1 _ hbel
          | 1, _ => exact rw2 _ hbel
          | 2, _ => exact rw3 _ hbel
        obtain ⟨f, hf⟩ : ∃ f, fl3 r.x r.y r.z k = f := ⟨_, rfl⟩
        have CK2 := Lib.hid (CK.out k)
        rw [hf] at xk CK2
        have HFE := Lib.hid hf
        clear hf
        have HNN := Lib.hid (show notNaN f = !(kindF f == 1) from rfl)
        obtain ⟨kd, hkd⟩ : ∃ kd, kindF f = kd := ⟨_, rfl⟩
        rw [hkd] at CK2 HNN
        clear hkd
        have hki : (k : Int) < 3 := by omega
        cases hb : (kd == 1) with
        | false =>
          have HN := Lib.hid (show ∀ j, j < k + 1 → notNaN (fl3 r.x r.y r.z j) = true from fun j hj => (Nat.lt_or_ge j k).elim (fun q => HF.out j q) (fun q => by rw [show j = k by omega, HFE.out, HNN.out, hb]; rfl))
          go_wp2_with (first | (go_at_call 30; (with_reducible refine (CK2.out _).mono ?_); rintro e w' ⟨rfl, rfl⟩))
          go_roundw
          case rel => exact ⟨k + 1, by omega, by push_cast; rfl, Lib.hid HN.out, by first | rfl | trivial⟩
          case measure => simp [intOf] <;> omega
        | true =>
          have HV := Lib.hid (rightR_av (L := L) (all3_no hlt (by rw [HFE.out, HNN.out, hb]; rfl)))
          go_wp2_with (first | (go_at_call 30; (with_reducible refine (CK2.out _).mono ?_); rintro e w' ⟨rfl, rfl⟩))
          go_ret
          exact ⟨ret_bool HV.out.symm, hw⟩
      · obtain rfl : k = 3 := by omega
        with_reducible rw [show ((3 : Nat) : Int) = 3 from rfl]
        have HAV := Lib.hid (all3_yes HF.out)
        clear HF
        go_wp2
        have HBL := Lib.hid hbel
        clear hbel
        go_loopw [4] (fun i wr => ∃ k : Nat, k ≤ L.length ∧ i = .int .i64 k ∧ Hid ((List.range k).all (rowOk L) = true) ∧ Below W1.heap.size W1 wr) (fun i _ => L.length - (intOf i).toNat)
        case atStart => exact ⟨0, Nat.zero_le _, rfl, Lib.hid rfl, HBL.out⟩
        case round =>
          obtain ⟨k, hk, rfl, HF, hbel⟩ := hrel
          clear hlt
          by_cases hlt : k < L.length
          · obtain ⟨x, hx⟩ : ∃ x, L[k]? = some x := ⟨L[k], List.getElem?_eq_getElem hlt⟩
            obtain ⟨bc, oc, ec, _, hcc⟩ := (HRL.out _ hbel).elem UsgV.cells_len (by omega) hx
            subst ec
            have c0 := keep (hcc 0 _ rfl)
            have c1 := keep (hcc 1 _ rfl)
            have c2 := keep (hcc 2 _ rfl)
            have c3 := keep (hcc 3 _ rfl)
            rw [Nat.add_zero] at c0
            have hd : decide ((k : Int) < (L.length : Int)) = true := decide_eq_true (by omega)
            have HX := Lib.hid hx
            have HRW := Lib.hid (rowOk_eq hx)
            have hxo := HOK.out x (List.mem_of_getElem? hx)
            obtain ⟨hx1, hx2, hx3, hx4⟩ := hxo
            have CX := Lib.hid (fun k u => ref_Kind (fl3 x.a x.b x.c k) u (fl3_in hx2 hx3 hx4 k))
            have CN := Lib.hid (fun u => pref_Named x.id u hx1)
            clear hx hcc hx1 hx2 hx3 hx4
            have HBW := Lib.hid hbel
            replace rw0 := keepOnP rw0 hbel
            replace rw1 := keepOnP rw1 hbel
            replace rw2 := keepOnP rw2 hbel
            replace rw3 := keepOnP rw3 hbel
            replace rw4 := keepOnP rw4 hbel
            replace hw := belStep hw hbel
            clear hbel
            generalize wr = W2 at *
            have hbel : Below W2.heap.size W2 W2 := Below.refl _ _
            have hbel : Below W2.heap.size W2 W2 := Below.refl _ _
            go_wp2
            go_loopw [5] (fun i wr => ∃ m : Nat, m ≤ 3 ∧ i = .int .i64 m ∧ Hid (∀ j, j < m → notNaN (fl3 x.a x.b x.c j) = true) ∧ W2 = wr) (fun i _ => 3 - (intOf i).toNat)
            case atStart => exact ⟨0, by omega, rfl, Lib.hid (fun j hj => by omega), rfl⟩
            case round =>
              obtain ⟨m, hm, rfl, HG, rfl⟩ := hrel
              by_cases hm3 : m < 3
              · have xk : W2.cell? ⟨bc, oc + k * 4 + 1 + m, none⟩ = some (.float .f64 (fl3 x.a x.b x.c m)) := by
                  match m, hm3 with
                  | 0, _ => exact c1 _ hbel
                  | 1, _ => exact c2 _ hbel
                  | 2, _ => exact c3 _ hbel
                obtain ⟨f, hf⟩ : ∃ f, fl3 x.a x.b x.c m = f := ⟨_, rfl⟩
                have CK2 := Lib.hid (CX.out m)
                rw [hf] at xk CK2
                have HFE := Lib.hid hf
                clear hf
                have HNN := Lib.hid (show notNaN f = !(kindF f == 1) from rfl)
                obtain ⟨kd, hkd⟩ : ∃ kd, kindF f = kd := ⟨_, rfl⟩
                rw [hkd] at CK2 HNN
                clear hkd
                have hmi : (m : Int) < 3 := by omega
                cases hb : (kd == 1) with
                | false =>
                  have HN := Lib.hid (show ∀ j, j < m + 1 → notNaN (fl3 x.a x.b x.c j) = true from fun j hj => (Nat.lt_or_ge j m).elim (fun q => HG.out j q) (fun q => by rw [show j = m by omega, HFE.out, HNN.out, hb]; rfl))
                  go_wp2_with (first | (go_at_call 30; (with_reducible refine (CK2.out _).mono ?_); rintro e w' ⟨rfl, rfl⟩))
                  go_roundw
                  case rel => exact ⟨m + 1, by omega, by push_cast; rfl, Lib.hid HN.out, by first | rfl | trivial⟩
                  case measure => simp [intOf] <;> omega
                | true =>
                  have HV := Lib.hid (rightR_row (r := r) hlt (by rw [HRW.out, all3_no hm3 (by rw [HFE.out, HNN.out, hb]; rfl)]; rfl))
                  go_wp2_with (first | (go_at_call 30; (with_reducible refine (CK2.out _).mono ?_); rintro e w' ⟨rfl, rfl⟩))
                  go_ret
                  exact ⟨ret_bool HV.out.symm, hw⟩
              · obtain rfl : m = 3 := by omega
                with_reducible rw [show ((3 : Nat) : Int) = 3 from rfl]
                have HAX := Lib.hid (all3_yes HG.out)
                clear HG c1 c2 c3
                go_wp2
                have HW := Lib.hid hw
                have HBL2 := Lib.hid hbel
                clear hbel hw
                go_loopw [6] (fun i wr => ∃ m : Nat, m ≤ k ∧ i = .int .i64 m ∧ Hid (hasId (L.take m) x.id = false) ∧ Below W2.heap.size W2 wr) (fun i _ => k - (intOf i).toNat)
                case atStart => exact ⟨0, Nat.zero_le _, rfl, Lib.hid rfl, HBL2.out⟩
                case round =>
                  obtain ⟨m, hm, rfl, HG, hb2⟩ := hrel
                  clear hm3 HBL2
                  by_cases hmk : m < k
                  · have hlt2 : m < L.length := by omega
                    obtain ⟨y, hy⟩ : ∃ y, L[m]? = some y := ⟨L[m], List.getElem?_eq_getElem hlt2⟩
                    obtain ⟨be, oe, ee, _, hce⟩ := (HRL.out _ (belStep HBW.out hb2)).elem UsgV.cells_len (by omega) hy
                    simp only [Option.some.injEq, Addr.mk.injEq, and_true] at ee
                    obtain ⟨rfl, rfl⟩ := ee
                    have e0 := keep (hce 0 _ rfl)
                    have e1 := keep (hce 1 _ rfl)
                    have e2 := keep (hce 2 _ rfl)
                    have e3 := keep (hce 3 _ rfl)
                    rw [Nat.add_zero] at e0
                    have hmi : (m : Int) < (k : Int) := by omega
                    have hml : (m : Int) < (L.length : Int) := by omega
                    have HN := Lib.hid (hasId_next (s := x.id) hy)
                    have HY := Lib.hid hy
                    clear hy hce
                    have hw := HW.out
                    have HB2 := Lib.hid hb2
                    have hbel := hb2
                    clear hb2
                    replace rw0 := keepOnP rw0 hbel
                    replace rw1 := keepOnP rw1 hbel
                    replace rw2 := keepOnP rw2 hbel
                    replace rw3 := keepOnP rw3 hbel
                    replace rw4 := keepOnP rw4 hbel
                    replace c0 := keepOnP c0 hbel
                    replace hw := belStep hw hbel
                    clear hbel
                    generalize wr = W3 at *
                    have hbel : Below W3.heap.size W3 W3 := Below.refl _ _
                    have hm0 : (0 : Int) ≤ (m : Int) := by omega
                    have hk0 : (0 : Int) ≤ (k : Int) := by omega
                    have hb3 : Below W2.heap.size W2 W3 := HB2.out
                    go_wp2
                    have kk := fun d os => belStep hbel (below_regrown _ d os)
                    refine wp_region_quiet_below (by kernel_rfl) (by kernel_rfl) ?_
                    repeat ((with_reducible refine wpQuiet_step (fun K hK => ?_)); go_simp; (try (rw [if_neg]; rotate_left; · decide)); first | ((with_reducible refine hK _ ?_); clear hK K) | (apply Exists.intro; refine ⟨fun _ => ?_, hK _ ?_⟩; (fail); clear hK K))
                    refine wpQuiet_nil (fun w1 hw1 => ?_)
                    replace hbel := belStep hbel (bel_of_class hw1)
                    clear hw1 kk
                    cases hq : (y.id.toList == x.id.toList) with
                    | false =>
                      have HQ := Lib.hid (show (x.id.toList == y.id.toList) = false from beq_eq_false_iff_ne.2 (fun e => by rw [e, beq_self_eq_true] at hq; cases hq))
                      go_wp2
                      go_roundw
                      case rel => exact ⟨m + 1, by omega, by push_cast; rfl, Lib.hid (by rw [HN.out, HG.out, HQ.out]; rfl), belStep HB2.out hbel⟩
                      case measure => simp [intOf] <;> omega
                    | true =>
                      have HV := Lib.hid (rightR_row (r := r) hlt (by rw [HRW.out, show hasId (L.take k) x.id = true from by unfold hasId; rw [List.any_eq_true]; exact ⟨y, List.mem_take_iff_getElem.2 ⟨m, by omega, (List.getElem?_eq_some_iff.1 HY.out).2⟩, by rw [eq_of_beq hq]; exact beq_self_eq_true _⟩]; simp))
                      go_wp2
                      go_ret
                      exact ⟨ret_bool HV.out.symm, belStep hw hbel⟩
                  · obtain rfl : m = k := by omega
                    have hw := HW.out
                    have HB2 := Lib.hid hb2
                    have hbel := hb2
                    have hml : (m : Int) < (L.length : Int) := by omega
                    obtain ⟨nm, hnm⟩ : ∃ b, nameB x.id = b := ⟨_, rfl⟩
                    have HRX := Lib.hid (show rowOk L m = nm by rw [HRW.out, HAX.out, HG.out, hnm]; rfl)
                    rw [hnm] at CN
                    clear hnm hb2
                    rcases nm with _ | _
                    · have HV := Lib.hid (rightR_row (r := r) hlt HRX.out)
                      go_wp2_with (first | (go_at_call 56; (with_reducible refine (CN.out _).mono ?_); rintro e w' ⟨rfl, rfl⟩))
                      go_ret
                      exact ⟨ret_bool HV.out.symm, belStep hw hbel⟩
                    · go_wp2_with (first | (go_at_call 56; (with_reducible refine (CN.out _).mono ?_); rintro e w' ⟨rfl, rfl⟩))
                      go_roundw
                      case rel => exact ⟨m + 1, by omega, by push_cast; rfl, Lib.hid (range_all HF.out HRX.out), belStep HBW.out HB2.out⟩
                      case measure => simp [intOf] <;> omega
          · obtain rfl : k = L.length := by omega
            have hki : ¬ (L.length : Int) < (L.length : Int) := by omega
            have HV := Lib.hid (rightR_ok h128 HAV.out HF.out)
            go_wp2
            go_ret
            exact ⟨ret_bool HV.out.symm, belStep hw hbel⟩
end Go.Proofs.Ytcgpmihjodolmaa
