
/- Stage 7: slices.Equal of thresholds: contract. Stage 7: conf.Same: contract. Stage 7: bilgeref07.Same, few: contracts. Stage 7: what is fixed: plain facts. Stage 7: what is fixed: contract. -/
import Derived.Test.YtcaenbobfneejaaGreatDoorCfRight
import Derived.Test.YtcaenbobfneejaaGreatDoorThr4
import Derived.Test.YtcaenbobfneejaaGreatDoorKrip
import Derived.Test.YtcaenbobfneejaaGreatDoorCfRead
import Derived.Test.YtcaenbobfneejaaGreatDoorCfPrint
import Derived.Test.YtcaenbobfneejaaGreatDoorLexAw
import Derived.Great.BuildSlice
namespace Go.Proofs.YtcaenbobfneejaaGreatDoor
open Go.RowKit
set_option linter.unusedVariables false
set_option linter.unusedSimpArgs false
def eqThr (t u : ThrV) : Bool := t.sig == u.sig && (t.pct == u.pct && (t.amt == u.amt && (t.soft == u.soft && t.grace == u.grace)))
def eqTs : List ThrV → List ThrV → Bool
  | [], [] => true
  | t :: L, u :: R => eqThr t u && eqTs L R
  | _, _ => false
theorem eqTs_len : ∀ {L R : List ThrV}, eqTs L R = true → L.length = R.length
  | [], [], _ => rfl
  | t :: L, u :: R, h => by
    simp only [eqTs, Bool.and_eq_true] at h
    rw [List.length_cons, List.length_cons, eqTs_len h.2]
  | [], _ :: _, h => by cases h
  | _ :: _, [], h => by cases h
theorem eqTs_take : ∀ {k : Nat} {L R : List ThrV} {x y : ThrV}, L[k]? = some x → R[k]? = some y → eqTs (L.take k) (R.take k) = true → eqTs (L.take (k + 1)) (R.take (k + 1)) = eqThr x y
  | 0, t :: L, u :: R, x, y, hx, hy, _ => by
    cases hx; cases hy
    simp [eqTs]
  | k + 1, t :: L, u :: R, x, y, hx, hy, h => by
    simp only [List.take_succ_cons, eqTs, Bool.and_eq_true] at h
    have ih := eqTs_take (k := k) (L := L) (R := R) (by simpa using hx) (by simpa using hy) h.2
    rw [List.take_succ_cons, List.take_succ_cons, eqTs, ih, h.1]; rfl
theorem eqTs_no : ∀ {k : Nat} {L R : List ThrV}, eqTs (L.take k) (R.take k) = false → eqTs L R = false
  | 0, L, R, h => by simp [eqTs] at h
  | k + 1, [], [], h => by simp [eqTs] at h
  | k + 1, [], _ :: _, _ => rfl
  | k + 1, _ :: _, [], _ => rfl
  | k + 1, t :: L, u :: R, h => by
    simp only [List.take_succ_cons, eqTs] at h ⊢
    cases e : eqThr t u
    · rfl
    · rw [e, Bool.true_and] at h
      rw [eqTs_no h]; rfl
theorem eq3C (a b c x y z : Int) (v : World) : (Op.equalIn 10000 24 (.agg #[.int .i64 a, .int .i64 b, .int .i64 c]) (.agg #[.int .i64 x, .int .i64 y, .int .i64 z])).run Tryz.prog v = .ok (a == x && (b == y && c == z)) v := by
  rw [Op.equalIn]
  simp [run_underlying Tryz.underlying24, go_sem]
  rw [show List.range' 0 3 = [0, 1, 2] from rfl]
  rcases Int.decEq a x with h1 | h1 <;> rcases Int.decEq b y with h2 | h2 <;> rcases Int.decEq c z with h3 | h3 <;> simp [List.forIn_cons, go_sem, h1, h2, h3]
def kM (c d : CfM) : Bool := c.k0 == d.k0 && (c.k1 == d.k1 && c.k2 == d.k2)
def aM (c d : CfM) : Bool := c.a0 == d.a0 && (c.a1 == d.a1 && c.a2 == d.a2)
def sameM (c d : CfM) : Bool := kM c d && aM c d && eqTs c.T d.T && decide (c.per = d.per) && decide (c.ret = d.ret) && decide (c.age = d.age) && decide (c.dead = d.dead)
theorem eqTs_refl : ∀ L : List ThrV, eqTs L L = true
  | [] => rfl
  | t :: L => by simp [eqTs, eqThr, eqTs_refl L]
theorem sameM_refl (c : CfM) : sameM c c = true := by simp [sameM, kM, aM, eqTs_refl]
set_option maxRecDepth 100000 in
set_option maxHeartbeats 16000000 in
theorem cf_eq (a b : Option Addr) (ca cb : Nat) (L R : List ThrV) (w : World) (hL : Row w a L.length ca 5 (L.flatMap ThrV.cells)) (hR : Row w b R.length cb 5 (R.flatMap ThrV.cells)) :
    Calls Tryz.prog 29 #[.slice a L.length ca, .slice b R.length cb] w fun e w' => e = .returned (.bool (eqTs L R)) ∧ Below w.heap.size w w' := by
  have hw : Below w.heap.size w w := Below.refl _ _
  have hbd_a : L.length ≤ ca ∧ ca ≤ 9223372036854775807 := by obtain ⟨_, h1, h2, _⟩ := hL; unfold maxLen at h2; exact ⟨h1, h2⟩
  have hbd_b : R.length ≤ cb ∧ cb ≤ 9223372036854775807 := by obtain ⟨_, h1, h2, _⟩ := hR; unfold maxLen at h2; exact ⟨h1, h2⟩
  obtain ⟨hba1, hba2⟩ := hbd_a
  obtain ⟨hbb1, hbb2⟩ := hbd_b
  have HL := Lib.hid hL
  have HR := Lib.hid hR
  clear hL hR
  by_cases hlen : R.length = L.length
  · rw [hlen]
    go_enter Tryz.func29, Tryz.ntmps29
    go_wp2
    go_loopw [13] (fun i wr => ∃ k : Nat, k ≤ L.length ∧ i = .int .i64 k ∧ Hid (eqTs (L.take k) (R.take k) = true) ∧ Below w.heap.size w wr) (fun i _ => L.length - (intOf i).toNat)
    case atStart => exact ⟨0, Nat.zero_le _, rfl, Lib.hid rfl, hw⟩
    case round =>
      clear hw
      obtain ⟨k, hk, rfl, HE, hbel⟩ := hrel
      by_cases hlt : k < L.length
      · have hd : decide ((k : Int) < (L.length : Int)) = true := decide_eq_true (by omega)
        have hki : (k : Int) < (L.length : Int) := by omega
        have hk0 : (0 : Int) ≤ (k : Int) := by omega
        have hltR : k < R.length := by omega
        obtain ⟨x, hx⟩ : ∃ x, L[k]? = some x := ⟨L[k], List.getElem?_eq_getElem hlt⟩
        obtain ⟨y, hy⟩ : ∃ y, R[k]? = some y := ⟨R[k], List.getElem?_eq_getElem hltR⟩
        obtain ⟨bc, oc, ec, _, hcc⟩ := (HL.out).elem ThrV.cells_len (by omega) hx
        subst ec
        obtain ⟨bd, od, ed, _, hdd⟩ := (HR.out).elem ThrV.cells_len (by omega) hy
        subst ed
        have c0 := keep (hcc 0 _ rfl)
        have c1 := keep (hcc 1 _ rfl)
        have c2 := keep (hcc 2 _ rfl)
        have c3 := keep (hcc 3 _ rfl)
        have c4 := keep (hcc 4 _ rfl)
        rw [Nat.add_zero] at c0
        have d0 := keep (hdd 0 _ rfl)
        have d1 := keep (hdd 1 _ rfl)
        have d2 := keep (hdd 2 _ rfl)
        have d3 := keep (hdd 3 _ rfl)
        have d4 := keep (hdd 4 _ rfl)
        rw [Nat.add_zero] at d0
        have hnx := eqTs_take hx hy HE.out
        obtain ⟨r, hr⟩ : ∃ r, eqThr x y = r := ⟨_, rfl⟩
        rw [hr] at hnx
        have HN := Lib.hid hnx
        have heq : ∀ u : World, (Op.equalIn 10000 54 (.agg #[.int .i64 x.sig, .int .i64 x.pct, .int .i64 x.amt, .bool x.soft, .int .i64 x.grace]) (.agg #[.int .i64 y.sig, .int .i64 y.pct, .int .i64 y.amt, .bool y.soft, .int .i64 y.grace])).run Tryz.prog u = .ok r u := fun u => by rw [← hr]; exact eq_thr x y u
        clear hx hy hcc hdd hnx hr
        have hkR : (k : Int) < (R.length : Int) := by omega
        cases r with
        | true =>
          go_upto_region 6 with fail
          refine wp_region_held_drew (S := fun u => Below wr.heap.size wr u) (by kernel_rfl) (by exact (show Below wr.heap.size wr _ by repeat (first | assumption | exact Below.refl _ _ | refine belDrew ?_ | refine belAlloc ?_ _ | refine belStep ?_ (by assumption)))) (fun hHeld => ?_)
          refine wpAnyH_take (i := 0) (oi := ?oi_k1) (v := ?v_k1) ?hi_k1 (by kernel_rfl) ?hf_k1 ?hr_k1 ?hQ_k1 (Or.inl ⟨?hw_k1, ?hy_k1⟩) (by assumption) ?rest_k1
          case hi_k1 => ((simp only [List.getElem?_toArray, List.getElem?_cons_succ, List.getElem?_cons_zero]); rfl)
          case hf_k1 => kernel_rfl
          case hr_k1 => kernel_rfl
          case hQ_k1 => exact fun _ _ _ h => h
          case hw_k1 => rfl
          case hy_k1 => ((intro w hSw; (try dsimp only at hSw); go_simp); all_goals (with_reducible rfl))
          try simp only [Act.put, List.setIfInBounds_toArray, List.set_cons_zero, List.set_cons_succ]
          refine wpAnyH_take (i := 1) (oi := ?oi_k2) (v := ?v_k2) ?hi_k2 (by kernel_rfl) ?hf_k2 ?hr_k2 ?hQ_k2 (Or.inl ⟨?hw_k2, ?hy_k2⟩) (by assumption) ?rest_k2
          case hi_k2 => ((simp only [List.getElem?_toArray, List.getElem?_cons_succ, List.getElem?_cons_zero]); rfl)
          case hf_k2 => kernel_rfl
          case hr_k2 => kernel_rfl
          case hQ_k2 => exact fun _ _ _ h => h
          case hw_k2 => rfl
          case hy_k2 => ((intro w hSw; (try dsimp only at hSw); go_simp); all_goals (with_reducible rfl))
          try simp only [Act.put, List.setIfInBounds_toArray, List.set_cons_zero, List.set_cons_succ]
          refine wpAnyH_take (i := 2) (oi := ?oi_k3) (v := ?v_k3) ?hi_k3 (by kernel_rfl) ?hf_k3 ?hr_k3 ?hQ_k3 (Or.inl ⟨?hw_k3, ?hy_k3⟩) (by assumption) ?rest_k3
          case hi_k3 => ((simp only [List.getElem?_toArray, List.getElem?_cons_succ, List.getElem?_cons_zero]); rfl)
          case hf_k3 => kernel_rfl
          case hr_k3 => kernel_rfl
          case hQ_k3 => exact fun _ _ _ h => h
          case hw_k3 => rfl
          case hy_k3 => ((intro w hSw; (try dsimp only at hSw); go_simp); all_goals (with_reducible rfl))
          try simp only [Act.put, List.setIfInBounds_toArray, List.set_cons_zero, List.set_cons_succ]
          refine wpAnyH_take (i := 3) (oi := ?oi_k4) (v := ?v_k4) ?hi_k4 (by kernel_rfl) ?hf_k4 ?hr_k4 ?hQ_k4 (Or.inl ⟨?hw_k4, ?hy_k4⟩) (by assumption) ?rest_k4
          case hi_k4 => ((simp only [List.getElem?_toArray, List.getElem?_cons_succ, List.getElem?_cons_zero]); rfl)
          case hf_k4 => kernel_rfl
          case hr_k4 => kernel_rfl
          case hQ_k4 => exact fun _ _ _ h => h
          case hw_k4 => rfl
          case hy_k4 => ((intro w hSw; (try dsimp only at hSw); have y0 := c0 w (belStep hbel hSw); have y1 := c1 w (belStep hbel hSw); have y2 := c2 w (belStep hbel hSw); have y3 := c3 w (belStep hbel hSw); have y4 := c4 w (belStep hbel hSw); go_simp); all_goals (with_reducible rfl))
          try simp only [Act.put, List.setIfInBounds_toArray, List.set_cons_zero, List.set_cons_succ]
          refine wpAnyH_take (i := 4) (oi := ?oi_k5) (v := ?v_k5) ?hi_k5 (by kernel_rfl) ?hf_k5 ?hr_k5 ?hQ_k5 (Or.inl ⟨?hw_k5, ?hy_k5⟩) (by assumption) ?rest_k5
          case hi_k5 => ((simp only [List.getElem?_toArray, List.getElem?_cons_succ, List.getElem?_cons_zero]); rfl)
          case hf_k5 => kernel_rfl
          case hr_k5 => kernel_rfl
          case hQ_k5 => exact fun _ _ _ h => h
          case hw_k5 => rfl
          case hy_k5 => ((intro w hSw; (try dsimp only at hSw); go_simp); all_goals (with_reducible rfl))
          try simp only [Act.put, List.setIfInBounds_toArray, List.set_cons_zero, List.set_cons_succ]
          refine wpAnyH_take (i := 5) (oi := ?oi_k6) (v := ?v_k6) ?hi_k6 (by kernel_rfl) ?hf_k6 ?hr_k6 ?hQ_k6 (Or.inl ⟨?hw_k6, ?hy_k6⟩) (by assumption) ?rest_k6
          case hi_k6 => ((simp only [List.getElem?_toArray, List.getElem?_cons_succ, List.getElem?_cons_zero]); rfl)
          case hf_k6 => kernel_rfl
          case hr_k6 => kernel_rfl
          case hQ_k6 => exact fun _ _ _ h => h
          case hw_k6 => rfl
          case hy_k6 => ((intro w hSw; (try dsimp only at hSw); go_simp); all_goals (with_reducible rfl))
          try simp only [Act.put, List.setIfInBounds_toArray, List.set_cons_zero, List.set_cons_succ]
          refine wpAnyH_take (i := 6) (oi := ?oi_k7) (v := ?v_k7) ?hi_k7 (by kernel_rfl) ?hf_k7 ?hr_k7 ?hQ_k7 (Or.inl ⟨?hw_k7, ?hy_k7⟩) (by assumption) ?rest_k7
          case hi_k7 => ((simp only [List.getElem?_toArray, List.getElem?_cons_succ, List.getElem?_cons_zero]); rfl)
          case hf_k7 => kernel_rfl
          case hr_k7 => kernel_rfl
          case hQ_k7 => exact fun _ _ _ h => h
          case hw_k7 => rfl
          case hy_k7 => ((intro w hSw; (try dsimp only at hSw); go_simp); all_goals (with_reducible rfl))
          try simp only [Act.put, List.setIfInBounds_toArray, List.set_cons_zero, List.set_cons_succ]
          refine wpAnyH_take (i := 7) (oi := ?oi_k8) (v := ?v_k8) ?hi_k8 (by kernel_rfl) ?hf_k8 ?hr_k8 ?hQ_k8 (Or.inl ⟨?hw_k8, ?hy_k8⟩) (by assumption) ?rest_k8
          case hi_k8 => ((simp only [List.getElem?_toArray, List.getElem?_cons_succ, List.getElem?_cons_zero]); rfl)
          case hf_k8 => kernel_rfl
          case hr_k8 => kernel_rfl
          case hQ_k8 => exact fun _ _ _ h => h
          case hw_k8 => rfl
          case hy_k8 => ((intro w hSw; (try dsimp only at hSw); have y0 := d0 w (belStep hbel hSw); have y1 := d1 w (belStep hbel hSw); have y2 := d2 w (belStep hbel hSw); have y3 := d3 w (belStep hbel hSw); have y4 := d4 w (belStep hbel hSw); go_simp); all_goals (with_reducible rfl))
          try simp only [Act.put, List.setIfInBounds_toArray, List.set_cons_zero, List.set_cons_succ]
          refine wpAnyH_take (i := 8) (oi := ?oi_k9) (v := ?v_k9) ?hi_k9 (by kernel_rfl) ?hf_k9 ?hr_k9 ?hQ_k9 (Or.inl ⟨?hw_k9, ?hy_k9⟩) (by assumption) ?rest_k9
          case hi_k9 => ((simp only [List.getElem?_toArray, List.getElem?_cons_succ, List.getElem?_cons_zero]); rfl)
          case hf_k9 => kernel_rfl
          case hr_k9 => kernel_rfl
          case hQ_k9 => exact fun _ _ _ h => h
          case hw_k9 => rfl
          case hy_k9 => ((intro w hSw; (try dsimp only at hSw); have hq := heq w; go_simp); all_goals (with_reducible rfl))
          try simp only [Act.put, List.setIfInBounds_toArray, List.set_cons_zero, List.set_cons_succ]
          refine wpAnyH_done (by kernel_rfl) ?_ _
          go_wp2
          go_roundw
          case rel => exact ⟨k + 1, by omega, by push_cast; rfl, HN, belStep hbel hHeld⟩
          case measure => simp [intOf] <;> omega
        | false =>
          go_upto_region 6 with fail
          refine wp_region_held_drew (S := fun u => Below wr.heap.size wr u) (by kernel_rfl) (by exact (show Below wr.heap.size wr _ by repeat (first | assumption | exact Below.refl _ _ | refine belDrew ?_ | refine belAlloc ?_ _ | refine belStep ?_ (by assumption)))) (fun hHeld => ?_)
          refine wpAnyH_take (i := 0) (oi := ?oi_k10) (v := ?v_k10) ?hi_k10 (by kernel_rfl) ?hf_k10 ?hr_k10 ?hQ_k10 (Or.inl ⟨?hw_k10, ?hy_k10⟩) (by assumption) ?rest_k10
          case hi_k10 => ((simp only [List.getElem?_toArray, List.getElem?_cons_succ, List.getElem?_cons_zero]); rfl)
          case hf_k10 => kernel_rfl
          case hr_k10 => kernel_rfl
          case hQ_k10 => exact fun _ _ _ h => h
          case hw_k10 => rfl
          case hy_k10 => ((intro w hSw; (try dsimp only at hSw); go_simp); all_goals (with_reducible rfl))
          try simp only [Act.put, List.setIfInBounds_toArray, List.set_cons_zero, List.set_cons_succ]
          refine wpAnyH_take (i := 1) (oi := ?oi_k11) (v := ?v_k11) ?hi_k11 (by kernel_rfl) ?hf_k11 ?hr_k11 ?hQ_k11 (Or.inl ⟨?hw_k11, ?hy_k11⟩) (by assumption) ?rest_k11
          case hi_k11 => ((simp only [List.getElem?_toArray, List.getElem?_cons_succ, List.getElem?_cons_zero]); rfl)
          case hf_k11 => kernel_rfl
          case hr_k11 => kernel_rfl
          case hQ_k11 => exact fun _ _ _ h => h
          case hw_k11 => rfl
          case hy_k11 => ((intro w hSw; (try dsimp only at hSw); go_simp); all_goals (with_reducible rfl))
          try simp only [Act.put, List.setIfInBounds_toArray, List.set_cons_zero, List.set_cons_succ]
          refine wpAnyH_take (i := 2) (oi := ?oi_k12) (v := ?v_k12) ?hi_k12 (by kernel_rfl) ?hf_k12 ?hr_k12 ?hQ_k12 (Or.inl ⟨?hw_k12, ?hy_k12⟩) (by assumption) ?rest_k12
          case hi_k12 => ((simp only [List.getElem?_toArray, List.getElem?_cons_succ, List.getElem?_cons_zero]); rfl)
          case hf_k12 => kernel_rfl
          case hr_k12 => kernel_rfl
          case hQ_k12 => exact fun _ _ _ h => h
          case hw_k12 => rfl
          case hy_k12 => ((intro w hSw; (try dsimp only at hSw); go_simp); all_goals (with_reducible rfl))
          try simp only [Act.put, List.setIfInBounds_toArray, List.set_cons_zero, List.set_cons_succ]
          refine wpAnyH_take (i := 3) (oi := ?oi_k13) (v := ?v_k13) ?hi_k13 (by kernel_rfl) ?hf_k13 ?hr_k13 ?hQ_k13 (Or.inl ⟨?hw_k13, ?hy_k13⟩) (by assumption) ?rest_k13
          case hi_k13 => ((simp only [List.getElem?_toArray, List.getElem?_cons_succ, List.getElem?_cons_zero]); rfl)
          case hf_k13 => kernel_rfl
          case hr_k13 => kernel_rfl
          case hQ_k13 => exact fun _ _ _ h => h
          case hw_k13 => rfl
          case hy_k13 => ((intro w hSw; (try dsimp only at hSw); have y0 := c0 w (belStep hbel hSw); have y1 := c1 w (belStep hbel hSw); have y2 := c2 w (belStep hbel hSw); have y3 := c3 w (belStep hbel hSw); have y4 := c4 w (belStep hbel hSw); go_simp); all_goals (with_reducible rfl))
          try simp only [Act.put, List.setIfInBounds_toArray, List.set_cons_zero, List.set_cons_succ]
          refine wpAnyH_take (i := 4) (oi := ?oi_k14) (v := ?v_k14) ?hi_k14 (by kernel_rfl) ?hf_k14 ?hr_k14 ?hQ_k14 (Or.inl ⟨?hw_k14, ?hy_k14⟩) (by assumption) ?rest_k14
          case hi_k14 => ((simp only [List.getElem?_toArray, List.getElem?_cons_succ, List.getElem?_cons_zero]); rfl)
          case hf_k14 => kernel_rfl
          case hr_k14 => kernel_rfl
          case hQ_k14 => exact fun _ _ _ h => h
          case hw_k14 => rfl
          case hy_k14 => ((intro w hSw; (try dsimp only at hSw); go_simp); all_goals (with_reducible rfl))
          try simp only [Act.put, List.setIfInBounds_toArray, List.set_cons_zero, List.set_cons_succ]
          refine wpAnyH_take (i := 5) (oi := ?oi_k15) (v := ?v_k15) ?hi_k15 (by kernel_rfl) ?hf_k15 ?hr_k15 ?hQ_k15 (Or.inl ⟨?hw_k15, ?hy_k15⟩) (by assumption) ?rest_k15
          case hi_k15 => ((simp only [List.getElem?_toArray, List.getElem?_cons_succ, List.getElem?_cons_zero]); rfl)
          case hf_k15 => kernel_rfl
          case hr_k15 => kernel_rfl
          case hQ_k15 => exact fun _ _ _ h => h
          case hw_k15 => rfl
          case hy_k15 => ((intro w hSw; (try dsimp only at hSw); go_simp); all_goals (with_reducible rfl))
          try simp only [Act.put, List.setIfInBounds_toArray, List.set_cons_zero, List.set_cons_succ]
          refine wpAnyH_take (i := 6) (oi := ?oi_k16) (v := ?v_k16) ?hi_k16 (by kernel_rfl) ?hf_k16 ?hr_k16 ?hQ_k16 (Or.inl ⟨?hw_k16, ?hy_k16⟩) (by assumption) ?rest_k16
          case hi_k16 => ((simp only [List.getElem?_toArray, List.getElem?_cons_succ, List.getElem?_cons_zero]); rfl)
          case hf_k16 => kernel_rfl
          case hr_k16 => kernel_rfl
          case hQ_k16 => exact fun _ _ _ h => h
          case hw_k16 => rfl
          case hy_k16 => ((intro w hSw; (try dsimp only at hSw); go_simp); all_goals (with_reducible rfl))
          try simp only [Act.put, List.setIfInBounds_toArray, List.set_cons_zero, List.set_cons_succ]
          refine wpAnyH_take (i := 7) (oi := ?oi_k17) (v := ?v_k17) ?hi_k17 (by kernel_rfl) ?hf_k17 ?hr_k17 ?hQ_k17 (Or.inl ⟨?hw_k17, ?hy_k17⟩) (by assumption) ?rest_k17
          case hi_k17 => ((simp only [List.getElem?_toArray, List.getElem?_cons_succ, List.getElem?_cons_zero]); rfl)
          case hf_k17 => kernel_rfl
          case hr_k17 => kernel_rfl
          case hQ_k17 => exact fun _ _ _ h => h
          case hw_k17 => rfl
          case hy_k17 => ((intro w hSw; (try dsimp only at hSw); have y0 := d0 w (belStep hbel hSw); have y1 := d1 w (belStep hbel hSw); have y2 := d2 w (belStep hbel hSw); have y3 := d3 w (belStep hbel hSw); have y4 := d4 w (belStep hbel hSw); go_simp); all_goals (with_reducible rfl))
          try simp only [Act.put, List.setIfInBounds_toArray, List.set_cons_zero, List.set_cons_succ]
          refine wpAnyH_take (i := 8) (oi := ?oi_k18) (v := ?v_k18) ?hi_k18 (by kernel_rfl) ?hf_k18 ?hr_k18 ?hQ_k18 (Or.inl ⟨?hw_k18, ?hy_k18⟩) (by assumption) ?rest_k18
          case hi_k18 => ((simp only [List.getElem?_toArray, List.getElem?_cons_succ, List.getElem?_cons_zero]); rfl)
          case hf_k18 => kernel_rfl
          case hr_k18 => kernel_rfl
          case hQ_k18 => exact fun _ _ _ h => h
          case hw_k18 => rfl
          case hy_k18 => ((intro w hSw; (try dsimp only at hSw); have hq := heq w; go_simp); all_goals (with_reducible rfl))
          try simp only [Act.put, List.setIfInBounds_toArray, List.set_cons_zero, List.set_cons_succ]
          refine wpAnyH_done (by kernel_rfl) ?_ _
          go_wp2
          go_ret
          exact ⟨congrArg (fun z => Ending.returned (.bool z)) (Eq.symm (show eqTs L R = false from eqTs_no HN.out)), belStep hbel hHeld⟩
      · obtain rfl : k = L.length := by omega
        have hd : decide ((L.length : Int) < (L.length : Int)) = false := decide_eq_false (by omega)
        go_wp2
        go_ret
        exact ⟨congrArg (fun z => Ending.returned (.bool z)) (Eq.symm (show eqTs L R = true from by have h := HE.out; rwa [List.take_length, List.take_of_length_le (by omega)] at h)), hbel⟩
  · have hne : ¬ (L.length : Int) = (R.length : Int) := by omega
    have hne2 : decide ((L.length : Int) = (R.length : Int)) = false := decide_eq_false hne
    have hne3 : ((L.length : Int) == (R.length : Int)) = false := by rw [beq_eq_false_iff_ne]; exact hne
    have hne4 : ((L.length : Int) != (R.length : Int)) = true := by simp [hne]
    have HF := Lib.hid (show eqTs L R = false from by cases e : eqTs L R; rfl; exact absurd (eqTs_len e).symm hlen)
    clear hlen
    go_enter Tryz.func29, Tryz.ntmps29
    go_wp2
    go_ret
    exact ⟨congrArg (fun z => Ending.returned (.bool z)) (Eq.symm (show eqTs L R = false from HF.out)), hw⟩
end Go.Proofs.YtcaenbobfneejaaGreatDoor
namespace Go.Proofs.YtcaenbobfneejaaGreatDoor
open Go.RowKit
set_option linter.unusedVariables false
set_option linter.unusedSimpArgs false
set_option maxRecDepth 100000 in
set_option maxHeartbeats 16000000 in
theorem cf_Same (c d : CfM) (ta tb : Option Addr) (tc td : Nat) (w : World) (hc : CfA c ta tc w) (hd : CfA d tb td w) :
    Calls Tryz.prog 11 #[.agg #[.int .i64 c.k0, .int .i64 c.k1, .int .i64 c.k2, .int .i64 c.a0, .int .i64 c.a1, .int .i64 c.a2, .slice ta c.T.length tc, .int .i64 c.per, .int .i64 c.ret, .int .i64 c.age, .int .i64 c.dead], .agg #[.int .i64 d.k0, .int .i64 d.k1, .int .i64 d.k2, .int .i64 d.a0, .int .i64 d.a1, .int .i64 d.a2, .slice tb d.T.length td, .int .i64 d.per, .int .i64 d.ret, .int .i64 d.age, .int .i64 d.dead]] w fun e w' => e = .returned (.bool (sameM c d)) ∧ Below w.heap.size w w' := by
  have hw : Below w.heap.size w w := Below.refl _ _
  have hbel := hw
  have HC := Lib.hid hc
  have HD := Lib.hid hd
  clear hc hd
  obtain ⟨e1, h1⟩ : ∃ x, kM c d = x := ⟨_, rfl⟩
  obtain ⟨e2, h2⟩ : ∃ x, aM c d = x := ⟨_, rfl⟩
  have hek : ∀ u : World, (Op.equalIn 10000 24 (.agg #[.int .i64 c.k0, .int .i64 c.k1, .int .i64 c.k2]) (.agg #[.int .i64 d.k0, .int .i64 d.k1, .int .i64 d.k2])).run Tryz.prog u = .ok e1 u := fun u => by rw [← h1]; exact eq3C _ _ _ _ _ _ u
  have hea : ∀ u : World, (Op.equalIn 10000 24 (.agg #[.int .i64 c.a0, .int .i64 c.a1, .int .i64 c.a2]) (.agg #[.int .i64 d.a0, .int .i64 d.a1, .int .i64 d.a2])).run Tryz.prog u = .ok e2 u := fun u => by rw [← h2]; exact eq3C _ _ _ _ _ _ u
  have H1 := Lib.hid h1
  have H2 := Lib.hid h2
  clear h1 h2
  go_enter Tryz.func11, Tryz.ntmps11
  go_upto_region 1 with fail
  have cc0 : ((w.alloc (.cells #[.int .i64 c.k0, .int .i64 c.k1, .int .i64 c.k2, .int .i64 c.a0, .int .i64 c.a1, .int .i64 c.a2, .slice ta c.T.length tc, .int .i64 c.per, .int .i64 c.ret, .int .i64 c.age, .int .i64 c.dead] 27)).alloc (.cells #[.int .i64 d.k0, .int .i64 d.k1, .int .i64 d.k2, .int .i64 d.a0, .int .i64 d.a1, .int .i64 d.a2, .slice tb d.T.length td, .int .i64 d.per, .int .i64 d.ret, .int .i64 d.age, .int .i64 d.dead] 27)).cell? ⟨w.heap.size, 0, none⟩ = some (.int .i64 c.k0) := by first | (simp; done) | (rw [World.cell?_alloc_at _ _ _ _ (by simp)]; rfl) | (rw [World.cell?_alloc_past _ _ _ (by simp <;> omega), World.cell?_alloc_at _ _ _ _ (by simp)]; rfl) | (rw [World.cell?_alloc_past _ _ _ (by simp <;> omega), World.cell?_alloc_past _ _ _ (by simp <;> omega), World.cell?_alloc_at _ _ _ _ (by simp)]; rfl)
  have cc1 : ((w.alloc (.cells #[.int .i64 c.k0, .int .i64 c.k1, .int .i64 c.k2, .int .i64 c.a0, .int .i64 c.a1, .int .i64 c.a2, .slice ta c.T.length tc, .int .i64 c.per, .int .i64 c.ret, .int .i64 c.age, .int .i64 c.dead] 27)).alloc (.cells #[.int .i64 d.k0, .int .i64 d.k1, .int .i64 d.k2, .int .i64 d.a0, .int .i64 d.a1, .int .i64 d.a2, .slice tb d.T.length td, .int .i64 d.per, .int .i64 d.ret, .int .i64 d.age, .int .i64 d.dead] 27)).cell? ⟨w.heap.size, 1, none⟩ = some (.int .i64 c.k1) := by first | (simp; done) | (rw [World.cell?_alloc_at _ _ _ _ (by simp)]; rfl) | (rw [World.cell?_alloc_past _ _ _ (by simp <;> omega), World.cell?_alloc_at _ _ _ _ (by simp)]; rfl) | (rw [World.cell?_alloc_past _ _ _ (by simp <;> omega), World.cell?_alloc_past _ _ _ (by simp <;> omega), World.cell?_alloc_at _ _ _ _ (by simp)]; rfl)
  have cc2 : ((w.alloc (.cells #[.int .i64 c.k0, .int .i64 c.k1, .int .i64 c.k2, .int .i64 c.a0, .int .i64 c.a1, .int .i64 c.a2, .slice ta c.T.length tc, .int .i64 c.per, .int .i64 c.ret, .int .i64 c.age, .int .i64 c.dead] 27)).alloc (.cells #[.int .i64 d.k0, .int .i64 d.k1, .int .i64 d.k2, .int .i64 d.a0, .int .i64 d.a1, .int .i64 d.a2, .slice tb d.T.length td, .int .i64 d.per, .int .i64 d.ret, .int .i64 d.age, .int .i64 d.dead] 27)).cell? ⟨w.heap.size, 2, none⟩ = some (.int .i64 c.k2) := by first | (simp; done) | (rw [World.cell?_alloc_at _ _ _ _ (by simp)]; rfl) | (rw [World.cell?_alloc_past _ _ _ (by simp <;> omega), World.cell?_alloc_at _ _ _ _ (by simp)]; rfl) | (rw [World.cell?_alloc_past _ _ _ (by simp <;> omega), World.cell?_alloc_past _ _ _ (by simp <;> omega), World.cell?_alloc_at _ _ _ _ (by simp)]; rfl)
  have cc3 : ((w.alloc (.cells #[.int .i64 c.k0, .int .i64 c.k1, .int .i64 c.k2, .int .i64 c.a0, .int .i64 c.a1, .int .i64 c.a2, .slice ta c.T.length tc, .int .i64 c.per, .int .i64 c.ret, .int .i64 c.age, .int .i64 c.dead] 27)).alloc (.cells #[.int .i64 d.k0, .int .i64 d.k1, .int .i64 d.k2, .int .i64 d.a0, .int .i64 d.a1, .int .i64 d.a2, .slice tb d.T.length td, .int .i64 d.per, .int .i64 d.ret, .int .i64 d.age, .int .i64 d.dead] 27)).cell? ⟨w.heap.size, 3, none⟩ = some (.int .i64 c.a0) := by first | (simp; done) | (rw [World.cell?_alloc_at _ _ _ _ (by simp)]; rfl) | (rw [World.cell?_alloc_past _ _ _ (by simp <;> omega), World.cell?_alloc_at _ _ _ _ (by simp)]; rfl) | (rw [World.cell?_alloc_past _ _ _ (by simp <;> omega), World.cell?_alloc_past _ _ _ (by simp <;> omega), World.cell?_alloc_at _ _ _ _ (by simp)]; rfl)
  have cc4 : ((w.alloc (.cells #[.int .i64 c.k0, .int .i64 c.k1, .int .i64 c.k2, .int .i64 c.a0, .int .i64 c.a1, .int .i64 c.a2, .slice ta c.T.length tc, .int .i64 c.per, .int .i64 c.ret, .int .i64 c.age, .int .i64 c.dead] 27)).alloc (.cells #[.int .i64 d.k0, .int .i64 d.k1, .int .i64 d.k2, .int .i64 d.a0, .int .i64 d.a1, .int .i64 d.a2, .slice tb d.T.length td, .int .i64 d.per, .int .i64 d.ret, .int .i64 d.age, .int .i64 d.dead] 27)).cell? ⟨w.heap.size, 4, none⟩ = some (.int .i64 c.a1) := by first | (simp; done) | (rw [World.cell?_alloc_at _ _ _ _ (by simp)]; rfl) | (rw [World.cell?_alloc_past _ _ _ (by simp <;> omega), World.cell?_alloc_at _ _ _ _ (by simp)]; rfl) | (rw [World.cell?_alloc_past _ _ _ (by simp <;> omega), World.cell?_alloc_past _ _ _ (by simp <;> omega), World.cell?_alloc_at _ _ _ _ (by simp)]; rfl)
  have cc5 : ((w.alloc (.cells #[.int .i64 c.k0, .int .i64 c.k1, .int .i64 c.k2, .int .i64 c.a0, .int .i64 c.a1, .int .i64 c.a2, .slice ta c.T.length tc, .int .i64 c.per, .int .i64 c.ret, .int .i64 c.age, .int .i64 c.dead] 27)).alloc (.cells #[.int .i64 d.k0, .int .i64 d.k1, .int .i64 d.k2, .int .i64 d.a0, .int .i64 d.a1, .int .i64 d.a2, .slice tb d.T.length td, .int .i64 d.per, .int .i64 d.ret, .int .i64 d.age, .int .i64 d.dead] 27)).cell? ⟨w.heap.size, 5, none⟩ = some (.int .i64 c.a2) := by first | (simp; done) | (rw [World.cell?_alloc_at _ _ _ _ (by simp)]; rfl) | (rw [World.cell?_alloc_past _ _ _ (by simp <;> omega), World.cell?_alloc_at _ _ _ _ (by simp)]; rfl) | (rw [World.cell?_alloc_past _ _ _ (by simp <;> omega), World.cell?_alloc_past _ _ _ (by simp <;> omega), World.cell?_alloc_at _ _ _ _ (by simp)]; rfl)
  have cc6 : ((w.alloc (.cells #[.int .i64 c.k0, .int .i64 c.k1, .int .i64 c.k2, .int .i64 c.a0, .int .i64 c.a1, .int .i64 c.a2, .slice ta c.T.length tc, .int .i64 c.per, .int .i64 c.ret, .int .i64 c.age, .int .i64 c.dead] 27)).alloc (.cells #[.int .i64 d.k0, .int .i64 d.k1, .int .i64 d.k2, .int .i64 d.a0, .int .i64 d.a1, .int .i64 d.a2, .slice tb d.T.length td, .int .i64 d.per, .int .i64 d.ret, .int .i64 d.age, .int .i64 d.dead] 27)).cell? ⟨w.heap.size, 6, none⟩ = some (.slice ta c.T.length tc) := by first | (simp; done) | (rw [World.cell?_alloc_at _ _ _ _ (by simp)]; rfl) | (rw [World.cell?_alloc_past _ _ _ (by simp <;> omega), World.cell?_alloc_at _ _ _ _ (by simp)]; rfl) | (rw [World.cell?_alloc_past _ _ _ (by simp <;> omega), World.cell?_alloc_past _ _ _ (by simp <;> omega), World.cell?_alloc_at _ _ _ _ (by simp)]; rfl)
  have cc7 : ((w.alloc (.cells #[.int .i64 c.k0, .int .i64 c.k1, .int .i64 c.k2, .int .i64 c.a0, .int .i64 c.a1, .int .i64 c.a2, .slice ta c.T.length tc, .int .i64 c.per, .int .i64 c.ret, .int .i64 c.age, .int .i64 c.dead] 27)).alloc (.cells #[.int .i64 d.k0, .int .i64 d.k1, .int .i64 d.k2, .int .i64 d.a0, .int .i64 d.a1, .int .i64 d.a2, .slice tb d.T.length td, .int .i64 d.per, .int .i64 d.ret, .int .i64 d.age, .int .i64 d.dead] 27)).cell? ⟨w.heap.size, 7, none⟩ = some (.int .i64 c.per) := by first | (simp; done) | (rw [World.cell?_alloc_at _ _ _ _ (by simp)]; rfl) | (rw [World.cell?_alloc_past _ _ _ (by simp <;> omega), World.cell?_alloc_at _ _ _ _ (by simp)]; rfl) | (rw [World.cell?_alloc_past _ _ _ (by simp <;> omega), World.cell?_alloc_past _ _ _ (by simp <;> omega), World.cell?_alloc_at _ _ _ _ (by simp)]; rfl)
  have cc8 : ((w.alloc (.cells #[.int .i64 c.k0, .int .i64 c.k1, .int .i64 c.k2, .int .i64 c.a0, .int .i64 c.a1, .int .i64 c.a2, .slice ta c.T.length tc, .int .i64 c.per, .int .i64 c.ret, .int .i64 c.age, .int .i64 c.dead] 27)).alloc (.cells #[.int .i64 d.k0, .int .i64 d.k1, .int .i64 d.k2, .int .i64 d.a0, .int .i64 d.a1, .int .i64 d.a2, .slice tb d.T.length td, .int .i64 d.per, .int .i64 d.ret, .int .i64 d.age, .int .i64 d.dead] 27)).cell? ⟨w.heap.size, 8, none⟩ = some (.int .i64 c.ret) := by first | (simp; done) | (rw [World.cell?_alloc_at _ _ _ _ (by simp)]; rfl) | (rw [World.cell?_alloc_past _ _ _ (by simp <;> omega), World.cell?_alloc_at _ _ _ _ (by simp)]; rfl) | (rw [World.cell?_alloc_past _ _ _ (by simp <;> omega), World.cell?_alloc_past _ _ _ (by simp <;> omega), World.cell?_alloc_at _ _ _ _ (by simp)]; rfl)
  have cc9 : ((w.alloc (.cells #[.int .i64 c.k0, .int .i64 c.k1, .int .i64 c.k2, .int .i64 c.a0, .int .i64 c.a1, .int .i64 c.a2, .slice ta c.T.length tc, .int .i64 c.per, .int .i64 c.ret, .int .i64 c.age, .int .i64 c.dead] 27)).alloc (.cells #[.int .i64 d.k0, .int .i64 d.k1, .int .i64 d.k2, .int .i64 d.a0, .int .i64 d.a1, .int .i64 d.a2, .slice tb d.T.length td, .int .i64 d.per, .int .i64 d.ret, .int .i64 d.age, .int .i64 d.dead] 27)).cell? ⟨w.heap.size, 9, none⟩ = some (.int .i64 c.age) := by first | (simp; done) | (rw [World.cell?_alloc_at _ _ _ _ (by simp)]; rfl) | (rw [World.cell?_alloc_past _ _ _ (by simp <;> omega), World.cell?_alloc_at _ _ _ _ (by simp)]; rfl) | (rw [World.cell?_alloc_past _ _ _ (by simp <;> omega), World.cell?_alloc_past _ _ _ (by simp <;> omega), World.cell?_alloc_at _ _ _ _ (by simp)]; rfl)
  have cc10 : ((w.alloc (.cells #[.int .i64 c.k0, .int .i64 c.k1, .int .i64 c.k2, .int .i64 c.a0, .int .i64 c.a1, .int .i64 c.a2, .slice ta c.T.length tc, .int .i64 c.per, .int .i64 c.ret, .int .i64 c.age, .int .i64 c.dead] 27)).alloc (.cells #[.int .i64 d.k0, .int .i64 d.k1, .int .i64 d.k2, .int .i64 d.a0, .int .i64 d.a1, .int .i64 d.a2, .slice tb d.T.length td, .int .i64 d.per, .int .i64 d.ret, .int .i64 d.age, .int .i64 d.dead] 27)).cell? ⟨w.heap.size, 10, none⟩ = some (.int .i64 c.dead) := by first | (simp; done) | (rw [World.cell?_alloc_at _ _ _ _ (by simp)]; rfl) | (rw [World.cell?_alloc_past _ _ _ (by simp <;> omega), World.cell?_alloc_at _ _ _ _ (by simp)]; rfl) | (rw [World.cell?_alloc_past _ _ _ (by simp <;> omega), World.cell?_alloc_past _ _ _ (by simp <;> omega), World.cell?_alloc_at _ _ _ _ (by simp)]; rfl)
  have dd0 : ((w.alloc (.cells #[.int .i64 c.k0, .int .i64 c.k1, .int .i64 c.k2, .int .i64 c.a0, .int .i64 c.a1, .int .i64 c.a2, .slice ta c.T.length tc, .int .i64 c.per, .int .i64 c.ret, .int .i64 c.age, .int .i64 c.dead] 27)).alloc (.cells #[.int .i64 d.k0, .int .i64 d.k1, .int .i64 d.k2, .int .i64 d.a0, .int .i64 d.a1, .int .i64 d.a2, .slice tb d.T.length td, .int .i64 d.per, .int .i64 d.ret, .int .i64 d.age, .int .i64 d.dead] 27)).cell? ⟨w.heap.size + 1, 0, none⟩ = some (.int .i64 d.k0) := by first | (simp; done) | (rw [World.cell?_alloc_at _ _ _ _ (by simp)]; rfl) | (rw [World.cell?_alloc_past _ _ _ (by simp <;> omega), World.cell?_alloc_at _ _ _ _ (by simp)]; rfl) | (rw [World.cell?_alloc_past _ _ _ (by simp <;> omega), World.cell?_alloc_past _ _ _ (by simp <;> omega), World.cell?_alloc_at _ _ _ _ (by simp)]; rfl)
  have dd1 : ((w.alloc (.cells #[.int .i64 c.k0, .int .i64 c.k1, .int .i64 c.k2, .int .i64 c.a0, .int .i64 c.a1, .int .i64 c.a2, .slice ta c.T.length tc, .int .i64 c.per, .int .i64 c.ret, .int .i64 c.age, .int .i64 c.dead] 27)).alloc (.cells #[.int .i64 d.k0, .int .i64 d.k1, .int .i64 d.k2, .int .i64 d.a0, .int .i64 d.a1, .int .i64 d.a2, .slice tb d.T.length td, .int .i64 d.per, .int .i64 d.ret, .int .i64 d.age, .int .i64 d.dead] 27)).cell? ⟨w.heap.size + 1, 1, none⟩ = some (.int .i64 d.k1) := by first | (simp; done) | (rw [World.cell?_alloc_at _ _ _ _ (by simp)]; rfl) | (rw [World.cell?_alloc_past _ _ _ (by simp <;> omega), World.cell?_alloc_at _ _ _ _ (by simp)]; rfl) | (rw [World.cell?_alloc_past _ _ _ (by simp <;> omega), World.cell?_alloc_past _ _ _ (by simp <;> omega), World.cell?_alloc_at _ _ _ _ (by simp)]; rfl)
  have dd2 : ((w.alloc (.cells #[.int .i64 c.k0, .int .i64 c.k1, .int .i64 c.k2, .int .i64 c.a0, .int .i64 c.a1, .int .i64 c.a2, .slice ta c.T.length tc, .int .i64 c.per, .int .i64 c.ret, .int .i64 c.age, .int .i64 c.dead] 27)).alloc (.cells #[.int .i64 d.k0, .int .i64 d.k1, .int .i64 d.k2, .int .i64 d.a0, .int .i64 d.a1, .int .i64 d.a2, .slice tb d.T.length td, .int .i64 d.per, .int .i64 d.ret, .int .i64 d.age, .int .i64 d.dead] 27)).cell? ⟨w.heap.size + 1, 2, none⟩ = some (.int .i64 d.k2) := by first | (simp; done) | (rw [World.cell?_alloc_at _ _ _ _ (by simp)]; rfl) | (rw [World.cell?_alloc_past _ _ _ (by simp <;> omega), World.cell?_alloc_at _ _ _ _ (by simp)]; rfl) | (rw [World.cell?_alloc_past _ _ _ (by simp <;> omega), World.cell?_alloc_past _ _ _ (by simp <;> omega), World.cell?_alloc_at _ _ _ _ (by simp)]; rfl)
  have dd3 : ((w.alloc (.cells #[.int .i64 c.k0, .int .i64 c.k1, .int .i64 c.k2, .int .i64 c.a0, .int .i64 c.a1, .int .i64 c.a2, .slice ta c.T.length tc, .int .i64 c.per, .int .i64 c.ret, .int .i64 c.age, .int .i64 c.dead] 27)).alloc (.cells #[.int .i64 d.k0, .int .i64 d.k1, .int .i64 d.k2, .int .i64 d.a0, .int .i64 d.a1, .int .i64 d.a2, .slice tb d.T.length td, .int .i64 d.per, .int .i64 d.ret, .int .i64 d.age, .int .i64 d.dead] 27)).cell? ⟨w.heap.size + 1, 3, none⟩ = some (.int .i64 d.a0) := by first | (simp; done) | (rw [World.cell?_alloc_at _ _ _ _ (by simp)]; rfl) | (rw [World.cell?_alloc_past _ _ _ (by simp <;> omega), World.cell?_alloc_at _ _ _ _ (by simp)]; rfl) | (rw [World.cell?_alloc_past _ _ _ (by simp <;> omega), World.cell?_alloc_past _ _ _ (by simp <;> omega), World.cell?_alloc_at _ _ _ _ (by simp)]; rfl)
  have dd4 : ((w.alloc (.cells #[.int .i64 c.k0, .int .i64 c.k1, .int .i64 c.k2, .int .i64 c.a0, .int .i64 c.a1, .int .i64 c.a2, .slice ta c.T.length tc, .int .i64 c.per, .int .i64 c.ret, .int .i64 c.age, .int .i64 c.dead] 27)).alloc (.cells #[.int .i64 d.k0, .int .i64 d.k1, .int .i64 d.k2, .int .i64 d.a0, .int .i64 d.a1, .int .i64 d.a2, .slice tb d.T.length td, .int .i64 d.per, .int .i64 d.ret, .int .i64 d.age, .int .i64 d.dead] 27)).cell? ⟨w.heap.size + 1, 4, none⟩ = some (.int .i64 d.a1) := by first | (simp; done) | (rw [World.cell?_alloc_at _ _ _ _ (by simp)]; rfl) | (rw [World.cell?_alloc_past _ _ _ (by simp <;> omega), World.cell?_alloc_at _ _ _ _ (by simp)]; rfl) | (rw [World.cell?_alloc_past _ _ _ (by simp <;> omega), World.cell?_alloc_past _ _ _ (by simp <;> omega), World.cell?_alloc_at _ _ _ _ (by simp)]; rfl)
  have dd5 : ((w.alloc (.cells #[.int .i64 c.k0, .int .i64 c.k1, .int .i64 c.k2, .int .i64 c.a0, .int .i64 c.a1, .int .i64 c.a2, .slice ta c.T.length tc, .int .i64 c.per, .int .i64 c.ret, .int .i64 c.age, .int .i64 c.dead] 27)).alloc (.cells #[.int .i64 d.k0, .int .i64 d.k1, .int .i64 d.k2, .int .i64 d.a0, .int .i64 d.a1, .int .i64 d.a2, .slice tb d.T.length td, .int .i64 d.per, .int .i64 d.ret, .int .i64 d.age, .int .i64 d.dead] 27)).cell? ⟨w.heap.size + 1, 5, none⟩ = some (.int .i64 d.a2) := by first | (simp; done) | (rw [World.cell?_alloc_at _ _ _ _ (by simp)]; rfl) | (rw [World.cell?_alloc_past _ _ _ (by simp <;> omega), World.cell?_alloc_at _ _ _ _ (by simp)]; rfl) | (rw [World.cell?_alloc_past _ _ _ (by simp <;> omega), World.cell?_alloc_past _ _ _ (by simp <;> omega), World.cell?_alloc_at _ _ _ _ (by simp)]; rfl)
  have dd6 : ((w.alloc (.cells #[.int .i64 c.k0, .int .i64 c.k1, .int .i64 c.k2, .int .i64 c.a0, .int .i64 c.a1, .int .i64 c.a2, .slice ta c.T.length tc, .int .i64 c.per, .int .i64 c.ret, .int .i64 c.age, .int .i64 c.dead] 27)).alloc (.cells #[.int .i64 d.k0, .int .i64 d.k1, .int .i64 d.k2, .int .i64 d.a0, .int .i64 d.a1, .int .i64 d.a2, .slice tb d.T.length td, .int .i64 d.per, .int .i64 d.ret, .int .i64 d.age, .int .i64 d.dead] 27)).cell? ⟨w.heap.size + 1, 6, none⟩ = some (.slice tb d.T.length td) := by first | (simp; done) | (rw [World.cell?_alloc_at _ _ _ _ (by simp)]; rfl) | (rw [World.cell?_alloc_past _ _ _ (by simp <;> omega), World.cell?_alloc_at _ _ _ _ (by simp)]; rfl) | (rw [World.cell?_alloc_past _ _ _ (by simp <;> omega), World.cell?_alloc_past _ _ _ (by simp <;> omega), World.cell?_alloc_at _ _ _ _ (by simp)]; rfl)
  have dd7 : ((w.alloc (.cells #[.int .i64 c.k0, .int .i64 c.k1, .int .i64 c.k2, .int .i64 c.a0, .int .i64 c.a1, .int .i64 c.a2, .slice ta c.T.length tc, .int .i64 c.per, .int .i64 c.ret, .int .i64 c.age, .int .i64 c.dead] 27)).alloc (.cells #[.int .i64 d.k0, .int .i64 d.k1, .int .i64 d.k2, .int .i64 d.a0, .int .i64 d.a1, .int .i64 d.a2, .slice tb d.T.length td, .int .i64 d.per, .int .i64 d.ret, .int .i64 d.age, .int .i64 d.dead] 27)).cell? ⟨w.heap.size + 1, 7, none⟩ = some (.int .i64 d.per) := by first | (simp; done) | (rw [World.cell?_alloc_at _ _ _ _ (by simp)]; rfl) | (rw [World.cell?_alloc_past _ _ _ (by simp <;> omega), World.cell?_alloc_at _ _ _ _ (by simp)]; rfl) | (rw [World.cell?_alloc_past _ _ _ (by simp <;> omega), World.cell?_alloc_past _ _ _ (by simp <;> omega), World.cell?_alloc_at _ _ _ _ (by simp)]; rfl)
  have dd8 : ((w.alloc (.cells #[.int .i64 c.k0, .int .i64 c.k1, .int .i64 c.k2, .int .i64 c.a0, .int .i64 c.a1, .int .i64 c.a2, .slice ta c.T.length tc, .int .i64 c.per, .int .i64 c.ret, .int .i64 c.age, .int .i64 c.dead] 27)).alloc (.cells #[.int .i64 d.k0, .int .i64 d.k1, .int .i64 d.k2, .int .i64 d.a0, .int .i64 d.a1, .int .i64 d.a2, .slice tb d.T.length td, .int .i64 d.per, .int .i64 d.ret, .int .i64 d.age, .int .i64 d.dead] 27)).cell? ⟨w.heap.size + 1, 8, none⟩ = some (.int .i64 d.ret) := by first | (simp; done) | (rw [World.cell?_alloc_at _ _ _ _ (by simp)]; rfl) | (rw [World.cell?_alloc_past _ _ _ (by simp <;> omega), World.cell?_alloc_at _ _ _ _ (by simp)]; rfl) | (rw [World.cell?_alloc_past _ _ _ (by simp <;> omega), World.cell?_alloc_past _ _ _ (by simp <;> omega), World.cell?_alloc_at _ _ _ _ (by simp)]; rfl)
  have dd9 : ((w.alloc (.cells #[.int .i64 c.k0, .int .i64 c.k1, .int .i64 c.k2, .int .i64 c.a0, .int .i64 c.a1, .int .i64 c.a2, .slice ta c.T.length tc, .int .i64 c.per, .int .i64 c.ret, .int .i64 c.age, .int .i64 c.dead] 27)).alloc (.cells #[.int .i64 d.k0, .int .i64 d.k1, .int .i64 d.k2, .int .i64 d.a0, .int .i64 d.a1, .int .i64 d.a2, .slice tb d.T.length td, .int .i64 d.per, .int .i64 d.ret, .int .i64 d.age, .int .i64 d.dead] 27)).cell? ⟨w.heap.size + 1, 9, none⟩ = some (.int .i64 d.age) := by first | (simp; done) | (rw [World.cell?_alloc_at _ _ _ _ (by simp)]; rfl) | (rw [World.cell?_alloc_past _ _ _ (by simp <;> omega), World.cell?_alloc_at _ _ _ _ (by simp)]; rfl) | (rw [World.cell?_alloc_past _ _ _ (by simp <;> omega), World.cell?_alloc_past _ _ _ (by simp <;> omega), World.cell?_alloc_at _ _ _ _ (by simp)]; rfl)
  have dd10 : ((w.alloc (.cells #[.int .i64 c.k0, .int .i64 c.k1, .int .i64 c.k2, .int .i64 c.a0, .int .i64 c.a1, .int .i64 c.a2, .slice ta c.T.length tc, .int .i64 c.per, .int .i64 c.ret, .int .i64 c.age, .int .i64 c.dead] 27)).alloc (.cells #[.int .i64 d.k0, .int .i64 d.k1, .int .i64 d.k2, .int .i64 d.a0, .int .i64 d.a1, .int .i64 d.a2, .slice tb d.T.length td, .int .i64 d.per, .int .i64 d.ret, .int .i64 d.age, .int .i64 d.dead] 27)).cell? ⟨w.heap.size + 1, 10, none⟩ = some (.int .i64 d.dead) := by first | (simp; done) | (rw [World.cell?_alloc_at _ _ _ _ (by simp)]; rfl) | (rw [World.cell?_alloc_past _ _ _ (by simp <;> omega), World.cell?_alloc_at _ _ _ _ (by simp)]; rfl) | (rw [World.cell?_alloc_past _ _ _ (by simp <;> omega), World.cell?_alloc_past _ _ _ (by simp <;> omega), World.cell?_alloc_at _ _ _ _ (by simp)]; rfl)
  have hb2 := (by repeat (first | exact hbel | refine belAlloc ?_ _ | refine belDrew ?_ | refine belSet ?_ _ _ (by simp)) : Below w.heap.size w ((w.alloc (.cells #[.int .i64 c.k0, .int .i64 c.k1, .int .i64 c.k2, .int .i64 c.a0, .int .i64 c.a1, .int .i64 c.a2, .slice ta c.T.length tc, .int .i64 c.per, .int .i64 c.ret, .int .i64 c.age, .int .i64 c.dead] 27)).alloc (.cells #[.int .i64 d.k0, .int .i64 d.k1, .int .i64 d.k2, .int .i64 d.a0, .int .i64 d.a1, .int .i64 d.a2, .slice tb d.T.length td, .int .i64 d.per, .int .i64 d.ret, .int .i64 d.age, .int .i64 d.dead] 27)))
  replace hw := belStep hw hb2
  clear hb2 hbel
  generalize (w.alloc (.cells #[.int .i64 c.k0, .int .i64 c.k1, .int .i64 c.k2, .int .i64 c.a0, .int .i64 c.a1, .int .i64 c.a2, .slice ta c.T.length tc, .int .i64 c.per, .int .i64 c.ret, .int .i64 c.age, .int .i64 c.dead] 27)).alloc (.cells #[.int .i64 d.k0, .int .i64 d.k1, .int .i64 d.k2, .int .i64 d.a0, .int .i64 d.a1, .int .i64 d.a2, .slice tb d.T.length td, .int .i64 d.per, .int .i64 d.ret, .int .i64 d.age, .int .i64 d.dead] 27) = W1 at *
  replace cc0 := keep cc0
  replace cc1 := keep cc1
  replace cc2 := keep cc2
  replace cc3 := keep cc3
  replace cc4 := keep cc4
  replace cc5 := keep cc5
  replace cc6 := keep cc6
  replace cc7 := keep cc7
  replace cc8 := keep cc8
  replace cc9 := keep cc9
  replace cc10 := keep cc10
  replace dd0 := keep dd0
  replace dd1 := keep dd1
  replace dd2 := keep dd2
  replace dd3 := keep dd3
  replace dd4 := keep dd4
  replace dd5 := keep dd5
  replace dd6 := keep dd6
  replace dd7 := keep dd7
  replace dd8 := keep dd8
  replace dd9 := keep dd9
  replace dd10 := keep dd10
  have hbel : Below W1.heap.size W1 W1 := Below.refl _ _
  skip
  have HW := Lib.hid hw
  have HC1 := Lib.hid (HC.out.later hw)
  have HD1 := Lib.hid (HD.out.later hw)
  clear hw HC HD
  obtain ⟨e3, h3⟩ : ∃ x, eqTs c.T d.T = x := ⟨_, rfl⟩
  have CE := Lib.hid (fun u (hu : Below W1.heap.size W1 u) => cf_eq ta tb tc td c.T d.T u (HC1.out.row.later hu) (HD1.out.row.later hu))
  rw [h3] at CE
  have H3 := Lib.hid h3
  clear h3
  cases e1 with
  | false =>
    go_wp2_with (go_at_call 29; (with_reducible refine (CE.out _ hbel).mono ?_); rintro e w3 ⟨rfl, hb3⟩; replace hbel := belStep hbel hb3; clear hb3)
    go_ret
    exact ⟨congrArg (fun z => Ending.returned (.bool z)) (Eq.symm (show sameM c d = false from by unfold sameM; simp [H1.out, H2.out, H3.out, *])), belStep HW.out hbel⟩
  | true =>
    cases e2 with
    | false =>
      go_wp2_with (go_at_call 29; (with_reducible refine (CE.out _ hbel).mono ?_); rintro e w3 ⟨rfl, hb3⟩; replace hbel := belStep hbel hb3; clear hb3)
      go_ret
      exact ⟨congrArg (fun z => Ending.returned (.bool z)) (Eq.symm (show sameM c d = false from by unfold sameM; simp [H1.out, H2.out, H3.out, *])), belStep HW.out hbel⟩
    | true =>
      cases e3 with
      | false =>
        go_wp2_with (go_at_call 29; (with_reducible refine (CE.out _ hbel).mono ?_); rintro e w3 ⟨rfl, hb3⟩; replace hbel := belStep hbel hb3; clear hb3)
        go_ret
        exact ⟨congrArg (fun z => Ending.returned (.bool z)) (Eq.symm (show sameM c d = false from by unfold sameM; simp [H1.out, H2.out, H3.out, *])), belStep HW.out hbel⟩
      | true =>
        by_cases q0 : c.per = d.per
        · have p0 : (c.per == d.per) = true := by rw [q0]; simp
          by_cases q1 : c.ret = d.ret
          · have p1 : (c.ret == d.ret) = true := by rw [q1]; simp
            by_cases q2 : c.age = d.age
            · have p2 : (c.age == d.age) = true := by rw [q2]; simp
              by_cases q3 : c.dead = d.dead
              · have p3 : (c.dead == d.dead) = true := by rw [q3]; simp
                go_wp2_with (go_at_call 29; (with_reducible refine (CE.out _ hbel).mono ?_); rintro e w3 ⟨rfl, hb3⟩; replace hbel := belStep hbel hb3; clear hb3)
                go_ret
                exact ⟨congrArg (fun z => Ending.returned (.bool z)) (Eq.symm (show sameM c d = true from by unfold sameM; simp [H1.out, H2.out, H3.out, *])), belStep HW.out hbel⟩
              · have p3 : (c.dead == d.dead) = false := by rw [beq_eq_false_iff_ne]; exact q3
                go_wp2_with (go_at_call 29; (with_reducible refine (CE.out _ hbel).mono ?_); rintro e w3 ⟨rfl, hb3⟩; replace hbel := belStep hbel hb3; clear hb3)
                go_ret
                exact ⟨congrArg (fun z => Ending.returned (.bool z)) (Eq.symm (show sameM c d = false from by unfold sameM; simp [H1.out, H2.out, H3.out, *])), belStep HW.out hbel⟩
            · have p2 : (c.age == d.age) = false := by rw [beq_eq_false_iff_ne]; exact q2
              go_wp2_with (go_at_call 29; (with_reducible refine (CE.out _ hbel).mono ?_); rintro e w3 ⟨rfl, hb3⟩; replace hbel := belStep hbel hb3; clear hb3)
              go_ret
              exact ⟨congrArg (fun z => Ending.returned (.bool z)) (Eq.symm (show sameM c d = false from by unfold sameM; simp [H1.out, H2.out, H3.out, *])), belStep HW.out hbel⟩
          · have p1 : (c.ret == d.ret) = false := by rw [beq_eq_false_iff_ne]; exact q1
            go_wp2_with (go_at_call 29; (with_reducible refine (CE.out _ hbel).mono ?_); rintro e w3 ⟨rfl, hb3⟩; replace hbel := belStep hbel hb3; clear hb3)
            go_ret
            exact ⟨congrArg (fun z => Ending.returned (.bool z)) (Eq.symm (show sameM c d = false from by unfold sameM; simp [H1.out, H2.out, H3.out, *])), belStep HW.out hbel⟩
        · have p0 : (c.per == d.per) = false := by rw [beq_eq_false_iff_ne]; exact q0
          go_wp2_with (go_at_call 29; (with_reducible refine (CE.out _ hbel).mono ?_); rintro e w3 ⟨rfl, hb3⟩; replace hbel := belStep hbel hb3; clear hb3)
          go_ret
          exact ⟨congrArg (fun z => Ending.returned (.bool z)) (Eq.symm (show sameM c d = false from by unfold sameM; simp [H1.out, H2.out, H3.out, *])), belStep HW.out hbel⟩
end Go.Proofs.YtcaenbobfneejaaGreatDoor
namespace Go.Proofs.YtcaenbobfneejaaGreatDoor
open Go.RowKit
set_option linter.unusedVariables false
set_option linter.unusedSimpArgs false
set_option maxRecDepth 100000 in
set_option maxHeartbeats 16000000 in
theorem rf_Same7 (c d : CfM) (ta tb : Option Addr) (tc td : Nat) (w : World) (hc : CfA c ta tc w) (hd : CfA d tb td w) :
    Calls Tryz.prog 7 #[.agg #[.int .i64 c.k0, .int .i64 c.k1, .int .i64 c.k2, .int .i64 c.a0, .int .i64 c.a1, .int .i64 c.a2, .slice ta c.T.length tc, .int .i64 c.per, .int .i64 c.ret, .int .i64 c.age, .int .i64 c.dead], .agg #[.int .i64 d.k0, .int .i64 d.k1, .int .i64 d.k2, .int .i64 d.a0, .int .i64 d.a1, .int .i64 d.a2, .slice tb d.T.length td, .int .i64 d.per, .int .i64 d.ret, .int .i64 d.age, .int .i64 d.dead]] w fun e w' => e = .returned (.bool (sameM c d)) ∧ Below w.heap.size w w' := by
  have hw : Below w.heap.size w w := Below.refl _ _
  have hbel := hw
  have HC := Lib.hid hc
  have HD := Lib.hid hd
  clear hc hd
  obtain ⟨e1, h1⟩ : ∃ x, kM c d = x := ⟨_, rfl⟩
  obtain ⟨e2, h2⟩ : ∃ x, aM c d = x := ⟨_, rfl⟩
  have hek : ∀ u : World, (Op.equalIn 10000 24 (.agg #[.int .i64 c.k0, .int .i64 c.k1, .int .i64 c.k2]) (.agg #[.int .i64 d.k0, .int .i64 d.k1, .int .i64 d.k2])).run Tryz.prog u = .ok e1 u := fun u => by rw [← h1]; exact eq3C _ _ _ _ _ _ u
  have hea : ∀ u : World, (Op.equalIn 10000 24 (.agg #[.int .i64 c.a0, .int .i64 c.a1, .int .i64 c.a2]) (.agg #[.int .i64 d.a0, .int .i64 d.a1, .int .i64 d.a2])).run Tryz.prog u = .ok e2 u := fun u => by rw [← h2]; exact eq3C _ _ _ _ _ _ u
  have H1 := Lib.hid h1
  have H2 := Lib.hid h2
  clear h1 h2
  go_enter Tryz.func7, Tryz.ntmps7
  go_upto_region 1 with fail
  have cc0 : ((w.alloc (.cells #[.int .i64 c.k0, .int .i64 c.k1, .int .i64 c.k2, .int .i64 c.a0, .int .i64 c.a1, .int .i64 c.a2, .slice ta c.T.length tc, .int .i64 c.per, .int .i64 c.ret, .int .i64 c.age, .int .i64 c.dead] 27)).alloc (.cells #[.int .i64 d.k0, .int .i64 d.k1, .int .i64 d.k2, .int .i64 d.a0, .int .i64 d.a1, .int .i64 d.a2, .slice tb d.T.length td, .int .i64 d.per, .int .i64 d.ret, .int .i64 d.age, .int .i64 d.dead] 27)).cell? ⟨w.heap.size, 0, none⟩ = some (.int .i64 c.k0) := by first | (simp; done) | (rw [World.cell?_alloc_at _ _ _ _ (by simp)]; rfl) | (rw [World.cell?_alloc_past _ _ _ (by simp <;> omega), World.cell?_alloc_at _ _ _ _ (by simp)]; rfl) | (rw [World.cell?_alloc_past _ _ _ (by simp <;> omega), World.cell?_alloc_past _ _ _ (by simp <;> omega), World.cell?_alloc_at _ _ _ _ (by simp)]; rfl)
  have cc1 : ((w.alloc (.cells #[.int .i64 c.k0, .int .i64 c.k1, .int .i64 c.k2, .int .i64 c.a0, .int .i64 c.a1, .int .i64 c.a2, .slice ta c.T.length tc, .int .i64 c.per, .int .i64 c.ret, .int .i64 c.age, .int .i64 c.dead] 27)).alloc (.cells #[.int .i64 d.k0, .int .i64 d.k1, .int .i64 d.k2, .int .i64 d.a0, .int .i64 d.a1, .int .i64 d.a2, .slice tb d.T.length td, .int .i64 d.per, .int .i64 d.ret, .int .i64 d.age, .int .i64 d.dead] 27)).cell? ⟨w.heap.size, 1, none⟩ = some (.int .i64 c.k1) := by first | (simp; done) | (rw [World.cell?_alloc_at _ _ _ _ (by simp)]; rfl) | (rw [World.cell?_alloc_past _ _ _ (by simp <;> omega), World.cell?_alloc_at _ _ _ _ (by simp)]; rfl) | (rw [World.cell?_alloc_past _ _ _ (by simp <;> omega), World.cell?_alloc_past _ _ _ (by simp <;> omega), World.cell?_alloc_at _ _ _ _ (by simp)]; rfl)
  have cc2 : ((w.alloc (.cells #[.int .i64 c.k0, .int .i64 c.k1, .int .i64 c.k2, .int .i64 c.a0, .int .i64 c.a1, .int .i64 c.a2, .slice ta c.T.length tc, .int .i64 c.per, .int .i64 c.ret, .int .i64 c.age, .int .i64 c.dead] 27)).alloc (.cells #[.int .i64 d.k0, .int .i64 d.k1, .int .i64 d.k2, .int .i64 d.a0, .int .i64 d.a1, .int .i64 d.a2, .slice tb d.T.length td, .int .i64 d.per, .int .i64 d.ret, .int .i64 d.age, .int .i64 d.dead] 27)).cell? ⟨w.heap.size, 2, none⟩ = some (.int .i64 c.k2) := by first | (simp; done) | (rw [World.cell?_alloc_at _ _ _ _ (by simp)]; rfl) | (rw [World.cell?_alloc_past _ _ _ (by simp <;> omega), World.cell?_alloc_at _ _ _ _ (by simp)]; rfl) | (rw [World.cell?_alloc_past _ _ _ (by simp <;> omega), World.cell?_alloc_past _ _ _ (by simp <;> omega), World.cell?_alloc_at _ _ _ _ (by simp)]; rfl)
  have cc3 : ((w.alloc (.cells #[.int .i64 c.k0, .int .i64 c.k1, .int .i64 c.k2, .int .i64 c.a0, .int .i64 c.a1, .int .i64 c.a2, .slice ta c.T.length tc, .int .i64 c.per, .int .i64 c.ret, .int .i64 c.age, .int .i64 c.dead] 27)).alloc (.cells #[.int .i64 d.k0, .int .i64 d.k1, .int .i64 d.k2, .int .i64 d.a0, .int .i64 d.a1, .int .i64 d.a2, .slice tb d.T.length td, .int .i64 d.per, .int .i64 d.ret, .int .i64 d.age, .int .i64 d.dead] 27)).cell? ⟨w.heap.size, 3, none⟩ = some (.int .i64 c.a0) := by first | (simp; done) | (rw [World.cell?_alloc_at _ _ _ _ (by simp)]; rfl) | (rw [World.cell?_alloc_past _ _ _ (by simp <;> omega), World.cell?_alloc_at _ _ _ _ (by simp)]; rfl) | (rw [World.cell?_alloc_past _ _ _ (by simp <;> omega), World.cell?_alloc_past _ _ _ (by simp <;> omega), World.cell?_alloc_at _ _ _ _ (by simp)]; rfl)
  have cc4 : ((w.alloc (.cells #[.int .i64 c.k0, .int .i64 c.k1, .int .i64 c.k2, .int .i64 c.a0, .int .i64 c.a1, .int .i64 c.a2, .slice ta c.T.length tc, .int .i64 c.per, .int .i64 c.ret, .int .i64 c.age, .int .i64 c.dead] 27)).alloc (.cells #[.int .i64 d.k0, .int .i64 d.k1, .int .i64 d.k2, .int .i64 d.a0, .int .i64 d.a1, .int .i64 d.a2, .slice tb d.T.length td, .int .i64 d.per, .int .i64 d.ret, .int .i64 d.age, .int .i64 d.dead] 27)).cell? ⟨w.heap.size, 4, none⟩ = some (.int .i64 c.a1) := by first | (simp; done) | (rw [World.cell?_alloc_at _ _ _ _ (by simp)]; rfl) | (rw [World.cell?_alloc_past _ _ _ (by simp <;> omega), World.cell?_alloc_at _ _ _ _ (by simp)]; rfl) | (rw [World.cell?_alloc_past _ _ _ (by simp <;> omega), World.cell?_alloc_past _ _ _ (by simp <;> omega), World.cell?_alloc_at _ _ _ _ (by simp)]; rfl)
  have cc5 : ((w.alloc (.cells #[.int .i64 c.k0, .int .i64 c.k1, .int .i64 c.k2, .int .i64 c.a0, .int .i64 c.a1, .int .i64 c.a2, .slice ta c.T.length tc, .int .i64 c.per, .int .i64 c.ret, .int .i64 c.age, .int .i64 c.dead] 27)).alloc (.cells #[.int .i64 d.k0, .int .i64 d.k1, .int .i64 d.k2, .int .i64 d.a0, .int .i64 d.a1, .int .i64 d.a2, .slice tb d.T.length td, .int .i64 d.per, .int .i64 d.ret, .int .i64 d.age, .int .i64 d.dead] 27)).cell? ⟨w.heap.size, 5, none⟩ = some (.int .i64 c.a2) := by first | (simp; done) | (rw [World.cell?_alloc_at _ _ _ _ (by simp)]; rfl) | (rw [World.cell?_alloc_past _ _ _ (by simp <;> omega), World.cell?_alloc_at _ _ _ _ (by simp)]; rfl) | (rw [World.cell?_alloc_past _ _ _ (by simp <;> omega), World.cell?_alloc_past _ _ _ (by simp <;> omega), World.cell?_alloc_at _ _ _ _ (by simp)]; rfl)
  have cc6 : ((w.alloc (.cells #[.int .i64 c.k0, .int .i64 c.k1, .int .i64 c.k2, .int .i64 c.a0, .int .i64 c.a1, .int .i64 c.a2, .slice ta c.T.length tc, .int .i64 c.per, .int .i64 c.ret, .int .i64 c.age, .int .i64 c.dead] 27)).alloc (.cells #[.int .i64 d.k0, .int .i64 d.k1, .int .i64 d.k2, .int .i64 d.a0, .int .i64 d.a1, .int .i64 d.a2, .slice tb d.T.length td, .int .i64 d.per, .int .i64 d.ret, .int .i64 d.age, .int .i64 d.dead] 27)).cell? ⟨w.heap.size, 6, none⟩ = some (.slice ta c.T.length tc) := by first | (simp; done) | (rw [World.cell?_alloc_at _ _ _ _ (by simp)]; rfl) | (rw [World.cell?_alloc_past _ _ _ (by simp <;> omega), World.cell?_alloc_at _ _ _ _ (by simp)]; rfl) | (rw [World.cell?_alloc_past _ _ _ (by simp <;> omega), World.cell?_alloc_past _ _ _ (by simp <;> omega), World.cell?_alloc_at _ _ _ _ (by simp)]; rfl)
  have cc7 : ((w.alloc (.cells #[.int .i64 c.k0, .int .i64 c.k1, .int .i64 c.k2, .int .i64 c.a0, .int .i64 c.a1, .int .i64 c.a2, .slice ta c.T.length tc, .int .i64 c.per, .int .i64 c.ret, .int .i64 c.age, .int .i64 c.dead] 27)).alloc (.cells #[.int .i64 d.k0, .int .i64 d.k1, .int .i64 d.k2, .int .i64 d.a0, .int .i64 d.a1, .int .i64 d.a2, .slice tb d.T.length td, .int .i64 d.per, .int .i64 d.ret, .int .i64 d.age, .int .i64 d.dead] 27)).cell? ⟨w.heap.size, 7, none⟩ = some (.int .i64 c.per) := by first | (simp; done) | (rw [World.cell?_alloc_at _ _ _ _ (by simp)]; rfl) | (rw [World.cell?_alloc_past _ _ _ (by simp <;> omega), World.cell?_alloc_at _ _ _ _ (by simp)]; rfl) | (rw [World.cell?_alloc_past _ _ _ (by simp <;> omega), World.cell?_alloc_past _ _ _ (by simp <;> omega), World.cell?_alloc_at _ _ _ _ (by simp)]; rfl)
  have cc8 : ((w.alloc (.cells #[.int .i64 c.k0, .int .i64 c.k1, .int .i64 c.k2, .int .i64 c.a0, .int .i64 c.a1, .int .i64 c.a2, .slice ta c.T.length tc, .int .i64 c.per, .int .i64 c.ret, .int .i64 c.age, .int .i64 c.dead] 27)).alloc (.cells #[.int .i64 d.k0, .int .i64 d.k1, .int .i64 d.k2, .int .i64 d.a0, .int .i64 d.a1, .int .i64 d.a2, .slice tb d.T.length td, .int .i64 d.per, .int .i64 d.ret, .int .i64 d.age, .int .i64 d.dead] 27)).cell? ⟨w.heap.size, 8, none⟩ = some (.int .i64 c.ret) := by first | (simp; done) | (rw [World.cell?_alloc_at _ _ _ _ (by simp)]; rfl) | (rw [World.cell?_alloc_past _ _ _ (by simp <;> omega), World.cell?_alloc_at _ _ _ _ (by simp)]; rfl) | (rw [World.cell?_alloc_past _ _ _ (by simp <;> omega), World.cell?_alloc_past _ _ _ (by simp <;> omega), World.cell?_alloc_at _ _ _ _ (by simp)]; rfl)
  have cc9 : ((w.alloc (.cells #[.int .i64 c.k0, .int .i64 c.k1, .int .i64 c.k2, .int .i64 c.a0, .int .i64 c.a1, .int .i64 c.a2, .slice ta c.T.length tc, .int .i64 c.per, .int .i64 c.ret, .int .i64 c.age, .int .i64 c.dead] 27)).alloc (.cells #[.int .i64 d.k0, .int .i64 d.k1, .int .i64 d.k2, .int .i64 d.a0, .int .i64 d.a1, .int .i64 d.a2, .slice tb d.T.length td, .int .i64 d.per, .int .i64 d.ret, .int .i64 d.age, .int .i64 d.dead] 27)).cell? ⟨w.heap.size, 9, none⟩ = some (.int .i64 c.age) := by first | (simp; done) | (rw [World.cell?_alloc_at _ _ _ _ (by simp)]; rfl) | (rw [World.cell?_alloc_past _ _ _ (by simp <;> omega), World.cell?_alloc_at _ _ _ _ (by simp)]; rfl) | (rw [World.cell?_alloc_past _ _ _ (by simp <;> omega), World.cell?_alloc_past _ _ _ (by simp <;> omega), World.cell?_alloc_at _ _ _ _ (by simp)]; rfl)
  have cc10 : ((w.alloc (.cells #[.int .i64 c.k0, .int .i64 c.k1, .int .i64 c.k2, .int .i64 c.a0, .int .i64 c.a1, .int .i64 c.a2, .slice ta c.T.length tc, .int .i64 c.per, .int .i64 c.ret, .int .i64 c.age, .int .i64 c.dead] 27)).alloc (.cells #[.int .i64 d.k0, .int .i64 d.k1, .int .i64 d.k2, .int .i64 d.a0, .int .i64 d.a1, .int .i64 d.a2, .slice tb d.T.length td, .int .i64 d.per, .int .i64 d.ret, .int .i64 d.age, .int .i64 d.dead] 27)).cell? ⟨w.heap.size, 10, none⟩ = some (.int .i64 c.dead) := by first | (simp; done) | (rw [World.cell?_alloc_at _ _ _ _ (by simp)]; rfl) | (rw [World.cell?_alloc_past _ _ _ (by simp <;> omega), World.cell?_alloc_at _ _ _ _ (by simp)]; rfl) | (rw [World.cell?_alloc_past _ _ _ (by simp <;> omega), World.cell?_alloc_past _ _ _ (by simp <;> omega), World.cell?_alloc_at _ _ _ _ (by simp)]; rfl)
  have dd0 : ((w.alloc (.cells #[.int .i64 c.k0, .int .i64 c.k1, .int .i64 c.k2, .int .i64 c.a0, .int .i64 c.a1, .int .i64 c.a2, .slice ta c.T.length tc, .int .i64 c.per, .int .i64 c.ret, .int .i64 c.age, .int .i64 c.dead] 27)).alloc (.cells #[.int .i64 d.k0, .int .i64 d.k1, .int .i64 d.k2, .int .i64 d.a0, .int .i64 d.a1, .int .i64 d.a2, .slice tb d.T.length td, .int .i64 d.per, .int .i64 d.ret, .int .i64 d.age, .int .i64 d.dead] 27)).cell? ⟨w.heap.size + 1, 0, none⟩ = some (.int .i64 d.k0) := by first | (simp; done) | (rw [World.cell?_alloc_at _ _ _ _ (by simp)]; rfl) | (rw [World.cell?_alloc_past _ _ _ (by simp <;> omega), World.cell?_alloc_at _ _ _ _ (by simp)]; rfl) | (rw [World.cell?_alloc_past _ _ _ (by simp <;> omega), World.cell?_alloc_past _ _ _ (by simp <;> omega), World.cell?_alloc_at _ _ _ _ (by simp)]; rfl)
  have dd1 : ((w.alloc (.cells #[.int .i64 c.k0, .int .i64 c.k1, .int .i64 c.k2, .int .i64 c.a0, .int .i64 c.a1, .int .i64 c.a2, .slice ta c.T.length tc, .int .i64 c.per, .int .i64 c.ret, .int .i64 c.age, .int .i64 c.dead] 27)).alloc (.cells #[.int .i64 d.k0, .int .i64 d.k1, .int .i64 d.k2, .int .i64 d.a0, .int .i64 d.a1, .int .i64 d.a2, .slice tb d.T.length td, .int .i64 d.per, .int .i64 d.ret, .int .i64 d.age, .int .i64 d.dead] 27)).cell? ⟨w.heap.size + 1, 1, none⟩ = some (.int .i64 d.k1) := by first | (simp; done) | (rw [World.cell?_alloc_at _ _ _ _ (by simp)]; rfl) | (rw [World.cell?_alloc_past _ _ _ (by simp <;> omega), World.cell?_alloc_at _ _ _ _ (by simp)]; rfl) | (rw [World.cell?_alloc_past _ _ _ (by simp <;> omega), World.cell?_alloc_past _ _ _ (by simp <;> omega), World.cell?_alloc_at _ _ _ _ (by simp)]; rfl)
  have dd2 : ((w.alloc (.cells #[.int .i64 c.k0, .int .i64 c.k1, .int .i64 c.k2, .int .i64 c.a0, .int .i64 c.a1, .int .i64 c.a2, .slice ta c.T.length tc, .int .i64 c.per, .int .i64 c.ret, .int .i64 c.age, .int .i64 c.dead] 27)).alloc (.cells #[.int .i64 d.k0, .int .i64 d.k1, .int .i64 d.k2, .int .i64 d.a0, .int .i64 d.a1, .int .i64 d.a2, .slice tb d.T.length td, .int .i64 d.per, .int .i64 d.ret, .int .i64 d.age, .int .i64 d.dead] 27)).cell? ⟨w.heap.size + 1, 2, none⟩ = some (.int .i64 d.k2) := by first | (simp; done) | (rw [World.cell?_alloc_at _ _ _ _ (by simp)]; rfl) | (rw [World.cell?_alloc_past _ _ _ (by simp <;> omega), World.cell?_alloc_at _ _ _ _ (by simp)]; rfl) | (rw [World.cell?_alloc_past _ _ _ (by simp <;> omega), World.cell?_alloc_past _ _ _ (by simp <;> omega), World.cell?_alloc_at _ _ _ _ (by simp)]; rfl)
  have dd3 : ((w.alloc (.cells #[.int .i64 c.k0, .int .i64 c.k1, .int .i64 c.k2, .int .i64 c.a0, .int .i64 c.a1, .int .i64 c.a2, .slice ta c.T.length tc, .int .i64 c.per, .int .i64 c.ret, .int .i64 c.age, .int .i64 c.dead] 27)).alloc (.cells #[.int .i64 d.k0, .int .i64 d.k1, .int .i64 d.k2, .int .i64 d.a0, .int .i64 d.a1, .int .i64 d.a2, .slice tb d.T.length td, .int .i64 d.per, .int .i64 d.ret, .int .i64 d.age, .int .i64 d.dead] 27)).cell? ⟨w.heap.size + 1, 3, none⟩ = some (.int .i64 d.a0) := by first | (simp; done) | (rw [World.cell?_alloc_at _ _ _ _ (by simp)]; rfl) | (rw [World.cell?_alloc_past _ _ _ (by simp <;> omega), World.cell?_alloc_at _ _ _ _ (by simp)]; rfl) | (rw [World.cell?_alloc_past _ _ _ (by simp <;> omega), World.cell?_alloc_past _ _ _ (by simp <;> omega), World.cell?_alloc_at _ _ _ _ (by simp)]; rfl)
  have dd4 : ((w.alloc (.cells #[.int .i64 c.k0, .int .i64 c.k1, .int .i64 c.k2, .int .i64 c.a0, .int .i64 c.a1, .int .i64 c.a2, .slice ta c.T.length tc, .int .i64 c.per, .int .i64 c.ret, .int .i64 c.age, .int .i64 c.dead] 27)).alloc (.cells #[.int .i64 d.k0, .int .i64 d.k1, .int .i64 d.k2, .int .i64 d.a0, .int .i64 d.a1, .int .i64 d.a2, .slice tb d.T.length td, .int .i64 d.per, .int .i64 d.ret, .int .i64 d.age, .int .i64 d.dead] 27)).cell? ⟨w.heap.size + 1, 4, none⟩ = some (.int .i64 d.a1) := by first | (simp; done) | (rw [World.cell?_alloc_at _ _ _ _ (by simp)]; rfl) | (rw [World.cell?_alloc_past _ _ _ (by simp <;> omega), World.cell?_alloc_at _ _ _ _ (by simp)]; rfl) | (rw [World.cell?_alloc_past _ _ _ (by simp <;> omega), World.cell?_alloc_past _ _ _ (by simp <;> omega), World.cell?_alloc_at _ _ _ _ (by simp)]; rfl)
  have dd5 : ((w.alloc (.cells #[.int .i64 c.k0, .int .i64 c.k1, .int .i64 c.k2, .int .i64 c.a0, .int .i64 c.a1, .int .i64 c.a2, .slice ta c.T.length tc, .int .i64 c.per, .int .i64 c.ret, .int .i64 c.age, .int .i64 c.dead] 27)).alloc (.cells #[.int .i64 d.k0, .int .i64 d.k1, .int .i64 d.k2, .int .i64 d.a0, .int .i64 d.a1, .int .i64 d.a2, .slice tb d.T.length td, .int .i64 d.per, .int .i64 d.ret, .int .i64 d.age, .int .i64 d.dead] 27)).cell? ⟨w.heap.size + 1, 5, none⟩ = some (.int .i64 d.a2) := by first | (simp; done) | (rw [World.cell?_alloc_at _ _ _ _ (by simp)]; rfl) | (rw [World.cell?_alloc_past _ _ _ (by simp <;> omega), World.cell?_alloc_at _ _ _ _ (by simp)]; rfl) | (rw [World.cell?_alloc_past _ _ _ (by simp <;> omega), World.cell?_alloc_past _ _ _ (by simp <;> omega), World.cell?_alloc_at _ _ _ _ (by simp)]; rfl)
  have dd6 : ((w.alloc (.cells #[.int .i64 c.k0, .int .i64 c.k1, .int .i64 c.k2, .int .i64 c.a0, .int .i64 c.a1, .int .i64 c.a2, .slice ta c.T.length tc, .int .i64 c.per, .int .i64 c.ret, .int .i64 c.age, .int .i64 c.dead] 27)).alloc (.cells #[.int .i64 d.k0, .int .i64 d.k1, .int .i64 d.k2, .int .i64 d.a0, .int .i64 d.a1, .int .i64 d.a2, .slice tb d.T.length td, .int .i64 d.per, .int .i64 d.ret, .int .i64 d.age, .int .i64 d.dead] 27)).cell? ⟨w.heap.size + 1, 6, none⟩ = some (.slice tb d.T.length td) := by first | (simp; done) | (rw [World.cell?_alloc_at _ _ _ _ (by simp)]; rfl) | (rw [World.cell?_alloc_past _ _ _ (by simp <;> omega), World.cell?_alloc_at _ _ _ _ (by simp)]; rfl) | (rw [World.cell?_alloc_past _ _ _ (by simp <;> omega), World.cell?_alloc_past _ _ _ (by simp <;> omega), World.cell?_alloc_at _ _ _ _ (by simp)]; rfl)
  have dd7 : ((w.alloc (.cells #[.int .i64 c.k0, .int .i64 c.k1, .int .i64 c.k2, .int .i64 c.a0, .int .i64 c.a1, .int .i64 c.a2, .slice ta c.T.length tc, .int .i64 c.per, .int .i64 c.ret, .int .i64 c.age, .int .i64 c.dead] 27)).alloc (.cells #[.int .i64 d.k0, .int .i64 d.k1, .int .i64 d.k2, .int .i64 d.a0, .int .i64 d.a1, .int .i64 d.a2, .slice tb d.T.length td, .int .i64 d.per, .int .i64 d.ret, .int .i64 d.age, .int .i64 d.dead] 27)).cell? ⟨w.heap.size + 1, 7, none⟩ = some (.int .i64 d.per) := by first | (simp; done) | (rw [World.cell?_alloc_at _ _ _ _ (by simp)]; rfl) | (rw [World.cell?_alloc_past _ _ _ (by simp <;> omega), World.cell?_alloc_at _ _ _ _ (by simp)]; rfl) | (rw [World.cell?_alloc_past _ _ _ (by simp <;> omega), World.cell?_alloc_past _ _ _ (by simp <;> omega), World.cell?_alloc_at _ _ _ _ (by simp)]; rfl)
  have dd8 : ((w.alloc (.cells #[.int .i64 c.k0, .int .i64 c.k1, .int .i64 c.k2, .int .i64 c.a0, .int .i64 c.a1, .int .i64 c.a2, .slice ta c.T.length tc, .int .i64 c.per, .int .i64 c.ret, .int .i64 c.age, .int .i64 c.dead] 27)).alloc (.cells #[.int .i64 d.k0, .int .i64 d.k1, .int .i64 d.k2, .int .i64 d.a0, .int .i64 d.a1, .int .i64 d.a2, .slice tb d.T.length td, .int .i64 d.per, .int .i64 d.ret, .int .i64 d.age, .int .i64 d.dead] 27)).cell? ⟨w.heap.size + 1, 8, none⟩ = some (.int .i64 d.ret) := by first | (simp; done) | (rw [World.cell?_alloc_at _ _ _ _ (by simp)]; rfl) | (rw [World.cell?_alloc_past _ _ _ (by simp <;> omega), World.cell?_alloc_at _ _ _ _ (by simp)]; rfl) | (rw [World.cell?_alloc_past _ _ _ (by simp <;> omega), World.cell?_alloc_past _ _ _ (by simp <;> omega), World.cell?_alloc_at _ _ _ _ (by simp)]; rfl)
  have dd9 : ((w.alloc (.cells #[.int .i64 c.k0, .int .i64 c.k1, .int .i64 c.k2, .int .i64 c.a0, .int .i64 c.a1, .int .i64 c.a2, .slice ta c.T.length tc, .int .i64 c.per, .int .i64 c.ret, .int .i64 c.age, .int .i64 c.dead] 27)).alloc (.cells #[.int .i64 d.k0, .int .i64 d.k1, .int .i64 d.k2, .int .i64 d.a0, .int .i64 d.a1, .int .i64 d.a2, .slice tb d.T.length td, .int .i64 d.per, .int .i64 d.ret, .int .i64 d.age, .int .i64 d.dead] 27)).cell? ⟨w.heap.size + 1, 9, none⟩ = some (.int .i64 d.age) := by first | (simp; done) | (rw [World.cell?_alloc_at _ _ _ _ (by simp)]; rfl) | (rw [World.cell?_alloc_past _ _ _ (by simp <;> omega), World.cell?_alloc_at _ _ _ _ (by simp)]; rfl) | (rw [World.cell?_alloc_past _ _ _ (by simp <;> omega), World.cell?_alloc_past _ _ _ (by simp <;> omega), World.cell?_alloc_at _ _ _ _ (by simp)]; rfl)
  have dd10 : ((w.alloc (.cells #[.int .i64 c.k0, .int .i64 c.k1, .int .i64 c.k2, .int .i64 c.a0, .int .i64 c.a1, .int .i64 c.a2, .slice ta c.T.length tc, .int .i64 c.per, .int .i64 c.ret, .int .i64 c.age, .int .i64 c.dead] 27)).alloc (.cells #[.int .i64 d.k0, .int .i64 d.k1, .int .i64 d.k2, .int .i64 d.a0, .int .i64 d.a1, .int .i64 d.a2, .slice tb d.T.length td, .int .i64 d.per, .int .i64 d.ret, .int .i64 d.age, .int .i64 d.dead] 27)).cell? ⟨w.heap.size + 1, 10, none⟩ = some (.int .i64 d.dead) := by first | (simp; done) | (rw [World.cell?_alloc_at _ _ _ _ (by simp)]; rfl) | (rw [World.cell?_alloc_past _ _ _ (by simp <;> omega), World.cell?_alloc_at _ _ _ _ (by simp)]; rfl) | (rw [World.cell?_alloc_past _ _ _ (by simp <;> omega), World.cell?_alloc_past _ _ _ (by simp <;> omega), World.cell?_alloc_at _ _ _ _ (by simp)]; rfl)
  have hb2 := (by repeat (first | exact hbel | refine belAlloc ?_ _ | refine belDrew ?_ | refine belSet ?_ _ _ (by simp)) : Below w.heap.size w ((w.alloc (.cells #[.int .i64 c.k0, .int .i64 c.k1, .int .i64 c.k2, .int .i64 c.a0, .int .i64 c.a1, .int .i64 c.a2, .slice ta c.T.length tc, .int .i64 c.per, .int .i64 c.ret, .int .i64 c.age, .int .i64 c.dead] 27)).alloc (.cells #[.int .i64 d.k0, .int .i64 d.k1, .int .i64 d.k2, .int .i64 d.a0, .int .i64 d.a1, .int .i64 d.a2, .slice tb d.T.length td, .int .i64 d.per, .int .i64 d.ret, .int .i64 d.age, .int .i64 d.dead] 27)))
  replace hw := belStep hw hb2
  clear hb2 hbel
  generalize (w.alloc (.cells #[.int .i64 c.k0, .int .i64 c.k1, .int .i64 c.k2, .int .i64 c.a0, .int .i64 c.a1, .int .i64 c.a2, .slice ta c.T.length tc, .int .i64 c.per, .int .i64 c.ret, .int .i64 c.age, .int .i64 c.dead] 27)).alloc (.cells #[.int .i64 d.k0, .int .i64 d.k1, .int .i64 d.k2, .int .i64 d.a0, .int .i64 d.a1, .int .i64 d.a2, .slice tb d.T.length td, .int .i64 d.per, .int .i64 d.ret, .int .i64 d.age, .int .i64 d.dead] 27) = W1 at *
  replace cc0 := keep cc0
  replace cc1 := keep cc1
  replace cc2 := keep cc2
  replace cc3 := keep cc3
  replace cc4 := keep cc4
  replace cc5 := keep cc5
  replace cc6 := keep cc6
  replace cc7 := keep cc7
  replace cc8 := keep cc8
  replace cc9 := keep cc9
  replace cc10 := keep cc10
  replace dd0 := keep dd0
  replace dd1 := keep dd1
  replace dd2 := keep dd2
  replace dd3 := keep dd3
  replace dd4 := keep dd4
  replace dd5 := keep dd5
  replace dd6 := keep dd6
  replace dd7 := keep dd7
  replace dd8 := keep dd8
  replace dd9 := keep dd9
  replace dd10 := keep dd10
  have hbel : Below W1.heap.size W1 W1 := Below.refl _ _
  skip
  have HW := Lib.hid hw
  have HC1 := Lib.hid (HC.out.later hw)
  have HD1 := Lib.hid (HD.out.later hw)
  clear hw HC HD
  cases e1 with
  | false =>
    go_wp2
    go_ret
    exact ⟨congrArg (fun z => Ending.returned (.bool z)) (Eq.symm (show sameM c d = false from by unfold sameM; simp [H1.out, H2.out, *])), HW.out⟩
  | true =>
    cases e2 with
    | false =>
      go_wp2
      go_ret
      exact ⟨congrArg (fun z => Ending.returned (.bool z)) (Eq.symm (show sameM c d = false from by unfold sameM; simp [H1.out, H2.out, *])), HW.out⟩
    | true =>
      by_cases hlen : d.T.length = c.T.length
      · have hly : (c.T.length : Int) = (d.T.length : Int) := by omega
        have hly3 : ((c.T.length : Int) == (d.T.length : Int)) = true := by rw [hly]; simp
        have hly4 : ((c.T.length : Int) != (d.T.length : Int)) = false := by rw [hly]; simp
        have hbd_a : c.T.length ≤ tc ∧ tc ≤ 9223372036854775807 := by obtain ⟨_, h1, h2, _⟩ := HC1.out.row; unfold maxLen at h2; exact ⟨h1, h2⟩
        have hbd_b : d.T.length ≤ td ∧ td ≤ 9223372036854775807 := by obtain ⟨_, h1, h2, _⟩ := HD1.out.row; unfold maxLen at h2; exact ⟨h1, h2⟩
        obtain ⟨hba1, hba2⟩ := hbd_a
        obtain ⟨hbb1, hbb2⟩ := hbd_b
        have HL := Lib.hid HC1.out.row
        have HR := Lib.hid HD1.out.row
        by_cases q0 : c.per = d.per
        · have p0 : (c.per == d.per) = true := by rw [q0]; simp
          have n0 : (c.per != d.per) = false := by rw [q0]; simp
          by_cases q1 : c.ret = d.ret
          · have p1 : (c.ret == d.ret) = true := by rw [q1]; simp
            have n1 : (c.ret != d.ret) = false := by rw [q1]; simp
            by_cases q2 : c.age = d.age
            · have p2 : (c.age == d.age) = true := by rw [q2]; simp
              have n2 : (c.age != d.age) = false := by rw [q2]; simp
              by_cases q3 : c.dead = d.dead
              · have p3 : (c.dead == d.dead) = true := by rw [q3]; simp
                have n3 : (c.dead != d.dead) = false := by rw [q3]; simp
                go_wp2
                have HP := Lib.hid (And.intro q0 (And.intro q1 (And.intro q2 q3)))
                clear q0 q1 q2 q3 p0 p1 p2 p3 n0 n1 n2 n3
                clear hbel
                go_loopw [5] (fun i wr => ∃ k : Nat, k ≤ c.T.length ∧ i = .int .i64 k ∧ Hid (eqTs (c.T.take k) (d.T.take k) = true) ∧ Below W1.heap.size W1 wr) (fun i _ => c.T.length - (intOf i).toNat)
                case atStart => exact ⟨0, Nat.zero_le _, rfl, Lib.hid rfl, Below.refl _ _⟩
                case round =>
                  obtain ⟨k, hk, rfl, HE, hbel⟩ := hrel
                  by_cases hlt : k < c.T.length
                  · have hlen2 := hlen
                    have hd : decide ((k : Int) < (c.T.length : Int)) = true := decide_eq_true (by omega)
                    have hki : (k : Int) < (c.T.length : Int) := by omega
                    have hk0 : (0 : Int) ≤ (k : Int) := by omega
                    have hltR : k < d.T.length := by omega
                    obtain ⟨x, hx⟩ : ∃ x, c.T[k]? = some x := ⟨c.T[k], List.getElem?_eq_getElem hlt⟩
                    obtain ⟨y, hy⟩ : ∃ y, d.T[k]? = some y := ⟨d.T[k], List.getElem?_eq_getElem hltR⟩
                    obtain ⟨bc, oc, ec, _, hcc⟩ := (HL.out).elem ThrV.cells_len (by omega) hx
                    subst ec
                    obtain ⟨bd, od, ed, _, hdd⟩ := (HR.out).elem ThrV.cells_len (by omega) hy
                    subst ed
                    have c0 := keep (hcc 0 _ rfl)
                    have c1 := keep (hcc 1 _ rfl)
                    have c2 := keep (hcc 2 _ rfl)
                    have c3 := keep (hcc 3 _ rfl)
                    have c4 := keep (hcc 4 _ rfl)
                    rw [Nat.add_zero] at c0
                    have d0 := keep (hdd 0 _ rfl)
                    have d1 := keep (hdd 1 _ rfl)
                    have d2 := keep (hdd 2 _ rfl)
                    have d3 := keep (hdd 3 _ rfl)
                    have d4 := keep (hdd 4 _ rfl)
                    rw [Nat.add_zero] at d0
                    have hnx := eqTs_take hx hy HE.out
                    obtain ⟨r, hr⟩ : ∃ r, eqThr x y = r := ⟨_, rfl⟩
                    rw [hr] at hnx
                    have HN := Lib.hid hnx
                    have heq : ∀ u : World, (Op.equalIn 10000 54 (.agg #[.int .i64 x.sig, .int .i64 x.pct, .int .i64 x.amt, .bool x.soft, .int .i64 x.grace]) (.agg #[.int .i64 y.sig, .int .i64 y.pct, .int .i64 y.amt, .bool y.soft, .int .i64 y.grace])).run Tryz.prog u = .ok r u := fun u => by rw [← hr]; exact eq_thr x y u
                    clear hx hy hcc hdd hnx hr
                    have hkR : (k : Int) < (d.T.length : Int) := by omega
                    cases r with
                    | true =>
                      go_upto_region 6 with fail
                      refine wp_region_held_drew (S := fun u => Below wr.heap.size wr u) (by kernel_rfl) (by exact (show Below wr.heap.size wr _ by repeat (first | assumption | exact Below.refl _ _ | refine belDrew ?_ | refine belAlloc ?_ _ | refine belStep ?_ (by assumption)))) (fun hHeld => ?_)
                      refine wpAnyH_take (i := 0) (oi := ?oi_k1) (v := ?v_k1) ?hi_k1 (by kernel_rfl) ?hf_k1 ?hr_k1 ?hQ_k1 (Or.inl ⟨?hw_k1, ?hy_k1⟩) (by assumption) ?rest_k1
                      case hi_k1 => ((simp only [List.getElem?_toArray, List.getElem?_cons_succ, List.getElem?_cons_zero]); rfl)
                      case hf_k1 => kernel_rfl
                      case hr_k1 => kernel_rfl
                      case hQ_k1 => exact fun _ _ _ h => h
                      case hw_k1 => rfl
                      case hy_k1 => ((intro w hSw; (try dsimp only at hSw); go_simp); all_goals (with_reducible rfl))
                      try simp only [Act.put, List.setIfInBounds_toArray, List.set_cons_zero, List.set_cons_succ]
                      refine wpAnyH_take (i := 1) (oi := ?oi_k2) (v := ?v_k2) ?hi_k2 (by kernel_rfl) ?hf_k2 ?hr_k2 ?hQ_k2 (Or.inl ⟨?hw_k2, ?hy_k2⟩) (by assumption) ?rest_k2
                      case hi_k2 => ((simp only [List.getElem?_toArray, List.getElem?_cons_succ, List.getElem?_cons_zero]); rfl)
                      case hf_k2 => kernel_rfl
                      case hr_k2 => kernel_rfl
                      case hQ_k2 => exact fun _ _ _ h => h
                      case hw_k2 => rfl
                      case hy_k2 => ((intro w hSw; (try dsimp only at hSw); have y6 := cc6 w (belStep hbel hSw); go_simp); all_goals (with_reducible rfl))
                      try simp only [Act.put, List.setIfInBounds_toArray, List.set_cons_zero, List.set_cons_succ]
                      refine wpAnyH_take (i := 2) (oi := ?oi_k3) (v := ?v_k3) ?hi_k3 (by kernel_rfl) ?hf_k3 ?hr_k3 ?hQ_k3 (Or.inl ⟨?hw_k3, ?hy_k3⟩) (by assumption) ?rest_k3
                      case hi_k3 => ((simp only [List.getElem?_toArray, List.getElem?_cons_succ, List.getElem?_cons_zero]); rfl)
                      case hf_k3 => kernel_rfl
                      case hr_k3 => kernel_rfl
                      case hQ_k3 => exact fun _ _ _ h => h
                      case hw_k3 => rfl
                      case hy_k3 => ((intro w hSw; (try dsimp only at hSw); go_simp); all_goals (with_reducible rfl))
                      try simp only [Act.put, List.setIfInBounds_toArray, List.set_cons_zero, List.set_cons_succ]
                      refine wpAnyH_take (i := 3) (oi := ?oi_k4) (v := ?v_k4) ?hi_k4 (by kernel_rfl) ?hf_k4 ?hr_k4 ?hQ_k4 (Or.inl ⟨?hw_k4, ?hy_k4⟩) (by assumption) ?rest_k4
                      case hi_k4 => ((simp only [List.getElem?_toArray, List.getElem?_cons_succ, List.getElem?_cons_zero]); rfl)
                      case hf_k4 => kernel_rfl
                      case hr_k4 => kernel_rfl
                      case hQ_k4 => exact fun _ _ _ h => h
                      case hw_k4 => rfl
                      case hy_k4 => ((intro w hSw; (try dsimp only at hSw); go_simp); all_goals (with_reducible rfl))
                      try simp only [Act.put, List.setIfInBounds_toArray, List.set_cons_zero, List.set_cons_succ]
                      refine wpAnyH_take (i := 4) (oi := ?oi_k5) (v := ?v_k5) ?hi_k5 (by kernel_rfl) ?hf_k5 ?hr_k5 ?hQ_k5 (Or.inl ⟨?hw_k5, ?hy_k5⟩) (by assumption) ?rest_k5
                      case hi_k5 => ((simp only [List.getElem?_toArray, List.getElem?_cons_succ, List.getElem?_cons_zero]); rfl)
                      case hf_k5 => kernel_rfl
                      case hr_k5 => kernel_rfl
                      case hQ_k5 => exact fun _ _ _ h => h
                      case hw_k5 => rfl
                      case hy_k5 => ((intro w hSw; (try dsimp only at hSw); have y0 := c0 w (belStep hbel hSw); have y1 := c1 w (belStep hbel hSw); have y2 := c2 w (belStep hbel hSw); have y3 := c3 w (belStep hbel hSw); have y4 := c4 w (belStep hbel hSw); go_simp); all_goals (with_reducible rfl))
                      try simp only [Act.put, List.setIfInBounds_toArray, List.set_cons_zero, List.set_cons_succ]
                      refine wpAnyH_take (i := 5) (oi := ?oi_k6) (v := ?v_k6) ?hi_k6 (by kernel_rfl) ?hf_k6 ?hr_k6 ?hQ_k6 (Or.inl ⟨?hw_k6, ?hy_k6⟩) (by assumption) ?rest_k6
                      case hi_k6 => ((simp only [List.getElem?_toArray, List.getElem?_cons_succ, List.getElem?_cons_zero]); rfl)
                      case hf_k6 => kernel_rfl
                      case hr_k6 => kernel_rfl
                      case hQ_k6 => exact fun _ _ _ h => h
                      case hw_k6 => rfl
                      case hy_k6 => ((intro w hSw; (try dsimp only at hSw); go_simp); all_goals (with_reducible rfl))
                      try simp only [Act.put, List.setIfInBounds_toArray, List.set_cons_zero, List.set_cons_succ]
                      refine wpAnyH_take (i := 6) (oi := ?oi_k7) (v := ?v_k7) ?hi_k7 (by kernel_rfl) ?hf_k7 ?hr_k7 ?hQ_k7 (Or.inl ⟨?hw_k7, ?hy_k7⟩) (by assumption) ?rest_k7
                      case hi_k7 => ((simp only [List.getElem?_toArray, List.getElem?_cons_succ, List.getElem?_cons_zero]); rfl)
                      case hf_k7 => kernel_rfl
                      case hr_k7 => kernel_rfl
                      case hQ_k7 => exact fun _ _ _ h => h
                      case hw_k7 => rfl
                      case hy_k7 => ((intro w hSw; (try dsimp only at hSw); have y6 := dd6 w (belStep hbel hSw); go_simp); all_goals (with_reducible rfl))
                      try simp only [Act.put, List.setIfInBounds_toArray, List.set_cons_zero, List.set_cons_succ]
                      refine wpAnyH_take (i := 7) (oi := ?oi_k8) (v := ?v_k8) ?hi_k8 (by kernel_rfl) ?hf_k8 ?hr_k8 ?hQ_k8 (Or.inl ⟨?hw_k8, ?hy_k8⟩) (by assumption) ?rest_k8
                      case hi_k8 => ((simp only [List.getElem?_toArray, List.getElem?_cons_succ, List.getElem?_cons_zero]); rfl)
                      case hf_k8 => kernel_rfl
                      case hr_k8 => kernel_rfl
                      case hQ_k8 => exact fun _ _ _ h => h
                      case hw_k8 => rfl
                      case hy_k8 => ((intro w hSw; (try dsimp only at hSw); go_simp); all_goals (with_reducible rfl))
                      try simp only [Act.put, List.setIfInBounds_toArray, List.set_cons_zero, List.set_cons_succ]
                      refine wpAnyH_take (i := 8) (oi := ?oi_k9) (v := ?v_k9) ?hi_k9 (by kernel_rfl) ?hf_k9 ?hr_k9 ?hQ_k9 (Or.inl ⟨?hw_k9, ?hy_k9⟩) (by assumption) ?rest_k9
                      case hi_k9 => ((simp only [List.getElem?_toArray, List.getElem?_cons_succ, List.getElem?_cons_zero]); rfl)
                      case hf_k9 => kernel_rfl
                      case hr_k9 => kernel_rfl
                      case hQ_k9 => exact fun _ _ _ h => h
                      case hw_k9 => rfl
                      case hy_k9 => ((intro w hSw; (try dsimp only at hSw); go_simp); all_goals (with_reducible rfl))
                      try simp only [Act.put, List.setIfInBounds_toArray, List.set_cons_zero, List.set_cons_succ]
                      refine wpAnyH_take (i := 9) (oi := ?oi_k10) (v := ?v_k10) ?hi_k10 (by kernel_rfl) ?hf_k10 ?hr_k10 ?hQ_k10 (Or.inl ⟨?hw_k10, ?hy_k10⟩) (by assumption) ?rest_k10
                      case hi_k10 => ((simp only [List.getElem?_toArray, List.getElem?_cons_succ, List.getElem?_cons_zero]); rfl)
                      case hf_k10 => kernel_rfl
                      case hr_k10 => kernel_rfl
                      case hQ_k10 => exact fun _ _ _ h => h
                      case hw_k10 => rfl
                      case hy_k10 => ((intro w hSw; (try dsimp only at hSw); have y0 := d0 w (belStep hbel hSw); have y1 := d1 w (belStep hbel hSw); have y2 := d2 w (belStep hbel hSw); have y3 := d3 w (belStep hbel hSw); have y4 := d4 w (belStep hbel hSw); go_simp); all_goals (with_reducible rfl))
                      try simp only [Act.put, List.setIfInBounds_toArray, List.set_cons_zero, List.set_cons_succ]
                      refine wpAnyH_take (i := 10) (oi := ?oi_k11) (v := ?v_k11) ?hi_k11 (by kernel_rfl) ?hf_k11 ?hr_k11 ?hQ_k11 (Or.inl ⟨?hw_k11, ?hy_k11⟩) (by assumption) ?rest_k11
                      case hi_k11 => ((simp only [List.getElem?_toArray, List.getElem?_cons_succ, List.getElem?_cons_zero]); rfl)
                      case hf_k11 => kernel_rfl
                      case hr_k11 => kernel_rfl
                      case hQ_k11 => exact fun _ _ _ h => h
                      case hw_k11 => rfl
                      case hy_k11 => ((intro w hSw; (try dsimp only at hSw); have hq := heq w; go_simp); all_goals (with_reducible rfl))
                      try simp only [Act.put, List.setIfInBounds_toArray, List.set_cons_zero, List.set_cons_succ]
                      refine wpAnyH_done (by kernel_rfl) ?_ _
                      go_wp2
                      go_roundw
                      case rel => exact ⟨k + 1, by omega, by push_cast; rfl, HN, belStep hbel hHeld⟩
                      case measure => simp [intOf] <;> omega
                    | false =>
                      go_upto_region 6 with fail
                      refine wp_region_held_drew (S := fun u => Below wr.heap.size wr u) (by kernel_rfl) (by exact (show Below wr.heap.size wr _ by repeat (first | assumption | exact Below.refl _ _ | refine belDrew ?_ | refine belAlloc ?_ _ | refine belStep ?_ (by assumption)))) (fun hHeld => ?_)
                      refine wpAnyH_take (i := 0) (oi := ?oi_k12) (v := ?v_k12) ?hi_k12 (by kernel_rfl) ?hf_k12 ?hr_k12 ?hQ_k12 (Or.inl ⟨?hw_k12, ?hy_k12⟩) (by assumption) ?rest_k12
                      case hi_k12 => ((simp only [List.getElem?_toArray, List.getElem?_cons_succ, List.getElem?_cons_zero]); rfl)
                      case hf_k12 => kernel_rfl
                      case hr_k12 => kernel_rfl
                      case hQ_k12 => exact fun _ _ _ h => h
                      case hw_k12 => rfl
                      case hy_k12 => ((intro w hSw; (try dsimp only at hSw); go_simp); all_goals (with_reducible rfl))
                      try simp only [Act.put, List.setIfInBounds_toArray, List.set_cons_zero, List.set_cons_succ]
                      refine wpAnyH_take (i := 1) (oi := ?oi_k13) (v := ?v_k13) ?hi_k13 (by kernel_rfl) ?hf_k13 ?hr_k13 ?hQ_k13 (Or.inl ⟨?hw_k13, ?hy_k13⟩) (by assumption) ?rest_k13
                      case hi_k13 => ((simp only [List.getElem?_toArray, List.getElem?_cons_succ, List.getElem?_cons_zero]); rfl)
                      case hf_k13 => kernel_rfl
                      case hr_k13 => kernel_rfl
                      case hQ_k13 => exact fun _ _ _ h => h
                      case hw_k13 => rfl
                      case hy_k13 => ((intro w hSw; (try dsimp only at hSw); have y6 := cc6 w (belStep hbel hSw); go_simp); all_goals (with_reducible rfl))
                      try simp only [Act.put, List.setIfInBounds_toArray, List.set_cons_zero, List.set_cons_succ]
                      refine wpAnyH_take (i := 2) (oi := ?oi_k14) (v := ?v_k14) ?hi_k14 (by kernel_rfl) ?hf_k14 ?hr_k14 ?hQ_k14 (Or.inl ⟨?hw_k14, ?hy_k14⟩) (by assumption) ?rest_k14
                      case hi_k14 => ((simp only [List.getElem?_toArray, List.getElem?_cons_succ, List.getElem?_cons_zero]); rfl)
                      case hf_k14 => kernel_rfl
                      case hr_k14 => kernel_rfl
                      case hQ_k14 => exact fun _ _ _ h => h
                      case hw_k14 => rfl
                      case hy_k14 => ((intro w hSw; (try dsimp only at hSw); go_simp); all_goals (with_reducible rfl))
                      try simp only [Act.put, List.setIfInBounds_toArray, List.set_cons_zero, List.set_cons_succ]
                      refine wpAnyH_take (i := 3) (oi := ?oi_k15) (v := ?v_k15) ?hi_k15 (by kernel_rfl) ?hf_k15 ?hr_k15 ?hQ_k15 (Or.inl ⟨?hw_k15, ?hy_k15⟩) (by assumption) ?rest_k15
                      case hi_k15 => ((simp only [List.getElem?_toArray, List.getElem?_cons_succ, List.getElem?_cons_zero]); rfl)
                      case hf_k15 => kernel_rfl
                      case hr_k15 => kernel_rfl
                      case hQ_k15 => exact fun _ _ _ h => h
                      case hw_k15 => rfl
                      case hy_k15 => ((intro w hSw; (try dsimp only at hSw); go_simp); all_goals (with_reducible rfl))
                      try simp only [Act.put, List.setIfInBounds_toArray, List.set_cons_zero, List.set_cons_succ]
                      refine wpAnyH_take (i := 4) (oi := ?oi_k16) (v := ?v_k16) ?hi_k16 (by kernel_rfl) ?hf_k16 ?hr_k16 ?hQ_k16 (Or.inl ⟨?hw_k16, ?hy_k16⟩) (by assumption) ?rest_k16
                      case hi_k16 => ((simp only [List.getElem?_toArray, List.getElem?_cons_succ, List.getElem?_cons_zero]); rfl)
                      case hf_k16 => kernel_rfl
                      case hr_k16 => kernel_rfl
                      case hQ_k16 => exact fun _ _ _ h => h
                      case hw_k16 => rfl
                      case hy_k16 => ((intro w hSw; (try dsimp only at hSw); have y0 := c0 w (belStep hbel hSw); have y1 := c1 w (belStep hbel hSw); have y2 := c2 w (belStep hbel hSw); have y3 := c3 w (belStep hbel hSw); have y4 := c4 w (belStep hbel hSw); go_simp); all_goals (with_reducible rfl))
                      try simp only [Act.put, List.setIfInBounds_toArray, List.set_cons_zero, List.set_cons_succ]
                      refine wpAnyH_take (i := 5) (oi := ?oi_k17) (v := ?v_k17) ?hi_k17 (by kernel_rfl) ?hf_k17 ?hr_k17 ?hQ_k17 (Or.inl ⟨?hw_k17, ?hy_k17⟩) (by assumption) ?rest_k17
                      case hi_k17 => ((simp only [List.getElem?_toArray, List.getElem?_cons_succ, List.getElem?_cons_zero]); rfl)
                      case hf_k17 => kernel_rfl
                      case hr_k17 => kernel_rfl
                      case hQ_k17 => exact fun _ _ _ h => h
                      case hw_k17 => rfl
                      case hy_k17 => ((intro w hSw; (try dsimp only at hSw); go_simp); all_goals (with_reducible rfl))
                      try simp only [Act.put, List.setIfInBounds_toArray, List.set_cons_zero, List.set_cons_succ]
                      refine wpAnyH_take (i := 6) (oi := ?oi_k18) (v := ?v_k18) ?hi_k18 (by kernel_rfl) ?hf_k18 ?hr_k18 ?hQ_k18 (Or.inl ⟨?hw_k18, ?hy_k18⟩) (by assumption) ?rest_k18
                      case hi_k18 => ((simp only [List.getElem?_toArray, List.getElem?_cons_succ, List.getElem?_cons_zero]); rfl)
                      case hf_k18 => kernel_rfl
                      case hr_k18 => kernel_rfl
                      case hQ_k18 => exact fun _ _ _ h => h
                      case hw_k18 => rfl
                      case hy_k18 => ((intro w hSw; (try dsimp only at hSw); have y6 := dd6 w (belStep hbel hSw); go_simp); all_goals (with_reducible rfl))
                      try simp only [Act.put, List.setIfInBounds_toArray, List.set_cons_zero, List.set_cons_succ]
                      refine wpAnyH_take (i := 7) (oi := ?oi_k19) (v := ?v_k19) ?hi_k19 (by kernel_rfl) ?hf_k19 ?hr_k19 ?hQ_k19 (Or.inl ⟨?hw_k19, ?hy_k19⟩) (by assumption) ?rest_k19
                      case hi_k19 => ((simp only [List.getElem?_toArray, List.getElem?_cons_succ, List.getElem?_cons_zero]); rfl)
                      case hf_k19 => kernel_rfl
                      case hr_k19 => kernel_rfl
                      case hQ_k19 => exact fun _ _ _ h => h
                      case hw_k19 => rfl
                      case hy_k19 => ((intro w hSw; (try dsimp only at hSw); go_simp); all_goals (with_reducible rfl))
                      try simp only [Act.put, List.setIfInBounds_toArray, List.set_cons_zero, List.set_cons_succ]
                      refine wpAnyH_take (i := 8) (oi := ?oi_k20) (v := ?v_k20) ?hi_k20 (by kernel_rfl) ?hf_k20 ?hr_k20 ?hQ_k20 (Or.inl ⟨?hw_k20, ?hy_k20⟩) (by assumption) ?rest_k20
                      case hi_k20 => ((simp only [List.getElem?_toArray, List.getElem?_cons_succ, List.getElem?_cons_zero]); rfl)
                      case hf_k20 => kernel_rfl
                      case hr_k20 => kernel_rfl
                      case hQ_k20 => exact fun _ _ _ h => h
                      case hw_k20 => rfl
                      case hy_k20 => ((intro w hSw; (try dsimp only at hSw); go_simp); all_goals (with_reducible rfl))
                      try simp only [Act.put, List.setIfInBounds_toArray, List.set_cons_zero, List.set_cons_succ]
                      refine wpAnyH_take (i := 9) (oi := ?oi_k21) (v := ?v_k21) ?hi_k21 (by kernel_rfl) ?hf_k21 ?hr_k21 ?hQ_k21 (Or.inl ⟨?hw_k21, ?hy_k21⟩) (by assumption) ?rest_k21
                      case hi_k21 => ((simp only [List.getElem?_toArray, List.getElem?_cons_succ, List.getElem?_cons_zero]); rfl)
                      case hf_k21 => kernel_rfl
                      case hr_k21 => kernel_rfl
                      case hQ_k21 => exact fun _ _ _ h => h
                      case hw_k21 => rfl
                      case hy_k21 => ((intro w hSw; (try dsimp only at hSw); have y0 := d0 w (belStep hbel hSw); have y1 := d1 w (belStep hbel hSw); have y2 := d2 w (belStep hbel hSw); have y3 := d3 w (belStep hbel hSw); have y4 := d4 w (belStep hbel hSw); go_simp); all_goals (with_reducible rfl))
                      try simp only [Act.put, List.setIfInBounds_toArray, List.set_cons_zero, List.set_cons_succ]
                      refine wpAnyH_take (i := 10) (oi := ?oi_k22) (v := ?v_k22) ?hi_k22 (by kernel_rfl) ?hf_k22 ?hr_k22 ?hQ_k22 (Or.inl ⟨?hw_k22, ?hy_k22⟩) (by assumption) ?rest_k22
                      case hi_k22 => ((simp only [List.getElem?_toArray, List.getElem?_cons_succ, List.getElem?_cons_zero]); rfl)
                      case hf_k22 => kernel_rfl
                      case hr_k22 => kernel_rfl
                      case hQ_k22 => exact fun _ _ _ h => h
                      case hw_k22 => rfl
                      case hy_k22 => ((intro w hSw; (try dsimp only at hSw); have hq := heq w; go_simp); all_goals (with_reducible rfl))
                      try simp only [Act.put, List.setIfInBounds_toArray, List.set_cons_zero, List.set_cons_succ]
                      refine wpAnyH_done (by kernel_rfl) ?_ _
                      go_wp2
                      go_ret
                      exact ⟨congrArg (fun z => Ending.returned (.bool z)) (Eq.symm (show sameM c d = false from by unfold sameM; rw [eqTs_no HN.out]; simp)), belStep HW.out (belStep hbel hHeld)⟩
                  · obtain rfl : k = c.T.length := by omega
                    have hd : decide ((c.T.length : Int) < (c.T.length : Int)) = false := decide_eq_false (by omega)
                    go_wp2
                    go_ret
                    exact ⟨congrArg (fun z => Ending.returned (.bool z)) (Eq.symm (show sameM c d = true from by have h := HE.out; rw [List.take_length, List.take_of_length_le (by omega)] at h; unfold sameM; simp [H1.out, H2.out, h, HP.out])), belStep HW.out hbel⟩
              · have p3 : (c.dead == d.dead) = false := by rw [beq_eq_false_iff_ne]; exact q3
                have n3 : (c.dead != d.dead) = true := by simp [q3]
                go_wp2
                go_ret
                exact ⟨congrArg (fun z => Ending.returned (.bool z)) (Eq.symm (show sameM c d = false from by unfold sameM; simp [H1.out, H2.out, *])), HW.out⟩
            · have p2 : (c.age == d.age) = false := by rw [beq_eq_false_iff_ne]; exact q2
              have n2 : (c.age != d.age) = true := by simp [q2]
              go_wp2
              go_ret
              exact ⟨congrArg (fun z => Ending.returned (.bool z)) (Eq.symm (show sameM c d = false from by unfold sameM; simp [H1.out, H2.out, *])), HW.out⟩
          · have p1 : (c.ret == d.ret) = false := by rw [beq_eq_false_iff_ne]; exact q1
            have n1 : (c.ret != d.ret) = true := by simp [q1]
            go_wp2
            go_ret
            exact ⟨congrArg (fun z => Ending.returned (.bool z)) (Eq.symm (show sameM c d = false from by unfold sameM; simp [H1.out, H2.out, *])), HW.out⟩
        · have p0 : (c.per == d.per) = false := by rw [beq_eq_false_iff_ne]; exact q0
          have n0 : (c.per != d.per) = true := by simp [q0]
          go_wp2
          go_ret
          exact ⟨congrArg (fun z => Ending.returned (.bool z)) (Eq.symm (show sameM c d = false from by unfold sameM; simp [H1.out, H2.out, *])), HW.out⟩
      · have hne : ¬ (c.T.length : Int) = (d.T.length : Int) := by omega
        have hne3 : ((c.T.length : Int) == (d.T.length : Int)) = false := by rw [beq_eq_false_iff_ne]; exact hne
        have hne4 : ((c.T.length : Int) != (d.T.length : Int)) = true := by simp [hne]
        have HF : eqTs c.T d.T = false := by cases e : eqTs c.T d.T; rfl; exact absurd (eqTs_len e).symm hlen
        go_wp2
        go_ret
        exact ⟨congrArg (fun z => Ending.returned (.bool z)) (Eq.symm (show sameM c d = false from by unfold sameM; simp [H1.out, H2.out, *])), HW.out⟩
end Go.Proofs.YtcaenbobfneejaaGreatDoor
namespace Go.Proofs.YtcaenbobfneejaaGreatDoor
open Go.RowKit
set_option linter.unusedVariables false
set_option linter.unusedSimpArgs false
def awA : List UInt8 := [99, 97, 112, 97, 99, 105, 116, 121, 32, 56, 71, 105, 32, 49, 84, 105, 32, 49, 48, 48, 48, 10, 97, 108, 108, 111, 99, 97, 116, 97, 98, 108, 101, 32, 52, 107, 32, 55, 71, 105, 32, 57, 48, 48, 10, 112, 101, 114, 105, 111, 100, 32, 53, 10, 114, 101, 116, 114, 105, 101, 115, 32, 50, 10, 109, 97, 120, 97, 103, 101, 32, 51, 10, 100, 101, 97, 100, 32, 49, 10, 116, 104, 114, 101, 115, 104, 111, 108, 100, 32, 109, 101, 109, 111, 114, 121, 60, 49, 48, 37, 10]
def awB : List UInt8 := [112, 101, 114, 105, 111, 100, 32, 53, 10, 10, 112, 101, 114, 105, 111, 100, 32, 53]
def awC : CfM := ⟨8589934592, 1099511627776, 1000, 4000, 7516192768, 900, [⟨0, 10, 0, false, 0⟩], 5, 2, 3, 1⟩
theorem awA_read : confF awA = .ok awC := by kernel_rfl
theorem awB_read : confF awB = .error (3, 5) := by kernel_rfl
theorem awN_read : confF [] = .error (0, 4) := by kernel_rfl
theorem awC_right : rightM awC = true := by kernel_rfl
theorem text_len (c : CfM) (h : c.ok) (hr : rightM c = true) : (joinF (printC c)).length ≤ 20000 := by
  obtain ⟨h1, h2⟩ := right_of c hr
  have p1 := headT_len c h
  have p2 := thrT_len c.T (fun t ht => ⟨h2 t ht, (h.thr t ht).2.2.1⟩)
  obtain ⟨q1, q2, q3, q4⟩ := h.cp
  have p3 := rowB_len 2 [c.per] (by intro n hn; simp at hn; subst hn; exact q1)
  have p4 := rowB_len 3 [c.ret] (by intro n hn; simp at hn; subst hn; exact q2)
  have p5 := rowB_len 4 [c.age] (by intro n hn; simp at hn; subst hn; exact q3)
  have p6 := rowB_len 5 [c.dead] (by intro n hn; simp at hn; subst hn; exact q4)
  unfold headT at p1
  rw [textC_is]
  unfold textC
  simp only [List.length_append, List.length_cons, List.length_nil] at p1 p3 p4 p5 p6 ⊢
  omega
theorem rowB_gt (j : Nat) (ns : List Int) : (kwL j).length ≤ (rowB j ns).length := by unfold rowB; rw [List.length_append]; omega
theorem text_gt (c : CfM) : 20 < (joinF (printC c)).length := by
  have p1 := rowB_gt 0 [c.k0, c.k1, c.k2]
  have p2 := rowB_gt 1 [c.a0, c.a1, c.a2]
  have p3 : (kwL 0).length = 8 := rfl
  have p4 : (kwL 1).length = 11 := rfl
  rw [textC_is]
  unfold textC
  simp only [List.length_append, List.length_cons, List.length_nil]
  omega
theorem zero_cfa (w : World) : CfA CfM.zero none 0 w := ⟨CfM.zero_ok, row_nil⟩
theorem readC_a (w : World) (b : Nat) (he : Env w) (hI : Ints .u8 w (some ⟨b, 0, none⟩) 101 101 (numsL awA)) : Calls Tryz.prog 5 #[.slice (some ⟨b, 0, none⟩) 101 101] w fun e w' => (∃ ta tc, e = .returned (.tuple #[.agg #[.int .i64 8589934592, .int .i64 1099511627776, .int .i64 1000, .int .i64 4000, .int .i64 7516192768, .int .i64 900, .slice ta 1 tc, .int .i64 5, .int .i64 2, .int .i64 3, .int .i64 1], .int .i64 0, .int .i64 0]) ∧ CfA awC ta tc w') ∧ Below w.heap.size w w' := by
  refine (cf_Read _ 101 101 awA w he hI).mono ?_
  rw [awA_read]
  rintro e w' ⟨⟨v, rfl, hown, hok, _⟩, hb⟩
  obtain ⟨ta, tc, rfl, hr⟩ := rowR_of_own hown
  exact ⟨⟨ta, tc, rfl, hok, hr⟩, hb⟩
theorem readC_b (w : World) (b : Nat) (he : Env w) (hI : Ints .u8 w (some ⟨b, 0, none⟩) 18 18 (numsL awB)) : Calls Tryz.prog 5 #[.slice (some ⟨b, 0, none⟩) 18 18] w fun e w' => e = .returned (.tuple #[.agg #[.int .i64 0, .int .i64 0, .int .i64 0, .int .i64 0, .int .i64 0, .int .i64 0, .slice none 0 0, .int .i64 0, .int .i64 0, .int .i64 0, .int .i64 0], .int .i64 3, .int .i64 5]) ∧ Below w.heap.size w w' := by
  refine (cf_Read _ 18 18 awB w he hI).mono ?_
  rw [awB_read]
  exact fun e w' h => h
theorem readC_n (w : World) (he : Env w) : Calls Tryz.prog 5 #[.slice none 0 0] w fun e w' => e = .returned (.tuple #[.agg #[.int .i64 0, .int .i64 0, .int .i64 0, .int .i64 0, .int .i64 0, .int .i64 0, .slice none 0 0, .int .i64 0, .int .i64 0, .int .i64 0, .int .i64 0], .int .i64 0, .int .i64 4]) ∧ Below w.heap.size w w' := by
  refine (cf_Read none 0 0 [] w he ⟨row_nil, fun n hn => by cases hn⟩).mono ?_
  rw [awN_read]
  exact fun e w' h => h
end Go.Proofs.YtcaenbobfneejaaGreatDoor
namespace Go.Proofs.YtcaenbobfneejaaGreatDoor
open Go.RowKit
set_option linter.unusedVariables false
set_option linter.unusedSimpArgs false
set_option maxRecDepth 100000 in
set_option maxHeartbeats 16000000 in
theorem awake07 (w : World) (he : Env w) :
    Calls Tryz.prog 4 #[] w fun e w' => e = .returned (.bool true) ∧ Below w.heap.size w w' := by
  have hw : Below w.heap.size w w := Below.refl _ _
  have hbel := hw
  have hcv := fun (v : World) (C : Array Value) (n c : Nat) => Lib.run_convert_bytes_const (P := Tryz.prog) v 22 5 C n c Tryz.underlying22 Tryz.underlying5
  have HE := Lib.hid he
  clear he
  go_enter Tryz.func4, Tryz.ntmps4
  have hb1 := belAlloc hw (.cells ((numsL awA).map (Value.int .u8)).toArray 5 ((numsL awA).length, (numsL awA).length + 1))
  have CA := Lib.hid (readC_a (w.alloc (.cells ((numsL awA).map (Value.int .u8)).toArray 5 ((numsL awA).length, (numsL awA).length + 1))) w.heap.size (HE.out.later hb1) (nums_ints w awA _ (by decide)))
  have HB1 := Lib.hid hb1
  clear hb1 hw hbel
  go_upto_region 2 with (first | (refine wpList_buildFlat rfl 22 5 101 _ rfl .u8 (numsL awA) Tryz.underlying22 (by kernel_rfl) (by kernel_rfl) (by kernel_rfl) (by decide) (by decide) (by kernel_rfl) ?_) | (go_at_call 5; (with_reducible refine (CA.out).mono ?_); rintro e w2 ⟨⟨ta, tc, rfl, hcf⟩, hb2⟩; have HCF := Lib.hid hcf; have hw := belStep HB1.out hb2; clear hcf hb2 CA HB1))
  have hbel := Below.refl w2.heap.size w2
  have ek := belAlloc (Below.refl w2.heap.size w2) (.cells #[.int .i64 8589934592, .int .i64 1099511627776, .int .i64 1000, .int .i64 4000, .int .i64 7516192768, .int .i64 900, .slice ta 1 tc, .int .i64 5, .int .i64 2, .int .i64 3, .int .i64 1] 27)
  have cc0 : (w2.alloc (.cells #[.int .i64 8589934592, .int .i64 1099511627776, .int .i64 1000, .int .i64 4000, .int .i64 7516192768, .int .i64 900, .slice ta 1 tc, .int .i64 5, .int .i64 2, .int .i64 3, .int .i64 1] 27)).cell? ⟨w2.heap.size, 0, none⟩ = some (.int .i64 8589934592) := by first | (simp; done) | (rw [World.cell?_alloc_at _ _ _ _ (by simp)]; rfl) | (rw [World.cell?_alloc_past _ _ _ (by simp <;> omega), World.cell?_alloc_at _ _ _ _ (by simp)]; rfl) | (rw [World.cell?_alloc_past _ _ _ (by simp <;> omega), World.cell?_alloc_past _ _ _ (by simp <;> omega), World.cell?_alloc_at _ _ _ _ (by simp)]; rfl)
  have cc1 : (w2.alloc (.cells #[.int .i64 8589934592, .int .i64 1099511627776, .int .i64 1000, .int .i64 4000, .int .i64 7516192768, .int .i64 900, .slice ta 1 tc, .int .i64 5, .int .i64 2, .int .i64 3, .int .i64 1] 27)).cell? ⟨w2.heap.size, 1, none⟩ = some (.int .i64 1099511627776) := by first | (simp; done) | (rw [World.cell?_alloc_at _ _ _ _ (by simp)]; rfl) | (rw [World.cell?_alloc_past _ _ _ (by simp <;> omega), World.cell?_alloc_at _ _ _ _ (by simp)]; rfl) | (rw [World.cell?_alloc_past _ _ _ (by simp <;> omega), World.cell?_alloc_past _ _ _ (by simp <;> omega), World.cell?_alloc_at _ _ _ _ (by simp)]; rfl)
  have cc2 : (w2.alloc (.cells #[.int .i64 8589934592, .int .i64 1099511627776, .int .i64 1000, .int .i64 4000, .int .i64 7516192768, .int .i64 900, .slice ta 1 tc, .int .i64 5, .int .i64 2, .int .i64 3, .int .i64 1] 27)).cell? ⟨w2.heap.size, 2, none⟩ = some (.int .i64 1000) := by first | (simp; done) | (rw [World.cell?_alloc_at _ _ _ _ (by simp)]; rfl) | (rw [World.cell?_alloc_past _ _ _ (by simp <;> omega), World.cell?_alloc_at _ _ _ _ (by simp)]; rfl) | (rw [World.cell?_alloc_past _ _ _ (by simp <;> omega), World.cell?_alloc_past _ _ _ (by simp <;> omega), World.cell?_alloc_at _ _ _ _ (by simp)]; rfl)
  have cc3 : (w2.alloc (.cells #[.int .i64 8589934592, .int .i64 1099511627776, .int .i64 1000, .int .i64 4000, .int .i64 7516192768, .int .i64 900, .slice ta 1 tc, .int .i64 5, .int .i64 2, .int .i64 3, .int .i64 1] 27)).cell? ⟨w2.heap.size, 3, none⟩ = some (.int .i64 4000) := by first | (simp; done) | (rw [World.cell?_alloc_at _ _ _ _ (by simp)]; rfl) | (rw [World.cell?_alloc_past _ _ _ (by simp <;> omega), World.cell?_alloc_at _ _ _ _ (by simp)]; rfl) | (rw [World.cell?_alloc_past _ _ _ (by simp <;> omega), World.cell?_alloc_past _ _ _ (by simp <;> omega), World.cell?_alloc_at _ _ _ _ (by simp)]; rfl)
  have cc4 : (w2.alloc (.cells #[.int .i64 8589934592, .int .i64 1099511627776, .int .i64 1000, .int .i64 4000, .int .i64 7516192768, .int .i64 900, .slice ta 1 tc, .int .i64 5, .int .i64 2, .int .i64 3, .int .i64 1] 27)).cell? ⟨w2.heap.size, 4, none⟩ = some (.int .i64 7516192768) := by first | (simp; done) | (rw [World.cell?_alloc_at _ _ _ _ (by simp)]; rfl) | (rw [World.cell?_alloc_past _ _ _ (by simp <;> omega), World.cell?_alloc_at _ _ _ _ (by simp)]; rfl) | (rw [World.cell?_alloc_past _ _ _ (by simp <;> omega), World.cell?_alloc_past _ _ _ (by simp <;> omega), World.cell?_alloc_at _ _ _ _ (by simp)]; rfl)
  have cc5 : (w2.alloc (.cells #[.int .i64 8589934592, .int .i64 1099511627776, .int .i64 1000, .int .i64 4000, .int .i64 7516192768, .int .i64 900, .slice ta 1 tc, .int .i64 5, .int .i64 2, .int .i64 3, .int .i64 1] 27)).cell? ⟨w2.heap.size, 5, none⟩ = some (.int .i64 900) := by first | (simp; done) | (rw [World.cell?_alloc_at _ _ _ _ (by simp)]; rfl) | (rw [World.cell?_alloc_past _ _ _ (by simp <;> omega), World.cell?_alloc_at _ _ _ _ (by simp)]; rfl) | (rw [World.cell?_alloc_past _ _ _ (by simp <;> omega), World.cell?_alloc_past _ _ _ (by simp <;> omega), World.cell?_alloc_at _ _ _ _ (by simp)]; rfl)
  have cc6 : (w2.alloc (.cells #[.int .i64 8589934592, .int .i64 1099511627776, .int .i64 1000, .int .i64 4000, .int .i64 7516192768, .int .i64 900, .slice ta 1 tc, .int .i64 5, .int .i64 2, .int .i64 3, .int .i64 1] 27)).cell? ⟨w2.heap.size, 6, none⟩ = some (.slice ta 1 tc) := by first | (simp; done) | (rw [World.cell?_alloc_at _ _ _ _ (by simp)]; rfl) | (rw [World.cell?_alloc_past _ _ _ (by simp <;> omega), World.cell?_alloc_at _ _ _ _ (by simp)]; rfl) | (rw [World.cell?_alloc_past _ _ _ (by simp <;> omega), World.cell?_alloc_past _ _ _ (by simp <;> omega), World.cell?_alloc_at _ _ _ _ (by simp)]; rfl)
  have cc7 : (w2.alloc (.cells #[.int .i64 8589934592, .int .i64 1099511627776, .int .i64 1000, .int .i64 4000, .int .i64 7516192768, .int .i64 900, .slice ta 1 tc, .int .i64 5, .int .i64 2, .int .i64 3, .int .i64 1] 27)).cell? ⟨w2.heap.size, 7, none⟩ = some (.int .i64 5) := by first | (simp; done) | (rw [World.cell?_alloc_at _ _ _ _ (by simp)]; rfl) | (rw [World.cell?_alloc_past _ _ _ (by simp <;> omega), World.cell?_alloc_at _ _ _ _ (by simp)]; rfl) | (rw [World.cell?_alloc_past _ _ _ (by simp <;> omega), World.cell?_alloc_past _ _ _ (by simp <;> omega), World.cell?_alloc_at _ _ _ _ (by simp)]; rfl)
  have cc8 : (w2.alloc (.cells #[.int .i64 8589934592, .int .i64 1099511627776, .int .i64 1000, .int .i64 4000, .int .i64 7516192768, .int .i64 900, .slice ta 1 tc, .int .i64 5, .int .i64 2, .int .i64 3, .int .i64 1] 27)).cell? ⟨w2.heap.size, 8, none⟩ = some (.int .i64 2) := by first | (simp; done) | (rw [World.cell?_alloc_at _ _ _ _ (by simp)]; rfl) | (rw [World.cell?_alloc_past _ _ _ (by simp <;> omega), World.cell?_alloc_at _ _ _ _ (by simp)]; rfl) | (rw [World.cell?_alloc_past _ _ _ (by simp <;> omega), World.cell?_alloc_past _ _ _ (by simp <;> omega), World.cell?_alloc_at _ _ _ _ (by simp)]; rfl)
  have cc9 : (w2.alloc (.cells #[.int .i64 8589934592, .int .i64 1099511627776, .int .i64 1000, .int .i64 4000, .int .i64 7516192768, .int .i64 900, .slice ta 1 tc, .int .i64 5, .int .i64 2, .int .i64 3, .int .i64 1] 27)).cell? ⟨w2.heap.size, 9, none⟩ = some (.int .i64 3) := by first | (simp; done) | (rw [World.cell?_alloc_at _ _ _ _ (by simp)]; rfl) | (rw [World.cell?_alloc_past _ _ _ (by simp <;> omega), World.cell?_alloc_at _ _ _ _ (by simp)]; rfl) | (rw [World.cell?_alloc_past _ _ _ (by simp <;> omega), World.cell?_alloc_past _ _ _ (by simp <;> omega), World.cell?_alloc_at _ _ _ _ (by simp)]; rfl)
  have cc10 : (w2.alloc (.cells #[.int .i64 8589934592, .int .i64 1099511627776, .int .i64 1000, .int .i64 4000, .int .i64 7516192768, .int .i64 900, .slice ta 1 tc, .int .i64 5, .int .i64 2, .int .i64 3, .int .i64 1] 27)).cell? ⟨w2.heap.size, 10, none⟩ = some (.int .i64 1) := by first | (simp; done) | (rw [World.cell?_alloc_at _ _ _ _ (by simp)]; rfl) | (rw [World.cell?_alloc_past _ _ _ (by simp <;> omega), World.cell?_alloc_at _ _ _ _ (by simp)]; rfl) | (rw [World.cell?_alloc_past _ _ _ (by simp <;> omega), World.cell?_alloc_past _ _ _ (by simp <;> omega), World.cell?_alloc_at _ _ _ _ (by simp)]; rfl)
  have hb2 := (by repeat (first | exact hbel | refine belAlloc ?_ _ | refine belDrew ?_ | refine belSet ?_ _ _ (by simp)) : Below w2.heap.size w2 (w2.alloc (.cells #[.int .i64 8589934592, .int .i64 1099511627776, .int .i64 1000, .int .i64 4000, .int .i64 7516192768, .int .i64 900, .slice ta 1 tc, .int .i64 5, .int .i64 2, .int .i64 3, .int .i64 1] 27)))
  replace hw := belStep hw hb2
  clear hb2 hbel
  generalize w2.alloc (.cells #[.int .i64 8589934592, .int .i64 1099511627776, .int .i64 1000, .int .i64 4000, .int .i64 7516192768, .int .i64 900, .slice ta 1 tc, .int .i64 5, .int .i64 2, .int .i64 3, .int .i64 1] 27) = W2 at *
  replace cc0 := keep cc0
  replace cc1 := keep cc1
  replace cc2 := keep cc2
  replace cc3 := keep cc3
  replace cc4 := keep cc4
  replace cc5 := keep cc5
  replace cc6 := keep cc6
  replace cc7 := keep cc7
  replace cc8 := keep cc8
  replace cc9 := keep cc9
  replace cc10 := keep cc10
  have hbel : Below W2.heap.size W2 W2 := Below.refl _ _
  skip
  have HW := Lib.hid hw
  have HK := Lib.hid ek
  clear hw ek
  have HCW := Lib.hid (fun u (hu : Below W2.heap.size W2 u) => HCF.out.later (belStep HK.out hu))
  have HEW := Lib.hid (fun u (hu : Below W2.heap.size W2 u) => HE.out.later (belStep HW.out hu))
  clear HCF HE
  have hb3 := belAlloc hbel (.cells #[.int .u8 112, .int .u8 101, .int .u8 114, .int .u8 105, .int .u8 111, .int .u8 100, .int .u8 32, .int .u8 53, .int .u8 10, .int .u8 10, .int .u8 112, .int .u8 101, .int .u8 114, .int .u8 105, .int .u8 111, .int .u8 100, .int .u8 32, .int .u8 53] 5 (18, 19))
  have CB := Lib.hid (readC_b (W2.alloc (.cells #[.int .u8 112, .int .u8 101, .int .u8 114, .int .u8 105, .int .u8 111, .int .u8 100, .int .u8 32, .int .u8 53, .int .u8 10, .int .u8 10, .int .u8 112, .int .u8 101, .int .u8 114, .int .u8 105, .int .u8 111, .int .u8 100, .int .u8 32, .int .u8 53] 5 (18, 19))) W2.heap.size (HEW.out _ hb3) (show Ints .u8 (W2.alloc (.cells #[.int .u8 112, .int .u8 101, .int .u8 114, .int .u8 105, .int .u8 111, .int .u8 100, .int .u8 32, .int .u8 53, .int .u8 10, .int .u8 10, .int .u8 112, .int .u8 101, .int .u8 114, .int .u8 105, .int .u8 111, .int .u8 100, .int .u8 32, .int .u8 53] 5 (18, 19))) (some ⟨W2.heap.size, 0, none⟩) 18 18 (numsL awB) from nums_ints W2 awB (18, 19) (by decide)))
  have HB3 := Lib.hid hb3
  clear hb3 hbel
  go_upto_region 3 with (go_at_call 5; (with_reducible refine (CB.out).mono ?_); rintro e w3 ⟨rfl, hb4⟩; have hbel := belStep HB3.out hb4; clear hb4 CB HB3)
  have CN := Lib.hid (fun u hu => readC_n u (HEW.out u hu))
  go_upto_region 4 with (go_at_call 5; (with_reducible refine (CN.out _ (by first | exact belAlloc hbel _ | exact hbel)).mono ?_); rintro e w4 ⟨rfl, hb5⟩; replace hbel := belStep (by first | exact belAlloc hbel _ | exact hbel) hb5; clear hb5)
  have CP := Lib.hid (fun u hu => cf_Print awC ta tc u (HCW.out u hu) (HEW.out u hu).tab (fun _ => Nat.le_trans (text_len awC (HCW.out u hu).ok awC_right) (by decide)))
  have CZ := Lib.hid (fun u hu => cf_Print CfM.zero none 0 u (zero_cfa u) (HEW.out u hu).tab (fun h => by cases h))
  have CR := Lib.hid (fun u hu => cf_Right awC ta tc u (HCW.out u hu))
  have CS := Lib.hid (fun u hu => cf_Same awC awC ta ta tc tc u (HCW.out u hu) (HCW.out u hu))
  rw [sameM_refl] at CS
  rw [awC_right] at CR CP
  rw [show rightM CfM.zero = false from by kernel_rfl] at CZ
  have htl := text_gt awC
  obtain ⟨tx, htx⟩ : ∃ x, joinF (printC awC) = x := ⟨_, rfl⟩
  have hty := text_len awC (HCW.out _ (Below.refl _ _)).ok awC_right
  rw [htx] at CP htl hty
  clear htx
  rw [← bA_size] at htl hty
  generalize bA tx = S at *
  have hS : (20 : Int) < (S.size : Int) := by omega
  have hS2 : decide ((20 : Int) < (S.size : Int)) = true := decide_eq_true hS
  simp only [if_true, if_false, Bool.false_eq_true, CfM.zero, awC, List.length_cons, List.length_nil, Nat.zero_add] at CP CZ CR CS
  go_wp2_with (first | (go_at_call 9; (with_reducible refine (CP.out _ (by first | exact belAlloc hbel _ | exact hbel)).mono ?_); rintro e w5 ⟨rfl, hb6⟩; replace hbel := belStep (by first | exact belAlloc hbel _ | exact hbel) hb6; clear hb6) | (go_at_call 9; (with_reducible refine (CZ.out _ (by first | exact belAlloc hbel _ | exact hbel)).mono ?_); rintro e w5 ⟨rfl, hb6⟩; replace hbel := belStep (by first | exact belAlloc hbel _ | exact hbel) hb6; clear hb6) | (go_at_call 10; (with_reducible refine (CR.out _ (by first | exact belAlloc hbel _ | exact hbel)).mono ?_); rintro e w5 ⟨rfl, hb6⟩; replace hbel := belStep (by first | exact belAlloc hbel _ | exact hbel) hb6; clear hb6) | (go_at_call 11; (with_reducible refine (CS.out _ (by first | exact belAlloc hbel _ | exact hbel)).mono ?_); rintro e w5 ⟨rfl, hb6⟩; replace hbel := belStep (by first | exact belAlloc hbel _ | exact hbel) hb6; clear hb6))
  go_ret
  exact ⟨rfl, belStep HW.out hbel⟩
end Go.Proofs.YtcaenbobfneejaaGreatDoor
