
/- ImageOrder holds for all its arguments. No conditions. -/
import Derived.Test.YtmmfkgpckohacaaImLM
namespace Go.Proofs.Ytmmfkgpckohacaa.imageOrder
open Go.ChangeShapes Go.WideShapes Go.ChangeAt Go.RowKit
open Go.ChangeMaps (open_string shut_string)
set_option linter.unusedVariables false
set_option linter.unusedSimpArgs false
open Go.Sort
theorem order_mem (L : List ImgV) (U : List ByteArray) (x : ImgV) : x ∈ orderI L U ↔ x ∈ L ∧ freeI U x = true := by
  unfold orderI
  rw [sortBy_mem, List.mem_filter]
theorem order_pw (L : List ImgV) (U : List ByteArray) {i j : Nat} {x y : ImgV} (hij : i < j) (hx : (orderI L U)[i]? = some x) (hy : (orderI L U)[j]? = some y) : ltOf cfI y x = false := by
  have h := sortBy_pw swo_cfI (L.filter (freeI U))
  obtain ⟨h1, e1⟩ := List.getElem?_eq_some_iff.1 hx
  obtain ⟨h2, e2⟩ := List.getElem?_eq_some_iff.1 hy
  have := List.pairwise_iff_getElem.1 h i j h1 h2 hij
  unfold orderI at e1 e2
  rw [e1, e2] at this
  simpa using this
theorem rises_nodup {L : List ImgV} (h : Rises L) : L.Nodup := h.imp (fun {a b} q e => by subst e; exact absurd q (List.lt_irrefl _))
theorem order_ne (L : List ImgV) (U : List ByteArray) (hr : Rises L) {i j : Nat} {x y : ImgV} (hij : i < j) (hx : (orderI L U)[i]? = some x) (hy : (orderI L U)[j]? = some y) : x ≠ y := by
  have hnd : (orderI L U).Nodup := (sortBy_perm (ltOf cfI) _).nodup_iff.2 (List.Nodup.sublist List.filter_sublist (rises_nodup hr))
  obtain ⟨h1, e1⟩ := List.getElem?_eq_some_iff.1 hx
  obtain ⟨h2, e2⟩ := List.getElem?_eq_some_iff.1 hy
  intro e
  exact List.pairwise_iff_getElem.1 hnd i j h1 h2 hij (by rw [e1, e2, e])
/-- What the law asks of two that stand one behind the other. -/
theorem order_asks {x y : ImgV} (h : ltOf cfI y x = false) (hne : x ≠ y) : ¬ y.last < x.last ∧ (x.last = y.last → ¬ x.size < y.size) ∧ (x.last = y.last → x.size = y.size → Op.bytesLess x.name.toList y.name.toList = true) := by
  refine ⟨fun q => ?_, fun e q => ?_, fun e1 e2 => ?_⟩
  · rw [ah_1 (by omega), decide_eq_true q] at h; cases h
  · rw [ah_2 (by omega) (by omega), decide_eq_true q] at h; cases h
  · rw [ah_3 e1.symm e2.symm, bytesLess_iff] at h
    have h1 := of_decide_eq_false h
    rw [bytesLess_iff]
    refine decide_eq_true (lt_of_not h1 ?_)
    rw [beq_eq_false_iff_ne]
    exact fun e => hne (img_ext e.symm e2 e1)
theorem anyG_next {α : Type} {f : α → Bool} {L : List α} {k : Nat} {x : α} (h : L[k]? = some x) : (L.take (k + 1)).any f = ((L.take k).any f || f x) := by
  rw [List.take_add_one, h, List.any_append]; simp
theorem any_eqImg (O : List ImgV) (x : ImgV) : (O.any fun y => eqImg y x) = true ↔ x ∈ O := by
  rw [List.any_eq_true]
  exact ⟨fun ⟨y, hy, h⟩ => (eqImg_iff y x).1 h ▸ hy, fun h => ⟨x, h, (eqImg_iff x x).2 rfl⟩⟩
theorem eq_img9 (x y : ImgV) (w : World) : (Op.equalIn 10000 31 (.agg #[.string x.name, .int .i64 x.size, .int .i64 x.last]) (.agg #[.string y.name, .int .i64 y.size, .int .i64 y.last])).run Try.prog w = .ok (eqImg x y) w := eq_img x y w
set_option maxRecDepth 100000 in
set_option maxHeartbeats 16000000 in
theorem walk (a : Option Addr) (n c : Nat) (L : List ImgV) (b : Option Addr) (ul uc : Nat) (U : List ByteArray) (w : World) (hl : L.length = n) (hok : ∀ x ∈ L, x.ok) (hR : Row w a n c 3 (L.flatMap ImgV.cells)) (hu : U.length = ul) (huk : ∀ s ∈ U, s.size ≤ maxLen) (hRU : Row w b ul uc 1 (U.map Value.string)) :
    Calls Try.prog 4 #[.slice a n c, .slice b ul uc] w fun e w' => e = .returned (.bool true) ∧ Below w.heap.size w w' := by
  have hw : Below w.heap.size w w := Below.refl _ _
  have hbel := hw
  have hbd : n ≤ c ∧ c ≤ 9223372036854775807 := by obtain ⟨_, h1, h2, _⟩ := hR; unfold maxLen at h2; exact ⟨h1, h2⟩
  obtain ⟨hbd1, hbd2⟩ := hbd
  obtain ⟨fw, hfw⟩ : ∃ q, fewI L = q := ⟨_, rfl⟩
  have CFW := Lib.hid (fun u (hu : Below w.heap.size w u) => hfw ▸ iref_Few a n c L u hl (hR.later hu) hok)
  have HFW := Lib.hid hfw
  obtain ⟨rt, hrt⟩ : ∃ q, rightI L = q := ⟨_, rfl⟩
  have CRT := Lib.hid (fun u (hu : Below w.heap.size w u) => hrt ▸ iref_Right a n c L u hl (hR.later hu))
  have HRT := Lib.hid hrt
  clear hrt
  have HR := Lib.hid hR
  have HOK := Lib.hid hok
  have HLN := Lib.hid hl
  clear hR hok hl hfw
  have hbu : ul ≤ uc ∧ uc ≤ 9223372036854775807 := by obtain ⟨_, h1, h2, _⟩ := hRU; unfold maxLen at h2; exact ⟨h1, h2⟩
  obtain ⟨hbu1, hbu2⟩ := hbu
  obtain ⟨fu, hfu⟩ : ∃ q, fewT U = q := ⟨_, rfl⟩
  have CFU := Lib.hid (fun u (hu9 : Below w.heap.size w u) => hfu ▸ iref_Names b ul uc U u hu (hRU.later hu9) huk)
  have HFU := Lib.hid hfu
  have HRU := Lib.hid hRU
  have HUN := Lib.hid hu
  clear hRU huk hu hfu
  go_enter Try.func4, Try.ntmps4
  go_upto_region 3 with (first | (go_at_call 17; (with_reducible refine (awake15 _).mono ?_); rintro e w1 ⟨rfl, hb1⟩; replace hbel := belStep hbel hb1; clear hb1) | (go_at_call 30; (with_reducible refine (CFW.out _ hbel).mono ?_); rintro e wf1 ⟨rfl, hb_wf1⟩; replace hbel := belStep hbel hb_wf1; clear hb_wf1; rcases fw with _ | _) | (go_at_call 31; (with_reducible refine (CFU.out _ hbel).mono ?_); rintro e wf3 ⟨rfl, hb_wf3⟩; replace hbel := belStep hbel hb_wf3; clear hb_wf3; rcases fu with _ | _) | (go_at_call 32; (with_reducible refine (CRT.out _ hbel).mono ?_); rintro e wf2 ⟨rfl, hb_wf2⟩; replace hbel := belStep hbel hb_wf2; clear hb_wf2; rcases rt with _ | _))
  · go_ret
    exact ⟨rfl, hbel⟩
  · go_ret
    exact ⟨rfl, hbel⟩
  · go_ret
    exact ⟨rfl, hbel⟩
  have HB := Lib.hid hbel
  have HRI := Lib.hid (right_rises HRT.out)
  have HNM := Lib.hid (right_nums HRT.out)
  have hn60 : n ≤ 60 := by rw [← HLN.out]; exact few_len HFW.out
  have hu60 : ul ≤ 60 := by rw [← HUN.out]; exact few_lenT HFU.out
  clear hw CFW CRT CFU
  have COR := Lib.hid (fun u (hu : Below w.heap.size w u) => im_Order a n c L b ul uc U u HLN.out (HR.out.later hu) HRI.out HUN.out (HRU.out.later hu) (by omega))
  have HPW := Lib.hid (fun i j x y hij hx hy => order_pw L U (i := i) (j := j) (x := x) (y := y) hij hx hy)
  have HNE := Lib.hid (fun i j x y hij hx hy => order_ne L U HRI.out (i := i) (j := j) (x := x) (y := y) hij hx hy)
  have HOM := Lib.hid (fun x => order_mem L U x)
  have HOL := Lib.hid (show (orderI L U).length = (L.filter (freeI U)).length by unfold orderI; rw [sortBy_len])
  have hol := order_le L U
  obtain ⟨O, hO⟩ : ∃ O, orderI L U = O := ⟨_, rfl⟩
  rw [hO] at COR HPW HNE HOM HOL hol
  rw [HLN.out] at hol
  clear hO
  go_upto_region 4 with (go_at_call 28; (with_reducible refine (COR.out _ HB.out).mono ?_); rintro e w3 ⟨v3, rfl, ho3, hb_⟩; replace HB := Lib.hid (belStep HB.out hb_); replace hbel := HB.out; obtain ⟨oa, oc, rfl, hr3⟩ := rowR_of_own ho3; have HO := Lib.hid hr3; clear hr3 ho3; clear hb_)
  clear COR hbel
  have hbo : O.length ≤ oc ∧ oc ≤ 9223372036854775807 := by obtain ⟨_, h1, h2, _⟩ := HO.out; unfold maxLen at h2; exact ⟨h1, h2⟩
  obtain ⟨hbo1, hbo2⟩ := hbo
  have hb0 : Below w3.heap.size w3 w3 := Below.refl _ _
  generalize w3 = W3 at *
  go_wp2
  go_loopw [6, 7] (fun nv iv wr => ∃ k : Nat, k ≤ n ∧ iv = .int .i64 k ∧ nv = .int .i64 (((L.take k).filter (freeI U)).length : Nat) ∧ Below W3.heap.size W3 wr) (fun _ iv _ => n - (intOf iv).toNat)
  case atStart => exact ⟨0, Nat.zero_le _, rfl, rfl, hb0⟩
  case round =>
    clear hb0
    obtain ⟨k, hk, rfl, rfl, hbr⟩ := hrel
    by_cases hlt : k < n
    · have hd : decide ((k : Int) < (n : Int)) = true := decide_eq_true (by omega)
      have hki : (k : Int) < (n : Int) := by omega
      have hk0 : (0 : Int) ≤ (k : Int) := by omega
      have hfl := filtG_len (freeI U) L k
      rw [HLN.out] at hfl
      obtain ⟨x, hx⟩ : ∃ x, L[k]? = some x := ⟨L[k]'(by rw [HLN.out]; exact hlt), List.getElem?_eq_getElem _⟩
      obtain ⟨bc, oc, ec, _, hcc⟩ := (HR.out.later (belStep HB.out hbr)).elem ImgV.cells_len (by omega) hx
      subst ec
      have c0 := keep (hcc 0 _ rfl)
      have c1 := keep (hcc 1 _ rfl)
      have c2 := keep (hcc 2 _ rfl)
      rw [Nat.add_zero] at c0
      have HX := Lib.hid hx
      clear hx hcc
      have HBR := Lib.hid hbr
      have hbw : Below wr.heap.size wr wr := Below.refl _ _
      clear hbr
      generalize wr = WO at *
      obtain ⟨FN, hFN⟩ : ∃ q, ((L.take k).filter (freeI U)).length = q := ⟨_, rfl⟩
      rw [hFN] at hfl ⊢
      have HFN := Lib.hid hFN
      clear hFN
      go_wp2
      go_loopw [8, 9] (fun iv mv wr => ∃ m : Nat, m ≤ O.length ∧ mv = .int .i64 m ∧ iv = .bool ((O.take m).any fun y => eqImg y x) ∧ Below WO.heap.size WO wr) (fun _ mv _ => O.length - (intOf mv).toNat)
      case atStart => exact ⟨0, Nat.zero_le _, rfl, rfl, hbw⟩
      case round =>
        clear hbw
        obtain ⟨m, hm, rfl, rfl, hbm⟩ := hrel
        by_cases hlm : m < O.length
        · have hd : decide ((m : Int) < (O.length : Int)) = true := decide_eq_true (by omega)
          have hmi : (m : Int) < (O.length : Int) := by omega
          have hm0 : (0 : Int) ≤ (m : Int) := by omega
          obtain ⟨y, hy⟩ : ∃ y, O[m]? = some y := ⟨O[m], List.getElem?_eq_getElem hlm⟩
          obtain ⟨be, oe, ee, _, hce⟩ := (HO.out.later (belStep HBR.out hbm)).elem ImgV.cells_len (by omega) hy
          subst ee
          have e0 := keep (hce 0 _ rfl)
          have e1 := keep (hce 1 _ rfl)
          have e2 := keep (hce 2 _ rfl)
          rw [Nat.add_zero] at e0
          have HN := Lib.hid (anyG_next (f := fun y => eqImg y x) hy)
          have HBM := Lib.hid hbm
          have hbel : Below wr.heap.size wr wr := Below.refl _ _
          have hw : Below wr.heap.size wr wr := Below.refl _ _
          clear hy hce
          replace c0 := keepOn c0 HBM.out
          replace c1 := keepOn c1 HBM.out
          replace c2 := keepOn c2 HBM.out
          have heq := fun u : World => eq_img y x u
          obtain ⟨ai, hai⟩ : ∃ q, ((O.take m).any fun y => eqImg y x) = q := ⟨_, rfl⟩
          rw [hai] at HN ⊢
          clear hai hbm
          obtain ⟨eq, heq2⟩ : ∃ q, eqImg y x = q := ⟨_, rfl⟩
          rw [heq2] at heq HN
          clear heq2
          cases ai with
          | false =>
            go_wp2
            have kk := fun d os => belStep hbel (below_regrown _ d os)
            refine wp_region_quiet_below (by kernel_rfl) (by kernel_rfl) ?_
            repeat ((with_reducible refine wpQuiet_step (fun K hK => ?_)); go_simp; (try (rw [if_neg]; rotate_left; · decide)); first | ((with_reducible refine hK _ ?_); clear hK K) | (apply Exists.intro; refine ⟨fun _ => ?_, hK _ ?_⟩; (fail); clear hK K))
            refine wpQuiet_nil (fun w1 hw1 => ?_)
            replace hbel := belStep hbel (bel_of_class hw1)
            clear hw1 kk
            go_wp2
            go_roundw
            case rel => exact ⟨m + 1, by omega, by push_cast; rfl, by rw [HN.out]; simp, belStep HBM.out hbel⟩
            case measure => simp [intOf] <;> omega
          | true =>
            go_wp2
            have kk := fun d os => belStep hbel (below_regrown _ d os)
            refine wp_region_quiet_below (by kernel_rfl) (by kernel_rfl) ?_
            repeat ((with_reducible refine wpQuiet_step (fun K hK => ?_)); go_simp; (try (rw [if_neg]; rotate_left; · decide)); first | ((with_reducible refine hK _ ?_); clear hK K) | (apply Exists.intro; refine ⟨fun _ => ?_, hK _ ?_⟩; (fail); clear hK K))
            refine wpQuiet_nil (fun w1 hw1 => ?_)
            replace hbel := belStep hbel (bel_of_class hw1)
            clear hw1 kk
            go_wp2
            go_roundw
            case rel => exact ⟨m + 1, by omega, by push_cast; rfl, by rw [HN.out]; simp, belStep HBM.out hbel⟩
            case measure => simp [intOf] <;> omega
        · obtain rfl : m = O.length := by omega
          have hd : decide ((O.length : Int) < (O.length : Int)) = false := decide_eq_false (by omega)
          rw [List.take_length]
          have HIN := Lib.hid (any_eqImg O x)
          have HFR := Lib.hid (HOM.out x)
          obtain ⟨ai, hai⟩ : ∃ q, (O.any fun y => eqImg y x) = q := ⟨_, rfl⟩
          rw [hai] at HIN ⊢
          have HAI := Lib.hid (show ai = freeI U x from by
            have h1 := HIN.out
            have h2 := HFR.out
            have h3 := List.mem_of_getElem? HX.out
            rw [Bool.eq_iff_iff, h1, h2]
            exact ⟨fun q => q.2, fun q => ⟨h3, q⟩⟩)
          have HBM := Lib.hid (belStep HBR.out hbm)
          have hbz : Below wr.heap.size wr wr := Below.refl _ _
          replace c0 := keepOn c0 hbm
          clear hai hbm c1 c2
          generalize wr = W5 at *
          go_wp2
          go_loopw [10, 11] (fun fv mv wr => ∃ m : Nat, m ≤ ul ∧ mv = .int .i64 m ∧ fv = .bool (!hasU (U.take m) x.name) ∧ Below W5.heap.size W5 wr) (fun _ mv _ => ul - (intOf mv).toNat)
          case atStart => exact ⟨0, Nat.zero_le _, rfl, rfl, hbz⟩
          case round =>
            clear hbz
            obtain ⟨m, hm, rfl, rfl, hbm⟩ := hrel
            by_cases hlm : m < ul
            · have hd : decide ((m : Int) < (ul : Int)) = true := decide_eq_true (by omega)
              have hmi : (m : Int) < (ul : Int) := by omega
              have hm0 : (0 : Int) ≤ (m : Int) := by omega
              obtain ⟨t, ht⟩ : ∃ t, U[m]? = some t := ⟨U[m]'(by rw [HUN.out]; exact hlm), List.getElem?_eq_getElem _⟩
              obtain ⟨bu, ou, eu, cu⟩ := text_cell (HRU.out.later (belStep HB.out (belStep HBM.out hbm))) ht
              subst eu
              have y0 := keep cu
              have HN := Lib.hid (hasU_next (s := x.name) ht)
              have HBW := Lib.hid hbm
              have hbel : Below wr.heap.size wr wr := Below.refl _ _
              have hw : Below wr.heap.size wr wr := Below.refl _ _
              replace c0 := keepOn c0 hbm
              clear ht cu hbm
              obtain ⟨hh, hhh⟩ : ∃ q, hasU (U.take m) x.name = q := ⟨_, rfl⟩
              obtain ⟨te, hte⟩ : ∃ q, (t.toList == x.name.toList) = q := ⟨_, rfl⟩
              have hte2 : (t.toList != x.name.toList) = !te := by rw [← hte]; rfl
              rw [hhh, hte] at HN
              rw [hhh]
              clear hhh
              cases hh with
              | false =>
                cases te with
                | false =>
                  go_wp2
                  have kk := fun d os => belStep hbel (below_regrown _ d os)
                  refine wp_region_quiet_below (by kernel_rfl) (by kernel_rfl) ?_
                  repeat ((with_reducible refine wpQuiet_step (fun K hK => ?_)); go_simp; (try (rw [if_neg]; rotate_left; · decide)); first | ((with_reducible refine hK _ ?_); clear hK K) | (apply Exists.intro; refine ⟨fun _ => ?_, hK _ ?_⟩; (fail); clear hK K))
                  refine wpQuiet_nil (fun w1 hw1 => ?_)
                  replace hbel := belStep hbel (bel_of_class hw1)
                  clear hw1 kk
                  go_wp2
                  go_roundw
                  case rel => exact ⟨m + 1, by omega, by push_cast; rfl, by rw [HN.out]; rfl, belStep HBW.out hbel⟩
                  case measure => simp [intOf] <;> omega
                | true =>
                  go_wp2
                  have kk := fun d os => belStep hbel (below_regrown _ d os)
                  refine wp_region_quiet_below (by kernel_rfl) (by kernel_rfl) ?_
                  repeat ((with_reducible refine wpQuiet_step (fun K hK => ?_)); go_simp; (try (rw [if_neg]; rotate_left; · decide)); first | ((with_reducible refine hK _ ?_); clear hK K) | (apply Exists.intro; refine ⟨fun _ => ?_, hK _ ?_⟩; (fail); clear hK K))
                  refine wpQuiet_nil (fun w1 hw1 => ?_)
                  replace hbel := belStep hbel (bel_of_class hw1)
                  clear hw1 kk
                  go_wp2
                  go_roundw
                  case rel => exact ⟨m + 1, by omega, by push_cast; rfl, by rw [HN.out]; rfl, belStep HBW.out hbel⟩
                  case measure => simp [intOf] <;> omega
              | true =>
                cases te with
                | false =>
                  go_wp2
                  have kk := fun d os => belStep hbel (below_regrown _ d os)
                  refine wp_region_quiet_below (by kernel_rfl) (by kernel_rfl) ?_
                  repeat ((with_reducible refine wpQuiet_step (fun K hK => ?_)); go_simp; (try (rw [if_neg]; rotate_left; · decide)); first | ((with_reducible refine hK _ ?_); clear hK K) | (apply Exists.intro; refine ⟨fun _ => ?_, hK _ ?_⟩; (fail); clear hK K))
                  refine wpQuiet_nil (fun w1 hw1 => ?_)
                  replace hbel := belStep hbel (bel_of_class hw1)
                  clear hw1 kk
                  go_wp2
                  go_roundw
                  case rel => exact ⟨m + 1, by omega, by push_cast; rfl, by rw [HN.out]; rfl, belStep HBW.out hbel⟩
                  case measure => simp [intOf] <;> omega
                | true =>
                  go_wp2
                  have kk := fun d os => belStep hbel (below_regrown _ d os)
                  refine wp_region_quiet_below (by kernel_rfl) (by kernel_rfl) ?_
                  repeat ((with_reducible refine wpQuiet_step (fun K hK => ?_)); go_simp; (try (rw [if_neg]; rotate_left; · decide)); first | ((with_reducible refine hK _ ?_); clear hK K) | (apply Exists.intro; refine ⟨fun _ => ?_, hK _ ?_⟩; (fail); clear hK K))
                  refine wpQuiet_nil (fun w1 hw1 => ?_)
                  replace hbel := belStep hbel (bel_of_class hw1)
                  clear hw1 kk
                  go_wp2
                  go_roundw
                  case rel => exact ⟨m + 1, by omega, by push_cast; rfl, by rw [HN.out]; rfl, belStep HBW.out hbel⟩
                  case measure => simp [intOf] <;> omega
            · obtain rfl : m = ul := by omega
              have hd : decide ((m : Int) < (m : Int)) = false := decide_eq_false (by omega)
              rw [show (!hasU (U.take m) x.name) = freeI U x by rw [List.take_of_length_le (by rw [HUN.out]; exact Nat.le_refl _)]; rfl]
              rw [HAI.out]
              have HBX := Lib.hid (belStep HBM.out hbm)
              have hfx := HFN.out
              have hfy : ((L.take (k + 1)).filter (freeI U)).length = FN + (if freeI U x = true then 1 else 0) := by
                rw [← hfx]
                cases hh : freeI U x with
                | true => rw [filtG_next HX.out hh, List.length_append]; rfl
                | false => rw [filtG_same HX.out hh]; rfl
              have HFY := Lib.hid hfy
              have hF60 : FN ≤ 60 := by omega
              clear hbm hfx hfy HIN HFR HAI
              obtain ⟨fx, hfx⟩ : ∃ q, freeI U x = q := ⟨_, rfl⟩
              rw [hfx] at HFY ⊢
              clear hfx
              cases fx with
              | false =>
                go_wp2
                go_roundw
                case rel => exact ⟨k + 1, by omega, by push_cast; rfl, by rw [HFY.out]; rfl, HBX.out⟩
                case measure => simp [intOf] <;> omega
              | true =>
                have hw9 : IntKind.i64.wrap ((FN : Int) + 1) = (FN : Int) + 1 := IntWalk.i64_in _ (by omega)
                go_wp2
                go_roundw
                case rel => exact ⟨k + 1, by omega, by push_cast; rfl, by rw [HFY.out]; push_cast; rfl, HBX.out⟩
                case measure => simp [intOf] <;> omega
    · obtain rfl : k = n := by omega
      have hd : decide ((k : Int) < (k : Int)) = false := decide_eq_false (by omega)
      have HNL := Lib.hid (show ((L.take k).filter (freeI U)).length = O.length by rw [List.take_of_length_le (by rw [HLN.out]; exact Nat.le_refl _), HOL.out])
      rw [HNL.out]
      have HB4 := Lib.hid (belStep HB.out hbr)
      have HO4 := Lib.hid (HO.out.later hbr)
      have hb0 : Below wr.heap.size wr wr := Below.refl _ _
      clear hbr
      generalize wr = W4 at *
      go_wp2
      go_loopw [12] (fun iv wr => ∃ m : Nat, 1 ≤ m ∧ (m ≤ O.length ∨ m = 1) ∧ iv = .int .i64 m ∧ Below W4.heap.size W4 wr) (fun iv _ => O.length - (intOf iv).toNat)
      case atStart => exact ⟨1, Nat.le_refl _, .inr rfl, rfl, hb0⟩
      case round =>
        clear hb0
        obtain ⟨m, hm1, hm2, rfl, hbr⟩ := hrel
        by_cases hlm : m < O.length
        · obtain ⟨j, rfl⟩ : ∃ j, m = j + 1 := ⟨m - 1, by omega⟩
          have hd : decide (((j + 1 : Nat) : Int) < (O.length : Int)) = true := decide_eq_true (by omega)
          have hmi : ((j + 1 : Nat) : Int) < (O.length : Int) := by omega
          have hj0 : (0 : Int) ≤ (j : Int) := by omega
          have hji : (j : Int) < (O.length : Int) := by omega
          have hj9 : ((j + 1 : Nat) : Int) - 1 = (j : Int) := by push_cast; omega
          have hj8 : IntKind.i64.wrap (j : Int) = (j : Int) := IntWalk.i64_in _ (by omega)
          have hjl : j < O.length := by omega
          obtain ⟨q, hq⟩ : ∃ q : Nat, j + 1 = q := ⟨_, rfl⟩
          have hq9 : (q : Int) - 1 = (j : Int) := by omega
          obtain ⟨x, hx⟩ : ∃ x, O[j]? = some x := ⟨O[j], List.getElem?_eq_getElem hjl⟩
          obtain ⟨bc, oc, ec, _, hcc⟩ := (HO4.out.later hbr).elem ImgV.cells_len (by omega) hx
          subst ec
          have c0 := keep (hcc 0 _ rfl)
          have c1 := keep (hcc 1 _ rfl)
          have c2 := keep (hcc 2 _ rfl)
          rw [Nat.add_zero] at c0
          obtain ⟨y, hy⟩ : ∃ y, O[(j + 1)]? = some y := ⟨O[(j + 1)], List.getElem?_eq_getElem hlm⟩
          obtain ⟨be, oe, ee, _, hce⟩ := (HO4.out.later hbr).elem ImgV.cells_len (by omega) hy
          simp only [Option.some.injEq, Addr.mk.injEq, and_true] at ee
          obtain ⟨rfl, rfl⟩ := ee
          have e0 := keep (hce 0 _ rfl)
          have e1 := keep (hce 1 _ rfl)
          have e2 := keep (hce 2 _ rfl)
          rw [Nat.add_zero] at e0
          obtain ⟨g1, g2, g3⟩ := order_asks (HPW.out j (j + 1) x y (by omega) hx hy) (HNE.out j (j + 1) x y (by omega) hx hy)
          have HBR := Lib.hid hbr
          have hbel : Below wr.heap.size wr wr := Below.refl _ _
          clear hx hy hcc hce hbr
          rw [hq] at hd hmi hlm hm2 e0 e1 e2 ⊢
          have HQ := Lib.hid hq
          clear hq hj9
          go_upto_region 26 with fail
          have hw : Below wr.heap.size wr wr := Below.refl _ _
          have aa0 : (wr.alloc (.cells #[.string x.name, .int .i64 x.size, .int .i64 x.last] 31)).cell? ⟨wr.heap.size, 0, none⟩ = some (.string x.name) := by first | (simp; done) | (rw [World.cell?_alloc_at _ _ _ _ (by simp)]; rfl) | (rw [World.cell?_alloc_past _ _ _ (by simp <;> omega), World.cell?_alloc_at _ _ _ _ (by simp)]; rfl) | (rw [World.cell?_alloc_past _ _ _ (by simp <;> omega), World.cell?_alloc_past _ _ _ (by simp <;> omega), World.cell?_alloc_at _ _ _ _ (by simp)]; rfl)
          have aa1 : (wr.alloc (.cells #[.string x.name, .int .i64 x.size, .int .i64 x.last] 31)).cell? ⟨wr.heap.size, 1, none⟩ = some (.int .i64 x.size) := by first | (simp; done) | (rw [World.cell?_alloc_at _ _ _ _ (by simp)]; rfl) | (rw [World.cell?_alloc_past _ _ _ (by simp <;> omega), World.cell?_alloc_at _ _ _ _ (by simp)]; rfl) | (rw [World.cell?_alloc_past _ _ _ (by simp <;> omega), World.cell?_alloc_past _ _ _ (by simp <;> omega), World.cell?_alloc_at _ _ _ _ (by simp)]; rfl)
          have aa2 : (wr.alloc (.cells #[.string x.name, .int .i64 x.size, .int .i64 x.last] 31)).cell? ⟨wr.heap.size, 2, none⟩ = some (.int .i64 x.last) := by first | (simp; done) | (rw [World.cell?_alloc_at _ _ _ _ (by simp)]; rfl) | (rw [World.cell?_alloc_past _ _ _ (by simp <;> omega), World.cell?_alloc_at _ _ _ _ (by simp)]; rfl) | (rw [World.cell?_alloc_past _ _ _ (by simp <;> omega), World.cell?_alloc_past _ _ _ (by simp <;> omega), World.cell?_alloc_at _ _ _ _ (by simp)]; rfl)
          have hb2 := (by repeat (first | exact hbel | refine belAlloc ?_ _ | refine belDrew ?_ | refine belSet ?_ _ _ (by simp)) : Below wr.heap.size wr (wr.alloc (.cells #[.string x.name, .int .i64 x.size, .int .i64 x.last] 31)))
          replace c0 := keepOnP c0 hb2
          replace c1 := keepOnP c1 hb2
          replace c2 := keepOnP c2 hb2
          replace e0 := keepOnP e0 hb2
          replace e1 := keepOnP e1 hb2
          replace e2 := keepOnP e2 hb2
          replace hw := belStep hw hb2
          clear hb2 hbel
          generalize wr.alloc (.cells #[.string x.name, .int .i64 x.size, .int .i64 x.last] 31) = W6 at *
          replace aa0 := keep aa0
          replace aa1 := keep aa1
          replace aa2 := keep aa2
          have hbel : Below W6.heap.size W6 W6 := Below.refl _ _
          skip
          have HB6 := Lib.hid (belStep HBR.out hw)
          clear hw
          go_upto_region 27 with fail
          have hw : Below W6.heap.size W6 W6 := Below.refl _ _
          have bb0 : (W6.alloc (.cells #[.string y.name, .int .i64 y.size, .int .i64 y.last] 31)).cell? ⟨W6.heap.size, 0, none⟩ = some (.string y.name) := by first | (simp; done) | (rw [World.cell?_alloc_at _ _ _ _ (by simp)]; rfl) | (rw [World.cell?_alloc_past _ _ _ (by simp <;> omega), World.cell?_alloc_at _ _ _ _ (by simp)]; rfl) | (rw [World.cell?_alloc_past _ _ _ (by simp <;> omega), World.cell?_alloc_past _ _ _ (by simp <;> omega), World.cell?_alloc_at _ _ _ _ (by simp)]; rfl)
          have bb1 : (W6.alloc (.cells #[.string y.name, .int .i64 y.size, .int .i64 y.last] 31)).cell? ⟨W6.heap.size, 1, none⟩ = some (.int .i64 y.size) := by first | (simp; done) | (rw [World.cell?_alloc_at _ _ _ _ (by simp)]; rfl) | (rw [World.cell?_alloc_past _ _ _ (by simp <;> omega), World.cell?_alloc_at _ _ _ _ (by simp)]; rfl) | (rw [World.cell?_alloc_past _ _ _ (by simp <;> omega), World.cell?_alloc_past _ _ _ (by simp <;> omega), World.cell?_alloc_at _ _ _ _ (by simp)]; rfl)
          have bb2 : (W6.alloc (.cells #[.string y.name, .int .i64 y.size, .int .i64 y.last] 31)).cell? ⟨W6.heap.size, 2, none⟩ = some (.int .i64 y.last) := by first | (simp; done) | (rw [World.cell?_alloc_at _ _ _ _ (by simp)]; rfl) | (rw [World.cell?_alloc_past _ _ _ (by simp <;> omega), World.cell?_alloc_at _ _ _ _ (by simp)]; rfl) | (rw [World.cell?_alloc_past _ _ _ (by simp <;> omega), World.cell?_alloc_past _ _ _ (by simp <;> omega), World.cell?_alloc_at _ _ _ _ (by simp)]; rfl)
          have hb2 := (by repeat (first | exact hbel | refine belAlloc ?_ _ | refine belDrew ?_ | refine belSet ?_ _ _ (by simp)) : Below W6.heap.size W6 (W6.alloc (.cells #[.string y.name, .int .i64 y.size, .int .i64 y.last] 31)))
          replace aa0 := keepOnP aa0 hb2
          replace aa1 := keepOnP aa1 hb2
          replace aa2 := keepOnP aa2 hb2
          replace hw := belStep hw hb2
          clear hb2 hbel
          generalize W6.alloc (.cells #[.string y.name, .int .i64 y.size, .int .i64 y.last] 31) = W7 at *
          replace bb0 := keep bb0
          replace bb1 := keep bb1
          replace bb2 := keep bb2
          have hbel : Below W7.heap.size W7 W7 := Below.refl _ _
          skip
          have HB7 := Lib.hid (belStep HB6.out hw)
          clear hw c0 c1 c2 e0 e1 e2
          have d1 : decide (y.last < x.last) = false := decide_eq_false g1
          by_cases h1 : x.last = y.last
          · have d2 : (x.last == y.last) = true := by rw [h1]; simp
            have d3 : decide (x.size < y.size) = false := decide_eq_false (g2 h1)
            by_cases h2 : x.size = y.size
            · have d4 : (x.size == y.size) = true := by rw [h2]; simp
              have d5 := g3 h1 h2
              have H1 := Lib.hid h1
              have H2 := Lib.hid h2
              clear g1 g2 g3 h1 h2
              go_wp2
              go_roundw
              case rel => exact ⟨q + 1, by omega, by omega, by push_cast; rfl, belStep HB7.out hbel⟩
              case measure => simp [intOf] <;> omega
            · have d4 : (x.size == y.size) = false := by simpa using h2
              have H1 := Lib.hid h1
              clear g1 g2 g3 h1
              go_wp2
              go_roundw
              case rel => exact ⟨q + 1, by omega, by omega, by push_cast; rfl, belStep HB7.out hbel⟩
              case measure => simp [intOf] <;> omega
          · have d2 : (x.last == y.last) = false := by simpa using h1
            clear g1 g2 g3
            go_wp2
            go_roundw
            case rel => exact ⟨q + 1, by omega, by omega, by push_cast; rfl, belStep HB7.out hbel⟩
            case measure => simp [intOf] <;> omega
        · have hd : decide ((m : Int) < (O.length : Int)) = false := decide_eq_false (by omega)
          go_wp2
          go_ret
          exact ⟨by simp, belStep HB4.out hbr⟩

set_option maxRecDepth 100000 in
theorem lifted (os : Os) (started : os.Started) (H : Type) (enc : TypeId × Value → H) :
    ReturnsInHanded {} Try.checked os 4 .any (Rows.imageOrderSpec.pre6 enc Try.prog Try.f4 Rows.imageOrderRow.domain false) (Rows.imageOrderSpec.post enc Try.prog Try.f4 false true false false) := by
  refine returnsInHanded_of_change (C := Try.checked) own started (by kernel_rfl) Try.func4
    (ChangeSpec.witness6 (enc := enc) (C := Try.checked) false ⟨#[], #[.slice none 0 0, .slice none 0 0], []⟩ 8 (by kernel_rfl) (by kernel_rfl) (by kernel_rfl) (by kernel_rfl)) ?_
  intro W base args ds gs before hval0 hW hcnd _
  have hval : ∀ (j : Nat) t v, Try.f4.params[j]? = some t → args[j]? = some v → Value.okWide Try.prog W .any base t v := hval0
  have hW' := hW
  obtain ⟨p, q, hA0, hV, rfl, hfz, hnd⟩ := hW
  have hA : DataW.TrodAll enc Try.prog W 0 (fun _ => true) true Try.f4.params.toList args.toList ds p := hA0
  rw [Try.params4] at hA hval
  obtain ⟨v0, vs0, d0, ds0, p0, q0, hargs, rfl, rfl, h0, r0⟩ := trodAll_cons hA
  obtain ⟨v1, vs1, d1, ds1, p1, q1, rfl, rfl, rfl, h1, r1⟩ := trodAll_cons r0
  obtain ⟨rfl, rfl, rfl⟩ := trodAll_nil r1
  obtain rfl : args = #[v0, v1] := by cases args; simp_all
  obtain ⟨rfl, rfl⟩ := trodVars_none hV
  have k0 := h0
  have lt0 : ∀ x ∈ p0, x.block < W.heap.size := by obtain ⟨m, hm⟩ := k0; exact DataW.trod_lt m _ _ _ hm
  have o0 : Value.okWide Try.prog W .any base 25 v0 := hval 0 25 v0 rfl rfl
  obtain ⟨xa0, xn0, xc0, xl0, rfl, fl0, fo0, fr0⟩ := open_imgs o0 h0
  have k1 := h1
  have lt1 : ∀ x ∈ p1, x.block < W.heap.size := by obtain ⟨m, hm⟩ := k1; exact DataW.trod_lt m _ _ _ hm
  have o1 : Value.okWide Try.prog W .any base 26 v1 := hval 1 26 v1 rfl rfl
  obtain ⟨ya1, yn1, yc1, yu1, rfl, gl1, go1, gr1⟩ := open_texts o1 h1
  clear hA0 hval0
  refine (walk xa0 xn0 xc0 xl0 ya1 yn1 yc1 yu1 W fl0 fo0 fr0 gl1 go1 gr1).mono fun e W' ⟨he, bel⟩ => ?_
  subst he
  exact ⟨_, rfl, _, _, _, [], _, [], hW', trodAll_mk1 (shut_bool Try.underlying4 _), (trodAll_cons_mk (Below.trod laidOut (by kernel_rfl) (of_decide_eq_true (by kernel_rfl)) k0 bel lt0) (trodAll_cons_mk (Below.trod laidOut (by kernel_rfl) (of_decide_eq_true (by kernel_rfl)) k1 bel lt1) trodAll_mk0)), rfl, bel.frame _, fun h => by cases h⟩

theorem over : Rows.imageOrderRow.holds Try.pinned (OpenSpec.ofChange Rows.imageOrderSpec) :=
  OpenClaim.holds_of_wide 4 Try.f4 rfl rfl rfl rfl rfl rfl rfl ⟨rfl, rfl, rfl, rfl, rfl⟩ rfl rfl rfl rfl rfl (by kernel_rfl) Try.func4 (by kernel_rfl)
    (of_decide_eq_true (by kernel_rfl)) (by unfold Func.isWrapper; first | (rw [if_pos (by decide +kernel)]; kernel_rfl) | (rw [if_neg (by decide +kernel)]; exact ⟨rfl, rfl⟩))
    (fun os started H enc _ => lifted os started H enc)

/-- The statement. -/
theorem proved : Rows.ImageOrderSaid := over
#print axioms proved

end Go.Proofs.Ytmmfkgpckohacaa.imageOrder
