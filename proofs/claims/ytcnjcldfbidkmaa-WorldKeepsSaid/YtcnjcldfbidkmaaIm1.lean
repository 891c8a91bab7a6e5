
/- image.place, image.Total: contracts. -/
import Derived.Test.YtcnjcldfbidkmaaImMath
namespace Go.Proofs.Ytcnjcldfbidkmaa
open Go.RowKit
set_option linter.unusedVariables false
set_option linter.unusedSimpArgs false
set_option maxRecDepth 100000 in
set_option maxHeartbeats 16000000 in
theorem im_place (a : Option Addr) (len cap : Nat) (L : List ImgV) (s : ByteArray) (w : World) (hl : L.length = len) (hR : Row w a len cap 3 (L.flatMap ImgV.cells)) (hri : Rises L) :
    Calls Try.prog 110 #[.slice a len cap, .string s] w fun e w' => e = .returned (.tuple #[.int .i64 (placeF L s), .bool (thereB L s)]) ∧ Below w.heap.size w w' := by
  have hbd_a : len ≤ cap ∧ cap ≤ 9223372036854775807 := by obtain ⟨_, h1, h2, _⟩ := hR; unfold maxLen at h2; exact ⟨h1, h2⟩
  obtain ⟨hbd1_a, hbd2_a⟩ := hbd_a
  have HR := Lib.hid hR
  have HRI := Lib.hid hri
  clear hR hri
  subst hl
  go_enter Try.func110, Try.ntmps110
  go_wp2
  go_loopw [6, 7] (fun lv hv wr => ∃ lo hi : Nat, lo ≤ hi ∧ hi ≤ L.length ∧ lv = .int .i64 lo ∧ hv = .int .i64 hi ∧ Hid (∀ i x, i < lo → L[i]? = some x → x.name.toList < s.toList) ∧ Hid (∀ i x, hi ≤ i → L[i]? = some x → ¬ x.name.toList < s.toList) ∧ w = wr) (fun l h _ => (intOf h).toNat - (intOf l).toNat)
  case atStart => exact ⟨0, L.length, Nat.zero_le _, Nat.le_refl _, rfl, rfl, Lib.hid (fun i x hi => by omega), Lib.hid (fun i x hi hx => by have := (List.getElem?_eq_some_iff.1 hx).1; omega), rfl⟩
  case round =>
    obtain ⟨lo, hi, hlh, hhl, rfl, rfl, HLO, HHI, rfl⟩ := hrel
    have hbel : Below w.heap.size w w := Below.refl _ _
    by_cases hlt : lo < hi
    · obtain ⟨m, hm⟩ : ∃ m : Nat, (lo : Int) + ((hi : Int) - (lo : Int)) / 2 = (m : Int) := ⟨lo + (hi - lo) / 2, by omega⟩
      have hml : lo ≤ m := by omega
      have hmh : m < hi := by omega
      have hmL : m < L.length := by omega
      have hn0 : (0 : Int) ≤ (hi : Int) - (lo : Int) := by omega
      have hn1 : (hi : Int) - (lo : Int) ≤ 9223372036854775807 := by omega
      have hn2 : ((hi : Int) - (lo : Int)) / 2 ≤ 9223372036854775807 := by omega
      have hn3 : 0 ≤ ((hi : Int) - (lo : Int)) / 2 := by omega
      obtain ⟨x, hx⟩ : ∃ x, L[m]? = some x := ⟨L[m], List.getElem?_eq_getElem hmL⟩
      obtain ⟨bc, oc, ec, _, hcc⟩ := (HR.out).elem ImgV.cells_len (by omega) hx
      subst ec
      have c0 := keep (hcc 0 _ rfl)
      have c1 := keep (hcc 1 _ rfl)
      have c2 := keep (hcc 2 _ rfl)
      rw [Nat.add_zero] at c0
      have HX := Lib.hid hx
      have hli : (lo : Int) < (hi : Int) := by omega
      have hmi : (m : Int) < (L.length : Int) := by omega
      have hm0 : (0 : Int) ≤ (m : Int) := by omega
      have hm9 : (m : Int) ≤ 9223372036854775806 := by omega
      clear hx hcc
      cases hb : Op.bytesLess x.name.toList s.toList with
      | false =>
        have HB := Lib.hid (show ¬ x.name.toList < s.toList by have h := hb; rw [bytesLess_iff] at h; exact of_decide_eq_false h)
        go_wp2
        go_roundw
        case rel => exact ⟨lo, m, by omega, by omega, rfl, rfl, HLO, Lib.hid (fun i y hi hy hc => (Nat.lt_or_ge m i).elim (fun q => HB.out (List.lt_trans (HRI.out.lt HX.out hy q) hc)) (fun q => by rw [show i = m from Nat.le_antisymm q hi] at hy; cases HX.out.symm.trans hy; exact HB.out hc)), by first | rfl | trivial⟩
        case measure => simp [intOf] <;> omega
      | true =>
        have HB := Lib.hid (show x.name.toList < s.toList by have h := hb; rw [bytesLess_iff] at h; exact of_decide_eq_true h)
        go_wp2
        go_roundw
        case rel => exact ⟨m + 1, hi, by omega, by omega, by push_cast; rfl, rfl, Lib.hid (fun i y hi hy => (Nat.lt_or_ge i m).elim (fun q => List.lt_trans (HRI.out.lt hy HX.out q) HB.out) (fun q => by rw [show i = m from Nat.le_antisymm (Nat.lt_succ_iff.1 hi) q] at hy; cases HX.out.symm.trans hy; exact HB.out)), HHI, by first | rfl | trivial⟩
        case measure => simp [intOf] <;> omega
    · obtain rfl : lo = hi := by omega
      have HP := Lib.hid (show Parts L s lo from ⟨hhl, HLO.out, HHI.out⟩)
      have HPL := Lib.hid HP.out.place
      have HTH := Lib.hid (HP.out.there HRI.out)
      clear HLO HHI hlt
      by_cases hll : lo < L.length
      · obtain ⟨x, hx⟩ : ∃ x, L[lo]? = some x := ⟨L[lo], List.getElem?_eq_getElem hll⟩
        obtain ⟨bc, oc, ec, _, hcc⟩ := (HR.out).elem ImgV.cells_len (by omega) hx
        subst ec
        have c0 := keep (hcc 0 _ rfl)
        have c1 := keep (hcc 1 _ rfl)
        have c2 := keep (hcc 2 _ rfl)
        rw [Nat.add_zero] at c0
        have HX := Lib.hid hx
        have hlli : (lo : Int) < (L.length : Int) := by omega
        have hl0 : (0 : Int) ≤ (lo : Int) := by omega
        clear hx hcc
        have hw : Below w.heap.size w w := hbel
        cases hq : (x.name.toList == s.toList) with
        | false =>
          have HT := Lib.hid (show thereB L s = false from Bool.eq_false_iff.2 (fun q => by obtain ⟨y, hy, he⟩ := HTH.out.1 q; have := HX.out.symm.trans hy; cases this; rw [he, beq_self_eq_true] at hq; cases hq))
          go_wp2
          have kk := fun d os => belStep hbel (below_regrown _ d os)
          refine wp_region_quiet_below (by kernel_rfl) (by kernel_rfl) ?_
          repeat ((with_reducible refine wpQuiet_step (fun K hK => ?_)); go_simp; (try (rw [if_neg]; rotate_left; · decide)); first | ((with_reducible refine hK _ ?_); clear hK K) | (apply Exists.intro; refine ⟨fun _ => ?_, hK _ ?_⟩; (fail); clear hK K))
          refine wpQuiet_nil (fun w1 hw1 => ?_)
          replace hbel := belStep hbel (bel_of_class hw1)
          clear hw1 kk
          go_wp2
          go_ret2
          exact ⟨by rw [HPL.out, HT.out]; rfl, hbel⟩
        | true =>
          have HT := Lib.hid (show thereB L s = true from HTH.out.2 ⟨x, HX.out, eq_of_beq hq⟩)
          go_wp2
          have kk := fun d os => belStep hbel (below_regrown _ d os)
          refine wp_region_quiet_below (by kernel_rfl) (by kernel_rfl) ?_
          repeat ((with_reducible refine wpQuiet_step (fun K hK => ?_)); go_simp; (try (rw [if_neg]; rotate_left; · decide)); first | ((with_reducible refine hK _ ?_); clear hK K) | (apply Exists.intro; refine ⟨fun _ => ?_, hK _ ?_⟩; (fail); clear hK K))
          refine wpQuiet_nil (fun w1 hw1 => ?_)
          replace hbel := belStep hbel (bel_of_class hw1)
          clear hw1 kk
          go_wp2
          go_ret2
          exact ⟨by rw [HPL.out, HT.out]; rfl, hbel⟩
      · have hlli : decide ((lo : Int) < (L.length : Int)) = false := decide_eq_false (by omega)
        have HT := Lib.hid (show thereB L s = false from Bool.eq_false_iff.2 (fun q => by obtain ⟨y, hy, he⟩ := HTH.out.1 q; have := (List.getElem?_eq_some_iff.1 hy).1; omega))
        have hw : Below w.heap.size w w := hbel
        go_wp2
        have kk := fun d os => belStep hbel (below_regrown _ d os)
        refine wp_region_quiet_below (by kernel_rfl) (by kernel_rfl) ?_
        repeat ((with_reducible refine wpQuiet_step (fun K hK => ?_)); go_simp; (try (rw [if_neg]; rotate_left; · decide)); first | ((with_reducible refine hK _ ?_); clear hK K) | (apply Exists.intro; refine ⟨fun _ => ?_, hK _ ?_⟩; (fail); clear hK K))
        refine wpQuiet_nil (fun w1 hw1 => ?_)
        replace hbel := belStep hbel (bel_of_class hw1)
        clear hw1 kk
        go_wp2
        go_ret2
        exact ⟨by rw [HPL.out, HT.out]; rfl, hbel⟩
theorem satAdd_in (a b : Int) : InI (satAdd a b) := by unfold satAdd InI; omega
theorem sumI_in (L : List ImgV) : InI (sumI L) := by
  unfold sumI
  have : ∀ (L : List ImgV) (a : Int), InI a → InI (L.foldl (fun n x => satAdd n x.size) a) := by
    intro L
    induction L with
    | nil => intro a h; exact h
    | cons x L ih => intro a _; exact ih _ (satAdd_in _ _)
  exact this L 0 (by unfold InI; decide)
end Go.Proofs.Ytcnjcldfbidkmaa
