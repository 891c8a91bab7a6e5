
/- ImageTouch holds for all its arguments. No conditions. -/
import Derived.Test.YtmmfkgpckohacaaImLM
namespace Go.Proofs.Ytmmfkgpckohacaa.imageTouch
open Go.ChangeShapes Go.WideShapes Go.ChangeAt Go.RowKit
open Go.ChangeMaps (open_string shut_string)
set_option linter.unusedVariables false
set_option linter.unusedSimpArgs false
open Go.Sort
def lateI (L : List ImgV) (k : Nat) : Int := (L.take k).foldl (fun m x => if m < x.last then x.last else m) 0
theorem late_next {L : List ImgV} {k : Nat} {x : ImgV} (h : L[k]? = some x) : lateI L (k + 1) = if lateI L k < x.last then x.last else lateI L k := by
  unfold lateI; rw [takeG_next h, List.foldl_append]; rfl
theorem late_ge {L : List ImgV} : ∀ {k : Nat}, k ≤ L.length → 0 ≤ lateI L k ∧ ∀ x ∈ L.take k, x.last ≤ lateI L k := by
  intro k
  induction k with
  | zero => intro _; exact ⟨by unfold lateI; simp, fun x hx => by simp at hx⟩
  | succ k ih =>
    intro hk
    obtain ⟨h1, h2⟩ := ih (by omega)
    have hx := List.getElem?_eq_getElem (show k < L.length by omega)
    rw [late_next hx]
    refine ⟨by split <;> omega, fun y hy => ?_⟩
    rw [takeG_next hx] at hy
    rcases List.mem_append.1 hy with hy | hy
    · have := h2 y hy
      split <;> omega
    · simp only [List.mem_singleton] at hy
      subst hy
      split <;> omega
theorem late_le {L : List ImgV} {m : Int} (hm : 0 ≤ m) : ∀ {k : Nat}, k ≤ L.length → (∀ x ∈ L.take k, x.last ≤ m) → lateI L k ≤ m := by
  intro k
  induction k with
  | zero => intro _ _; unfold lateI; simpa using hm
  | succ k ih =>
    intro hk h
    have hx := List.getElem?_eq_getElem (show k < L.length by omega)
    rw [takeG_next hx] at h
    have h1 := ih (by omega) (fun y hy => h y (List.mem_append_left _ hy))
    have h2 := h _ (List.mem_append_right _ (List.mem_singleton.2 rfl))
    rw [late_next hx]
    split <;> omega
theorem touch_mem {L : List ImgV} {U : List ByteArray} {r m : Int} (hm : ∀ x ∈ L, x.last ≤ m) (hr : m < r) {y : ImgV} (hy : y ∈ touchI L U r) : (y.last == r) = hasU U y.name ∧ (hasU U y.name = false → y.last < r) := by
  unfold touchI at hy
  obtain ⟨x, hx, rfl⟩ := List.mem_map.1 hy
  have h := hm x hx
  cases hh : hasU U x.name with
  | true => simp [hh]
  | false =>
    simp only [hh, Bool.false_eq_true, if_false]
    refine ⟨?_, fun _ => by omega⟩
    rw [beq_eq_false_iff_ne]
    omega
theorem touch_sum (L : List ImgV) (U : List ByteArray) (r : Int) : sumI (touchI L U r) = sumI L := by
  unfold sumI touchI
  rw [List.foldl_map]
  congr 1
  funext m x
  split <;> rfl
theorem touch_ok {L : List ImgV} {U : List ByteArray} {r : Int} (h : ∀ x ∈ L, x.ok) (hr : InI r) : ∀ x ∈ touchI L U r, x.ok := by
  intro y hy
  unfold touchI at hy
  obtain ⟨x, hx, rfl⟩ := List.mem_map.1 hy
  obtain ⟨h1, h2, h3⟩ := h x hx
  split
  · exact ⟨h1, h2, hr⟩
  · exact ⟨h1, h2, h3⟩
theorem order_nil (L : List ImgV) : orderI L [] = sortBy (ltOf cfI) L := by
  unfold orderI
  rw [show L.filter (freeI []) = L from List.filter_eq_self.2 (fun x _ => rfl)]
theorem order_pw (L : List ImgV) (U : List ByteArray) {i j : Nat} {x y : ImgV} (hij : i < j) (hx : (orderI L U)[i]? = some x) (hy : (orderI L U)[j]? = some y) : ltOf cfI y x = false := by
  have h := sortBy_pw swo_cfI (L.filter (freeI U))
  obtain ⟨h1, e1⟩ := List.getElem?_eq_some_iff.1 hx
  obtain ⟨h2, e2⟩ := List.getElem?_eq_some_iff.1 hy
  have := List.pairwise_iff_getElem.1 h i j h1 h2 hij
  unfold orderI at e1 e2
  rw [e1, e2] at this
  simpa using this
set_option maxRecDepth 100000 in
set_option maxHeartbeats 16000000 in
theorem walk (a : Option Addr) (n c : Nat) (L : List ImgV) (b : Option Addr) (ul uc : Nat) (U : List ByteArray) (mr : Int) (w : World) (hl : L.length = n) (hok : ∀ x ∈ L, x.ok) (hR : Row w a n c 3 (L.flatMap ImgV.cells)) (hu : U.length = ul) (huk : ∀ s ∈ U, s.size ≤ maxLen) (hRU : Row w b ul uc 1 (U.map Value.string)) (hmr : 0 ≤ mr ∧ mr ≤ 255) :
    Calls Try.prog 6 #[.slice a n c, .slice b ul uc, .int .u8 mr] w fun e w' => e = .returned (.bool true) ∧ Below w.heap.size w w' := by
  have hw : Below w.heap.size w w := Below.refl _ _
  have hbel := hw
  have hbd : n ≤ c ∧ c ≤ 9223372036854775807 := by obtain ⟨_, h1, h2, _⟩ := hR; unfold maxLen at h2; exact ⟨h1, h2⟩
  obtain ⟨hbd1, hbd2⟩ := hbd
  obtain ⟨fw, hfw⟩ : ∃ q, fewI L = q := ⟨_, rfl⟩
  have CFW := Lib.hid (fun u (hu : Below w.heap.size w u) => hfw ▸ iref_Few a n c L u hl (hR.later hu) hok)
  have HFW := Lib.hid hfw
  obtain ⟨rt, hrt⟩ : ∃ q, rightI L = q := ⟨_, rfl⟩
  have CRT := Lib.hid (fun u (hu : Below w.heap.size w u) => hrt ▸ iref_Right a n c L u hl (hR.later hu))
  have HRT := Lib.hid hrt
  clear hrt
  have HR := Lib.hid hR
  have HOK := Lib.hid hok
  have HLN := Lib.hid hl
  clear hR hok hl hfw
  have hbu : ul ≤ uc ∧ uc ≤ 9223372036854775807 := by obtain ⟨_, h1, h2, _⟩ := hRU; unfold maxLen at h2; exact ⟨h1, h2⟩
  obtain ⟨hbu1, hbu2⟩ := hbu
  obtain ⟨fu, hfu⟩ : ∃ q, fewT U = q := ⟨_, rfl⟩
  have CFU := Lib.hid (fun u (hu9 : Below w.heap.size w u) => hfu ▸ iref_Names b ul uc U u hu (hRU.later hu9) huk)
  have HFU := Lib.hid hfu
  have HRU := Lib.hid hRU
  have HUN := Lib.hid hu
  clear hRU huk hu hfu
  go_enter Try.func6, Try.ntmps6
  go_upto_region 3 with (first | (go_at_call 17; (with_reducible refine (awake15 _).mono ?_); rintro e w1 ⟨rfl, hb1⟩; replace hbel := belStep hbel hb1; clear hb1) | (go_at_call 30; (with_reducible refine (CFW.out _ hbel).mono ?_); rintro e wf1 ⟨rfl, hb_wf1⟩; replace hbel := belStep hbel hb_wf1; clear hb_wf1; rcases fw with _ | _) | (go_at_call 31; (with_reducible refine (CFU.out _ hbel).mono ?_); rintro e wf3 ⟨rfl, hb_wf3⟩; replace hbel := belStep hbel hb_wf3; clear hb_wf3; rcases fu with _ | _) | (go_at_call 32; (with_reducible refine (CRT.out _ hbel).mono ?_); rintro e wf2 ⟨rfl, hb_wf2⟩; replace hbel := belStep hbel hb_wf2; clear hb_wf2; rcases rt with _ | _))
  · go_ret
    exact ⟨rfl, hbel⟩
  · go_ret
    exact ⟨rfl, hbel⟩
  · go_ret
    exact ⟨rfl, hbel⟩
  have HB := Lib.hid hbel
  have HRI := Lib.hid (right_rises HRT.out)
  have HNM := Lib.hid (right_nums HRT.out)
  have hn60 : n ≤ 60 := by rw [← HLN.out]; exact few_len HFW.out
  have hu60 : ul ≤ 60 := by rw [← HUN.out]; exact few_lenT HFU.out
  clear hw CFW CRT CFU
  go_wp2
  go_loopw [7, 8] (fun m i wr => ∃ k : Nat, k ≤ n ∧ i = .int .i64 k ∧ m = .int .i64 (lateI L k) ∧ Hid (∀ x ∈ L.take k, x.last ≤ 1000000000) ∧ Below w.heap.size w wr) (fun _ i _ => n - (intOf i).toNat)
  case atStart => exact ⟨0, Nat.zero_le _, rfl, rfl, Lib.hid (fun x hx => by simp at hx), hbel⟩
  case round =>
    clear HB hbel
    obtain ⟨k, hk, rfl, rfl, HLE, hbr⟩ := hrel
    have hgl := late_ge (L := L) (k := k) (by rw [HLN.out]; exact hk)
    have hll := late_le (L := L) (m := 1000000000) (by omega) (k := k) (by rw [HLN.out]; exact hk) HLE.out
    by_cases hlt : k < n
    · have hd : decide ((k : Int) < (n : Int)) = true := decide_eq_true (by omega)
      have hki : (k : Int) < (n : Int) := by omega
      have hk0 : (0 : Int) ≤ (k : Int) := by omega
      obtain ⟨x, hx⟩ : ∃ x, L[k]? = some x := ⟨L[k]'(by rw [HLN.out]; exact hlt), List.getElem?_eq_getElem _⟩
      obtain ⟨bc, oc, ec, _, hcc⟩ := (HR.out.later hbr).elem ImgV.cells_len (by omega) hx
      subst ec
      have c0 := keep (hcc 0 _ rfl)
      have c1 := keep (hcc 1 _ rfl)
      have c2 := keep (hcc 2 _ rfl)
      rw [Nat.add_zero] at c0
      have HBR := Lib.hid hbr
      clear hbr
      have hbel : Below wr.heap.size wr wr := Below.refl _ _
      have hgl0 := hgl.1
      have HLN2 := Lib.hid (late_next hx)
      have HX := Lib.hid hx
      obtain ⟨m, hm⟩ : ∃ m, lateI L k = m := ⟨_, rfl⟩
      rw [hm] at hgl0 hll HLN2 ⊢
      clear hgl hx hcc hm
      by_cases hbig : 1000000000 < x.last
      · have d1 : decide ((1000000000 : Int) < x.last) = true := decide_eq_true hbig
        go_wp2
        go_ret
        exact ⟨rfl, belStep HBR.out hbel⟩
      have d1 : decide ((1000000000 : Int) < x.last) = false := decide_eq_false hbig
      have HLX := Lib.hid (show ∀ y ∈ L.take (k + 1), y.last ≤ 1000000000 from fun y hy => by rw [takeG_next HX.out] at hy; rcases List.mem_append.1 hy with hy | hy; exact HLE.out y hy; rw [List.mem_singleton.1 hy]; omega)
      by_cases hgt : m < x.last
      · have d2 : decide (m < x.last) = true := decide_eq_true hgt
        have HV := Lib.hid (show lateI L (k + 1) = x.last by rw [HLN2.out, if_pos hgt])
        go_wp2
        go_roundw
        case rel => exact ⟨k + 1, by omega, by push_cast; rfl, by rw [HV.out], HLX, belStep HBR.out hbel⟩
        case measure => simp [intOf] <;> omega
      · have d2 : decide (m < x.last) = false := decide_eq_false hgt
        have HV := Lib.hid (show lateI L (k + 1) = m by rw [HLN2.out, if_neg hgt])
        go_wp2
        go_roundw
        case rel => exact ⟨k + 1, by omega, by push_cast; rfl, by rw [HV.out], HLX, belStep HBR.out hbel⟩
        case measure => simp [intOf] <;> omega
    · obtain rfl : k = n := by omega
      have hd : decide ((k : Int) < (k : Int)) = false := decide_eq_false (by omega)
      have hgl0 := hgl.1
      have HGE := Lib.hid (show ∀ x ∈ L, x.last ≤ lateI L k from fun x hx => hgl.2 x (by rw [List.take_of_length_le (by rw [HLN.out]; exact Nat.le_refl _)]; exact hx))
      obtain ⟨m, hm⟩ : ∃ m, lateI L k = m := ⟨_, rfl⟩
      rw [hm] at hgl0 hll HGE ⊢
      clear hgl hm
      obtain ⟨hmr0, hmr1⟩ := hmr
      have hw1 : IntKind.i64.wrap (m + 1) = m + 1 := IntWalk.i64_in _ (by omega)
      have hw2 : IntKind.i64.wrap mr = mr := IntWalk.i64_in _ (by omega)
      have hw3 : IntKind.i64.wrap (m + 1 + mr) = m + 1 + mr := IntWalk.i64_in _ (by omega)
      obtain ⟨R, hR⟩ : ∃ R, m + 1 + mr = R := ⟨_, rfl⟩
      have hRm : m < R := by omega
      have hRi : InI R := by unfold InI; omega
      have HTM := Lib.hid (fun y hy => touch_mem (U := U) (r := R) HGE.out hRm (y := y) hy)
      have HTS := Lib.hid (touch_sum L U R)
      have HTK := Lib.hid (touch_ok (U := U) HOK.out hRi)
      have HTR := Lib.hid (touch_rises HRI.out U R)
      have HTL := Lib.hid (show (touchI L U R).length = k by rw [touch_len]; exact HLN.out)
      have HB := Lib.hid hbr
      have hbel := hbr
      have CT := Lib.hid (fun u (hu : Below w.heap.size w u) => im_Touch a k c L b ul uc U R u HLN.out (HR.out.later hu) HRI.out HUN.out (HRU.out.later hu) (by omega))
      obtain ⟨TL, hTL⟩ : ∃ T, touchI L U R = T := ⟨_, rfl⟩
      rw [hTL] at HTM HTS HTK HTR HTL CT
      rw [HTL.out] at CT
      clear hTL hbr hlt hk
      go_upto_region 13 with (go_at_call 22; (with_reducible refine (CT.out _ HB.out).mono ?_); rintro e w2 ⟨v2, rfl, ho2, hb_⟩; replace HB := Lib.hid (belStep HB.out hb_); replace hbel := HB.out; obtain ⟨ta, tc, rfl, hr2⟩ := rowR_of_own ho2; have HT := Lib.hid hr2; clear hr2 ho2; clear hb_)
      have COR := Lib.hid (fun u (hr : Row u ta k tc 3 (TL.flatMap ImgV.cells)) => im_Order ta k tc TL none 0 0 [] u HTL.out hr HTR.out rfl (row0T u) (by omega))
      have HPW := Lib.hid (fun i j x y hij hx hy => order_pw TL [] (i := i) (j := j) (x := x) (y := y) hij hx hy)
      have HOM := Lib.hid (show ∀ y, y ∈ orderI TL [] → y ∈ TL from fun y hy => by rw [order_nil] at hy; exact sortBy_mem.1 hy)
      have HOL := Lib.hid (show (orderI TL []).length = k by rw [order_nil, sortBy_len]; exact HTL.out)
      obtain ⟨O, hO⟩ : ∃ O, orderI TL [] = O := ⟨_, rfl⟩
      rw [hO] at COR HPW HOM HOL
      rw [HOL.out] at COR
      clear hO CT
      go_upto_region 14 with (go_at_call 28; (with_reducible refine (COR.out _ HT.out).mono ?_); rintro e w3 ⟨v3, rfl, ho3, hb_⟩; replace HT := Lib.hid (HT.out.later hb_); replace HB := Lib.hid (belStep HB.out hb_); replace hbel := HB.out; obtain ⟨oa, oc, rfl, hr3⟩ := rowR_of_own ho3; have HO := Lib.hid hr3; clear hr3 ho3; clear hb_)
      clear COR hbel
      have hbo : k ≤ oc ∧ oc ≤ 9223372036854775807 := by obtain ⟨_, h1, h2, _⟩ := HO.out; unfold maxLen at h2; exact ⟨h1, h2⟩
      obtain ⟨hbo1, hbo2⟩ := hbo
      have hb0 : Below w3.heap.size w3 w3 := Below.refl _ _
      generalize w3 = W3 at *
      go_wp2
      go_loopw [12, 13] (fun bv iv wr => ∃ (j : Nat) (bh : Bool), j ≤ k ∧ iv = .int .i64 j ∧ bv = .bool bh ∧ Hid (bh = true → ∃ q y, q < j ∧ O[q]? = some y ∧ hasU U y.name = true) ∧ Below W3.heap.size W3 wr) (fun _ iv _ => k - (intOf iv).toNat)
      case atStart => exact ⟨0, false, Nat.zero_le _, rfl, rfl, Lib.hid (fun h => by cases h), hb0⟩
      case round =>
        clear hb0
        obtain ⟨j, bh, hj, rfl, rfl, HBH, hbr⟩ := hrel
        by_cases hlt : j < k
        · have hd : decide ((j : Int) < (k : Int)) = true := decide_eq_true (by omega)
          have hki : (j : Int) < (k : Int) := by omega
          have hk0 : (0 : Int) ≤ (j : Int) := by omega
          obtain ⟨x, hx⟩ : ∃ x, O[j]? = some x := ⟨O[j]'(by rw [HOL.out]; exact hlt), List.getElem?_eq_getElem _⟩
          obtain ⟨bc, oc, ec, _, hcc⟩ := (HO.out.later hbr).elem ImgV.cells_len (by omega) hx
          subst ec
          have c0 := keep (hcc 0 _ rfl)
          have c1 := keep (hcc 1 _ rfl)
          have c2 := keep (hcc 2 _ rfl)
          rw [Nat.add_zero] at c0
          have htm := HTM.out x (HOM.out x (List.mem_of_getElem? hx))
          have CH := Lib.hid (iref_Has b ul uc U x.name wr HUN.out (HRU.out.later (belStep HB.out hbr)))
          obtain ⟨is, his⟩ : ∃ q, hasU U x.name = q := ⟨_, rfl⟩
          have HNB := Lib.hid (show is = false → bh = false from fun h => by
            cases hb : bh with
            | false => rfl
            | true =>
              obtain ⟨q, y, hq, hy, hu⟩ := HBH.out hb
              have h1 := HPW.out q j y x hq hy hx
              have h2 := HTM.out y (HOM.out y (List.mem_of_getElem? hy))
              have h3 : y.last = R := by have := h2.1; rw [hu] at this; exact eq_of_beq this
              have h4 : x.last < R := htm.2 (by rw [his, h])
              rw [ah_1 (by omega), decide_eq_true (by omega)] at h1
              cases h1)
          have HBN := Lib.hid (show is = true → ∃ q y, q < j + 1 ∧ O[q]? = some y ∧ hasU U y.name = true from fun h => ⟨j, x, by omega, hx, by rw [his, h]⟩)
          have hlast := htm.1
          rw [his] at CH hlast
          have HBR := Lib.hid hbr
          have hbel : Below wr.heap.size wr wr := Below.refl _ _
          clear hx hcc htm his hbr HBH
          cases is with
          | false =>
            obtain rfl := HNB.out rfl
            have hlb : ¬ x.last = R := by simpa using hlast
            go_wp2_with (go_at_call 33; (with_reducible refine (CH.out).mono ?_); rintro e w6 ⟨rfl, hb6⟩; have hbz := belStep hbel hb6; clear hbel; have hbel := hbz; clear hbz hb6)
            go_roundw
            case rel => exact ⟨j + 1, false, by omega, by push_cast; rfl, rfl, HBN, belStep HBR.out hbel⟩
            case measure => simp [intOf] <;> omega
          | true =>
            have hlb : x.last = R := eq_of_beq hlast
            cases bh with
            | false =>
              go_wp2_with (go_at_call 33; (with_reducible refine (CH.out).mono ?_); rintro e w6 ⟨rfl, hb6⟩; have hbz := belStep hbel hb6; clear hbel; have hbel := hbz; clear hbz hb6)
              go_roundw
              case rel => exact ⟨j + 1, true, by omega, by push_cast; rfl, rfl, Lib.hid (fun _ => HBN.out (by trivial)), belStep HBR.out hbel⟩
              case measure => simp [intOf] <;> omega
            | true =>
              go_wp2_with (go_at_call 33; (with_reducible refine (CH.out).mono ?_); rintro e w6 ⟨rfl, hb6⟩; have hbz := belStep hbel hb6; clear hbel; have hbel := hbz; clear hbz hb6)
              go_roundw
              case rel => exact ⟨j + 1, true, by omega, by push_cast; rfl, rfl, Lib.hid (fun _ => HBN.out (by trivial)), belStep HBR.out hbel⟩
              case measure => simp [intOf] <;> omega
        · obtain rfl : j = k := by omega
          have hd : decide ((j : Int) < (j : Int)) = false := decide_eq_false (by omega)
          have C1 := Lib.hid (fun u (hu : Below W3.heap.size W3 u) => HTS.out ▸ im_Total ta j tc TL u HTL.out HTK.out (HT.out.later hu))
          have C2 := Lib.hid (fun u (hu : Below W3.heap.size W3 u) => im_Total a j c L u HLN.out HOK.out (HR.out.later (belStep HB.out hu)))
          obtain ⟨sm, hsm⟩ : ∃ z, sumI L = z := ⟨_, rfl⟩
          rw [hsm] at C1 C2
          clear hsm
          have hbel := hbr
          go_wp2_with (first | (go_at_call 26; (with_reducible refine (C1.out _ hbel).mono ?_); rintro e w8 ⟨rfl, hb_⟩; have hbz := belStep hbel hb_; clear hbel; have hbel := hbz; clear hbz hb_) | (go_at_call 26; (with_reducible refine (C2.out _ hbel).mono ?_); rintro e w9 ⟨rfl, hb_⟩; have hbz := belStep hbel hb_; clear hbel; have hbel := hbz; clear hbz hb_))
          go_ret
          exact ⟨by simp, belStep HB.out hbel⟩

set_option maxRecDepth 100000 in
theorem lifted (os : Os) (started : os.Started) (H : Type) (enc : TypeId × Value → H) :
    ReturnsInHanded {} Try.checked os 6 .any (Rows.imageTouchSpec.pre6 enc Try.prog Try.f6 Rows.imageTouchRow.domain false) (Rows.imageTouchSpec.post enc Try.prog Try.f6 false true false false) := by
  refine returnsInHanded_of_change (C := Try.checked) own started (by kernel_rfl) Try.func6
    (ChangeSpec.witness6 (enc := enc) (C := Try.checked) false ⟨#[], #[.slice none 0 0, .slice none 0 0, .int .u8 0], []⟩ 8 (by kernel_rfl) (by kernel_rfl) (by kernel_rfl) (by kernel_rfl)) ?_
  intro W base args ds gs before hval0 hW hcnd _
  have hval : ∀ (j : Nat) t v, Try.f6.params[j]? = some t → args[j]? = some v → Value.okWide Try.prog W .any base t v := hval0
  have hW' := hW
  obtain ⟨p, q, hA0, hV, rfl, hfz, hnd⟩ := hW
  have hA : DataW.TrodAll enc Try.prog W 0 (fun _ => true) true Try.f6.params.toList args.toList ds p := hA0
  rw [Try.params6] at hA hval
  obtain ⟨v0, vs0, d0, ds0, p0, q0, hargs, rfl, rfl, h0, r0⟩ := trodAll_cons hA
  obtain ⟨v1, vs1, d1, ds1, p1, q1, rfl, rfl, rfl, h1, r1⟩ := trodAll_cons r0
  obtain ⟨v2, vs2, d2, ds2, p2, q2, rfl, rfl, rfl, h2, r2⟩ := trodAll_cons r1
  obtain ⟨rfl, rfl, rfl⟩ := trodAll_nil r2
  obtain rfl : args = #[v0, v1, v2] := by cases args; simp_all
  obtain ⟨rfl, rfl⟩ := trodVars_none hV
  have k0 := h0
  have lt0 : ∀ x ∈ p0, x.block < W.heap.size := by obtain ⟨m, hm⟩ := k0; exact DataW.trod_lt m _ _ _ hm
  have o0 : Value.okWide Try.prog W .any base 25 v0 := hval 0 25 v0 rfl rfl
  obtain ⟨xa0, xn0, xc0, xl0, rfl, fl0, fo0, fr0⟩ := open_imgs o0 h0
  have k1 := h1
  have lt1 : ∀ x ∈ p1, x.block < W.heap.size := by obtain ⟨m, hm⟩ := k1; exact DataW.trod_lt m _ _ _ hm
  have o1 : Value.okWide Try.prog W .any base 26 v1 := hval 1 26 v1 rfl rfl
  obtain ⟨ya1, yn1, yc1, yu1, rfl, gl1, go1, gr1⟩ := open_texts o1 h1
  have k2 := h2
  have lt2 : ∀ x ∈ p2, x.block < W.heap.size := by obtain ⟨m, hm⟩ := k2; exact DataW.trod_lt m _ _ _ hm
  have o2 : Value.okWide Try.prog W .any base 5 v2 := hval 2 5 v2 rfl rfl
  obtain ⟨a2, rfl, rfl, rfl, w2⟩ := open_int Try.underlying5 o2 h2
  clear hA0 hval0
  refine (walk xa0 xn0 xc0 xl0 ya1 yn1 yc1 yu1 a2 W fl0 fo0 fr0 gl1 go1 gr1 (in8_of_wf w2)).mono fun e W' ⟨he, bel⟩ => ?_
  subst he
  exact ⟨_, rfl, _, _, _, [], _, [], hW', trodAll_mk1 (shut_bool Try.underlying4 _), (trodAll_cons_mk (Below.trod laidOut (by kernel_rfl) (of_decide_eq_true (by kernel_rfl)) k0 bel lt0) (trodAll_cons_mk (Below.trod laidOut (by kernel_rfl) (of_decide_eq_true (by kernel_rfl)) k1 bel lt1) (trodAll_cons_mk (Below.trod laidOut (by kernel_rfl) (of_decide_eq_true (by kernel_rfl)) k2 bel lt2) trodAll_mk0))), rfl, bel.frame _, fun h => by cases h⟩

theorem over : Rows.imageTouchRow.holds Try.pinned (OpenSpec.ofChange Rows.imageTouchSpec) :=
  OpenClaim.holds_of_wide 6 Try.f6 rfl rfl rfl rfl rfl rfl rfl ⟨rfl, rfl, rfl, rfl, rfl⟩ rfl rfl rfl rfl rfl (by kernel_rfl) Try.func6 (by kernel_rfl)
    (of_decide_eq_true (by kernel_rfl)) (by unfold Func.isWrapper; first | (rw [if_pos (by decide +kernel)]; kernel_rfl) | (rw [if_neg (by decide +kernel)]; exact ⟨rfl, rfl⟩))
    (fun os started H enc _ => lifted os started H enc)

/-- The statement. -/
theorem proved : Rows.ImageTouchSaid := over
#print axioms proved

end Go.Proofs.Ytmmfkgpckohacaa.imageTouch
