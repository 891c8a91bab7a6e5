
/- SweepFails holds for all its arguments. No conditions. -/
import Derived.Test.YtampkolkbjmmkaaAwake22
namespace Go.Proofs.Ytampkolkbjmmkaa.sweepFails
open Go.ChangeShapes Go.WideShapes Go.ChangeAt Go.RowKit
open Go.ChangeMaps (open_string shut_string)
set_option linter.unusedVariables false
set_option linter.unusedSimpArgs false
open Go.Sort
theorem coll_none {need : Int} {V : List Bool} (h : ¬ need ≤ 0) : ∀ (l : List ImgV) (i : Nat) (g : List ByteArray), (∀ q, q < l.length → goesB V (i + q) = false) → collR need V l i g 0 = ⟨g, 0, i + l.length⟩
  | [], i, g, _ => rfl
  | x :: l, i, g, hq => by
    rw [coll_stays h (by have := hq 0 (by simp); simpa using this), coll_none h l (i + 1) g (fun q hl => by have := hq (q + 1) (by simpa using hl); rwa [Nat.add_assoc, Nat.add_comm 1 q])]
    simp only [List.length_cons]
    congr 1; omega
theorem coll_zero {need : Int} {V : List Bool} (h : need ≤ 0) (l : List ImgV) : collR need V l 0 [] 0 = ⟨[], 0, 0⟩ := by
  cases l with
  | nil => rfl
  | cons x l => exact coll_stop h
theorem goes_rep (n q : Nat) (h : q < n) : goesB (List.replicate n false) q = false := goes_at (by rw [List.getElem?_replicate, if_pos h])
theorem row_of_ownG {w : World} {B : Nat} {e : TypeId} {a : Option Addr} {n c : Nat} {l : List Bool} (h : OwnG Value.bool w B e (.slice a n c) l) (hl : l.length = n := by simp) : Row w a n c 1 (l.map Value.bool) := by
  obtain ⟨a2, c2, e2, hr⟩ := OwnG.row h
  simp only [Value.slice.injEq] at e2
  obtain ⟨rfl, rfl, rfl⟩ := e2
  exact hr
set_option maxRecDepth 100000 in
set_option maxHeartbeats 16000000 in
theorem walk (a : Option Addr) (n c : Nat) (L : List ImgV) (b : Option Addr) (ul uc : Nat) (U : List ByteArray) (need : Int) (w : World) (hl : L.length = n) (hok : ∀ x ∈ L, x.ok) (hR : Row w a n c 3 (L.flatMap ImgV.cells)) (hu : U.length = ul) (huk : ∀ s ∈ U, s.size ≤ maxLen) (hRU : Row w b ul uc 1 (U.map Value.string)) (hneed : InI need) :
    Calls Try.prog 9 #[.slice a n c, .slice b ul uc, .int .i64 need] w fun e w' => e = .returned (.bool true) ∧ Below w.heap.size w w' := by
  have hw : Below w.heap.size w w := Below.refl _ _
  have hbel := hw
  have hbd : n ≤ c ∧ c ≤ 9223372036854775807 := by obtain ⟨_, h1, h2, _⟩ := hR; unfold maxLen at h2; exact ⟨h1, h2⟩
  obtain ⟨hbd1, hbd2⟩ := hbd
  obtain ⟨fw, hfw⟩ : ∃ q, fewI L = q := ⟨_, rfl⟩
  have CFW := Lib.hid (fun u (hu : Below w.heap.size w u) => hfw ▸ iref_Few a n c L u hl (hR.later hu) hok)
  have HFW := Lib.hid hfw
  obtain ⟨rt, hrt⟩ : ∃ q, rightI L = q := ⟨_, rfl⟩
  have CRT := Lib.hid (fun u (hu : Below w.heap.size w u) => hrt ▸ iref_Right a n c L u hl (hR.later hu))
  have HRT := Lib.hid hrt
  clear hrt
  have HR := Lib.hid hR
  have HOK := Lib.hid hok
  have HLN := Lib.hid hl
  clear hR hok hl hfw
  have hbu : ul ≤ uc ∧ uc ≤ 9223372036854775807 := by obtain ⟨_, h1, h2, _⟩ := hRU; unfold maxLen at h2; exact ⟨h1, h2⟩
  obtain ⟨hbu1, hbu2⟩ := hbu
  obtain ⟨fu, hfu⟩ : ∃ q, fewT U = q := ⟨_, rfl⟩
  have CFU := Lib.hid (fun u (hu9 : Below w.heap.size w u) => hfu ▸ iref_Names b ul uc U u hu (hRU.later hu9) huk)
  have HFU := Lib.hid hfu
  have HUK := Lib.hid huk
  have HRU := Lib.hid hRU
  have HUN := Lib.hid hu
  clear hRU huk hu hfu
  go_enter Try.func9, Try.ntmps9
  go_upto_region 3 with (first | (go_at_call 19; (with_reducible refine (awake22 _).mono ?_); rintro e w1 ⟨rfl, hb1⟩; replace hbel := belStep hbel hb1; clear hb1) | (go_at_call 31; (with_reducible refine (CFW.out _ hbel).mono ?_); rintro e wf1 ⟨rfl, hb_wf1⟩; replace hbel := belStep hbel hb_wf1; clear hb_wf1; rcases fw with _ | _) | (go_at_call 21; (with_reducible refine (CFU.out _ hbel).mono ?_); rintro e wf3 ⟨rfl, hb_wf3⟩; replace hbel := belStep hbel hb_wf3; clear hb_wf3; rcases fu with _ | _) | (go_at_call 32; (with_reducible refine (CRT.out _ hbel).mono ?_); rintro e wf2 ⟨rfl, hb_wf2⟩; replace hbel := belStep hbel hb_wf2; clear hb_wf2; rcases rt with _ | _))
  · go_ret
    exact ⟨rfl, hbel⟩
  · go_ret
    exact ⟨rfl, hbel⟩
  · go_ret
    exact ⟨rfl, hbel⟩
  have HB := Lib.hid hbel
  have HRI := Lib.hid (right_rises HRT.out)
  have HNM := Lib.hid (right_nums HRT.out)
  have hn60 : n ≤ 60 := by rw [← HLN.out]; exact few_len HFW.out
  have hu60 : ul ≤ 60 := by rw [← HUN.out]; exact few_lenT HFU.out
  clear hw CFW CRT CFU
  have hol := order_le L U
  rw [HLN.out] at hol
  have HOL := Lib.hid (show (orderI L U).length = (L.filter (freeI U)).length by unfold orderI; rw [sortBy_len])
  have HRZ := Lib.hid (show collF need (List.replicate n false) (orderI L U) = if need ≤ 0 then ⟨[], 0, 0⟩ else ⟨[], 0, (orderI L U).length⟩ by unfold collF; split; exact coll_zero (by assumption) _; rw [coll_none (by assumption) _ 0 [] (fun q hq => by rw [Nat.zero_add]; exact goes_rep n q (by omega)), Nat.zero_add])
  have CC := Lib.hid (fun v u (hu : Below w.heap.size w u) (hv : Row u v n n 1 ((List.replicate n false).map Value.bool)) => sw_Collect a n c L b ul uc U need v n n (List.replicate n false) u HLN.out (HR.out.later hu) HRI.out HUN.out (HRU.out.later hu) (by simp) hv HOK.out (by omega))
  obtain ⟨R, hR9⟩ : ∃ R, collF need (List.replicate n false) (orderI L U) = R := ⟨_, rfl⟩
  simp only [hR9] at CC HRZ
  clear hR9
  obtain ⟨G, f, k0⟩ := R
  dsimp only at CC
  obtain ⟨O, hO⟩ : ∃ q, (orderI L U).length = q := ⟨_, rfl⟩
  rw [hO] at hol HOL HRZ
  clear hO
  have hMx : n ≤ maxLen := by unfold maxLen; omega
  clear hbel
  have HBP := Lib.hid HB.out
  go_upto_region 4 with (first | (at_make; refine wpList_make_g (f := Value.bool) rfl _ _ 40 rfl 4 false 1 Try.underlying40 info_boolI rfl n rfl rfl (by omega) (by unfold maxLen; omega) ?_; intro W2 ho2 hb2; replace HB := Lib.hid (belStep HB.out hb2); have HV := Lib.hid (show Row W2 _ n n 1 ((List.replicate n false).map Value.bool) from row_of_ownG ho2); clear ho2 hb2) | (go_at_call 33; (with_reducible refine (CC.out _ _ HB.out HV.out).mono ?_); rintro e w1 ⟨v1, rfl, ho_, hb_⟩; obtain ⟨ga, gc, rfl, hr_⟩ := rowR_of_own ho_; have HG := Lib.hid hr_; clear ho_ hr_; replace HB := Lib.hid (belStep HB.out hb_); clear hb_))
  clear CC HV HBP
  have hb0 : Below w1.heap.size w1 w1 := Below.refl _ _
  generalize w1 = W3 at *
  go_wp2
  go_loopw [10, 11] (fun nv iv wr => ∃ k : Nat, k ≤ n ∧ iv = .int .i64 k ∧ nv = .int .i64 (((L.take k).filter (freeI U)).length : Nat) ∧ Below W3.heap.size W3 wr) (fun _ iv _ => n - (intOf iv).toNat)
  case atStart => exact ⟨0, Nat.zero_le _, rfl, rfl, hb0⟩
  case round =>
    clear hb0
    obtain ⟨k, hk, rfl, rfl, hbel⟩ := hrel
    by_cases hlt : k < n
    · have hd : decide ((k : Int) < (n : Int)) = true := decide_eq_true (by omega)
      have hki : (k : Int) < (n : Int) := by omega
      have hk0 : (0 : Int) ≤ (k : Int) := by omega
      have hfl := filtG_len (freeI U) L k
      rw [HLN.out] at hfl
      obtain ⟨x, hx⟩ : ∃ x, L[k]? = some x := ⟨L[k]'(by rw [HLN.out]; exact hlt), List.getElem?_eq_getElem _⟩
      obtain ⟨bc, oc, ec, _, hcc⟩ := (HR.out.later HB.out).elem ImgV.cells_len (by omega) hx
      subst ec
      have c0 := keep (hcc 0 _ rfl)
      have c1 := keep (hcc 1 _ rfl)
      have c2 := keep (hcc 2 _ rfl)
      rw [Nat.add_zero] at c0
      have HX := Lib.hid hx
      clear hx hcc
      have C1 := Lib.hid (fun u (hu : Below W3.heap.size W3 u) => iref_Has b ul uc U x.name u HUN.out (HRU.out.later (belStep HB.out hu)))
      obtain ⟨FN, hFN⟩ : ∃ q, ((L.take k).filter (freeI U)).length = q := ⟨_, rfl⟩
      rw [hFN] at hfl ⊢
      have HFN := Lib.hid hFN
      clear hFN
      have hw9 : IntKind.i64.wrap ((FN : Int) + 1) = (FN : Int) + 1 := IntWalk.i64_in _ (by omega)
      obtain ⟨p9, hp9⟩ : ∃ q, hasU U x.name = q := ⟨_, rfl⟩
      rw [hp9] at C1
      have HP := Lib.hid hp9
      clear hp9
      cases p9 with
      | false =>
        have HN := Lib.hid (show ((L.take (k + 1)).filter (freeI U)).length = FN + 1 by rw [filtG_next (f := freeI U) HX.out (by unfold freeI; rw [HP.out]; rfl), List.length_append, List.length_singleton, HFN.out])
        go_wp2_with (go_at_call 29; (with_reducible refine (C1.out _ hbel).mono ?_); rintro e w5 ⟨rfl, hb_⟩; have hbz := belStep hbel hb_; clear hbel; have hbel := hbz; clear hbz hb_)
        go_roundw
        case rel => exact ⟨k + 1, by omega, by push_cast; rfl, by rw [HN.out] <;> push_cast <;> rfl, hbel⟩
        case measure => simp [intOf] <;> omega
      | true =>
        have HN := Lib.hid (show ((L.take (k + 1)).filter (freeI U)).length = FN by rw [filtG_same (f := freeI U) HX.out (by unfold freeI; rw [HP.out]; rfl), HFN.out])
        go_wp2_with (go_at_call 29; (with_reducible refine (C1.out _ hbel).mono ?_); rintro e w5 ⟨rfl, hb_⟩; have hbz := belStep hbel hb_; clear hbel; have hbel := hbz; clear hbz hb_)
        go_roundw
        case rel => exact ⟨k + 1, by omega, by push_cast; rfl, by rw [HN.out] <;> push_cast <;> rfl, hbel⟩
        case measure => simp [intOf] <;> omega
    · obtain rfl : k = n := by omega
      have hd : decide ((k : Int) < (k : Int)) = false := decide_eq_false (by omega)
      have hFL : ((L.take k).filter (freeI U)).length = O := by rw [List.take_of_length_le (by rw [HLN.out]; exact Nat.le_refl _), ← HOL.out]
      rw [hFL]
      clear hFL
      have hrz := HRZ.out
      by_cases hn0 : need ≤ 0
      · rw [if_pos hn0] at hrz
        simp only [CollV.mk.injEq] at hrz
        obtain ⟨rfl, rfl, rfl⟩ := hrz
        have t1 : decide (need ≤ 0) = true := decide_eq_true hn0
        go_wp2
        go_ret
        exact ⟨by first | rfl | simp, belStep HB.out hbel⟩
      · rw [if_neg hn0] at hrz
        simp only [CollV.mk.injEq] at hrz
        obtain ⟨rfl, rfl, rfl⟩ := hrz
        have t1 : decide (need ≤ 0) = false := decide_eq_false hn0
        go_wp2
        go_ret
        exact ⟨by first | rfl | simp, belStep HB.out hbel⟩

set_option maxRecDepth 100000 in
theorem lifted (os : Os) (started : os.Started) (H : Type) (enc : TypeId × Value → H) :
    ReturnsInHanded {} Try.checked os 9 .any (Rows.sweepFailsSpec.pre6 enc Try.prog Try.f9 Rows.sweepFailsRow.domain false) (Rows.sweepFailsSpec.post enc Try.prog Try.f9 false true false false) := by
  refine returnsInHanded_of_change (C := Try.checked) own started (by kernel_rfl) Try.func9
    (ChangeSpec.witness6 (enc := enc) (C := Try.checked) false ⟨#[], #[.slice none 0 0, .slice none 0 0, .int .i64 0], []⟩ 8 (by kernel_rfl) (by kernel_rfl) (by kernel_rfl) (by kernel_rfl)) ?_
  intro W base args ds gs before hval0 hW hcnd _
  have hval : ∀ (j : Nat) t v, Try.f9.params[j]? = some t → args[j]? = some v → Value.okWide Try.prog W .any base t v := hval0
  have hW' := hW
  obtain ⟨p, q, hA0, hV, rfl, hfz, hnd⟩ := hW
  have hA : DataW.TrodAll enc Try.prog W 0 (fun _ => true) true Try.f9.params.toList args.toList ds p := hA0
  rw [Try.params9] at hA hval
  obtain ⟨v0, vs0, d0, ds0, p0, q0, hargs, rfl, rfl, h0, r0⟩ := trodAll_cons hA
  obtain ⟨v1, vs1, d1, ds1, p1, q1, rfl, rfl, rfl, h1, r1⟩ := trodAll_cons r0
  obtain ⟨v2, vs2, d2, ds2, p2, q2, rfl, rfl, rfl, h2, r2⟩ := trodAll_cons r1
  obtain ⟨rfl, rfl, rfl⟩ := trodAll_nil r2
  obtain rfl : args = #[v0, v1, v2] := by cases args; simp_all
  obtain ⟨rfl, rfl⟩ := trodVars_none hV
  have k0 := h0
  have lt0 : ∀ x ∈ p0, x.block < W.heap.size := by obtain ⟨m, hm⟩ := k0; exact DataW.trod_lt m _ _ _ hm
  have o0 : Value.okWide Try.prog W .any base 39 v0 := hval 0 39 v0 rfl rfl
  obtain ⟨xa0, xn0, xc0, xl0, rfl, fl0, fo0, fr0⟩ := open_imgs o0 h0
  have k1 := h1
  have lt1 : ∀ x ∈ p1, x.block < W.heap.size := by obtain ⟨m, hm⟩ := k1; exact DataW.trod_lt m _ _ _ hm
  have o1 : Value.okWide Try.prog W .any base 23 v1 := hval 1 23 v1 rfl rfl
  obtain ⟨ya1, yn1, yc1, yu1, rfl, gl1, go1, gr1⟩ := open_texts o1 h1
  have k2 := h2
  have lt2 : ∀ x ∈ p2, x.block < W.heap.size := by obtain ⟨m, hm⟩ := k2; exact DataW.trod_lt m _ _ _ hm
  have o2 : Value.okWide Try.prog W .any base 3 v2 := hval 2 3 v2 rfl rfl
  obtain ⟨a2, rfl, rfl, rfl, w2⟩ := open_int Try.underlying3 o2 h2
  clear hA0 hval0
  refine (walk xa0 xn0 xc0 xl0 ya1 yn1 yc1 yu1 a2 W fl0 fo0 fr0 gl1 go1 gr1 (inI_of_wf w2)).mono fun e W' ⟨he, bel⟩ => ?_
  subst he
  exact ⟨_, rfl, _, _, _, [], _, [], hW', trodAll_mk1 (shut_bool Try.underlying4 _), (trodAll_cons_mk (Below.trod laidOut (by kernel_rfl) (of_decide_eq_true (by kernel_rfl)) k0 bel lt0) (trodAll_cons_mk (Below.trod laidOut (by kernel_rfl) (of_decide_eq_true (by kernel_rfl)) k1 bel lt1) (trodAll_cons_mk (Below.trod laidOut (by kernel_rfl) (of_decide_eq_true (by kernel_rfl)) k2 bel lt2) trodAll_mk0))), rfl, bel.frame _, fun h => by cases h⟩

theorem over : Rows.sweepFailsRow.holds Try.pinned (OpenSpec.ofChange Rows.sweepFailsSpec) :=
  OpenClaim.holds_of_wide 9 Try.f9 rfl rfl rfl rfl rfl rfl rfl ⟨rfl, rfl, rfl, rfl, rfl⟩ rfl rfl rfl rfl rfl (by kernel_rfl) Try.func9 (by kernel_rfl)
    (of_decide_eq_true (by kernel_rfl)) (by unfold Func.isWrapper; first | (rw [if_pos (by decide +kernel)]; kernel_rfl) | (rw [if_neg (by decide +kernel)]; exact ⟨rfl, rfl⟩))
    (fun os started H enc _ => lifted os started H enc)

/-- The statement. -/
theorem proved : Rows.SweepFailsSaid := over
#print axioms proved

end Go.Proofs.Ytampkolkbjmmkaa.sweepFails
