
/- SweepParts holds for all its arguments. No conditions. -/
import Derived.Test.YtampkolkbjmmkaaAwake22
namespace Go.Proofs.Ytampkolkbjmmkaa.sweepParts
open Go.ChangeShapes Go.WideShapes Go.ChangeAt Go.RowKit
open Go.ChangeMaps (open_string shut_string)
set_option linter.unusedVariables false
set_option linter.unusedSimpArgs false
open Go.Sort
theorem has_map {L M : List ContV} (h : RisesC L) (hM : ∀ y ∈ M, y ∈ L) {x : ContV} (hx : x ∈ L) : hasU (M.map ContV.id) x.id = true ↔ x ∈ M := by
  unfold hasU
  rw [List.any_map, List.any_eq_true]
  constructor
  · rintro ⟨y, hy, he⟩
    have e := risesC_same h (hM y hy) hx (by simpa using he)
    exact e ▸ hy
  · intro hm; exact ⟨x, hm, by simp⟩
theorem lost_has {L : List ContV} {U : List ByteArray} (h : RisesC L) {x : ContV} (hx : x ∈ L) : hasU (lostC L U) x.id = lostB U x := by
  rw [Bool.eq_iff_iff]
  unfold lostC
  rw [has_map h (fun y hy => (List.mem_filter.1 hy).1) hx, List.mem_filter]
  exact ⟨fun q => q.2, fun q => ⟨hx, q⟩⟩
theorem dead_has {L : List ContV} {U : List ByteArray} (h : RisesC L) {x : ContV} (hx : x ∈ L) : hasU (deadC L U) x.id = deadB U x := by
  rw [Bool.eq_iff_iff]
  unfold deadC deadL
  rw [has_map h (fun y hy => (List.mem_filter.1 (sortBy_mem.1 hy)).1) hx, sortBy_mem, List.mem_filter]
  exact ⟨fun q => q.2, fun q => ⟨hx, q⟩⟩
theorem parts_len (L : List ContV) (U : List ByteArray) : (lostC L U).length + (deadC L U).length + (L.filter (fun x => hasU U x.id)).length = L.length := by
  unfold lostC deadC deadL
  rw [List.length_map, List.length_map, sortBy_len]
  induction L with
  | nil => rfl
  | cons x L ih =>
    have h1 : lostB U x = (x.state == 3 && !hasU U x.id) := rfl
    have h2 : deadB U x = (!(x.state == 3) && !hasU U x.id) := rfl
    simp only [List.filter_cons, h1, h2, List.length_cons]
    cases (x.state == 3) <;> cases hasU U x.id <;> simp <;> omega
set_option maxRecDepth 100000 in
set_option maxHeartbeats 16000000 in
theorem walk (a : Option Addr) (n c : Nat) (L : List ContV) (b : Option Addr) (ul uc : Nat) (U : List ByteArray) (w : World) (hl : L.length = n) (hok : ∀ x ∈ L, x.ok) (hR : Row w a n c 4 (L.flatMap ContV.cells)) (hu : U.length = ul) (huk : ∀ s ∈ U, s.size ≤ maxLen) (hRU : Row w b ul uc 1 (U.map Value.string)) :
    Calls Try.prog 4 #[.slice a n c, .slice b ul uc] w fun e w' => e = .returned (.bool true) ∧ Below w.heap.size w w' := by
  have hw : Below w.heap.size w w := Below.refl _ _
  have hbel := hw
  have hbd : n ≤ c ∧ c ≤ 9223372036854775807 := by obtain ⟨_, h1, h2, _⟩ := hR; unfold maxLen at h2; exact ⟨h1, h2⟩
  obtain ⟨hbd1, hbd2⟩ := hbd
  obtain ⟨fw, hfw⟩ : ∃ q, fitC L = q := ⟨_, rfl⟩
  have CFW := Lib.hid (fun u (hu : Below w.heap.size w u) => hfw ▸ cref_Fit a n c L u hl (hR.later hu) hok)
  have HFW := Lib.hid hfw
  have HR := Lib.hid hR
  have HOK := Lib.hid hok
  have HLN := Lib.hid hl
  clear hR hok hl hfw
  have hbu : ul ≤ uc ∧ uc ≤ 9223372036854775807 := by obtain ⟨_, h1, h2, _⟩ := hRU; unfold maxLen at h2; exact ⟨h1, h2⟩
  obtain ⟨hbu1, hbu2⟩ := hbu
  obtain ⟨fu, hfu⟩ : ∃ q, fewT U = q := ⟨_, rfl⟩
  have CFU := Lib.hid (fun u (hu9 : Below w.heap.size w u) => hfu ▸ iref_Names b ul uc U u hu (hRU.later hu9) huk)
  have HFU := Lib.hid hfu
  have HUK := Lib.hid huk
  have HRU := Lib.hid hRU
  have HUN := Lib.hid hu
  clear hRU huk hu hfu
  go_enter Try.func4, Try.ntmps4
  go_upto_region 3 with (first | (go_at_call 19; (with_reducible refine (awake22 _).mono ?_); rintro e w1 ⟨rfl, hb1⟩; replace hbel := belStep hbel hb1; clear hb1) | (go_at_call 20; (with_reducible refine (CFW.out _ hbel).mono ?_); rintro e wf1 ⟨rfl, hb_wf1⟩; replace hbel := belStep hbel hb_wf1; clear hb_wf1; rcases fw with _ | _) | (go_at_call 21; (with_reducible refine (CFU.out _ hbel).mono ?_); rintro e wf3 ⟨rfl, hb_wf3⟩; replace hbel := belStep hbel hb_wf3; clear hb_wf3; rcases fu with _ | _))
  · go_ret
    exact ⟨rfl, hbel⟩
  · go_ret
    exact ⟨rfl, hbel⟩
  have HB := Lib.hid hbel
  have HRC := Lib.hid (fit_rises HFW.out)
  have hn60 : n ≤ 60 := by rw [← HLN.out]; exact fit_len HFW.out
  have hu60 : ul ≤ 60 := by rw [← HUN.out]; exact few_lenT HFU.out
  clear hw CFW CFU
  have CL := Lib.hid (fun u (hu : Below w.heap.size w u) => sw_Lost a n c L b ul uc U u HLN.out (HR.out.later hu) HUN.out (HRU.out.later hu) HUK.out HOK.out HRC.out (by omega) (by omega))
  have CD := Lib.hid (fun u (hu : Below w.heap.size w u) => sw_Dead a n c L b ul uc U u HLN.out (HR.out.later hu) HUN.out (HRU.out.later hu) HUK.out HOK.out HRC.out (by omega) (by omega))
  have HLH := Lib.hid (fun x hx => lost_has (U := U) HRC.out (x := x) hx)
  have HDH := Lib.hid (fun x hx => dead_has (U := U) HRC.out (x := x) hx)
  have HPL := Lib.hid (parts_len L U)
  obtain ⟨G1, hG⟩ : ∃ G, lostC L U = G := ⟨_, rfl⟩
  simp only [hG] at CL HLH HPL
  clear hG
  obtain ⟨G2, hG⟩ : ∃ G, deadC L U = G := ⟨_, rfl⟩
  simp only [hG] at CD HDH HPL
  clear hG
  clear hbel
  go_upto_region 5 with (first | (go_at_call 23; (with_reducible refine (CL.out _ HB.out).mono ?_); rintro e w1 ⟨v_w1, rfl, ho_, hb_⟩; obtain ⟨xa, xc, rfl, hr_⟩ := rowR_of_own ho_; have HX1 := Lib.hid hr_; clear ho_ hr_; replace HB := Lib.hid (belStep HB.out hb_); clear hb_) | (go_at_call 25; (with_reducible refine (CD.out _ HB.out).mono ?_); rintro e w2 ⟨v_w2, rfl, ho_, hb_⟩; obtain ⟨ya, yc, rfl, hr_⟩ := rowR_of_own ho_; have HX2 := Lib.hid hr_; clear ho_ hr_; replace HX1 := Lib.hid (HX1.out.later hb_); replace HB := Lib.hid (belStep HB.out hb_); clear hb_))
  clear CL CD
  have hb0 : Below w2.heap.size w2 w2 := Below.refl _ _
  generalize w2 = W3 at *
  go_wp2
  go_loopw [7, 8] (fun nv iv wr => ∃ k : Nat, k ≤ n ∧ iv = .int .i64 k ∧ nv = .int .i64 (((L.take k).filter (fun x : ContV => hasU U x.id)).length : Nat) ∧ Below W3.heap.size W3 wr) (fun _ iv _ => n - (intOf iv).toNat)
  case atStart => exact ⟨0, Nat.zero_le _, rfl, rfl, hb0⟩
  case round =>
    clear hb0
    obtain ⟨k, hk, rfl, rfl, hbel⟩ := hrel
    by_cases hlt : k < n
    · have hd : decide ((k : Int) < (n : Int)) = true := decide_eq_true (by omega)
      have hki : (k : Int) < (n : Int) := by omega
      have hk0 : (0 : Int) ≤ (k : Int) := by omega
      have hfl := filtG_len (fun x : ContV => hasU U x.id) L k
      rw [HLN.out] at hfl
      obtain ⟨x, hx⟩ : ∃ x, L[k]? = some x := ⟨L[k]'(by rw [HLN.out]; exact hlt), List.getElem?_eq_getElem _⟩
      obtain ⟨bc, oc, ec, _, hcc⟩ := (HR.out.later HB.out).elem ContV.cells_len (by omega) hx
      subst ec
      have c0 := keep (hcc 0 _ rfl)
      have c1 := keep (hcc 1 _ rfl)
      have c2 := keep (hcc 2 _ rfl)
      have c3 := keep (hcc 3 _ rfl)
      rw [Nat.add_zero] at c0
      have HX := Lib.hid hx
      have hm := List.mem_of_getElem? hx
      have h1 := HLH.out x hm
      have h2 := HDH.out x hm
      clear hx hcc hm
      have C1 := Lib.hid (fun u (hu : Below W3.heap.size W3 u) => iref_Has b ul uc U x.id u HUN.out (HRU.out.later (belStep HB.out hu)))
      have C2 := Lib.hid (fun u (hu : Below W3.heap.size W3 u) => iref_Has xa G1.length xc G1 x.id u rfl (HX1.out.later hu))
      have C3 := Lib.hid (fun u (hu : Below W3.heap.size W3 u) => iref_Has ya G2.length yc G2 x.id u rfl (HX2.out.later hu))
      rw [h1] at C2
      rw [h2] at C3
      clear h1 h2
      unfold lostB at C2
      unfold deadB at C3
      obtain ⟨FN, hFN⟩ : ∃ q, ((L.take k).filter (fun x : ContV => hasU U x.id)).length = q := ⟨_, rfl⟩
      rw [hFN] at hfl ⊢
      have HFN := Lib.hid hFN
      clear hFN
      have hF60 : FN ≤ 60 := by omega
      have hw9 : IntKind.i64.wrap ((FN : Int) + 1) = (FN : Int) + 1 := IntWalk.i64_in _ (by omega)
      obtain ⟨p, hp⟩ : ∃ q, hasU U x.id = q := ⟨_, rfl⟩
      rw [hp] at C1 C2 C3
      have HP := Lib.hid hp
      clear hp
      obtain ⟨st, hst⟩ : ∃ q, (x.state == 3) = q := ⟨_, rfl⟩
      have hst2 : (x.state != 3) = !st := by rw [← hst]; rfl
      rw [hst] at C2 C3
      cases p with
      | false =>
        have HN := Lib.hid (show ((L.take (k + 1)).filter (fun x : ContV => hasU U x.id)).length = FN by rw [filtG_same (f := fun x : ContV => hasU U x.id) HX.out HP.out, HFN.out])
        cases st with
        | false =>
          simp only [Bool.and_true, Bool.and_false, Bool.true_and, Bool.false_and, Bool.not_true, Bool.not_false] at C2 C3 hst2
          go_wp2_with (first | (go_at_call 29; (with_reducible refine (C1.out _ hbel).mono ?_); rintro e w5 ⟨rfl, hb_⟩; have hbz := belStep hbel hb_; clear hbel; have hbel := hbz; clear hbz hb_) | (go_at_call 29; (with_reducible refine (C2.out _ hbel).mono ?_); rintro e w6 ⟨rfl, hb_⟩; have hbz := belStep hbel hb_; clear hbel; have hbel := hbz; clear hbz hb_) | (go_at_call 29; (with_reducible refine (C3.out _ hbel).mono ?_); rintro e w7 ⟨rfl, hb_⟩; have hbz := belStep hbel hb_; clear hbel; have hbel := hbz; clear hbz hb_))
          go_roundw
          case rel => exact ⟨k + 1, by omega, by push_cast; rfl, by rw [HN.out] <;> push_cast <;> rfl, hbel⟩
          case measure => simp [intOf] <;> omega
        | true =>
          simp only [Bool.and_true, Bool.and_false, Bool.true_and, Bool.false_and, Bool.not_true, Bool.not_false] at C2 C3 hst2
          go_wp2_with (first | (go_at_call 29; (with_reducible refine (C1.out _ hbel).mono ?_); rintro e w5 ⟨rfl, hb_⟩; have hbz := belStep hbel hb_; clear hbel; have hbel := hbz; clear hbz hb_) | (go_at_call 29; (with_reducible refine (C2.out _ hbel).mono ?_); rintro e w6 ⟨rfl, hb_⟩; have hbz := belStep hbel hb_; clear hbel; have hbel := hbz; clear hbz hb_) | (go_at_call 29; (with_reducible refine (C3.out _ hbel).mono ?_); rintro e w7 ⟨rfl, hb_⟩; have hbz := belStep hbel hb_; clear hbel; have hbel := hbz; clear hbz hb_))
          go_roundw
          case rel => exact ⟨k + 1, by omega, by push_cast; rfl, by rw [HN.out] <;> push_cast <;> rfl, hbel⟩
          case measure => simp [intOf] <;> omega
      | true =>
        have HN := Lib.hid (show ((L.take (k + 1)).filter (fun x : ContV => hasU U x.id)).length = FN + 1 by rw [filtG_next (f := fun x : ContV => hasU U x.id) HX.out HP.out, List.length_append, List.length_singleton, HFN.out])
        cases st with
        | false =>
          simp only [Bool.and_true, Bool.and_false, Bool.true_and, Bool.false_and, Bool.not_true, Bool.not_false] at C2 C3 hst2
          go_wp2_with (first | (go_at_call 29; (with_reducible refine (C1.out _ hbel).mono ?_); rintro e w5 ⟨rfl, hb_⟩; have hbz := belStep hbel hb_; clear hbel; have hbel := hbz; clear hbz hb_) | (go_at_call 29; (with_reducible refine (C2.out _ hbel).mono ?_); rintro e w6 ⟨rfl, hb_⟩; have hbz := belStep hbel hb_; clear hbel; have hbel := hbz; clear hbz hb_) | (go_at_call 29; (with_reducible refine (C3.out _ hbel).mono ?_); rintro e w7 ⟨rfl, hb_⟩; have hbz := belStep hbel hb_; clear hbel; have hbel := hbz; clear hbz hb_))
          go_roundw
          case rel => exact ⟨k + 1, by omega, by push_cast; rfl, by rw [HN.out] <;> push_cast <;> rfl, hbel⟩
          case measure => simp [intOf] <;> omega
        | true =>
          simp only [Bool.and_true, Bool.and_false, Bool.true_and, Bool.false_and, Bool.not_true, Bool.not_false] at C2 C3 hst2
          go_wp2_with (first | (go_at_call 29; (with_reducible refine (C1.out _ hbel).mono ?_); rintro e w5 ⟨rfl, hb_⟩; have hbz := belStep hbel hb_; clear hbel; have hbel := hbz; clear hbz hb_) | (go_at_call 29; (with_reducible refine (C2.out _ hbel).mono ?_); rintro e w6 ⟨rfl, hb_⟩; have hbz := belStep hbel hb_; clear hbel; have hbel := hbz; clear hbz hb_) | (go_at_call 29; (with_reducible refine (C3.out _ hbel).mono ?_); rintro e w7 ⟨rfl, hb_⟩; have hbz := belStep hbel hb_; clear hbel; have hbel := hbz; clear hbz hb_))
          go_roundw
          case rel => exact ⟨k + 1, by omega, by push_cast; rfl, by rw [HN.out] <;> push_cast <;> rfl, hbel⟩
          case measure => simp [intOf] <;> omega
    · obtain rfl : k = n := by omega
      have hd : decide ((k : Int) < (k : Int)) = false := decide_eq_false (by omega)
      have hpl : G1.length + G2.length + ((L.take k).filter (fun x : ContV => hasU U x.id)).length = k := by rw [List.take_of_length_le (by rw [HLN.out]; exact Nat.le_refl _), HPL.out, HLN.out]
      obtain ⟨FN, hFN⟩ : ∃ q, ((L.take k).filter (fun x : ContV => hasU U x.id)).length = q := ⟨_, rfl⟩
      rw [hFN] at hpl ⊢
      clear hFN
      have hs1 : IntKind.i64.wrap ((G1.length : Int) + (G2.length : Int)) = (G1.length : Int) + (G2.length : Int) := IntWalk.i64_in _ (by omega)
      have hs2 : IntKind.i64.wrap ((G1.length : Int) + (G2.length : Int) + (FN : Int)) = (G1.length : Int) + (G2.length : Int) + (FN : Int) := IntWalk.i64_in _ (by omega)
      have heq : ((G1.length : Int) + (G2.length : Int) + (FN : Int) == (k : Int)) = true := by rw [beq_iff_eq]; omega
      go_wp2
      go_ret
      exact ⟨by first | rfl | simp, belStep HB.out hbel⟩

set_option maxRecDepth 100000 in
theorem lifted (os : Os) (started : os.Started) (H : Type) (enc : TypeId × Value → H) :
    ReturnsInHanded {} Try.checked os 4 .any (Rows.sweepPartsSpec.pre6 enc Try.prog Try.f4 Rows.sweepPartsRow.domain false) (Rows.sweepPartsSpec.post enc Try.prog Try.f4 false true false false) := by
  refine returnsInHanded_of_change (C := Try.checked) own started (by kernel_rfl) Try.func4
    (ChangeSpec.witness6 (enc := enc) (C := Try.checked) false ⟨#[], #[.slice none 0 0, .slice none 0 0], []⟩ 8 (by kernel_rfl) (by kernel_rfl) (by kernel_rfl) (by kernel_rfl)) ?_
  intro W base args ds gs before hval0 hW hcnd _
  have hval : ∀ (j : Nat) t v, Try.f4.params[j]? = some t → args[j]? = some v → Value.okWide Try.prog W .any base t v := hval0
  have hW' := hW
  obtain ⟨p, q, hA0, hV, rfl, hfz, hnd⟩ := hW
  have hA : DataW.TrodAll enc Try.prog W 0 (fun _ => true) true Try.f4.params.toList args.toList ds p := hA0
  rw [Try.params4] at hA hval
  obtain ⟨v0, vs0, d0, ds0, p0, q0, hargs, rfl, rfl, h0, r0⟩ := trodAll_cons hA
  obtain ⟨v1, vs1, d1, ds1, p1, q1, rfl, rfl, rfl, h1, r1⟩ := trodAll_cons r0
  obtain ⟨rfl, rfl, rfl⟩ := trodAll_nil r1
  obtain rfl : args = #[v0, v1] := by cases args; simp_all
  obtain ⟨rfl, rfl⟩ := trodVars_none hV
  have k0 := h0
  have lt0 : ∀ x ∈ p0, x.block < W.heap.size := by obtain ⟨m, hm⟩ := k0; exact DataW.trod_lt m _ _ _ hm
  have o0 : Value.okWide Try.prog W .any base 22 v0 := hval 0 22 v0 rfl rfl
  obtain ⟨xa0, xn0, xc0, xl0, rfl, fl0, fo0, fr0⟩ := open_conts o0 h0
  have k1 := h1
  have lt1 : ∀ x ∈ p1, x.block < W.heap.size := by obtain ⟨m, hm⟩ := k1; exact DataW.trod_lt m _ _ _ hm
  have o1 : Value.okWide Try.prog W .any base 23 v1 := hval 1 23 v1 rfl rfl
  obtain ⟨ya1, yn1, yc1, yu1, rfl, gl1, go1, gr1⟩ := open_texts o1 h1
  clear hA0 hval0
  refine (walk xa0 xn0 xc0 xl0 ya1 yn1 yc1 yu1 W fl0 fo0 fr0 gl1 go1 gr1).mono fun e W' ⟨he, bel⟩ => ?_
  subst he
  exact ⟨_, rfl, _, _, _, [], _, [], hW', trodAll_mk1 (shut_bool Try.underlying4 _), (trodAll_cons_mk (Below.trod laidOut (by kernel_rfl) (of_decide_eq_true (by kernel_rfl)) k0 bel lt0) (trodAll_cons_mk (Below.trod laidOut (by kernel_rfl) (of_decide_eq_true (by kernel_rfl)) k1 bel lt1) trodAll_mk0)), rfl, bel.frame _, fun h => by cases h⟩

theorem over : Rows.sweepPartsRow.holds Try.pinned (OpenSpec.ofChange Rows.sweepPartsSpec) :=
  OpenClaim.holds_of_wide 4 Try.f4 rfl rfl rfl rfl rfl rfl rfl ⟨rfl, rfl, rfl, rfl, rfl⟩ rfl rfl rfl rfl rfl (by kernel_rfl) Try.func4 (by kernel_rfl)
    (of_decide_eq_true (by kernel_rfl)) (by unfold Func.isWrapper; first | (rw [if_pos (by decide +kernel)]; kernel_rfl) | (rw [if_neg (by decide +kernel)]; exact ⟨rfl, rfl⟩))
    (fun os started H enc _ => lifted os started H enc)

/-- The statement. -/
theorem proved : Rows.SweepPartsSaid := over
#print axioms proved

end Go.Proofs.Ytampkolkbjmmkaa.sweepParts
