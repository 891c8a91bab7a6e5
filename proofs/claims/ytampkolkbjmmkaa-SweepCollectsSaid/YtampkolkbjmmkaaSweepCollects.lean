
/- SweepCollects holds for all its arguments. No conditions. -/
import Derived.Test.YtampkolkbjmmkaaAwake22
namespace Go.Proofs.Ytampkolkbjmmkaa.sweepCollects
open Go.ChangeShapes Go.WideShapes Go.ChangeAt Go.RowKit
open Go.ChangeMaps (open_string shut_string)
set_option linter.unusedVariables false
set_option linter.unusedSimpArgs false
open Go.Sort
theorem same_call (a b : Option Addr) (c1 c2 : Nat) (G : List ByteArray) (w : World) (h1 : Row w a G.length c1 1 (G.map Value.string)) (h2 : Row w b G.length c2 1 (G.map Value.string)) :
    Calls Try.prog 22 #[.slice a G.length c1, .slice b G.length c2] w fun e w' => e = .returned (.bool true) ∧ Below w.heap.size w w' := by
  have h := sames_any a b G.length G.length c1 c2 G G w rfl rfl h1 h2
  rw [same_refl] at h
  exact h
theorem bools_row {w : World} {d : Option Addr} {wl wc : Nat} {V : List Bool} (h : Bools w d wl wc V) : V.length = wl ∧ Row w d wl wc 1 (V.map Value.bool) := by
  have h1 : Row w d wl wc 1 (V.map Value.bool) := h
  exact ⟨by have := h1.1; simpa using this, h1⟩
set_option maxRecDepth 100000 in
set_option maxHeartbeats 16000000 in
theorem walk (a : Option Addr) (n c : Nat) (L : List ImgV) (b : Option Addr) (ul uc : Nat) (U : List ByteArray) (need : Int) (d : Option Addr) (wl wc : Nat) (V : List Bool) (w : World) (hl : L.length = n) (hok : ∀ x ∈ L, x.ok) (hR : Row w a n c 3 (L.flatMap ImgV.cells)) (hu : U.length = ul) (huk : ∀ s ∈ U, s.size ≤ maxLen) (hRU : Row w b ul uc 1 (U.map Value.string)) (hneed : InI need) (hB : Bools w d wl wc V) :
    Calls Try.prog 6 #[.slice a n c, .slice b ul uc, .int .i64 need, .slice d wl wc] w fun e w' => e = .returned (.bool true) ∧ Below w.heap.size w w' := by
  have hw : Below w.heap.size w w := Below.refl _ _
  have hbel := hw
  have hbd : n ≤ c ∧ c ≤ 9223372036854775807 := by obtain ⟨_, h1, h2, _⟩ := hR; unfold maxLen at h2; exact ⟨h1, h2⟩
  obtain ⟨hbd1, hbd2⟩ := hbd
  obtain ⟨fw, hfw⟩ : ∃ q, fewI L = q := ⟨_, rfl⟩
  have CFW := Lib.hid (fun u (hu : Below w.heap.size w u) => hfw ▸ iref_Few a n c L u hl (hR.later hu) hok)
  have HFW := Lib.hid hfw
  obtain ⟨rt, hrt⟩ : ∃ q, rightI L = q := ⟨_, rfl⟩
  have CRT := Lib.hid (fun u (hu : Below w.heap.size w u) => hrt ▸ iref_Right a n c L u hl (hR.later hu))
  have HRT := Lib.hid hrt
  clear hrt
  have HR := Lib.hid hR
  have HOK := Lib.hid hok
  have HLN := Lib.hid hl
  clear hR hok hl hfw
  have hbu : ul ≤ uc ∧ uc ≤ 9223372036854775807 := by obtain ⟨_, h1, h2, _⟩ := hRU; unfold maxLen at h2; exact ⟨h1, h2⟩
  obtain ⟨hbu1, hbu2⟩ := hbu
  obtain ⟨fu, hfu⟩ : ∃ q, fewT U = q := ⟨_, rfl⟩
  have CFU := Lib.hid (fun u (hu9 : Below w.heap.size w u) => hfu ▸ iref_Names b ul uc U u hu (hRU.later hu9) huk)
  have HFU := Lib.hid hfu
  have HRU := Lib.hid hRU
  have HUN := Lib.hid hu
  clear hRU huk hu hfu
  obtain ⟨hvl, hRV⟩ : V.length = wl ∧ Row w d wl wc 1 (V.map Value.bool) := bools_row hB
  have hbv : wl ≤ wc ∧ wc ≤ 9223372036854775807 := by obtain ⟨_, h1, h2, _⟩ := hRV; unfold maxLen at h2; exact ⟨h1, h2⟩
  obtain ⟨hbv1, hbv2⟩ := hbv
  have HRV := Lib.hid hRV
  have HVL := Lib.hid hvl
  clear hRV hvl hB
  by_cases h200 : 200 < wl
  · have h2i : (200 : Int) < (wl : Int) := by omega
    have h2d : decide ((200 : Int) < (wl : Int)) = true := decide_eq_true h2i
    go_enter Try.func6, Try.ntmps6
    go_wp2_with (first | (go_at_call 19; (with_reducible refine (awake22 _).mono ?_); rintro e w1 ⟨rfl, hb1⟩; replace hbel := belStep hbel hb1; clear hb1) | (go_at_call 31; (with_reducible refine (CFW.out _ hbel).mono ?_); rintro e wf1 ⟨rfl, hb_wf1⟩; replace hbel := belStep hbel hb_wf1; clear hb_wf1; rcases fw with _ | _) | (go_at_call 21; (with_reducible refine (CFU.out _ hbel).mono ?_); rintro e wf3 ⟨rfl, hb_wf3⟩; replace hbel := belStep hbel hb_wf3; clear hb_wf3; rcases fu with _ | _) | (go_at_call 32; (with_reducible refine (CRT.out _ hbel).mono ?_); rintro e wf2 ⟨rfl, hb_wf2⟩; replace hbel := belStep hbel hb_wf2; clear hb_wf2; rcases rt with _ | _))
    all_goals (go_ret; exact ⟨by first | rfl | simp, hbel⟩)
  · have h2i : ¬ (200 : Int) < (wl : Int) := by omega
    have h2d : decide ((200 : Int) < (wl : Int)) = false := decide_eq_false h2i
    go_enter Try.func6, Try.ntmps6
    go_upto_region 3 with (first | (go_at_call 19; (with_reducible refine (awake22 _).mono ?_); rintro e w1 ⟨rfl, hb1⟩; replace hbel := belStep hbel hb1; clear hb1) | (go_at_call 31; (with_reducible refine (CFW.out _ hbel).mono ?_); rintro e wf1 ⟨rfl, hb_wf1⟩; replace hbel := belStep hbel hb_wf1; clear hb_wf1; rcases fw with _ | _) | (go_at_call 21; (with_reducible refine (CFU.out _ hbel).mono ?_); rintro e wf3 ⟨rfl, hb_wf3⟩; replace hbel := belStep hbel hb_wf3; clear hb_wf3; rcases fu with _ | _) | (go_at_call 32; (with_reducible refine (CRT.out _ hbel).mono ?_); rintro e wf2 ⟨rfl, hb_wf2⟩; replace hbel := belStep hbel hb_wf2; clear hb_wf2; rcases rt with _ | _))
    · go_ret
      exact ⟨rfl, hbel⟩
    · go_ret
      exact ⟨rfl, hbel⟩
    · go_ret
      exact ⟨rfl, hbel⟩
    have HB := Lib.hid hbel
    have HRI := Lib.hid (right_rises HRT.out)
    have hn60 : n ≤ 60 := by rw [← HLN.out]; exact few_len HFW.out
    clear hw CFW CRT CFU hbel
    have CC := Lib.hid (fun u (hu : Below w.heap.size w u) => sw_Collect a n c L b ul uc U need d wl wc V u HLN.out (HR.out.later hu) HRI.out HUN.out (HRU.out.later hu) HVL.out (HRV.out.later hu) HOK.out (by omega))
    have CR := Lib.hid (fun u (hu : Below w.heap.size w u) => swref_Collect a n c L b ul uc U need d wl wc V u HLN.out (HR.out.later hu) HRI.out HUN.out (HRU.out.later hu) HVL.out (HRV.out.later hu) HOK.out (by omega))
    obtain ⟨R, hR9⟩ : ∃ R, collF need V (orderI L U) = R := ⟨_, rfl⟩
    rw [hR9] at CC CR
    clear hR9
    obtain ⟨G, f, k⟩ := R
    dsimp only at CC CR
    go_wp2_with (first | (go_at_call 33; (with_reducible refine (CC.out _ HB.out).mono ?_); rintro e w1 ⟨v_w1, rfl, ho_, hb_⟩; obtain ⟨xa, xc, rfl, hr_⟩ := rowR_of_own ho_; have HX1 := Lib.hid hr_; clear ho_ hr_; replace HB := Lib.hid (belStep HB.out hb_); clear hb_) | (go_at_call 34; (with_reducible refine (CR.out _ HB.out).mono ?_); rintro e w2 ⟨v_w2, rfl, ho_, hb_⟩; obtain ⟨ya, yc, rfl, hr_⟩ := rowR_of_own ho_; have HX2 := Lib.hid hr_; clear ho_ hr_; replace HX1 := Lib.hid (HX1.out.later hb_); replace HB := Lib.hid (belStep HB.out hb_); clear hb_) | (go_at_call 22; (with_reducible refine (same_call _ _ _ _ G _ HX1.out HX2.out).mono ?_); rintro e w3 ⟨rfl, hb_⟩; replace HB := Lib.hid (belStep HB.out hb_); clear hb_))
    go_ret
    exact ⟨by first | rfl | simp, HB.out⟩

set_option maxRecDepth 100000 in
theorem lifted (os : Os) (started : os.Started) (H : Type) (enc : TypeId × Value → H) :
    ReturnsInHanded {} Try.checked os 6 .any (Rows.sweepCollectsSpec.pre6 enc Try.prog Try.f6 Rows.sweepCollectsRow.domain false) (Rows.sweepCollectsSpec.post enc Try.prog Try.f6 false true false false) := by
  refine returnsInHanded_of_change (C := Try.checked) own started (by kernel_rfl) Try.func6
    (ChangeSpec.witness6 (enc := enc) (C := Try.checked) false ⟨#[], #[.slice none 0 0, .slice none 0 0, .int .i64 0, .slice none 0 0], []⟩ 8 (by kernel_rfl) (by kernel_rfl) (by kernel_rfl) (by kernel_rfl)) ?_
  intro W base args ds gs before hval0 hW hcnd _
  have hval : ∀ (j : Nat) t v, Try.f6.params[j]? = some t → args[j]? = some v → Value.okWide Try.prog W .any base t v := hval0
  have hW' := hW
  obtain ⟨p, q, hA0, hV, rfl, hfz, hnd⟩ := hW
  have hA : DataW.TrodAll enc Try.prog W 0 (fun _ => true) true Try.f6.params.toList args.toList ds p := hA0
  rw [Try.params6] at hA hval
  obtain ⟨v0, vs0, d0, ds0, p0, q0, hargs, rfl, rfl, h0, r0⟩ := trodAll_cons hA
  obtain ⟨v1, vs1, d1, ds1, p1, q1, rfl, rfl, rfl, h1, r1⟩ := trodAll_cons r0
  obtain ⟨v2, vs2, d2, ds2, p2, q2, rfl, rfl, rfl, h2, r2⟩ := trodAll_cons r1
  obtain ⟨v3, vs3, d3, ds3, p3, q3, rfl, rfl, rfl, h3, r3⟩ := trodAll_cons r2
  obtain ⟨rfl, rfl, rfl⟩ := trodAll_nil r3
  obtain rfl : args = #[v0, v1, v2, v3] := by cases args; simp_all
  obtain ⟨rfl, rfl⟩ := trodVars_none hV
  have k0 := h0
  have lt0 : ∀ x ∈ p0, x.block < W.heap.size := by obtain ⟨m, hm⟩ := k0; exact DataW.trod_lt m _ _ _ hm
  have o0 : Value.okWide Try.prog W .any base 39 v0 := hval 0 39 v0 rfl rfl
  obtain ⟨xa0, xn0, xc0, xl0, rfl, fl0, fo0, fr0⟩ := open_imgs o0 h0
  have k1 := h1
  have lt1 : ∀ x ∈ p1, x.block < W.heap.size := by obtain ⟨m, hm⟩ := k1; exact DataW.trod_lt m _ _ _ hm
  have o1 : Value.okWide Try.prog W .any base 23 v1 := hval 1 23 v1 rfl rfl
  obtain ⟨ya1, yn1, yc1, yu1, rfl, gl1, go1, gr1⟩ := open_texts o1 h1
  have k2 := h2
  have lt2 : ∀ x ∈ p2, x.block < W.heap.size := by obtain ⟨m, hm⟩ := k2; exact DataW.trod_lt m _ _ _ hm
  have o2 : Value.okWide Try.prog W .any base 3 v2 := hval 2 3 v2 rfl rfl
  obtain ⟨a2, rfl, rfl, rfl, w2⟩ := open_int Try.underlying3 o2 h2
  have k3 := h3
  have lt3 : ∀ x ∈ p3, x.block < W.heap.size := by obtain ⟨m, hm⟩ := k3; exact DataW.trod_lt m _ _ _ hm
  have o3 : Value.okWide Try.prog W .any base 40 v3 := hval 3 40 v3 rfl rfl
  obtain ⟨a3, len3, cap3, rfl⟩ := okWide_slice Try.underlying40 o3
  obtain ⟨z3, w3⟩ : ∃ zs, Bools W a3 len3 cap3 zs := bools_of_trod Try.underlying40 Try.underlying4 (by kernel_rfl) h3
  clear hA0 hval0
  refine (walk xa0 xn0 xc0 xl0 ya1 yn1 yc1 yu1 a2 a3 len3 cap3 z3 W fl0 fo0 fr0 gl1 go1 gr1 (inI_of_wf w2) w3).mono fun e W' ⟨he, bel⟩ => ?_
  subst he
  exact ⟨_, rfl, _, _, _, [], _, [], hW', trodAll_mk1 (shut_bool Try.underlying4 _), (trodAll_cons_mk (Below.trod laidOut (by kernel_rfl) (of_decide_eq_true (by kernel_rfl)) k0 bel lt0) (trodAll_cons_mk (Below.trod laidOut (by kernel_rfl) (of_decide_eq_true (by kernel_rfl)) k1 bel lt1) (trodAll_cons_mk (Below.trod laidOut (by kernel_rfl) (of_decide_eq_true (by kernel_rfl)) k2 bel lt2) (trodAll_cons_mk (Below.trod laidOut (by kernel_rfl) (of_decide_eq_true (by kernel_rfl)) k3 bel lt3) trodAll_mk0)))), rfl, bel.frame _, fun h => by cases h⟩

theorem over : Rows.sweepCollectsRow.holds Try.pinned (OpenSpec.ofChange Rows.sweepCollectsSpec) :=
  OpenClaim.holds_of_wide 6 Try.f6 rfl rfl rfl rfl rfl rfl rfl ⟨rfl, rfl, rfl, rfl, rfl⟩ rfl rfl rfl rfl rfl (by kernel_rfl) Try.func6 (by kernel_rfl)
    (of_decide_eq_true (by kernel_rfl)) (by unfold Func.isWrapper; first | (rw [if_pos (by decide +kernel)]; kernel_rfl) | (rw [if_neg (by decide +kernel)]; exact ⟨rfl, rfl⟩))
    (fun os started H enc _ => lifted os started H enc)

/-- The statement. -/
theorem proved : Rows.SweepCollectsSaid := over
#print axioms proved

end Go.Proofs.Ytampkolkbjmmkaa.sweepCollects
