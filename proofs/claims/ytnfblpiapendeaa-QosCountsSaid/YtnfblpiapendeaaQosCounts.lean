/- QosCounts holds for every slice of pods. No conditions. -/
import Derived.Test.YtnfblpiapendeaaAwake13
import Derived.Test.YtnfblpiapendeaaPodFew
namespace Go.Proofs.Ytnfblpiapendeaa.qosCounts
open Go.ChangeShapes Go.WideShapes Go.ChangeAt Go.RowKit
open Go.ChangeMaps (open_string shut_string)
set_option linter.unusedVariables false
set_option linter.unusedSimpArgs false

theorem own_made (w : World) (B : Nat) (e : TypeId) (size : Nat) (hB : B ≤ w.heap.size) : OwnR (w.alloc (.cells #[] e)) B e size (.slice (some ⟨w.heap.size, 0, none⟩) 0 0) 0 [] :=
  World.ownsRow_made w #[] 0 hB (by unfold maxLen; omega) (by simp)
theorem info_pod : (Try.prog.info? 24).map (fun i => (i.zero, i.size, i.bytes)) = some (some (.agg #[.string ByteArray.empty, .int .i64 0, .bool false, .int .i64 0, .int .i64 0, .int .i64 0, .int .i64 0, .int .i64 0, .int .i64 0, .string ByteArray.empty, .int .i64 0]), 11, 104) := by kernel_rfl
theorem pods_one (L : List PodV) : ∀ u ∈ L.flatMap PodV.cells, u.oneCell' = true := by
  intro u hu
  obtain ⟨p, _, hp⟩ := List.mem_flatMap.1 hu
  simp [PodV.cells] at hp
  rcases hp with rfl | rfl | rfl | rfl | rfl | rfl | rfl | rfl | rfl | rfl | rfl <;> rfl

set_option maxRecDepth 100000 in
set_option maxHeartbeats 8000000 in
theorem walk (a : Option Addr) (len cap : Nat) (L : List PodV) (w : World) (hl : L.length = len) (hok : ∀ x ∈ L, x.ok) (hR : Row w a len cap 11 (L.flatMap PodV.cells)) :
    Calls Try.prog 12 #[.slice a len cap] w fun e w' => e = .returned (.bool true) ∧ Below w.heap.size w w' := by
  have hbd : len ≤ cap ∧ cap ≤ 9223372036854775807 := by obtain ⟨_, h1, h2, _⟩ := hR; unfold maxLen at h2; exact ⟨h1, h2⟩
  obtain ⟨hbd1, hbd2⟩ := hbd
  have HR := Lib.hid hR
  have HO := Lib.hid hok
  clear hR hok
  have hw : Below w.heap.size w w := Below.refl _ _
  have hbel := hw
  have cf : ∀ v, Below w.heap.size w v → Calls Try.prog 25 #[.slice a len cap] v fun e w' => e = .returned (.bool (fewB L)) ∧ Below v.heap.size v w' := fun v hv => pref_Few a len cap L v hl HO.out (HR.out.later hv)
  have key : fewB L = false ∨ (fewB L = true ∧ L.length ≤ 100) := by
    cases h : fewB L
    · exact .inl rfl
    · right; refine ⟨rfl, ?_⟩
      unfold fewB at h; simp at h; exact h.2
  rcases key with k1 | ⟨k1, k2⟩
  · rw [k1] at cf
    have CF := Lib.hid cf
    clear cf
    go_enter Try.func12, Try.ntmps12
    go_wp2_with (first | (go_at_call 28; (with_reducible refine (awake13 _).mono ?_); rintro e w1 ⟨rfl, hb1⟩; replace hbel := belStep hbel hb1; clear hb1) | (go_at_call 25; (with_reducible refine (CF.out _ (by assumption)).mono ?_); rintro e w1 ⟨rfl, hb1⟩; replace hbel := belStep hbel hb1; clear hb1))
    go_ret
    exact ⟨rfl, hbel⟩
  · rw [k1] at cf
    have CF := Lib.hid cf
    clear cf k1
    subst hl
    go_enter Try.func12, Try.ntmps12
    go_upto_region 3 with (first | (go_at_call 28; (with_reducible refine (awake13 _).mono ?_); rintro e w1 ⟨rfl, hb1⟩; replace hbel := belStep hbel hb1; clear hb1) | (go_at_call 25; (with_reducible refine (CF.out _ (by assumption)).mono ?_); rintro e w1 ⟨rfl, hb1⟩; replace hbel := belStep hbel hb1; clear hb1))
    clear CF
    replace hw := belStep hw hbel
    clear hbel
    generalize w1 = W0 at *
    have hbel : Below W0.heap.size W0 W0 := Below.refl _ _
    have HR1 := Lib.hid (HR.out.later hw)
    clear HR
    go_wp2
    go_loopw [4] (fun i wr => ∃ (k : Nat) (n1 n2 n3 : Int), k ≤ L.length ∧ i = .int .i64 k ∧ cnt3 (L.take k) = (n1, n2, n3) ∧ Below W0.heap.size W0 wr ∧ Blk wr W0.heap.size [.int .i64 0, .int .i64 n1, .int .i64 n2, .int .i64 n3] 52) (fun i _ => L.length - (intOf i).toNat)
    case atStart => exact ⟨0, 0, 0, 0, Nat.zero_le _, rfl, rfl, belAlloc (Below.refl _ _) _, Blk.new W0 [.int .i64 0, .int .i64 0, .int .i64 0, .int .i64 0] _⟩
    case round =>
      obtain ⟨k, n1, n2, n3, hk, rfl, hst, hbr, hblk⟩ := hrel
      have hs := cnt3_sum (L.take k)
      rw [hst, List.length_take] at hs
      simp only at hs
      have m0 := keep (hblk.cell (j := 0) rfl)
      have m1 := keep (hblk.cell (j := 1) rfl)
      have m2 := keep (hblk.cell (j := 2) rfl)
      have m3 := keep (hblk.cell (j := 3) rfl)
      have hF := hblk.keepF
      have hB := hblk.keepB
      have hM : W0.heap.size < wr.heap.size := hblk.lt
      have hbel : Below wr.heap.size wr wr := Below.refl _ _
      have HR2 := Lib.hid (HR1.out.later hbr)
      by_cases hlt : k < L.length
      · obtain ⟨p, hx⟩ : ∃ x, L[k]? = some x := ⟨L[k], List.getElem?_eq_getElem hlt⟩
        obtain ⟨b, off, rfl, _, hc⟩ := HR2.out.elem PodV.cells_len (by omega) hx
        have hn := cnt3_next L hx
        rw [hst] at hn
        have x0 := keep (hc 0 _ rfl)
        have x1 := keep (hc 1 _ rfl)
        have x2 := keep (hc 2 _ rfl)
        have x3 := keep (hc 3 _ rfl)
        have x4 := keep (hc 4 _ rfl)
        have x5 := keep (hc 5 _ rfl)
        have x6 := keep (hc 6 _ rfl)
        have x7 := keep (hc 7 _ rfl)
        have x8 := keep (hc 8 _ rfl)
        have x9 := keep (hc 9 _ rfl)
        have x10 := keep (hc 10 _ rfl)
        rw [Nat.add_zero] at x0
        have hk2 : n1 + 1 ≤ 9223372036854775807 ∧ n2 + 1 ≤ 9223372036854775807 ∧ n3 + 1 ≤ 9223372036854775807 := by omega
        obtain ⟨hk3, hk4, hk5⟩ := hk2
        have hk6 : 0 ≤ n1 ∧ 0 ≤ n2 ∧ 0 ≤ n3 := ⟨hs.1, hs.2.1, hs.2.2.1⟩
        obtain ⟨hk7, hk8, hk9⟩ := hk6
        have cr := fun v => pref_Right p v (HO.out p (List.mem_of_getElem? hx))
        have cc := fun v => qref_Class p.id p.prio p.crit p.r0 p.r1 p.r2 p.l0 p.l1 p.l2 p.img p.size v
        rw [show classI p.r0 p.r1 p.r2 p.l0 p.l1 p.l2 = p.cls from rfl] at cc
        have hcls := p.cls_cases
        generalize p.cls = c at *
        generalize rightB p = rb at *
        have hb9 := hbr
        replace hw := belStep hw hbr
        clear hc hx hs hst hblk hbr HR1 HR2
        have CR := Lib.hid cr
        clear cr
        cases rb
        · go_wp2_with (first | (go_at_call 18; (with_reducible refine (CR.out _).mono ?_); rintro e w1 ⟨rfl, hb1⟩; replace hbel := belStep hbel hb1; clear hb1))
          go_ret
          exact ⟨rfl, belStep hw hbel⟩
        · rcases hcls with rfl | rfl | rfl
          all_goals
            simp at hn
            have HN := Lib.hid hn
            have CC := Lib.hid cc
            clear cc hn
          · go_wp2_with (first | (go_at_call 18; (with_reducible refine (CR.out _).mono ?_); rintro e w1 ⟨rfl, hb1⟩; replace hbel := belStep hbel hb1; clear hb1) | (go_at_call 31; (with_reducible refine (CC.out _).mono ?_); rintro e w1 ⟨rfl, hb1⟩; replace hbel := belStep hbel hb1; clear hb1))
            go_roundw
            case rel => exact ⟨k + 1, n1 + 1, n2, n3, by omega, by push_cast; rfl, HN.out, belSet (belStep hb9 hbel) _ _ (Nat.le_refl _), (hB _ hbel).set 1 _⟩
            case measure => simp [intOf] <;> omega
          · go_wp2_with (first | (go_at_call 18; (with_reducible refine (CR.out _).mono ?_); rintro e w1 ⟨rfl, hb1⟩; replace hbel := belStep hbel hb1; clear hb1) | (go_at_call 31; (with_reducible refine (CC.out _).mono ?_); rintro e w1 ⟨rfl, hb1⟩; replace hbel := belStep hbel hb1; clear hb1))
            go_roundw
            case rel => exact ⟨k + 1, n1, n2 + 1, n3, by omega, by push_cast; rfl, HN.out, belSet (belStep hb9 hbel) _ _ (Nat.le_refl _), (hB _ hbel).set 2 _⟩
            case measure => simp [intOf] <;> omega
          · go_wp2_with (first | (go_at_call 18; (with_reducible refine (CR.out _).mono ?_); rintro e w1 ⟨rfl, hb1⟩; replace hbel := belStep hbel hb1; clear hb1) | (go_at_call 31; (with_reducible refine (CC.out _).mono ?_); rintro e w1 ⟨rfl, hb1⟩; replace hbel := belStep hbel hb1; clear hb1))
            go_roundw
            case rel => exact ⟨k + 1, n1, n2, n3 + 1, by omega, by push_cast; rfl, HN.out, belSet (belStep hb9 hbel) _ _ (Nat.le_refl _), (hB _ hbel).set 3 _⟩
            case measure => simp [intOf] <;> omega
      · obtain rfl : k = L.length := by omega
        rw [List.take_length] at hst
        have hsum : n1 + n2 + n3 = L.length := by omega
        replace hw := belStep hw hbr
        have hk7 : 0 ≤ n1 ∧ 0 ≤ n2 ∧ 0 ≤ n3 := ⟨hs.1, hs.2.1, hs.2.2.1⟩
        obtain ⟨hn1, hn2, hn3⟩ := hk7
        clear hs HR1 hblk hbr hF
        obtain ⟨M, eM⟩ : ∃ M, W0.heap.size = M := ⟨_, rfl⟩
        rw [eM] at m0 m1 m2 m3 hM hB
        simp only [eM]
        clear eM
        have HR3 := Lib.hid (HR2.out.later (belAlloc hbel (.cells #[] 24)))
        have HOW := Lib.hid (own_made wr wr.heap.size 24 11 (Nat.le_refl _))
        go_wp2_with (at_builtin; refine wpList_app_row rfl _ _ 41 rfl wr.heap.size 24 _ 11 104 Try.underlying41 info_pod rfl (by decide) _ _ _ rfl HOW.out _ L.length cap (L.flatMap PodV.cells) rfl HR3.out ?c0 ?c1 ?c2 ?c3 ?_)
        case c0 => exact pods_one L
        case c1 => simp only [maxLen]; omega
        case c2 => omega
        case c3 => simp
        intro v' w2 ho' hb' hg'
        obtain ⟨a2, cap2, rfl, hrow2⟩ := row_of_own ho'
        replace hbel := (belAlloc hbel (.cells #[] 24)).trans hb'
        have HRl := Lib.hid (HR2.out.later hbel)
        have HRw := Lib.hid hrow2
        have hcap2 : L.length ≤ cap2 ∧ cap2 ≤ 9223372036854775807 := by obtain ⟨_, h1, h2, _⟩ := hrow2; unfold maxLen at h2; exact ⟨h1, h2⟩
        obtain ⟨hcap3, hcap4⟩ := hcap2
        clear ho' hb' hg' hrow2 HR2 HR3 HOW hB
        replace m0 := keepOnP m0 hbel
        replace m1 := keepOnP m1 hbel
        replace m2 := keepOnP m2 hbel
        replace m3 := keepOnP m3 hbel
        replace hw := belStep hw hbel
        clear hbel
        generalize w2 = W2 at *
        have hbel : Below W2.heap.size W2 W2 := Below.refl _ _
        have cq := fun v (hv : Below W2.heap.size W2 v) => qos_Count a L.length cap L v rfl (HRl.out.later hv)
        simp only [hst] at cq
        have CQ := Lib.hid cq
        clear cq hst
        go_upto_region 12 with (first | (go_at_call 35; (with_reducible refine (CQ.out _ (by first | exact hbel | exact Below.refl _ _)).mono ?_); rintro e w1 ⟨rfl, hb1⟩; replace hbel := belStep hbel hb1; clear hb1))
        have hb8 := belAlloc hbel (.cells #[.int .i64 0, .int .i64 n1, .int .i64 n2, .int .i64 n3] 52)
        have c0 : (w1.alloc (.cells #[.int .i64 0, .int .i64 n1, .int .i64 n2, .int .i64 n3] 52)).cell? ⟨w1.heap.size, 0, none⟩ = some (.int .i64 0) := by first | (simp; done) | (rw [World.cell?_alloc_at _ _ _ _ (by simp)]; rfl) | (rw [World.cell?_alloc_past _ _ _ (by simp <;> omega), World.cell?_alloc_at _ _ _ _ (by simp)]; rfl) | (rw [World.cell?_alloc_past _ _ _ (by simp <;> omega), World.cell?_alloc_past _ _ _ (by simp <;> omega), World.cell?_alloc_at _ _ _ _ (by simp)]; rfl)
        have c1 : (w1.alloc (.cells #[.int .i64 0, .int .i64 n1, .int .i64 n2, .int .i64 n3] 52)).cell? ⟨w1.heap.size, 1, none⟩ = some (.int .i64 n1) := by first | (simp; done) | (rw [World.cell?_alloc_at _ _ _ _ (by simp)]; rfl) | (rw [World.cell?_alloc_past _ _ _ (by simp <;> omega), World.cell?_alloc_at _ _ _ _ (by simp)]; rfl) | (rw [World.cell?_alloc_past _ _ _ (by simp <;> omega), World.cell?_alloc_past _ _ _ (by simp <;> omega), World.cell?_alloc_at _ _ _ _ (by simp)]; rfl)
        have c2 : (w1.alloc (.cells #[.int .i64 0, .int .i64 n1, .int .i64 n2, .int .i64 n3] 52)).cell? ⟨w1.heap.size, 2, none⟩ = some (.int .i64 n2) := by first | (simp; done) | (rw [World.cell?_alloc_at _ _ _ _ (by simp)]; rfl) | (rw [World.cell?_alloc_past _ _ _ (by simp <;> omega), World.cell?_alloc_at _ _ _ _ (by simp)]; rfl) | (rw [World.cell?_alloc_past _ _ _ (by simp <;> omega), World.cell?_alloc_past _ _ _ (by simp <;> omega), World.cell?_alloc_at _ _ _ _ (by simp)]; rfl)
        have c3 : (w1.alloc (.cells #[.int .i64 0, .int .i64 n1, .int .i64 n2, .int .i64 n3] 52)).cell? ⟨w1.heap.size, 3, none⟩ = some (.int .i64 n3) := by first | (simp; done) | (rw [World.cell?_alloc_at _ _ _ _ (by simp)]; rfl) | (rw [World.cell?_alloc_past _ _ _ (by simp <;> omega), World.cell?_alloc_at _ _ _ _ (by simp)]; rfl) | (rw [World.cell?_alloc_past _ _ _ (by simp <;> omega), World.cell?_alloc_past _ _ _ (by simp <;> omega), World.cell?_alloc_at _ _ _ _ (by simp)]; rfl)
        have hb2 := (by repeat (first | exact hbel | refine belAlloc ?_ _ | refine belDrew ?_ | refine belSet ?_ _ _ (by simp)) : Below W2.heap.size W2 (w1.alloc (.cells #[.int .i64 0, .int .i64 n1, .int .i64 n2, .int .i64 n3] 52)))
        replace m0 := keepOnP m0 hb2
        replace m1 := keepOnP m1 hb2
        replace m2 := keepOnP m2 hb2
        replace m3 := keepOnP m3 hb2
        replace hw := belStep hw hb2
        clear hb2 hbel
        generalize w1.alloc (.cells #[.int .i64 0, .int .i64 n1, .int .i64 n2, .int .i64 n3] 52) = W3 at *
        replace c0 := keep c0
        replace c1 := keep c1
        replace c2 := keep c2
        replace c3 := keep c3
        generalize w1.heap.size = n4 at *
        have hbel : Below W3.heap.size W3 W3 := Below.refl _ _
        clear w1
        replace HRl := Lib.hid (HRl.out.later hb8)
        replace HRw := Lib.hid (HRw.out.later hb8)
        clear hb8 CQ
        go_wp2
        go_loopw [7] (fun i wr => ∃ k : Nat, k ≤ L.length ∧ i = .int .i64 k ∧ Below W3.heap.size W3 wr) (fun i _ => L.length - (intOf i).toNat)
        case atStart => exact ⟨0, Nat.zero_le _, rfl, Below.refl _ _⟩
        case round =>
          obtain ⟨k, hk, rfl, hbr⟩ := hrel
          have hbel : Below wr.heap.size wr wr := Below.refl _ _
          by_cases hlt : k < L.length
          · obtain ⟨p, hx⟩ : ∃ x, L[k]? = some x := ⟨L[k], List.getElem?_eq_getElem hlt⟩
            obtain ⟨b, off, rfl, _, hc⟩ := (HRl.out.later hbr).elem PodV.cells_len (by omega) hx
            obtain ⟨b2, off2, rfl, _, hc2⟩ := (HRw.out.later hbr).elem PodV.cells_len (by omega) hx
            have x0 := keep (hc 0 _ rfl)
            have y0 := keep (hc2 0 _ rfl)
            have x1 := keep (hc 1 _ rfl)
            have y1 := keep (hc2 1 _ rfl)
            have x2 := keep (hc 2 _ rfl)
            have y2 := keep (hc2 2 _ rfl)
            have x3 := keep (hc 3 _ rfl)
            have y3 := keep (hc2 3 _ rfl)
            have x4 := keep (hc 4 _ rfl)
            have y4 := keep (hc2 4 _ rfl)
            have x5 := keep (hc 5 _ rfl)
            have y5 := keep (hc2 5 _ rfl)
            have x6 := keep (hc 6 _ rfl)
            have y6 := keep (hc2 6 _ rfl)
            have x7 := keep (hc 7 _ rfl)
            have y7 := keep (hc2 7 _ rfl)
            have x8 := keep (hc 8 _ rfl)
            have y8 := keep (hc2 8 _ rfl)
            have x9 := keep (hc 9 _ rfl)
            have y9 := keep (hc2 9 _ rfl)
            have x10 := keep (hc 10 _ rfl)
            have y10 := keep (hc2 10 _ rfl)
            rw [Nat.add_zero] at x0 y0
            have he := eq_pod_same p
            clear hx hc hc2 HRl HRw
            go_wp2
            have kk := fun d os => belStep hbel (below_regrown _ d os)
            refine wp_region_quiet_below (by kernel_rfl) (by kernel_rfl) ?_
            repeat ((with_reducible refine wpQuiet_step (fun K hK => ?_)); go_simp; (try (rw [if_neg]; rotate_left; · decide)); first | ((with_reducible refine hK _ ?_); clear hK K) | (apply Exists.intro; refine ⟨fun _ => ?_, hK _ ?_⟩; (fail); clear hK K))
            refine wpQuiet_nil (fun w1 hw1 => ?_)
            replace hbel := belStep hbel (bel_of_class hw1)
            clear hw1 kk
            go_wp2
            go_roundw
            case rel => exact ⟨k + 1, by omega, by push_cast; rfl, belStep hbr hbel⟩
            case measure => simp [intOf] <;> omega
          · obtain rfl : k = L.length := by omega
            replace m0 := keepOnP m0 hbr
            replace m1 := keepOnP m1 hbr
            replace m2 := keepOnP m2 hbr
            replace m3 := keepOnP m3 hbr
            replace c0 := keepOnP c0 hbr
            replace c1 := keepOnP c1 hbr
            replace c2 := keepOnP c2 hbr
            replace c3 := keepOnP c3 hbr
            have he := eq_four 9998 0 n1 n2 n3 0 n1 n2 n3
            simp only [BEq.rfl, Bool.and_self] at he
            have e1 : n1 + n2 ≤ 100 := by omega
            have e2 : n1 + n2 + n3 ≤ 100 := by omega
            have e3 : 0 ≤ n1 + n2 := by omega
            have e4 : 0 ≤ n1 + n2 + n3 := by omega
            clear HRl HRw
            go_wp2
            go_ret
            exact ⟨ret_bool (by first | rfl | simp [hsum]), belStep hw hbr⟩

set_option maxRecDepth 100000 in
theorem lifted (os : Os) (started : os.Started) (H : Type) (enc : TypeId × Value → H) :
    ReturnsInHanded {} Try.checked os 12 .any (Rows.qosCountsSpec.pre6 enc Try.prog Try.f12 Rows.qosCountsRow.domain false) (Rows.qosCountsSpec.post enc Try.prog Try.f12 false true false false) := by
  refine returnsInHanded_of_change (C := Try.checked) own started (by kernel_rfl) Try.func12
    (ChangeSpec.witness6 (enc := enc) (C := Try.checked) false ⟨#[], #[.slice none 0 0], []⟩ 8 (by kernel_rfl) (by kernel_rfl) (by kernel_rfl) (by kernel_rfl)) ?_
  intro W base args ds gs before hval0 hW hcnd _
  have hval : ∀ (j : Nat) t v, Try.f12.params[j]? = some t → args[j]? = some v → Value.okWide Try.prog W .any base t v := hval0
  have hW' := hW
  obtain ⟨p, q, hA0, hV, rfl, hfz, hnd⟩ := hW
  have hA : DataW.TrodAll enc Try.prog W 0 (fun _ => true) true Try.f12.params.toList args.toList ds p := hA0
  rw [Try.params12] at hA hval
  obtain ⟨v0, vs0, d0, ds0, p0, q0, hargs, rfl, rfl, h0, r0⟩ := trodAll_cons hA
  obtain ⟨rfl, rfl, rfl⟩ := trodAll_nil r0
  obtain rfl : args = #[v0] := by cases args; simp_all
  obtain ⟨rfl, rfl⟩ := trodVars_none hV
  have k0 := h0
  have lt0 : ∀ x ∈ p0, x.block < W.heap.size := by obtain ⟨m, hm⟩ := k0; exact DataW.trod_lt m _ _ _ hm
  have o0 : Value.okWide Try.prog W .any base 41 v0 := hval 0 41 v0 rfl rfl
  obtain ⟨a0, len0, cap0, L0, rfl, f0, g0, i0⟩ := open_pods o0 h0
  clear hA0 hval0
  refine (walk a0 len0 cap0 L0 W f0 g0 i0).mono fun e W' ⟨he, bel⟩ => ?_
  subst he
  exact ⟨_, rfl, _, _, _, [], _, [], hW', trodAll_mk1 (shut_bool Try.underlying4 _), (trodAll_cons_mk (Below.trod laidOut (by kernel_rfl) (of_decide_eq_true (by kernel_rfl)) k0 bel lt0) trodAll_mk0), rfl, bel.frame _, fun h => by cases h⟩

theorem over : Rows.qosCountsRow.holds Try.pinned (OpenSpec.ofChange Rows.qosCountsSpec) :=
  OpenClaim.holds_of_wide 12 Try.f12 rfl rfl rfl rfl rfl rfl rfl ⟨rfl, rfl, rfl, rfl, rfl⟩ rfl rfl rfl rfl rfl (by kernel_rfl) Try.func12 (by kernel_rfl)
    (of_decide_eq_true (by kernel_rfl)) (by unfold Func.isWrapper; first | (rw [if_pos (by decide +kernel)]; kernel_rfl) | (rw [if_neg (by decide +kernel)]; exact ⟨rfl, rfl⟩))
    (fun os started H enc _ => lifted os started H enc)

/-- The statement. -/
theorem proved : Rows.QosCountsSaid := over
#print axioms proved

end Go.Proofs.Ytnfblpiapendeaa.qosCounts
