/- PodSums holds for every list of pods. No conditions. -/
import Derived.Test.YtnfblpiapendeaaPodSumRef
import Derived.Test.YtnfblpiapendeaaPodLaws
import Derived.Test.YtnfblpiapendeaaPodEq
import Derived.Test.YtnfblpiapendeaaOwn
namespace Go.Proofs.Ytnfblpiapendeaa.podSums
open Go.ChangeShapes Go.WideShapes Go.ChangeAt Go.RowKit
open Go.ChangeMaps (open_string shut_string)
set_option linter.unusedVariables false
set_option linter.unusedSimpArgs false

theorem info_pod : (Try.prog.info? 24).map (fun i => (i.zero, i.size, i.bytes)) = some (some (.agg #[.string ⟨#[]⟩, .int .i64 0, .bool false, .int .i64 0, .int .i64 0, .int .i64 0, .int .i64 0, .int .i64 0, .int .i64 0, .string ⟨#[]⟩, .int .i64 0]), 11, 104) := by kernel_rfl
theorem pod_one (p : PodV) : ∀ u ∈ p.cells, u.oneCell' = true := by
  intro u hu; unfold PodV.cells at hu; simp at hu
  rcases hu with rfl | rfl | rfl | rfl | rfl | rfl | rfl | rfl | rfl | rfl | rfl <;> rfl
theorem pods_one (L : List PodV) : ∀ u ∈ L.flatMap PodV.cells, u.oneCell' = true := by
  intro u hu
  obtain ⟨p, _, h⟩ := List.mem_flatMap.1 hu
  exact pod_one p u h
theorem own_one (w : World) (p : PodV) : OwnR (w.alloc (.cells #[.string p.id, .int .i64 p.prio, .bool p.crit, .int .i64 p.r0, .int .i64 p.r1, .int .i64 p.r2, .int .i64 p.l0, .int .i64 p.l1, .int .i64 p.l2, .string p.img, .int .i64 p.size] 24)) w.heap.size 24 11 (.slice (some ⟨w.heap.size, 0, none⟩) 1 1) 1 p.cells :=
  ⟨rfl, .inr ⟨w.heap.size, 1, p.cells.toArray, rfl, Nat.le_refl _, heap_alloc_new w _, Nat.le_refl _, by unfold maxLen; omega, rfl, rfl⟩⟩
theorem few_len {L : List PodV} (h : fewB L = true) : L.length ≤ 100 := by unfold fewB at h; simp at h; exact h.2
theorem rev_next {L : List PodV} {k : Nat} {p : PodV} (h : L[k]? = some p) : ((L.take (k + 1)).reverse).flatMap PodV.cells = p.cells ++ ((L.take k).reverse).flatMap PodV.cells := by
  rw [List.take_add_one, h]; simp

set_option maxRecDepth 100000 in
set_option maxHeartbeats 8000000 in
theorem walk (a : Option Addr) (len cap : Nat) (L : List PodV) (w : World) (hl : L.length = len) (hok : ∀ x ∈ L, x.ok) (hR : Row w a len cap 11 (L.flatMap PodV.cells)) :
    Calls Try.prog 6 #[.slice a len cap] w fun e w' => e = .returned (.bool true) ∧ Below w.heap.size w w' := by
  have hw : Below w.heap.size w w := Below.refl _ _
  have hbel := hw
  have hbd : len ≤ cap ∧ cap ≤ 9223372036854775807 := by obtain ⟨_, h1, h2, _⟩ := hR; unfold maxLen at h2; exact ⟨h1, h2⟩
  obtain ⟨hbd1, hbd2⟩ := hbd
  subst hl
  have CF := Lib.hid (fun v (hv : Below w.heap.size w v) => pref_Few a L.length cap L v rfl hok (hR.later hv))
  have CS := Lib.hid (fun v (hv : Below w.heap.size w v) => pod_Sums a L.length cap L v rfl hok (hR.later hv))
  have CT := Lib.hid (fun v (hv : Below w.heap.size w v) => pref_Sums a L.length cap L v rfl hok (hR.later hv))
  have HR := Lib.hid hR
  have HO := Lib.hid hok
  clear hR hok
  cases hf : fewB L with
  | false =>
    rw [hf] at CF
    clear hf
    go_enter Try.func6, Try.ntmps6
    go_wp2_with (first | (go_at_call 14; (with_reducible refine (awake12 _).mono ?_); rintro e w1 ⟨rfl, hb1⟩; replace hbel := belStep hbel hb1; clear hb1) | (go_at_call 25; (with_reducible refine (CF.out _ hbel).mono ?_); rintro e w1 ⟨rfl, hb1⟩; replace hbel := belStep hbel hb1; clear hb1))
    go_ret
    exact ⟨rfl, hbel⟩
  | true =>
    rw [hf] at CF
    have hfew := few_len hf
    clear hf
    obtain ⟨t0, e0⟩ : ∃ s, sumF PodV.r0 L = s := ⟨_, rfl⟩
    obtain ⟨t1, e1⟩ : ∃ s, sumF PodV.r1 L = s := ⟨_, rfl⟩
    obtain ⟨t2, e2⟩ : ∃ s, sumF PodV.r2 L = s := ⟨_, rfl⟩
    rw [e0, e1, e2] at CS CT
    have E0 := Lib.hid ((sumF_perm PodV.r0 (List.reverse_perm L)).trans e0)
    have E1 := Lib.hid ((sumF_perm PodV.r1 (List.reverse_perm L)).trans e1)
    have E2 := Lib.hid ((sumF_perm PodV.r2 (List.reverse_perm L)).trans e2)
    clear e0 e1 e2
    go_enter Try.func6, Try.ntmps6
    go_wp2_with (first | (go_at_call 14; (with_reducible refine (awake12 _).mono ?_); rintro e w1 ⟨rfl, hb1⟩; replace hbel := belStep hbel hb1; clear hb1) | (go_at_call 25; (with_reducible refine (CF.out _ hbel).mono ?_); rintro e w1 ⟨rfl, hb1⟩; replace hbel := belStep hbel hb1; clear hb1))
    replace hw := belStep hw hbel
    clear hbel
    generalize w1 = W1 at *
    have hbel : Below W1.heap.size W1 W1 := Below.refl _ _
    go_loopw [3, 4] (fun v i wr => ∃ k : Nat, k ≤ L.length ∧ i = .int .i64 k ∧ OwnR wr W1.heap.size 24 11 v k (((L.take k).reverse).flatMap PodV.cells) ∧ Below W1.heap.size W1 wr) (fun _ i _ => L.length - (intOf i).toNat)
    case atStart => exact ⟨0, Nat.zero_le _, rfl, OwnR.nil _ _ _ _, hbel⟩
    case round =>
      obtain ⟨k, hk, rfl, hown, hbr⟩ := hrel
      clear hbel
      obtain ⟨a3, c3, rfl, hrow⟩ := row_of_own hown
      have HRW := Lib.hid hrow
      have HOW := Lib.hid hown
      have hbel : Below wr.heap.size wr wr := Below.refl _ _
      clear hrow hown
      by_cases hlt : k < L.length
      · obtain ⟨p, hx⟩ : ∃ x, L[k]? = some x := ⟨L[k], List.getElem?_eq_getElem hlt⟩
        obtain ⟨b, off, rfl, _, hc⟩ := (HR.out.later (belStep hw hbr)).elem PodV.cells_len (by omega) hx
        have x0 := keep (hc 0 _ rfl)
        have x1 := keep (hc 1 _ rfl)
        have x2 := keep (hc 2 _ rfl)
        have x3 := keep (hc 3 _ rfl)
        have x4 := keep (hc 4 _ rfl)
        have x5 := keep (hc 5 _ rfl)
        have x6 := keep (hc 6 _ rfl)
        have x7 := keep (hc 7 _ rfl)
        have x8 := keep (hc 8 _ rfl)
        have x9 := keep (hc 9 _ rfl)
        have x10 := keep (hc 10 _ rfl)
        rw [Nat.add_zero] at x0
        have CR := Lib.hid (fun v => pref_Right p v (HO.out p (List.mem_of_getElem? hx)))
        have HN := Lib.hid (rev_next hx)
        clear hx hc
        cases hr : rightB p with
        | false =>
          rw [hr] at CR
          clear hr
          go_wp2_with (first | (go_at_call 18; (with_reducible refine (CR.out _).mono ?_); rintro e w1 ⟨rfl, hb1⟩; replace hbel := belStep hbel hb1; clear hb1))
          go_ret
          exact ⟨rfl, belStep hw (belStep hbr hbel)⟩
        | true =>
          rw [hr] at CR
          clear hr
          go_wp2_with (first | (go_at_call 18; (with_reducible refine (CR.out _).mono ?_); rintro e w2 ⟨rfl, hb2⟩; replace hbel := belStep hbel hb2; clear hb2) | (at_builtin; refine wpList_app_row rfl _ _ 41 rfl w2.heap.size 24 _ 11 104 Try.underlying41 info_pod rfl (by decide) _ 1 p.cells rfl (own_one w2 p) a3 k c3 _ rfl (HRW.out.later (belAlloc hbel _)) (pods_one _) (by simp only [maxLen]; omega) (by omega) (by simp) ?_; intro v4 w4 ho4 hb4 hg4; have hz2 := (belStep hbr hbel).size; replace hbel := belStep hbel ((belAlloc (Below.refl _ _) _).trans hb4); have HV := Lib.hid ho4; clear ho4 hb4 hg4))
          go_roundw
          case rel => exact ⟨k + 1, by omega, by push_cast; rfl, by rw [HN.out, Nat.add_comm k 1]; exact OwnR.mono HV.out hz2, belStep hbr hbel⟩
          case measure => simp [intOf] <;> omega
      · obtain rfl : k = L.length := by omega
        have CB := Lib.hid (fun v (hv : Below wr.heap.size wr v) => pod_Sums a3 L.length c3 L.reverse v (by simp) (fun x hx => HO.out x (List.mem_reverse.1 hx)) (by have := HRW.out.later hv; rw [List.take_length] at this; exact this))
        rw [E0.out, E1.out, E2.out] at CB
        have heq3 := eq3_same t0 t1 t2
        go_wp2_with (first | (go_at_call 26; (with_reducible refine (CS.out _ (belStep hw (belStep hbr hbel))).mono ?_); rintro e w1 ⟨rfl, hb1⟩; replace hbel := belStep hbel hb1; clear hb1) | (go_at_call 26; (with_reducible refine (CB.out _ hbel).mono ?_); rintro e w1 ⟨rfl, hb1⟩; replace hbel := belStep hbel hb1; clear hb1) | (go_at_call 27; (with_reducible refine (CT.out _ (belStep hw (belStep hbr hbel))).mono ?_); rintro e w1 ⟨rfl, hb1⟩; replace hbel := belStep hbel hb1; clear hb1))
        go_ret
        exact ⟨rfl, belStep hw (belStep hbr hbel)⟩

set_option maxRecDepth 100000 in
theorem lifted (os : Os) (started : os.Started) (H : Type) (enc : TypeId × Value → H) :
    ReturnsInHanded {} Try.checked os 6 .any (Rows.podSumsSpec.pre6 enc Try.prog Try.f6 Rows.podSumsRow.domain false) (Rows.podSumsSpec.post enc Try.prog Try.f6 false true false false) := by
  refine returnsInHanded_of_change (C := Try.checked) own started (by kernel_rfl) Try.func6
    (ChangeSpec.witness6 (enc := enc) (C := Try.checked) false ⟨#[], #[.slice none 0 0], []⟩ 8 (by kernel_rfl) (by kernel_rfl) (by kernel_rfl) (by kernel_rfl)) ?_
  intro W base args ds gs before hval0 hW hcnd _
  have hval : ∀ (j : Nat) t v, Try.f6.params[j]? = some t → args[j]? = some v → Value.okWide Try.prog W .any base t v := hval0
  have hW' := hW
  obtain ⟨p, q, hA0, hV, rfl, hfz, hnd⟩ := hW
  have hA : DataW.TrodAll enc Try.prog W 0 (fun _ => true) true Try.f6.params.toList args.toList ds p := hA0
  rw [Try.params6] at hA hval
  obtain ⟨v0, vs0, d0, ds0, p0, q0, hargs, rfl, rfl, h0, r0⟩ := trodAll_cons hA
  obtain ⟨rfl, rfl, rfl⟩ := trodAll_nil r0
  obtain rfl : args = #[v0] := by cases args; simp_all
  obtain ⟨rfl, rfl⟩ := trodVars_none hV
  have k0 := h0
  have lt0 : ∀ x ∈ p0, x.block < W.heap.size := by obtain ⟨m, hm⟩ := k0; exact DataW.trod_lt m _ _ _ hm
  have o0 : Value.okWide Try.prog W .any base 41 v0 := hval 0 41 v0 rfl rfl
  obtain ⟨a0, len0, cap0, L0, rfl, f0, g0, i0⟩ := open_pods o0 h0
  clear hA0 hval0
  refine (walk a0 len0 cap0 L0 W f0 g0 i0).mono fun e W' ⟨he, bel⟩ => ?_
  subst he
  exact ⟨_, rfl, _, _, _, [], _, [], hW', trodAll_mk1 (shut_bool Try.underlying4 _), (trodAll_cons_mk (Below.trod laidOut (by kernel_rfl) (of_decide_eq_true (by kernel_rfl)) k0 bel lt0) trodAll_mk0), rfl, bel.frame _, fun h => by cases h⟩

theorem over : Rows.podSumsRow.holds Try.pinned (OpenSpec.ofChange Rows.podSumsSpec) :=
  OpenClaim.holds_of_wide 6 Try.f6 rfl rfl rfl rfl rfl rfl rfl ⟨rfl, rfl, rfl, rfl, rfl⟩ rfl rfl rfl rfl rfl (by kernel_rfl) Try.func6 (by kernel_rfl)
    (of_decide_eq_true (by kernel_rfl)) (by unfold Func.isWrapper; first | (rw [if_pos (by decide +kernel)]; kernel_rfl) | (rw [if_neg (by decide +kernel)]; exact ⟨rfl, rfl⟩))
    (fun os started H enc _ => lifted os started H enc)

/-- The statement. -/
theorem proved : Rows.PodSumsSaid := over
#print axioms proved

end Go.Proofs.Ytnfblpiapendeaa.podSums
