/- CondBreaks holds for every int as a period, every slice of uint16, and both ways to break a row of calm rounds. No conditions. -/
import Derived.Test.YthhpkmpaldcloaaAwake19
import Derived.Test.YthhpkmpaldcloaaReadCond
import Derived.Test.YthhpkmpaldcloaaTail
namespace Go.Proofs.Ythhpkmpaldcloaa.condBreaks
open Go.ChangeShapes Go.WideShapes Go.ChangeAt Go.RowKit
open Go.ChangeMaps (open_string shut_string)
set_option linter.unusedVariables false

theorem inI_of' {a : Int} (h0 : -9223372036854775808 ≤ a) (h1 : a ≤ 9223372036854775807) : InI a := ⟨h0, h1⟩

set_option maxRecDepth 100000 in
set_option maxHeartbeats 4000000 in
theorem walk (n : Int) (a : Option Addr) (len cap : Nat) (l : List Int) (how : Bool) (w : World) (hn : InI n) (hr : Ints .u16 w a len cap l) :
    Calls Try.prog 13 #[.int .i64 n, .slice a len cap, .bool how] w fun e w' => e = .returned (.bool true) ∧ Below w.heap.size w w' := by
  obtain ⟨rfl, hl, hm⟩ := hr.bounds
  have HR := Lib.hid hr
  clear hr
  have hw : Below w.heap.size w w := Below.refl _ _
  have hbel := hw
  have key : (¬ (1 ≤ n ∧ n ≤ 1000)) ∨ ((1 ≤ n ∧ n ≤ 1000) ∧ 20 < l.length) ∨ ((1 ≤ n ∧ n ≤ 1000) ∧ ¬ 20 < l.length) := by omega
  rcases key with hp | ⟨hp, hl⟩ | ⟨hp, hl⟩
  · go_enter Try.func13, Try.ntmps13
    go_wp2_with (first | (go_at_call 24; refine (awake19 _).mono ?_; rintro e w1 ⟨rfl, hb1⟩; replace hbel := belStep hbel hb1; clear hb1) | (go_at_call 27; refine (period_any _ _).mono ?_; rintro e w' ⟨rfl, rfl⟩))
    go_ret
    exact ⟨rfl, hbel⟩
  · go_enter Try.func13, Try.ntmps13
    go_wp2_with (first | (go_at_call 24; refine (awake19 _).mono ?_; rintro e w1 ⟨rfl, hb1⟩; replace hbel := belStep hbel hb1; clear hb1) | (go_at_call 27; refine (period_any _ _).mono ?_; rintro e w' ⟨rfl, rfl⟩))
    go_ret
    exact ⟨rfl, hbel⟩
  · have sA := step_at false 0 true true true n true 0 (by omega) (by omega) rfl rfl
    have sB := fun (c : Int) (h0 : 0 ≤ c) (h1 : c + 1 < n) => step_at true c false false true n true (c + 1) h0 (by omega) (by simp [stepOn, h1]) (by simp [stepCalm, h1])
    have sC := fun (c : Int) (h0 : 0 ≤ c) (h1 : c < n) => step_at true c false how how n true 0 h0 (by omega) (by cases how <;> simp [stepOn]) (by cases how <;> simp [stepCalm])
    have sD := step_at true (n - 1) false false true n false 0 (by omega) (by omega) (by simp [stepOn]) (by simp [stepCalm])
    have SA := Lib.hid sA
    have SB := Lib.hid sB
    have SC := Lib.hid sC
    have SD := Lib.hid sD
    clear sA sB sC sD
    obtain ⟨p0, p1⟩ := hp
    go_enter Try.func13, Try.ntmps13
    go_upto_region 4 with (first | (go_at_call 24; refine (awake19 _).mono ?_; rintro e w1 ⟨rfl, hb1⟩; replace hbel := belStep hbel hb1; clear hb1) | (go_at_call 27; refine (period_any _ _).mono ?_; rintro e w' ⟨rfl, rfl⟩) | (go_at_call 28; (with_reducible refine (SA.out _).mono ?_); rintro e w1 ⟨rfl, hb1⟩; replace hbel := belStep hbel hb1; clear hb1))
    replace hw := hbel
    have HR1 := Lib.hid (HR.out.later hbel)
    have hK0 := Blk.new w1 [.bool true, .int .i64 0] 45
    clear HR hbel
    generalize w1 = W1 at *
    go_wp2
    go_loopw [8] (fun i wr => ∃ (k : Nat), k ≤ l.length ∧ i = .int .i64 k ∧ Below W1.heap.size W1 wr ∧ Blk wr W1.heap.size [.bool true, .int .i64 0] 45) (fun i _ => l.length - (intOf i).toNat)
    case atStart => exact ⟨0, Nat.zero_le _, rfl, belAlloc (Below.refl _ _) _, hK0⟩
    case round =>
      obtain ⟨k, hk, rfl, hbr, hblk⟩ := hrel
      by_cases hlt : k < l.length
      · have hx : 0 ≤ el l k ∧ el l k ≤ 65535 := in16_of_wf (HR1.out.2 _ (el_mem hlt))
        have HB := Lib.hid hbr
        have HK := Lib.hid hblk
        obtain ⟨x0, x1⟩ := hx
        obtain ⟨M, eM, hM⟩ : ∃ M, el l k % n = M ∧ 0 ≤ M ∧ M < n := ⟨_, rfl, Int.emod_nonneg _ (by omega), Int.emod_lt_of_pos _ (by omega)⟩
        obtain ⟨m0, m1⟩ := hM
        clear hbr hblk hK0
        go_wp2
        obtain ⟨Wo, hWo⟩ : ∃ Wo : World, Wo = wr := ⟨_, rfl⟩
        subst hWo
        go_loopw [9] (fun i wq => ∃ c : Int, 0 ≤ c ∧ c ≤ M ∧ i = .int .i64 c ∧ Below W1.heap.size W1 wq ∧ Blk wq W1.heap.size [.bool true, .int .i64 c] 45) (fun i _ => (M - intOf i).toNat)
        case atStart => exact ⟨0, by omega, m0, rfl, HB.out, HK.out⟩
        case round =>
          obtain ⟨c, c0, c1, rfl, hbq, hbk⟩ := hrel
          obtain ⟨b, off, rfl, _, hc⟩ := (HR1.out.later hbq).opened (by omega)
          have hc := hc k hlt
          have d0 : ∀ v, Below wr.heap.size wr v → v.cell? ⟨W1.heap.size, 0, none⟩ = some (.bool true) := keep (hbk.cell rfl)
          have d1 : ∀ v, Below wr.heap.size wr v → v.cell? ⟨W1.heap.size, 1, none⟩ = some (.int .i64 c) := keep (hbk.cell rfl)
          have fz : ∀ v j, Below wr.heap.size wr v → v.frozen? ⟨W1.heap.size, j, none⟩ = false := fun v j hv => (hbk.later hv).frozen j
          have HB1 := Lib.hid hbq
          have HK1 := Lib.hid hbk
          have hbel : Below wr.heap.size wr wr := Below.refl _ _
          clear hbq hbk HB HK
          by_cases hc1 : c < M
          · have S1 := Lib.hid (SB.out c c0 (by omega))
            go_wp2_with (first | (go_at_call 28; (with_reducible refine (S1.out _).mono ?_); rintro e w1 ⟨rfl, hb1⟩; replace hbel := belStep hbel hb1; clear hb1))
            go_roundw
            case rel => exact ⟨c + 1, by omega, by omega, rfl, belSet (belSet (belStep HB1.out hbel) _ _ (by simp)) _ _ (by simp), ((HK1.out.later hbel).set 0 _).set 1 _⟩
            case measure => simp [intOf]; omega
          · have S1 := Lib.hid (SC.out c c0 (by omega))
            go_wp2_with (first | (go_at_call 28; (with_reducible refine (S1.out _).mono ?_); rintro e w1 ⟨rfl, hb1⟩; replace hbel := belStep hbel hb1; clear hb1))
            go_roundw
            case rel => exact ⟨k + 1, by omega, by go_num, belSet (belSet (belStep HB1.out hbel) _ _ (by simp)) _ _ (by simp), ((HK1.out.later hbel).set 0 _).set 1 _⟩
            case measure => simp [intOf]; omega
      · clear hK0
        go_wp2
        go_loopw [10] (fun i wq => ∃ c : Int, 0 ≤ c ∧ c ≤ n ∧ i = .int .i64 c ∧ Below W1.heap.size W1 wq ∧ (c < n → Blk wq W1.heap.size [.bool true, .int .i64 c] 45) ∧ (¬ c < n → Blk wq W1.heap.size [.bool false, .int .i64 0] 45)) (fun i _ => (n - intOf i).toNat)
        case atStart => exact ⟨0, by omega, by omega, rfl, hbr, fun _ => hblk, fun h => absurd (show (0 : Int) < n by omega) h⟩
        case round =>
          clear hbr hblk
          obtain ⟨c, c0, c1, rfl, hbq, hb1, hb2⟩ := hrel
          by_cases hc1 : c < n
          · have hbk := hb1 hc1
            have d0 : ∀ v, Below wr.heap.size wr v → v.cell? ⟨W1.heap.size, 0, none⟩ = some (.bool true) := keep (hbk.cell rfl)
            have d1 : ∀ v, Below wr.heap.size wr v → v.cell? ⟨W1.heap.size, 1, none⟩ = some (.int .i64 c) := keep (hbk.cell rfl)
            have fz : ∀ v j, Below wr.heap.size wr v → v.frozen? ⟨W1.heap.size, j, none⟩ = false := fun v j hv => (hbk.later hv).frozen j
            have HB1 := Lib.hid hbq
            have HK1 := Lib.hid hbk
            have hbel : Below wr.heap.size wr wr := Below.refl _ _
            clear hbq hbk hb1 hb2
            by_cases hc2 : c + 1 < n
            · have S1 := Lib.hid (SB.out c c0 hc2)
              go_wp2_with (first | (go_at_call 28; (with_reducible refine (S1.out _).mono ?_); rintro e w1 ⟨rfl, hb1⟩; replace hbel := belStep hbel hb1; clear hb1))
              go_roundw
              case rel => exact ⟨c + 1, by omega, by omega, rfl, belSet (belSet (belStep HB1.out hbel) _ _ (by simp)) _ _ (by simp), fun _ => ((HK1.out.later hbel).set 0 _).set 1 _, fun h => by first | exact h.elim | exact absurd hc2 h⟩
              case measure => simp [intOf]; omega
            · obtain rfl : c = n - 1 := by omega
              go_wp2_with (first | (go_at_call 28; (with_reducible refine (SD.out _).mono ?_); rintro e w1 ⟨rfl, hb1⟩; replace hbel := belStep hbel hb1; clear hb1))
              go_roundw
              case rel => exact ⟨n, by omega, by omega, by go_num, belSet (belSet (belStep HB1.out hbel) _ _ (by simp)) _ _ (by simp), fun h => absurd h (by omega), fun _ => ((HK1.out.later hbel).set 0 _).set 1 _⟩
              case measure => simp [intOf]; omega
          · have hbk := hb2 hc1
            have d0 : wr.cell? ⟨W1.heap.size, 0, none⟩ = some (.bool false) := hbk.cell rfl
            have d1 : wr.cell? ⟨W1.heap.size, 1, none⟩ = some (.int .i64 0) := hbk.cell rfl
            have HB1 := Lib.hid hbq
            clear hbq hbk hb1 hb2
            go_wp2
            go_ret
            exact ⟨rfl, belStep hw HB1.out⟩

set_option maxRecDepth 100000 in
theorem lifted (os : Os) (started : os.Started) (H : Type) (enc : TypeId × Value → H) :
    ReturnsInHanded {} Try.checked os 13 .any (Rows.condBreaksSpec.pre6 enc Try.prog Try.f13 Rows.condBreaksRow.domain false) (Rows.condBreaksSpec.post enc Try.prog Try.f13 false true false false) := by
  refine returnsInHanded_of_change (C := Try.checked) own started (by kernel_rfl) Try.func13
    (ChangeSpec.witness6 (enc := enc) (C := Try.checked) false ⟨#[], #[.int .i64 0, .slice none 0 0, .bool false], []⟩ 8 (by kernel_rfl) (by kernel_rfl) (by kernel_rfl) (by kernel_rfl)) ?_
  intro W base args ds gs before hval0 hW hcnd _
  have hval : ∀ (j : Nat) t v, Try.f13.params[j]? = some t → args[j]? = some v → Value.okWide Try.prog W .any base t v := hval0
  have hW' := hW
  obtain ⟨p, q, hA0, hV, rfl, hfz, hnd⟩ := hW
  have hA : DataW.TrodAll enc Try.prog W 0 (fun _ => true) true Try.f13.params.toList args.toList ds p := hA0
  rw [Try.params13] at hA hval
  obtain ⟨v0, vs0, d0, ds0, p0, q0, hargs, rfl, rfl, h0, r0⟩ := trodAll_cons hA
  obtain ⟨v1, vs1, d1, ds1, p1, q1, rfl, rfl, rfl, h1, r1⟩ := trodAll_cons r0
  obtain ⟨v2, vs2, d2, ds2, p2, q2, rfl, rfl, rfl, h2, r2⟩ := trodAll_cons r1
  obtain ⟨rfl, rfl, rfl⟩ := trodAll_nil r2
  obtain rfl : args = #[v0, v1, v2] := by cases args; simp_all
  obtain ⟨rfl, rfl⟩ := trodVars_none hV
  have k0 := h0
  have lt0 : ∀ x ∈ p0, x.block < W.heap.size := by obtain ⟨m, hm⟩ := k0; exact DataW.trod_lt m _ _ _ hm
  have o0 : Value.okWide Try.prog W .any base 3 v0 := hval 0 3 v0 rfl rfl
  obtain ⟨a0, rfl, rfl, rfl, w0⟩ := open_int Try.underlying3 o0 h0
  have k1 := h1
  have lt1 : ∀ x ∈ p1, x.block < W.heap.size := by obtain ⟨m, hm⟩ := k1; exact DataW.trod_lt m _ _ _ hm
  have o1 : Value.okWide Try.prog W .any base 55 v1 := hval 1 55 v1 rfl rfl
  obtain ⟨a1, len1, cap1, rfl⟩ := okWide_slice Try.underlying55 o1
  obtain ⟨z1, w1⟩ : ∃ zs, Ints .u16 W a1 len1 cap1 zs := ints_of_trod Try.underlying55 Try.underlying42 (by kernel_rfl) h1
  have k2 := h2
  have lt2 : ∀ x ∈ p2, x.block < W.heap.size := by obtain ⟨m, hm⟩ := k2; exact DataW.trod_lt m _ _ _ hm
  have o2 : Value.okWide Try.prog W .any base 4 v2 := hval 2 4 v2 rfl rfl
  obtain ⟨a2, rfl, rfl, rfl⟩ := open_bool Try.underlying4 o2 h2
  clear hA0 hval0
  refine (walk a0 a1 len1 cap1 z1 a2 W (inI_of_wf w0) w1).mono fun e W' ⟨he, bel⟩ => ?_
  subst he
  exact ⟨_, rfl, _, _, _, [], _, [], hW', trodAll_mk1 (shut_bool Try.underlying4 _), (trodAll_cons_mk (Below.trod laidOut (by kernel_rfl) (of_decide_eq_true (by kernel_rfl)) k0 bel lt0) (trodAll_cons_mk (Below.trod laidOut (by kernel_rfl) (of_decide_eq_true (by kernel_rfl)) k1 bel lt1) (trodAll_cons_mk (Below.trod laidOut (by kernel_rfl) (of_decide_eq_true (by kernel_rfl)) k2 bel lt2) trodAll_mk0))), rfl, bel.frame _, fun h => by cases h⟩

theorem over : Rows.condBreaksRow.holds Try.pinned (OpenSpec.ofChange Rows.condBreaksSpec) :=
  OpenClaim.holds_of_wide 13 Try.f13 rfl rfl rfl rfl rfl rfl rfl ⟨rfl, rfl, rfl, rfl, rfl⟩ rfl rfl rfl rfl rfl (by kernel_rfl) Try.func13 (by kernel_rfl)
    (of_decide_eq_true (by kernel_rfl)) (by unfold Func.isWrapper; first | (rw [if_pos (by decide +kernel)]; kernel_rfl) | (rw [if_neg (by decide +kernel)]; exact ⟨rfl, rfl⟩))
    (fun os started H enc _ => lifted os started H enc)

/-- The statement. -/
theorem proved : Rows.CondBreaksSaid := over
#print axioms proved

end Go.Proofs.Ythhpkmpaldcloaa.condBreaks
