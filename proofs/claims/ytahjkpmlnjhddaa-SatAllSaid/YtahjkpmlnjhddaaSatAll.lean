/- SatAll holds for every slice of ints: the sum is the reference's, and the slice reads as it did. No conditions. -/
import Derived.Test.YtahjkpmlnjhddaaAwake01
namespace Go.Proofs.Ytahjkpmlnjhddaa.satAll
open Go.ChangeShapes Go.WideShapes Go.ChangeAt Go.RowKit
open Go.ChangeMaps (open_string shut_string)
set_option linter.unusedVariables false

theorem info_int : (Try.prog.info? 3).map (fun i => (i.zero, i.size, i.bytes)) = some (some (.int .i64 0), 1, 8) := by kernel_rfl

set_option maxHeartbeats 2000000 in
theorem walk (a : Option Addr) (len cap : Nat) (l : List Int) (w : World) (hr : Ints .i64 w a len cap l) :
    Calls Try.prog 4 #[.slice a len cap] w fun e w' => e = .returned (.bool true) ∧ Below w.heap.size w w' := by
  obtain ⟨hz0, hl, hm⟩ := hr.bounds
  have hz := Lib.hid hz0
  clear hz0
  have hb : Below w.heap.size w w := Below.refl _ _
  have hr0 := Lib.hid hr
  by_cases hbig : 1000 < len
  · go_enter Try.func4, Try.ntmps4
    go_wp2_with (go_at_call 13; refine (awake01 _).mono ?_; rintro e w1 ⟨rfl, hb1⟩; replace hb := belStep hb hb1; clear hb1)
    go_ret
    exact ⟨rfl, hb⟩
  · go_enter Try.func4, Try.ntmps4
    go_upto_region 3 with (go_at_call 13; refine (awake01 _).mono ?_; rintro e w1 ⟨rfl, hb1⟩; replace hb := belStep hb hb1; clear hb1)
    have hr1 := hr.later hb
    have hB := hb.size
    have HO := Lib.hid (own_new w1 w.heap.size 3 .i64 hB)
    have HR1 := Lib.hid (hr1.later ((Below.refl _ _).alloc (Nat.le_refl _) (.cells #[] 3)))
    have HR := Lib.hid hr
    clear hr hr1 hr0
    go_upto_region 4 with (at_builtin; refine wpList_app_ints rfl _ _ 26 rfl w.heap.size 3 .i64 8 Try.underlying26 info_int _ [] rfl HO.out _ _ _ l rfl HR1.out ?c1 ?c2 ?c3 ?_)
    case c1 => simp [maxLen]; omega
    case c2 => simp; omega
    case c3 => simp; omega
    intro v w2 ho hb2 hg
    obtain ⟨va, vc, rfl, hv⟩ := ints_of_own ho HR1.out.2
    have hbw : Below w.heap.size w w2 := (hb.alloc hB _).trans hb2
    have hr2 := HR.out.later hbw
    have HV := Lib.hid hv
    have HR2 := Lib.hid hr2
    clear hv hr2 HO HR1 ho hb2 hg hb
    go_wp2_with (first | (go_at_call 21; refine (sat_Sum _ _ _ l _ HR2.out).mono ?_; rintro e w' ⟨rfl, rfl⟩))
    go_loopw [5] (fun i wr => ∃ k : Nat, k ≤ len ∧ i = .int .i64 k ∧ Below w2.heap.size w2 wr) (fun i _ => len - (intOf i).toNat)
    case atStart => exact ⟨0, Nat.zero_le _, rfl, Below.refl _ _⟩
    case round =>
      obtain ⟨k, hk, rfl, hbr⟩ := hrel
      have HB := Lib.hid hbr
      by_cases hlt : k < len
      · obtain ⟨b, off, rfl, _, hc⟩ := (HR2.out.later hbr).opened (by omega)
        obtain ⟨b2, off2, rfl, _, hc2⟩ := (HV.out.later hbr).opened (by have := hz.out; omega)
        have hc := hc k hlt
        have hc2 := hc2 k (by have := hz.out; omega)
        have hlz : (k : Int) < (l.length : Int) := by have := hz.out; omega
        have hll : l.length ≤ 1000 := by have := hz.out; omega
        clear hbr
        go_wp2
        go_quiet (fail)
        go_wp2
        go_roundw
        case rel => exact ⟨k + 1, by omega, by go_num, belDrewN HB.out _⟩
        case measure => simp [intOf]; omega
      · have : k = len := by omega
        subst this
        have HR3 := Lib.hid (HR2.out.later hbr)
        clear hbr
        go_wp2_with (first | (go_at_call 22; refine (ref_Sum _ _ _ l _ HR3.out).mono ?_; rintro e w' ⟨rfl, rfl⟩))
        go_ret
        exact ⟨rfl, belStep hbw HB.out⟩

set_option maxRecDepth 100000 in
theorem lifted (os : Os) (started : os.Started) (H : Type) (enc : TypeId × Value → H) :
    ReturnsInHanded {} Try.checked os 4 .any (Rows.satAllSpec.pre6 enc Try.prog Try.f4 Rows.satAllRow.domain false) (Rows.satAllSpec.post enc Try.prog Try.f4 false true false false) := by
  refine returnsInHanded_of_change (C := Try.checked) own started (by kernel_rfl) Try.func4
    (ChangeSpec.witness6 (enc := enc) (C := Try.checked) false ⟨#[], #[.slice none 0 0], []⟩ 8 (by kernel_rfl) (by kernel_rfl) (by kernel_rfl) (by kernel_rfl)) ?_
  intro W base args ds gs before hval0 hW hcnd _
  have hval : ∀ (j : Nat) t v, Try.f4.params[j]? = some t → args[j]? = some v → Value.okWide Try.prog W .any base t v := hval0
  have hW' := hW
  obtain ⟨p, q, hA0, hV, rfl, hfz, hnd⟩ := hW
  have hA : DataW.TrodAll enc Try.prog W 0 (fun _ => true) true Try.f4.params.toList args.toList ds p := hA0
  rw [Try.params4] at hA hval
  obtain ⟨v0, vs0, d0, ds0, p0, q0, hargs, rfl, rfl, h0, r0⟩ := trodAll_cons hA
  obtain ⟨rfl, rfl, rfl⟩ := trodAll_nil r0
  obtain rfl : args = #[v0] := by cases args; simp_all
  obtain ⟨rfl, rfl⟩ := trodVars_none hV
  have k0 := h0
  have lt0 : ∀ x ∈ p0, x.block < W.heap.size := by obtain ⟨m, hm⟩ := k0; exact DataW.trod_lt m _ _ _ hm
  have o0 : Value.okWide Try.prog W .any base 26 v0 := hval 0 26 v0 rfl rfl
  obtain ⟨a0, len0, cap0, rfl⟩ := okWide_slice Try.underlying26 o0
  obtain ⟨z0, w0⟩ : ∃ zs, Ints .i64 W a0 len0 cap0 zs := ints_of_trod Try.underlying26 Try.underlying3 (by kernel_rfl) h0
  clear hA0 hval0
  refine (walk a0 len0 cap0 z0 W w0).mono fun e W' ⟨he, bel⟩ => ?_
  subst he
  exact ⟨_, rfl, _, _, _, [], _, [], hW', trodAll_mk1 (shut_bool Try.underlying4 _), (trodAll_cons_mk (Below.trod laidOut (by kernel_rfl) (of_decide_eq_true (by kernel_rfl)) k0 bel lt0) trodAll_mk0), rfl, bel.frame _, fun h => by cases h⟩

theorem over : Rows.satAllRow.holds Try.pinned (OpenSpec.ofChange Rows.satAllSpec) :=
  OpenClaim.holds_of_wide 4 Try.f4 rfl rfl rfl rfl rfl rfl rfl ⟨rfl, rfl, rfl, rfl, rfl⟩ rfl rfl rfl rfl rfl (by kernel_rfl) Try.func4 (by kernel_rfl)
    (of_decide_eq_true (by kernel_rfl)) (by unfold Func.isWrapper; first | (rw [if_pos (by decide +kernel)]; kernel_rfl) | (rw [if_neg (by decide +kernel)]; exact ⟨rfl, rfl⟩))
    (fun os started H enc _ => lifted os started H enc)

/-- The statement. -/
theorem proved : Rows.SatAllSaid := over
#print axioms proved

end Go.Proofs.Ytahjkpmlnjhddaa.satAll
