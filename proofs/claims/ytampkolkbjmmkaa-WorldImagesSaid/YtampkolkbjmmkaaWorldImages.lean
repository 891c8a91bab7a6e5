
/- WorldImages holds for all its arguments. No conditions. -/
import Derived.Test.YtampkolkbjmmkaaWr1
import Derived.Test.YtampkolkbjmmkaaWl3
namespace Go.Proofs.Ytampkolkbjmmkaa.worldImages
open Go.ChangeShapes Go.WideShapes Go.ChangeAt Go.RowKit
open Go.ChangeMaps (open_string shut_string)
set_option linter.unusedVariables false
set_option linter.unusedSimpArgs false
open Go.Sort
def wi0 : WorldV := ⟨0, [], [], []⟩
def wi1 : WorldV := ⟨0, [], [⟨⟨#[97]⟩, 1, 0, 0⟩], []⟩
def wi2 : WorldV := ⟨0, [], [⟨⟨#[97]⟩, 1, 0, 0⟩, ⟨⟨#[98]⟩, 1, 0, 0⟩], []⟩
def wi3 (z : Int) : WorldV := ⟨0, [], [⟨⟨#[97]⟩, 2, 0, 1⟩, ⟨⟨#[98]⟩, 1, 0, 0⟩], [⟨⟨#[119, 101, 98]⟩, z, 1⟩]⟩
def wi4 (z : Int) (V : List Bool) : WorldV := ⟨0, V, [⟨⟨#[97]⟩, 2, 0, 1⟩, ⟨⟨#[98]⟩, 1, 0, 0⟩], [⟨⟨#[119, 101, 98]⟩, z, 1⟩]⟩
def wi5 (z : Int) (V : List Bool) : WorldV := ⟨0, V, [⟨⟨#[97]⟩, 2, 0, 1⟩, ⟨⟨#[98]⟩, 2, 0, 2⟩], [⟨⟨#[119, 101, 98]⟩, z, 2⟩]⟩
theorem one_maxl (b : UInt8) : (⟨#[b]⟩ : ByteArray).size ≤ maxLen := by show 1 ≤ maxLen; unfold maxLen; omega
theorem iq1 : createE wi0.boxes ⟨#[97]⟩ = 0 ∧ ({ wi0 with boxes := createC wi0.boxes ⟨#[97]⟩ 0 } : WorldV) = wi1 := ⟨by kernel_rfl, by kernel_rfl⟩
theorem ig1 : wi1.Good 1 := iq1.2 ▸ good_create (good_new 0) (one_maxl _) (by unfold InI; simp)
theorem iq2 : createE wi1.boxes ⟨#[98]⟩ = 0 ∧ ({ wi1 with boxes := createC wi1.boxes ⟨#[98]⟩ 0 } : WorldV) = wi2 := ⟨by kernel_rfl, by kernel_rfl⟩
theorem ig2 : wi2.Good 2 := iq2.2 ▸ good_create ig1 (one_maxl _) (by unfold InI; simp)
theorem iq3 (z : Int) : mayC wi2.boxes ⟨#[97]⟩ 1 = 0 ∧ pullB wi2 ⟨#[97]⟩ ⟨#[119, 101, 98]⟩ = true ∧ pullN wi2 ⟨#[97]⟩ ⟨#[119, 101, 98]⟩ = true ∧ pullW wi2 ⟨#[97]⟩ ⟨#[119, 101, 98]⟩ z 1 = wi3 z := ⟨by kernel_rfl, by kernel_rfl, by kernel_rfl, by kernel_rfl⟩
theorem ig3 (z : Int) : (wi3 z).Good 3 := (iq3 z).2.2.2 ▸ good_pull ig2 _ _ _ (by unfold InI; simp)
theorem iq4 (z : Int) (V : List Bool) (hV : V.length ≤ 200) : feedE (wi3 z) V = 0 ∧ (wi3 z).fed V = wi4 z V := by
  unfold feedE WorldV.fed
  rw [if_neg (by show ¬ 4096 < 0 + V.length; omega), if_neg (by show ¬ 4096 < 0 + V.length; omega)]
  exact ⟨rfl, rfl⟩
theorem ig4 (z : Int) (V : List Bool) (hV : V.length ≤ 200) : (wi4 z V).Good 3 := (iq4 z V hV).2 ▸ good_fed (ig3 z) V
theorem iq5 (z y : Int) (V : List Bool) : mayC (wi4 z V).boxes ⟨#[98]⟩ 1 = 0 ∧ pullB (wi4 z V) ⟨#[98]⟩ ⟨#[119, 101, 98]⟩ = true ∧ pullN (wi4 z V) ⟨#[98]⟩ ⟨#[119, 101, 98]⟩ = false ∧ pullW (wi4 z V) ⟨#[98]⟩ ⟨#[119, 101, 98]⟩ y 2 = wi5 z V := ⟨by kernel_rfl, by kernel_rfl, by kernel_rfl, by kernel_rfl⟩
theorem ig5 (z y : Int) (V : List Bool) (hV : V.length ≤ 200) : (wi5 z V).Good 4 := (iq5 z y V).2.2.2 ▸ good_pull (ig4 z V hV) _ _ _ (by unfold InI; simp)
set_option maxRecDepth 100000 in
set_option maxHeartbeats 16000000 in
theorem walk (d : Option Addr) (wl wc : Nat) (V : List Bool) (z y : Int) (w : World) (hV : Bools w d wl wc V) (hz : 0 ≤ z ∧ z ≤ 65535) (hy : 0 ≤ y ∧ y ≤ 65535) :
    Calls Try.prog 16 #[.slice d wl wc, .int .u16 z, .int .u16 y] w fun e w' => e = .returned (.bool true) ∧ Below w.heap.size w w' := by
  have hw : Below w.heap.size w w := Below.refl _ _
  have hbel := hw
  have hbv : wl ≤ wc ∧ wc ≤ 9223372036854775807 := by obtain ⟨_, h1, h2, _⟩ := (bools_row hV).2; unfold maxLen at h2; exact ⟨h1, h2⟩
  obtain ⟨hbv1, hbv2⟩ := hbv
  have HVL := Lib.hid (bools_row hV).1
  have HRV := Lib.hid (bools_row hV).2
  clear hV
  obtain ⟨hz0, hz9⟩ := hz
  obtain ⟨hy0, hy9⟩ := hy
  have hcz : IntKind.i64.wrap z = z := IntWalk.i64_in _ (by omega)
  have hcy : IntKind.i64.wrap y = y := IntWalk.i64_in _ (by omega)
  go_enter Try.func16, Try.ntmps16
  by_cases h5 : 200 < wl
  · have t5 : decide (200 < (wl : Int)) = true := decide_eq_true (by omega)
    have t6 : (200 : Int) < (wl : Int) := by omega
    go_wp2_with (first | (go_at_call 37; (with_reducible refine (awake16 _).mono ?_); rintro e w1 ⟨rfl, hb1⟩; replace hbel := belStep hbel hb1; clear hb1))
    go_ret
    exact ⟨rfl, hbel⟩
  · have hV2 : V.length ≤ 200 := by rw [HVL.out]; omega
    have HV2 := Lib.hid hV2
    clear hV2
    have t5 : decide (200 < (wl : Int)) = false := decide_eq_false (by omega)
    have t6 : ¬ (200 : Int) < (wl : Int) := by omega
    go_upto_region 6 with (first | (go_at_call 37; (with_reducible refine (awake16 _).mono ?_); rintro e w1 ⟨rfl, hb1⟩; replace hbel := belStep hbel hb1; clear hb1) | (go_at_call 39; (with_reducible refine (wl_NewM 0 w _ hbel).mono ?_); rintro e w1 ⟨M, rfl, hS_, hb_⟩; have HS := Lib.hid hS_; clear hS_ hb_))
    clear hbel t5 t6 h5
    have C1 := Lib.hid (fun u (h : WL w u M [] wi0) => wl_Create w u M [] wi0 0 h (good_new 0) (by omega) ⟨#[97]⟩ 0 0 wi1 iq1.1 iq1.2)
    have C2 := Lib.hid (fun u (h : WL w u M [] wi1) => wl_Create w u M [] wi1 1 h ig1 (by omega) ⟨#[98]⟩ 0 0 wi2 iq2.1 iq2.2)
    have C3 := Lib.hid (fun u (h : WL w u M [] wi2) => wl_Pull w u M [] wi2 2 h ig2 (by omega) ⟨#[97]⟩ ⟨#[119, 101, 98]⟩ z 1 0 true true (wi3 z) (iq3 z).1 (iq3 z).2.1 (iq3 z).2.2.1 (iq3 z).2.2.2)
    have C4 := Lib.hid (fun u (h : WL w u M [] (wi3 z)) => wl_Feed w u M [] (wi3 z) 3 h (ig3 z) (by omega) d wl wc V 0 (wi4 z V) HVL.out (HRV.out.later h.below) (by rw [← HVL.out]; have := HV2.out; omega) (iq4 z V HV2.out).1 (iq4 z V HV2.out).2)
    have C5 := Lib.hid (fun u (h : WL w u M [] (wi4 z V)) => wl_Pull w u M [] (wi4 z V) 3 h (ig4 z V HV2.out) (by omega) ⟨#[98]⟩ ⟨#[119, 101, 98]⟩ y 2 0 true false (wi5 z V) (iq5 z y V).1 (iq5 z y V).2.1 (iq5 z y V).2.2.1 (iq5 z y V).2.2.2)
    have C6 := Lib.hid (fun u (h : WL w u M [] (wi5 z V)) => wl_Images w u M [] (wi5 z V) 4 h (ig5 z y V HV2.out) (by omega) 1 rfl)
    have C7 := Lib.hid (fun u (h : WL w u M [] (wi5 z V)) => wl_Waiting w u M [] (wi5 z V) 4 h (ig5 z y V HV2.out) (by omega) wl HVL.out)
    go_upto_region 7 with (go_at_call 45; (with_reducible refine (C1.out _ HS.out).mono ?_); rintro e w2 ⟨rfl, hS_, hK_, hz_⟩; replace HS := Lib.hid hS_; clear hS_ hK_ hz_)
    go_upto_region 8 with (go_at_call 45; (with_reducible refine (C2.out _ HS.out).mono ?_); rintro e w3 ⟨rfl, hS_, hK_, hz_⟩; replace HS := Lib.hid hS_; clear hS_ hK_ hz_)
    go_upto_region 9 with (go_at_call 46; (with_reducible refine (C3.out _ HS.out).mono ?_); rintro e w4 ⟨rfl, hS_, hK_, hz_⟩; replace HS := Lib.hid hS_; clear hS_ hK_ hz_)
    go_upto_region 10 with (go_at_call 44; (with_reducible refine (C4.out _ HS.out).mono ?_); rintro e w5 ⟨rfl, hS_, hK_, hz_⟩; replace HS := Lib.hid hS_; clear hS_ hK_ hz_)
    go_upto_region 11 with (go_at_call 46; (with_reducible refine (C5.out _ HS.out).mono ?_); rintro e w6 ⟨rfl, hS_, hK_, hz_⟩; replace HS := Lib.hid hS_; clear hS_ hK_ hz_)
    go_upto_region 12 with (go_at_call 49; (with_reducible refine (C6.out _ HS.out).mono ?_); rintro e w7 ⟨aI, cI, rfl, ho_, hr_, hS_, hb_⟩; have HI := Lib.hid hr_; clear ho_ hr_; replace HS := Lib.hid hS_; clear hS_ hb_)
    generalize w7 = W7 at *
    have hbel : Below W7.heap.size W7 W7 := Below.refl _ _
    obtain ⟨bI, oI, eI, _, hcI⟩ := HI.out.elem ImgV.cells_len (by omega) (show (wi5 z V).images[0]? = some ⟨⟨#[119, 101, 98]⟩, z, 2⟩ from rfl)
    subst eI
    have i0 := keep (hcI 0 _ rfl)
    have i1 := keep (hcI 1 _ rfl)
    have i2 := keep (hcI 2 _ rfl)
    simp only [Nat.zero_mul, Nat.add_zero] at i0 i1 i2
    clear hcI hw
    have heqi := fun u => show (Op.equalIn 10000 46 (.agg #[.string ⟨#[119, 101, 98]⟩, .int .i64 z, .int .i64 2]) (.agg #[.string ⟨#[119, 101, 98]⟩, .int .i64 z, .int .i64 2])).run Try.prog u = .ok true u from by have h := eq_img ⟨⟨#[119, 101, 98]⟩, z, 2⟩ ⟨⟨#[119, 101, 98]⟩, z, 2⟩ u; rwa [show eqImg (⟨⟨#[119, 101, 98]⟩, z, 2⟩ : ImgV) ⟨⟨#[119, 101, 98]⟩, z, 2⟩ = true from (eqImg_iff _ _).2 rfl] at h
    have n0 : 0 < 1 := by omega
    have hbI : 1 ≤ cI ∧ cI ≤ 9223372036854775807 := by obtain ⟨_, h1, h2, _⟩ := HI.out; unfold maxLen at h2; exact ⟨h1, h2⟩
    obtain ⟨hbI1, hbI2⟩ := hbI
    go_wp2_with (first | (go_at_call 47; (with_reducible refine (C7.out _ HS.out).mono ?_); rintro e w8 ⟨a8, c8, rfl, ho_, hr_, hS_, hb_⟩; have HR8 := Lib.hid hr_; have hbz := belStep hbel hb_; clear hbel; have hbel := hbz; replace HS := Lib.hid hS_; clear hS_ ho_ hr_ hb_ hbz) | (go_at_call 52; (with_reducible refine (outs_any a8 d wl wl c8 wc V V _ HVL.out HVL.out HR8.out (HRV.out.later HS.out.below)).mono ?_); rintro e w9 ⟨rfl, hb_⟩; rw [sameV_refl]; replace HS := Lib.hid (HS.out.later hb_); have hbz := belStep hbel hb_; clear hbel; have hbel := hbz; clear hb_ hbz))
    go_ret
    exact ⟨rfl, HS.out.below⟩

set_option maxRecDepth 100000 in
theorem lifted (os : Os) (started : os.Started) (H : Type) (enc : TypeId × Value → H) :
    ReturnsInHanded {} Try.checked os 16 .any (Rows.worldImagesSpec.pre6 enc Try.prog Try.f16 Rows.worldImagesRow.domain false) (Rows.worldImagesSpec.post enc Try.prog Try.f16 false true false false) := by
  refine returnsInHanded_of_change (C := Try.checked) own started (by kernel_rfl) Try.func16
    (ChangeSpec.witness6 (enc := enc) (C := Try.checked) false ⟨#[], #[.slice none 0 0, .int .u16 0, .int .u16 0], []⟩ 8 (by kernel_rfl) (by kernel_rfl) (by kernel_rfl) (by kernel_rfl)) ?_
  intro W base args ds gs before hval0 hW hcnd _
  have hval : ∀ (j : Nat) t v, Try.f16.params[j]? = some t → args[j]? = some v → Value.okWide Try.prog W .any base t v := hval0
  have hW' := hW
  obtain ⟨p, q, hA0, hV, rfl, hfz, hnd⟩ := hW
  have hA : DataW.TrodAll enc Try.prog W 0 (fun _ => true) true Try.f16.params.toList args.toList ds p := hA0
  rw [Try.params16] at hA hval
  obtain ⟨v0, vs0, d0, ds0, p0, q0, hargs, rfl, rfl, h0, r0⟩ := trodAll_cons hA
  obtain ⟨v1, vs1, d1, ds1, p1, q1, rfl, rfl, rfl, h1, r1⟩ := trodAll_cons r0
  obtain ⟨v2, vs2, d2, ds2, p2, q2, rfl, rfl, rfl, h2, r2⟩ := trodAll_cons r1
  obtain ⟨rfl, rfl, rfl⟩ := trodAll_nil r2
  obtain rfl : args = #[v0, v1, v2] := by cases args; simp_all
  obtain ⟨rfl, rfl⟩ := trodVars_none hV
  have k0 := h0
  have lt0 : ∀ x ∈ p0, x.block < W.heap.size := by obtain ⟨m, hm⟩ := k0; exact DataW.trod_lt m _ _ _ hm
  have o0 : Value.okWide Try.prog W .any base 40 v0 := hval 0 40 v0 rfl rfl
  obtain ⟨a0, len0, cap0, rfl⟩ := okWide_slice Try.underlying40 o0
  obtain ⟨z0, w0⟩ : ∃ zs, Bools W a0 len0 cap0 zs := bools_of_trod Try.underlying40 Try.underlying4 (by kernel_rfl) h0
  have k1 := h1
  have lt1 : ∀ x ∈ p1, x.block < W.heap.size := by obtain ⟨m, hm⟩ := k1; exact DataW.trod_lt m _ _ _ hm
  have o1 : Value.okWide Try.prog W .any base 87 v1 := hval 1 87 v1 rfl rfl
  obtain ⟨a1, rfl, rfl, rfl, w1⟩ := open_int Try.underlying87 o1 h1
  have k2 := h2
  have lt2 : ∀ x ∈ p2, x.block < W.heap.size := by obtain ⟨m, hm⟩ := k2; exact DataW.trod_lt m _ _ _ hm
  have o2 : Value.okWide Try.prog W .any base 87 v2 := hval 2 87 v2 rfl rfl
  obtain ⟨a2, rfl, rfl, rfl, w2⟩ := open_int Try.underlying87 o2 h2
  clear hA0 hval0
  refine (walk a0 len0 cap0 z0 a1 a2 W w0 (in16_of_wf w1) (in16_of_wf w2)).mono fun e W' ⟨he, bel⟩ => ?_
  subst he
  exact ⟨_, rfl, _, _, _, [], _, [], hW', trodAll_mk1 (shut_bool Try.underlying4 _), (trodAll_cons_mk (Below.trod laidOut (by kernel_rfl) (of_decide_eq_true (by kernel_rfl)) k0 bel lt0) (trodAll_cons_mk (Below.trod laidOut (by kernel_rfl) (of_decide_eq_true (by kernel_rfl)) k1 bel lt1) (trodAll_cons_mk (Below.trod laidOut (by kernel_rfl) (of_decide_eq_true (by kernel_rfl)) k2 bel lt2) trodAll_mk0))), rfl, bel.frame _, fun h => by cases h⟩

theorem over : Rows.worldImagesRow.holds Try.pinned (OpenSpec.ofChange Rows.worldImagesSpec) :=
  OpenClaim.holds_of_wide 16 Try.f16 rfl rfl rfl rfl rfl rfl rfl ⟨rfl, rfl, rfl, rfl, rfl⟩ rfl rfl rfl rfl rfl (by kernel_rfl) Try.func16 (by kernel_rfl)
    (of_decide_eq_true (by kernel_rfl)) (by unfold Func.isWrapper; first | (rw [if_pos (by decide +kernel)]; kernel_rfl) | (rw [if_neg (by decide +kernel)]; exact ⟨rfl, rfl⟩))
    (fun os started H enc _ => lifted os started H enc)

/-- The statement. -/
theorem proved : Rows.WorldImagesSaid := over
#print axioms proved

end Go.Proofs.Ytampkolkbjmmkaa.worldImages
