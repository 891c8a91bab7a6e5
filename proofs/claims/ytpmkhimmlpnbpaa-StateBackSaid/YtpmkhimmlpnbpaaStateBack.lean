
/- StateBack holds for all its arguments. No conditions. -/
import Derived.Test.YtpmkhimmlpnbpaaStLM
namespace Go.Proofs.Ytpmkhimmlpnbpaa.stateBack
open Go.ChangeShapes Go.WideShapes Go.ChangeAt Go.RowKit
open Go.ChangeMaps (open_string shut_string)
set_option linter.unusedVariables false
set_option linter.unusedSimpArgs false
set_option maxRecDepth 100000 in
set_option maxHeartbeats 16000000 in
theorem walk (r : Int) (a : Option Addr) (n c : Nat) (o : On) (L : List EntV) (k x : Int) (w : World) (hr : InI r) (hl : L.length = n) (hok : ∀ x ∈ L, x.ok) (hR : Row w a n c 12 (L.flatMap EntV.cells)) (hk : 0 ≤ k ∧ k ≤ 65535) (hx : 0 ≤ x ∧ x ≤ 255) :
    Calls Try.prog 5 #[.agg #[.int .i64 r, .slice a n c, .bool o.a, .bool o.b, .bool o.c], .int .u16 k, .int .u8 x] w fun e w' => e = .returned (.bool true) ∧ Below w.heap.size w w' := by
  have hw : Below w.heap.size w w := Below.refl _ _
  have hbel := hw
  have hbd : n ≤ c ∧ c ≤ 9223372036854775807 := by obtain ⟨_, h1, h2, _⟩ := hR; unfold maxLen at h2; exact ⟨h1, h2⟩
  obtain ⟨hbd1, hbd2⟩ := hbd
  have HR := Lib.hid hR
  have HOK := Lib.hid hok
  have HLN := Lib.hid hl
  obtain ⟨fs, hfs⟩ : ∃ b, fewS L = b := ⟨_, rfl⟩
  obtain ⟨rs, hrs⟩ : ∃ b, stB r L = b := ⟨_, rfl⟩
  have CFW := Lib.hid (fun v (hv : Below w.heap.size w v) => hfs ▸ sref_Few r a n c o L v hl hok (hR.later hv))
  have CRT := Lib.hid (fun v (hv : Below w.heap.size w v) => hrs ▸ sref_Right r a n c o L v hl hok (hR.later hv))
  have HFS := Lib.hid hfs
  have HRS := Lib.hid hrs
  clear hR hok hl hfs hrs hr
  go_enter Try.func5, Try.ntmps5
  go_upto_region 1 with fail
  have ss0 : (w.alloc (.cells #[.int .i64 r, .slice a n c, .bool o.a, .bool o.b, .bool o.c] 25)).cell? ⟨w.heap.size, 0, none⟩ = some (.int .i64 r) := by first | (simp; done) | (rw [World.cell?_alloc_at _ _ _ _ (by simp)]; rfl) | (rw [World.cell?_alloc_past _ _ _ (by simp <;> omega), World.cell?_alloc_at _ _ _ _ (by simp)]; rfl) | (rw [World.cell?_alloc_past _ _ _ (by simp <;> omega), World.cell?_alloc_past _ _ _ (by simp <;> omega), World.cell?_alloc_at _ _ _ _ (by simp)]; rfl)
  have ss1 : (w.alloc (.cells #[.int .i64 r, .slice a n c, .bool o.a, .bool o.b, .bool o.c] 25)).cell? ⟨w.heap.size, 1, none⟩ = some (.slice a n c) := by first | (simp; done) | (rw [World.cell?_alloc_at _ _ _ _ (by simp)]; rfl) | (rw [World.cell?_alloc_past _ _ _ (by simp <;> omega), World.cell?_alloc_at _ _ _ _ (by simp)]; rfl) | (rw [World.cell?_alloc_past _ _ _ (by simp <;> omega), World.cell?_alloc_past _ _ _ (by simp <;> omega), World.cell?_alloc_at _ _ _ _ (by simp)]; rfl)
  have ss2 : (w.alloc (.cells #[.int .i64 r, .slice a n c, .bool o.a, .bool o.b, .bool o.c] 25)).cell? ⟨w.heap.size, 2, none⟩ = some (.bool o.a) := by first | (simp; done) | (rw [World.cell?_alloc_at _ _ _ _ (by simp)]; rfl) | (rw [World.cell?_alloc_past _ _ _ (by simp <;> omega), World.cell?_alloc_at _ _ _ _ (by simp)]; rfl) | (rw [World.cell?_alloc_past _ _ _ (by simp <;> omega), World.cell?_alloc_past _ _ _ (by simp <;> omega), World.cell?_alloc_at _ _ _ _ (by simp)]; rfl)
  have ss3 : (w.alloc (.cells #[.int .i64 r, .slice a n c, .bool o.a, .bool o.b, .bool o.c] 25)).cell? ⟨w.heap.size, 3, none⟩ = some (.bool o.b) := by first | (simp; done) | (rw [World.cell?_alloc_at _ _ _ _ (by simp)]; rfl) | (rw [World.cell?_alloc_past _ _ _ (by simp <;> omega), World.cell?_alloc_at _ _ _ _ (by simp)]; rfl) | (rw [World.cell?_alloc_past _ _ _ (by simp <;> omega), World.cell?_alloc_past _ _ _ (by simp <;> omega), World.cell?_alloc_at _ _ _ _ (by simp)]; rfl)
  have ss4 : (w.alloc (.cells #[.int .i64 r, .slice a n c, .bool o.a, .bool o.b, .bool o.c] 25)).cell? ⟨w.heap.size, 4, none⟩ = some (.bool o.c) := by first | (simp; done) | (rw [World.cell?_alloc_at _ _ _ _ (by simp)]; rfl) | (rw [World.cell?_alloc_past _ _ _ (by simp <;> omega), World.cell?_alloc_at _ _ _ _ (by simp)]; rfl) | (rw [World.cell?_alloc_past _ _ _ (by simp <;> omega), World.cell?_alloc_past _ _ _ (by simp <;> omega), World.cell?_alloc_at _ _ _ _ (by simp)]; rfl)
  have hb2 := (by repeat (first | exact hbel | refine belAlloc ?_ _ | refine belDrew ?_ | refine belSet ?_ _ _ (by simp)) : Below w.heap.size w (w.alloc (.cells #[.int .i64 r, .slice a n c, .bool o.a, .bool o.b, .bool o.c] 25)))
  replace hw := belStep hw hb2
  clear hb2 hbel
  generalize w.alloc (.cells #[.int .i64 r, .slice a n c, .bool o.a, .bool o.b, .bool o.c] 25) = W1 at *
  replace ss0 := keep ss0
  replace ss1 := keep ss1
  replace ss2 := keep ss2
  replace ss3 := keep ss3
  replace ss4 := keep ss4
  have hbel : Below W1.heap.size W1 W1 := Below.refl _ _
  skip
  go_upto_region 3 with (first | (go_at_call 11; (with_reducible refine (awake24 _).mono ?_); rintro e w1 ⟨rfl, hb1⟩; replace hbel := belStep hbel hb1; clear hb1) | (go_at_call 12; (with_reducible refine (CFW.out _ (belStep hw hbel)).mono ?_); rintro e wf ⟨rfl, hbf⟩; replace hbel := belStep hbel hbf; clear hbf; rcases fs with _ | _) | (go_at_call 15; (with_reducible refine (CRT.out _ (belStep hw hbel)).mono ?_); rintro e wf ⟨rfl, hbf⟩; replace hbel := belStep hbel hbf; clear hbf; rcases rs with _ | _))
  · go_ret
    exact ⟨rfl, belStep hw hbel⟩
  · go_ret
    exact ⟨rfl, belStep hw hbel⟩
  have hn64 : n ≤ 64 := by have h := (st_nums HRS.out).2.2; rw [HLN.out] at h; exact h
  have HW1 := Lib.hid hw
  clear hw
  have HB := Lib.hid hbel
  have CP1 := Lib.hid (fun u (hu : Below W1.heap.size W1 u) => st_PutI r a n c o L u HLN.out HOK.out (HR.out.later (belStep HW1.out hu)) HRS.out)
  have HG := Lib.hid (getI (o := o) HOK.out HRS.out)
  have hln := lenI (o := o) HRS.out
  obtain ⟨l, hl⟩ : ∃ l, stBytes r.toNat o L = l := ⟨_, rfl⟩
  rw [hl] at CP1 HG hln
  obtain ⟨N, hN⟩ : ∃ N, l.length = N := ⟨_, rfl⟩
  rw [hN] at CP1 hln
  have HLEN := Lib.hid hN
  obtain ⟨hn1, hn2⟩ := hln
  clear hl hN CFW CRT
  have HSM := Lib.hid (fun u b d (hu : Below W1.heap.size W1 u) (hr : Row u b L.length d 12 (L.flatMap EntV.cells)) => ((sameS_iff r o L r o L).2 ⟨rfl, rfl, rfl⟩) ▸ sref_SameS r a n c o L r b L.length d o L u HLN.out (HR.out.later (belStep HW1.out hu)) rfl hr)
  have hq1 : ((N : Int) == 0) = false := by rw [beq_eq_false_iff_ne]; omega
  have hq2 : ¬ (N : Int) = 0 := by omega
  have hq3 : ¬ (1048576 : Int) ≤ (N : Int) := by omega
  have hq4 : decide ((1048576 : Int) ≤ (N : Int)) = false := decide_eq_false hq3
  go_upto_region 4 with (go_at_call 13; (with_reducible refine (CP1.out _ HB.out).mono ?_); rintro e w3 ⟨b1, d1, rfl, _, hi, hb_⟩; replace HB := Lib.hid (belStep HB.out hb_); have HI := Lib.hid hi; clear hi; clear hb_)
  clear hbel
  go_upto_region 6 with fail
  go_upto_region 7 with (go_at_call 18; (with_reducible refine (st_GetI b1 N d1 l _ HI.out (by omega) HG.out).mono ?_); rintro e w4 ⟨b4, d4, rfl, hr, hb_⟩; replace HI := Lib.hid (HI.out.later hb_); replace HB := Lib.hid (belStep HB.out hb_); have HR4 := Lib.hid hr; clear hr; clear hb_)
  have k1 : Below w4.heap.size w4 (w4.alloc (.cells #[.int .i64 r, .slice b4 L.length d4, .bool o.a, .bool o.b, .bool o.c] 25)) := belAlloc (Below.refl _ _) _
  have hn_ := Blk.new w4 [.int .i64 r, .slice b4 L.length d4, .bool o.a, .bool o.b, .bool o.c] 25
  replace HI := Lib.hid (HI.out.later k1)
  replace HR4 := Lib.hid (HR4.out.later k1)
  replace HB := Lib.hid (belStep HB.out k1)
  have HT := Lib.hid (show Blk (w4.alloc (.cells #[.int .i64 r, .slice b4 L.length d4, .bool o.a, .bool o.b, .bool o.c] 25)) w4.heap.size [.int .i64 r, .slice b4 L.length d4, .bool o.a, .bool o.b, .bool o.c] 25 from hn_)
  clear hn_ k1
  generalize w4.alloc (.cells #[.int .i64 r, .slice b4 L.length d4, .bool o.a, .bool o.b, .bool o.c] 25) = W4 at *
  obtain ⟨j, hj⟩ : ∃ j : Nat, k % (N : Int) = (j : Int) := ⟨(k % (N : Int)).toNat, by have := Int.emod_nonneg k (show (N : Int) ≠ 0 by omega); omega⟩
  have hjN : j < N := by have := Int.emod_lt_of_pos k (show (0 : Int) < (N : Int) by omega); omega
  obtain ⟨hk1, hk2⟩ := hk
  have hdm := HI.out.bounds
  have hNd : N ≤ d1 := HI.out.1.2.1
  have hb1n : b1 ≠ none := fun e => by have := (HI.out.1.2.2.2.1 e).1; omega
  have hd63 : d1 ≤ 9223372036854775807 := by have := HI.out.1.2.2.1; unfold maxLen at this; exact this
  have hjd : (j : Int) ≤ (d1 : Int) := by omega
  have hj0 : (0 : Int) ≤ (j : Int) := by omega
  have hjw : IntKind.i64.wrap (j : Int) = (j : Int) := IntWalk.i64_in _ (by omega)
  have hkw : IntKind.i64.wrap k = k := IntWalk.i64_in _ (by omega)
  have htm : Int.tmod k (N : Int) = (j : Int) := by rw [Int.tmod_eq_emod_of_nonneg hk1]; exact hj
  go_upto_region 8 with (go_at_call 18; (with_reducible refine (st_GetN b1 j d1 (l.take j) _ (HI.out.take (n := j) (by omega) hb1n) (by omega) (fun r2 o2 L2 => HG.out.pre (by rw [HLEN.out]; exact hjN))).mono ?_); rintro e w5 ⟨rfl, hb_⟩; replace HI := Lib.hid (HI.out.later hb_); replace HR4 := Lib.hid (HR4.out.later hb_); replace HT := Lib.hid (HT.out.later hb_); replace HB := Lib.hid (belStep HB.out hb_); clear hb_)
  have k1 : Below w5.heap.size w5 (w5.alloc (.cells #[.int .i64 0, .slice none 0 0, .bool false, .bool false, .bool false] 25)) := belAlloc (Below.refl _ _) _
  have hn_ := Blk.new w5 [.int .i64 0, .slice none 0 0, .bool false, .bool false, .bool false] 25
  replace HI := Lib.hid (HI.out.later k1)
  replace HR4 := Lib.hid (HR4.out.later k1)
  replace HT := Lib.hid (HT.out.later k1)
  replace HB := Lib.hid (belStep HB.out k1)
  have HZ := Lib.hid (show Blk (w5.alloc (.cells #[.int .i64 0, .slice none 0 0, .bool false, .bool false, .bool false] 25)) w5.heap.size [.int .i64 0, .slice none 0 0, .bool false, .bool false, .bool false] 25 from hn_)
  clear hn_ k1
  generalize w5.alloc (.cells #[.int .i64 0, .slice none 0 0, .bool false, .bool false, .bool false] 25) = W5 at *
  clear hjN hjd hj0 hjw hkw htm hj hk1 hk2
  have HWF := Lib.hid (show ∀ m ∈ l ++ [x], (Lit.int .u8 m).wf = true from fun m hm => wf8 m (((bytes_of HI.out).app (Bytes.one hx)) m hm))
  have HOE := Lib.hid (own_new W5 W5.heap.size 5 .u8 (Nat.le_refl _))
  have HIE := Lib.hid (HI.out.later (belAlloc (Below.refl W5.heap.size W5) (.cells #[] 5)))
  go_upto_region 9 with (first | (at_builtin; refine wpList_app_ints rfl _ _ 28 rfl W5.heap.size 5 .u8 1 Try.underlying28 info_u8 _ _ rfl HOE.out _ N d1 l rfl HIE.out (by simp only [maxLen, List.length_nil]; omega) (by simp only [List.length_nil]; omega) (by simp) ?_; intro v6 w6 ho6 hb6 hg6; have HO6 := Lib.hid (show OwnI w6 W5.heap.size 5 .u8 v6 l by simpa using ho6); have HB6 := Lib.hid (show Below W5.heap.size W5 w6 from (belAlloc (Below.refl _ _) _ : Below W5.heap.size W5 (W5.alloc (.cells #[] 5))).trans hb6); clear ho6 hb6 hg6) | (at_builtin; refine wpList_app_one rfl _ _ 28 rfl W5.heap.size 5 .u8 1 Try.underlying28 info_u8 _ l rfl (HO6.out.alloc (.cells #[.int .u8 x] 5)) _ _ rfl (by simp; rfl) (by rw [HLEN.out]; unfold maxLen; omega) (by rw [HLEN.out]; omega) (by have := HB6.out.size; simp; omega) ?_; intro v7 w7 ho7 hb7 hg7 hm7; have HB7 := Lib.hid (show Below W5.heap.size W5 w7 from HB6.out.trans ((belAlloc (Below.refl _ _) _ : Below w6.heap.size w6 (w6.alloc (.cells #[.int .u8 x] 5))).mono HB6.out.size |>.trans hb7)); obtain ⟨b7, d7, rfl, hi7⟩ := ints_of_own ho7 HWF.out; have HI7 := Lib.hid (show Ints .u8 w7 b7 (N + 1) d7 (l ++ [x]) from by have e := hi7; rw [show (l ++ [x]).length = N + 1 by rw [List.length_append, HLEN.out]; rfl] at e; exact e); clear ho7 hb7 hg7 hm7 hi7) | (go_at_call 18; (with_reducible refine (st_GetN b7 _ d7 (l ++ [x]) _ HI7.out (by omega) (fun r2 o2 L2 => HG.out.more (by simp))).mono ?_); rintro e w8 ⟨rfl, hb8⟩; have HB8 := Lib.hid (belStep HB7.out hb8); clear hb8))
  clear HOE HIE HO6 HI7 HB6 HB7
  replace HR4 := Lib.hid (HR4.out.later HB8.out)
  replace HT := Lib.hid (HT.out.later HB8.out)
  replace HB := Lib.hid (belStep HB.out HB8.out)
  clear HB8 HI
  have k1 : Below w8.heap.size w8 (w8.alloc (.cells #[.int .i64 0, .slice none 0 0, .bool false, .bool false, .bool false] 25)) := belAlloc (Below.refl _ _) _
  have hn_ := Blk.new w8 [.int .i64 0, .slice none 0 0, .bool false, .bool false, .bool false] 25
  replace HR4 := Lib.hid (HR4.out.later k1)
  replace HT := Lib.hid (HT.out.later k1)
  replace HB := Lib.hid (belStep HB.out k1)
  have HY := Lib.hid (show Blk (w8.alloc (.cells #[.int .i64 0, .slice none 0 0, .bool false, .bool false, .bool false] 25)) w8.heap.size [.int .i64 0, .slice none 0 0, .bool false, .bool false, .bool false] 25 from hn_)
  clear hn_ k1
  generalize w8.alloc (.cells #[.int .i64 0, .slice none 0 0, .bool false, .bool false, .bool false] 25) = W8 at *
  have hbel : Below W8.heap.size W8 W8 := Below.refl _ _
  replace ss0 := keepOn ss0 HB.out
  replace ss1 := keepOn ss1 HB.out
  replace ss2 := keepOn ss2 HB.out
  replace ss3 := keepOn ss3 HB.out
  replace ss4 := keepOn ss4 HB.out
  have tt0 := keep (HT.out.cell (j := 0) rfl)
  have tt1 := keep (HT.out.cell (j := 1) rfl)
  have tt2 := keep (HT.out.cell (j := 2) rfl)
  have tt3 := keep (HT.out.cell (j := 3) rfl)
  have tt4 := keep (HT.out.cell (j := 4) rfl)
  have CSM := Lib.hid (fun u (hu : Below W8.heap.size W8 u) => HSM.out u b4 d4 (belStep HB.out hu) (HR4.out.later hu))
  go_wp2_with (go_at_call 20; (with_reducible refine (CSM.out _ hbel).mono ?_); rintro e w1 ⟨rfl, hb1⟩; replace hbel := belStep hbel hb1; clear hb1)
  go_ret
  exact ⟨rfl, belStep HW1.out (belStep HB.out hbel)⟩

set_option maxRecDepth 100000 in
theorem lifted (os : Os) (started : os.Started) (H : Type) (enc : TypeId × Value → H) :
    ReturnsInHanded {} Try.checked os 5 .any (Rows.stateBackSpec.pre6 enc Try.prog Try.f5 Rows.stateBackRow.domain false) (Rows.stateBackSpec.post enc Try.prog Try.f5 false true false false) := by
  refine returnsInHanded_of_change (C := Try.checked) own started (by kernel_rfl) Try.func5
    (ChangeSpec.witness6 (enc := enc) (C := Try.checked) false ⟨#[], #[.agg #[.int .i64 0, .slice none 0 0, .bool false, .bool false, .bool false], .int .u16 0, .int .u8 0], []⟩ 8 (by kernel_rfl) (by kernel_rfl) (by kernel_rfl) (by kernel_rfl)) ?_
  intro W base args ds gs before hval0 hW hcnd _
  have hval : ∀ (j : Nat) t v, Try.f5.params[j]? = some t → args[j]? = some v → Value.okWide Try.prog W .any base t v := hval0
  have hW' := hW
  obtain ⟨p, q, hA0, hV, rfl, hfz, hnd⟩ := hW
  have hA : DataW.TrodAll enc Try.prog W 0 (fun _ => true) true Try.f5.params.toList args.toList ds p := hA0
  rw [Try.params5] at hA hval
  obtain ⟨v0, vs0, d0, ds0, p0, q0, hargs, rfl, rfl, h0, r0⟩ := trodAll_cons hA
  obtain ⟨v1, vs1, d1, ds1, p1, q1, rfl, rfl, rfl, h1, r1⟩ := trodAll_cons r0
  obtain ⟨v2, vs2, d2, ds2, p2, q2, rfl, rfl, rfl, h2, r2⟩ := trodAll_cons r1
  obtain ⟨rfl, rfl, rfl⟩ := trodAll_nil r2
  obtain rfl : args = #[v0, v1, v2] := by cases args; simp_all
  obtain ⟨rfl, rfl⟩ := trodVars_none hV
  have k0 := h0
  have lt0 : ∀ x ∈ p0, x.block < W.heap.size := by obtain ⟨m, hm⟩ := k0; exact DataW.trod_lt m _ _ _ hm
  have o0 : Value.okWide Try.prog W .any base 25 v0 := hval 0 25 v0 rfl rfl
  obtain ⟨xr0, xa0, xn0, xc0, xo0, xl0, rfl, fa0, fb0, fc0, fd0⟩ := open_state o0 h0
  have k1 := h1
  have lt1 : ∀ x ∈ p1, x.block < W.heap.size := by obtain ⟨m, hm⟩ := k1; exact DataW.trod_lt m _ _ _ hm
  have o1 : Value.okWide Try.prog W .any base 40 v1 := hval 1 40 v1 rfl rfl
  obtain ⟨a1, rfl, rfl, rfl, w1⟩ := open_int Try.underlying40 o1 h1
  have k2 := h2
  have lt2 : ∀ x ∈ p2, x.block < W.heap.size := by obtain ⟨m, hm⟩ := k2; exact DataW.trod_lt m _ _ _ hm
  have o2 : Value.okWide Try.prog W .any base 5 v2 := hval 2 5 v2 rfl rfl
  obtain ⟨a2, rfl, rfl, rfl, w2⟩ := open_int Try.underlying5 o2 h2
  clear hA0 hval0
  refine (walk xr0 xa0 xn0 xc0 xo0 xl0 a1 a2 W fa0 fb0 fc0 fd0 (in16_of_wf w1) (in8_of_wf w2)).mono fun e W' ⟨he, bel⟩ => ?_
  subst he
  exact ⟨_, rfl, _, _, _, [], _, [], hW', trodAll_mk1 (shut_bool Try.underlying4 _), (trodAll_cons_mk (Below.trod laidOut (by kernel_rfl) (of_decide_eq_true (by kernel_rfl)) k0 bel lt0) (trodAll_cons_mk (Below.trod laidOut (by kernel_rfl) (of_decide_eq_true (by kernel_rfl)) k1 bel lt1) (trodAll_cons_mk (Below.trod laidOut (by kernel_rfl) (of_decide_eq_true (by kernel_rfl)) k2 bel lt2) trodAll_mk0))), rfl, bel.frame _, fun h => by cases h⟩

theorem over : Rows.stateBackRow.holds Try.pinned (OpenSpec.ofChange Rows.stateBackSpec) :=
  OpenClaim.holds_of_wide 5 Try.f5 rfl rfl rfl rfl rfl rfl rfl ⟨rfl, rfl, rfl, rfl, rfl⟩ rfl rfl rfl rfl rfl (by kernel_rfl) Try.func5 (by kernel_rfl)
    (of_decide_eq_true (by kernel_rfl)) (by unfold Func.isWrapper; first | (rw [if_pos (by decide +kernel)]; kernel_rfl) | (rw [if_neg (by decide +kernel)]; exact ⟨rfl, rfl⟩))
    (fun os started H enc _ => lifted os started H enc)

/-- The statement. -/
theorem proved : Rows.StateBackSaid := over
#print axioms proved

end Go.Proofs.Ytpmkhimmlpnbpaa.stateBack
