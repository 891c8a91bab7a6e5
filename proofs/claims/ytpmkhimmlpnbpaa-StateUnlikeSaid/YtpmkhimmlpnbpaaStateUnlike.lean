
/- StateUnlike holds for all its arguments. No conditions. -/
import Derived.Test.YtpmkhimmlpnbpaaStLM
namespace Go.Proofs.Ytpmkhimmlpnbpaa.stateUnlike
open Go.ChangeShapes Go.WideShapes Go.ChangeAt Go.RowKit
open Go.ChangeMaps (open_string shut_string)
set_option linter.unusedVariables false
set_option linter.unusedSimpArgs false
set_option maxRecDepth 100000 in
set_option maxHeartbeats 16000000 in
theorem walk (r : Int) (a : Option Addr) (n c : Nat) (o : On) (L : List EntV) (q : Int) (b : Option Addr) (m d : Nat) (p : On) (M : List EntV) (w : World) (hr : InI r) (hl : L.length = n) (hok : ∀ x ∈ L, x.ok) (hR : Row w a n c 12 (L.flatMap EntV.cells)) (hr2 : InI q) (hl2 : M.length = m) (hok2 : ∀ x ∈ M, x.ok) (hR2 : Row w b m d 12 (M.flatMap EntV.cells)) :
    Calls Try.prog 6 #[.agg #[.int .i64 r, .slice a n c, .bool o.a, .bool o.b, .bool o.c], .agg #[.int .i64 q, .slice b m d, .bool p.a, .bool p.b, .bool p.c]] w fun e w' => e = .returned (.bool true) ∧ Below w.heap.size w w' := by
  have hw : Below w.heap.size w w := Below.refl _ _
  have hbel := hw
  have hbd : n ≤ c ∧ c ≤ 9223372036854775807 := by obtain ⟨_, h1, h2, _⟩ := hR; unfold maxLen at h2; exact ⟨h1, h2⟩
  obtain ⟨hbd1, hbd2⟩ := hbd
  have HR := Lib.hid hR
  have HOK := Lib.hid hok
  have HLN := Lib.hid hl
  obtain ⟨fs, hfs⟩ : ∃ b, fewS L = b := ⟨_, rfl⟩
  obtain ⟨rs, hrs⟩ : ∃ b, stB r L = b := ⟨_, rfl⟩
  have CFW := Lib.hid (fun v (hv : Below w.heap.size w v) => hfs ▸ sref_Few r a n c o L v hl hok (hR.later hv))
  have CRT := Lib.hid (fun v (hv : Below w.heap.size w v) => hrs ▸ sref_Right r a n c o L v hl hok (hR.later hv))
  have HFS := Lib.hid hfs
  have HRS := Lib.hid hrs
  clear hR hok hl hfs hrs hr
  have hbd2 : m ≤ d ∧ d ≤ 9223372036854775807 := by obtain ⟨_, h1, h2, _⟩ := hR2; unfold maxLen at h2; exact ⟨h1, h2⟩
  obtain ⟨hbd12, hbd22⟩ := hbd2
  have HR2 := Lib.hid hR2
  have HOK2 := Lib.hid hok2
  have HLN2 := Lib.hid hl2
  obtain ⟨fs2, hfs2⟩ : ∃ b, fewS M = b := ⟨_, rfl⟩
  obtain ⟨rs2, hrs2⟩ : ∃ b, stB q M = b := ⟨_, rfl⟩
  have CFW2 := Lib.hid (fun v (hv : Below w.heap.size w v) => hfs2 ▸ sref_Few q b m d p M v hl2 hok2 (hR2.later hv))
  have CRT2 := Lib.hid (fun v (hv : Below w.heap.size w v) => hrs2 ▸ sref_Right q b m d p M v hl2 hok2 (hR2.later hv))
  have HFS2 := Lib.hid hfs2
  have HRS2 := Lib.hid hrs2
  clear hR2 hok2 hl2 hfs2 hrs2 hr2
  go_enter Try.func6, Try.ntmps6
  go_upto_region 1 with fail
  have ss0 : ((w.alloc (.cells #[.int .i64 r, .slice a n c, .bool o.a, .bool o.b, .bool o.c] 25)).alloc (.cells #[.int .i64 q, .slice b m d, .bool p.a, .bool p.b, .bool p.c] 25)).cell? ⟨w.heap.size, 0, none⟩ = some (.int .i64 r) := by first | (simp; done) | (rw [World.cell?_alloc_at _ _ _ _ (by simp)]; rfl) | (rw [World.cell?_alloc_past _ _ _ (by simp <;> omega), World.cell?_alloc_at _ _ _ _ (by simp)]; rfl) | (rw [World.cell?_alloc_past _ _ _ (by simp <;> omega), World.cell?_alloc_past _ _ _ (by simp <;> omega), World.cell?_alloc_at _ _ _ _ (by simp)]; rfl)
  have ss1 : ((w.alloc (.cells #[.int .i64 r, .slice a n c, .bool o.a, .bool o.b, .bool o.c] 25)).alloc (.cells #[.int .i64 q, .slice b m d, .bool p.a, .bool p.b, .bool p.c] 25)).cell? ⟨w.heap.size, 1, none⟩ = some (.slice a n c) := by first | (simp; done) | (rw [World.cell?_alloc_at _ _ _ _ (by simp)]; rfl) | (rw [World.cell?_alloc_past _ _ _ (by simp <;> omega), World.cell?_alloc_at _ _ _ _ (by simp)]; rfl) | (rw [World.cell?_alloc_past _ _ _ (by simp <;> omega), World.cell?_alloc_past _ _ _ (by simp <;> omega), World.cell?_alloc_at _ _ _ _ (by simp)]; rfl)
  have ss2 : ((w.alloc (.cells #[.int .i64 r, .slice a n c, .bool o.a, .bool o.b, .bool o.c] 25)).alloc (.cells #[.int .i64 q, .slice b m d, .bool p.a, .bool p.b, .bool p.c] 25)).cell? ⟨w.heap.size, 2, none⟩ = some (.bool o.a) := by first | (simp; done) | (rw [World.cell?_alloc_at _ _ _ _ (by simp)]; rfl) | (rw [World.cell?_alloc_past _ _ _ (by simp <;> omega), World.cell?_alloc_at _ _ _ _ (by simp)]; rfl) | (rw [World.cell?_alloc_past _ _ _ (by simp <;> omega), World.cell?_alloc_past _ _ _ (by simp <;> omega), World.cell?_alloc_at _ _ _ _ (by simp)]; rfl)
  have ss3 : ((w.alloc (.cells #[.int .i64 r, .slice a n c, .bool o.a, .bool o.b, .bool o.c] 25)).alloc (.cells #[.int .i64 q, .slice b m d, .bool p.a, .bool p.b, .bool p.c] 25)).cell? ⟨w.heap.size, 3, none⟩ = some (.bool o.b) := by first | (simp; done) | (rw [World.cell?_alloc_at _ _ _ _ (by simp)]; rfl) | (rw [World.cell?_alloc_past _ _ _ (by simp <;> omega), World.cell?_alloc_at _ _ _ _ (by simp)]; rfl) | (rw [World.cell?_alloc_past _ _ _ (by simp <;> omega), World.cell?_alloc_past _ _ _ (by simp <;> omega), World.cell?_alloc_at _ _ _ _ (by simp)]; rfl)
  have ss4 : ((w.alloc (.cells #[.int .i64 r, .slice a n c, .bool o.a, .bool o.b, .bool o.c] 25)).alloc (.cells #[.int .i64 q, .slice b m d, .bool p.a, .bool p.b, .bool p.c] 25)).cell? ⟨w.heap.size, 4, none⟩ = some (.bool o.c) := by first | (simp; done) | (rw [World.cell?_alloc_at _ _ _ _ (by simp)]; rfl) | (rw [World.cell?_alloc_past _ _ _ (by simp <;> omega), World.cell?_alloc_at _ _ _ _ (by simp)]; rfl) | (rw [World.cell?_alloc_past _ _ _ (by simp <;> omega), World.cell?_alloc_past _ _ _ (by simp <;> omega), World.cell?_alloc_at _ _ _ _ (by simp)]; rfl)
  have tt0 : ((w.alloc (.cells #[.int .i64 r, .slice a n c, .bool o.a, .bool o.b, .bool o.c] 25)).alloc (.cells #[.int .i64 q, .slice b m d, .bool p.a, .bool p.b, .bool p.c] 25)).cell? ⟨w.heap.size + 1, 0, none⟩ = some (.int .i64 q) := by first | (simp; done) | (rw [World.cell?_alloc_at _ _ _ _ (by simp)]; rfl) | (rw [World.cell?_alloc_past _ _ _ (by simp <;> omega), World.cell?_alloc_at _ _ _ _ (by simp)]; rfl) | (rw [World.cell?_alloc_past _ _ _ (by simp <;> omega), World.cell?_alloc_past _ _ _ (by simp <;> omega), World.cell?_alloc_at _ _ _ _ (by simp)]; rfl)
  have tt1 : ((w.alloc (.cells #[.int .i64 r, .slice a n c, .bool o.a, .bool o.b, .bool o.c] 25)).alloc (.cells #[.int .i64 q, .slice b m d, .bool p.a, .bool p.b, .bool p.c] 25)).cell? ⟨w.heap.size + 1, 1, none⟩ = some (.slice b m d) := by first | (simp; done) | (rw [World.cell?_alloc_at _ _ _ _ (by simp)]; rfl) | (rw [World.cell?_alloc_past _ _ _ (by simp <;> omega), World.cell?_alloc_at _ _ _ _ (by simp)]; rfl) | (rw [World.cell?_alloc_past _ _ _ (by simp <;> omega), World.cell?_alloc_past _ _ _ (by simp <;> omega), World.cell?_alloc_at _ _ _ _ (by simp)]; rfl)
  have tt2 : ((w.alloc (.cells #[.int .i64 r, .slice a n c, .bool o.a, .bool o.b, .bool o.c] 25)).alloc (.cells #[.int .i64 q, .slice b m d, .bool p.a, .bool p.b, .bool p.c] 25)).cell? ⟨w.heap.size + 1, 2, none⟩ = some (.bool p.a) := by first | (simp; done) | (rw [World.cell?_alloc_at _ _ _ _ (by simp)]; rfl) | (rw [World.cell?_alloc_past _ _ _ (by simp <;> omega), World.cell?_alloc_at _ _ _ _ (by simp)]; rfl) | (rw [World.cell?_alloc_past _ _ _ (by simp <;> omega), World.cell?_alloc_past _ _ _ (by simp <;> omega), World.cell?_alloc_at _ _ _ _ (by simp)]; rfl)
  have tt3 : ((w.alloc (.cells #[.int .i64 r, .slice a n c, .bool o.a, .bool o.b, .bool o.c] 25)).alloc (.cells #[.int .i64 q, .slice b m d, .bool p.a, .bool p.b, .bool p.c] 25)).cell? ⟨w.heap.size + 1, 3, none⟩ = some (.bool p.b) := by first | (simp; done) | (rw [World.cell?_alloc_at _ _ _ _ (by simp)]; rfl) | (rw [World.cell?_alloc_past _ _ _ (by simp <;> omega), World.cell?_alloc_at _ _ _ _ (by simp)]; rfl) | (rw [World.cell?_alloc_past _ _ _ (by simp <;> omega), World.cell?_alloc_past _ _ _ (by simp <;> omega), World.cell?_alloc_at _ _ _ _ (by simp)]; rfl)
  have tt4 : ((w.alloc (.cells #[.int .i64 r, .slice a n c, .bool o.a, .bool o.b, .bool o.c] 25)).alloc (.cells #[.int .i64 q, .slice b m d, .bool p.a, .bool p.b, .bool p.c] 25)).cell? ⟨w.heap.size + 1, 4, none⟩ = some (.bool p.c) := by first | (simp; done) | (rw [World.cell?_alloc_at _ _ _ _ (by simp)]; rfl) | (rw [World.cell?_alloc_past _ _ _ (by simp <;> omega), World.cell?_alloc_at _ _ _ _ (by simp)]; rfl) | (rw [World.cell?_alloc_past _ _ _ (by simp <;> omega), World.cell?_alloc_past _ _ _ (by simp <;> omega), World.cell?_alloc_at _ _ _ _ (by simp)]; rfl)
  have hb2 := (by repeat (first | exact hbel | refine belAlloc ?_ _ | refine belDrew ?_ | refine belSet ?_ _ _ (by simp)) : Below w.heap.size w ((w.alloc (.cells #[.int .i64 r, .slice a n c, .bool o.a, .bool o.b, .bool o.c] 25)).alloc (.cells #[.int .i64 q, .slice b m d, .bool p.a, .bool p.b, .bool p.c] 25)))
  replace hw := belStep hw hb2
  clear hb2 hbel
  generalize (w.alloc (.cells #[.int .i64 r, .slice a n c, .bool o.a, .bool o.b, .bool o.c] 25)).alloc (.cells #[.int .i64 q, .slice b m d, .bool p.a, .bool p.b, .bool p.c] 25) = W1 at *
  replace ss0 := keep ss0
  replace ss1 := keep ss1
  replace ss2 := keep ss2
  replace ss3 := keep ss3
  replace ss4 := keep ss4
  replace tt0 := keep tt0
  replace tt1 := keep tt1
  replace tt2 := keep tt2
  replace tt3 := keep tt3
  replace tt4 := keep tt4
  have hbel : Below W1.heap.size W1 W1 := Below.refl _ _
  skip
  go_upto_region 3 with (first | (go_at_call 11; (with_reducible refine (awake24 _).mono ?_); rintro e w1 ⟨rfl, hb1⟩; replace hbel := belStep hbel hb1; clear hb1) | (go_at_call 12; (with_reducible refine (CFW.out _ (belStep hw hbel)).mono ?_); rintro e wf ⟨rfl, hbf⟩; replace hbel := belStep hbel hbf; clear hbf; rcases fs with _ | _) | (go_at_call 12; (with_reducible refine (CFW2.out _ (belStep hw hbel)).mono ?_); rintro e wf2 ⟨rfl, hbf2⟩; replace hbel := belStep hbel hbf2; clear hbf2; rcases fs2 with _ | _) | (go_at_call 15; (with_reducible refine (CRT.out _ (belStep hw hbel)).mono ?_); rintro e wf ⟨rfl, hbf⟩; replace hbel := belStep hbel hbf; clear hbf; rcases rs with _ | _) | (go_at_call 15; (with_reducible refine (CRT2.out _ (belStep hw hbel)).mono ?_); rintro e wf2 ⟨rfl, hbf2⟩; replace hbel := belStep hbel hbf2; clear hbf2; rcases rs2 with _ | _))
  · go_ret
    exact ⟨rfl, belStep hw hbel⟩
  · go_ret
    exact ⟨rfl, belStep hw hbel⟩
  · go_ret
    exact ⟨rfl, belStep hw hbel⟩
  · go_ret
    exact ⟨rfl, belStep hw hbel⟩
  have hn64 : n ≤ 64 := by have h := (st_nums HRS.out).2.2; rw [HLN.out] at h; exact h
  have hn642 : m ≤ 64 := by have h := (st_nums HRS2.out).2.2; rw [HLN2.out] at h; exact h
  have HW1 := Lib.hid hw
  have CP1 := Lib.hid (fun u (hu : Below W1.heap.size W1 u) => st_PutI r a n c o L u HLN.out HOK.out (HR.out.later (belStep HW1.out hu)) HRS.out)
  have CP2 := Lib.hid (fun u (hu : Below W1.heap.size W1 u) => st_PutI q b m d p M u HLN2.out HOK2.out (HR2.out.later (belStep HW1.out hu)) HRS2.out)
  have HSB := Lib.hid (same_bytes (o := o) (p := p) HOK.out HRS.out HOK2.out HRS2.out)
  obtain ⟨l1, hl1⟩ : ∃ l, stBytes r.toNat o L = l := ⟨_, rfl⟩
  obtain ⟨l2, hl2⟩ : ∃ l, stBytes q.toNat p M = l := ⟨_, rfl⟩
  rw [hl1] at CP1 HSB
  rw [hl2] at CP2 HSB
  obtain ⟨sb, hsb⟩ : ∃ b, sameS r o L q p M = b := ⟨_, rfl⟩
  rw [hsb] at HSB
  have CSS := Lib.hid (fun u (hu : Below W1.heap.size W1 u) => hsb ▸ sref_SameS r a n c o L q b m d p M u HLN.out (HR.out.later (belStep HW1.out hu)) HLN2.out (HR2.out.later (belStep HW1.out hu)))
  clear hsb hl1 hl2 CFW CRT CFW2 CRT2
  go_upto_region 4 with (go_at_call 13; (with_reducible refine (CP1.out _ hbel).mono ?_); rintro e w3 ⟨b1, d1, rfl, _, hi, hb_⟩; have HI1 := Lib.hid hi; replace hbel := belStep hbel hb_; clear hi hb_)
  go_upto_region 5 with (go_at_call 13; (with_reducible refine (CP2.out _ hbel).mono ?_); rintro e w4 ⟨b2, d2, rfl, _, hi, hb_⟩; have HI2 := Lib.hid hi; replace HI1 := Lib.hid (HI1.out.later hb_); replace hbel := belStep hbel hb_; clear hi hb_)
  have HB4 := Lib.hid hbel
  have CSA := Lib.hid (fun u (hu : Below w4.heap.size w4 u) => show Calls Try.prog 16 #[.slice b1 l1.length d1, .slice b2 l2.length d2] u fun e w' => e = .returned (.bool sb) ∧ Below u.heap.size u w' from by refine (sref_Same b1 l1.length d1 l1 b2 l2.length d2 l2 u (HI1.out.later hu) (HI2.out.later hu)).mono ?_; rintro e w9 ⟨rfl, rfl⟩; exact ⟨by rw [HSB.out], Below.refl _ _⟩)
  clear HI1 HI2 CP1 CP2 HSB
  replace hbel := Below.refl w4.heap.size w4
  replace ss0 := keepOn ss0 HB4.out
  replace ss1 := keepOn ss1 HB4.out
  replace ss2 := keepOn ss2 HB4.out
  replace ss3 := keepOn ss3 HB4.out
  replace ss4 := keepOn ss4 HB4.out
  replace tt0 := keepOn tt0 HB4.out
  replace tt1 := keepOn tt1 HB4.out
  replace tt2 := keepOn tt2 HB4.out
  replace tt3 := keepOn tt3 HB4.out
  replace tt4 := keepOn tt4 HB4.out
  have hw : Below w4.heap.size w4 w4 := Below.refl _ _
  have kk := fun d os => belStep hbel (below_regrown _ d os)
  refine wp_region_quiet_below (by kernel_rfl) (by kernel_rfl) ?_
  repeat ((with_reducible refine wpQuiet_step (fun K hK => ?_)); go_simp; (try (rw [if_neg]; rotate_left; · decide)); first | ((with_reducible refine hK _ ?_); clear hK K) | (apply Exists.intro; refine ⟨fun _ => ?_, hK _ ?_⟩; (first | (go_at_call 16; with_reducible exact Calls.regrown_of (CSA.out _ (kk _ _))) | (go_at_call 20; with_reducible exact Calls.regrown_of (CSS.out _ (belStep HB4.out (kk _ _))))); clear hK K))
  refine wpQuiet_nil (fun w1 hw1 => ?_)
  replace hbel := belStep hbel (bel_of_class hw1)
  clear hw1 kk
  go_wp2
  go_ret
  exact ⟨by simp, belStep HW1.out (belStep HB4.out hbel)⟩

set_option maxRecDepth 100000 in
theorem lifted (os : Os) (started : os.Started) (H : Type) (enc : TypeId × Value → H) :
    ReturnsInHanded {} Try.checked os 6 .any (Rows.stateUnlikeSpec.pre6 enc Try.prog Try.f6 Rows.stateUnlikeRow.domain false) (Rows.stateUnlikeSpec.post enc Try.prog Try.f6 false true false false) := by
  refine returnsInHanded_of_change (C := Try.checked) own started (by kernel_rfl) Try.func6
    (ChangeSpec.witness6 (enc := enc) (C := Try.checked) false ⟨#[], #[.agg #[.int .i64 0, .slice none 0 0, .bool false, .bool false, .bool false], .agg #[.int .i64 0, .slice none 0 0, .bool false, .bool false, .bool false]], []⟩ 8 (by kernel_rfl) (by kernel_rfl) (by kernel_rfl) (by kernel_rfl)) ?_
  intro W base args ds gs before hval0 hW hcnd _
  have hval : ∀ (j : Nat) t v, Try.f6.params[j]? = some t → args[j]? = some v → Value.okWide Try.prog W .any base t v := hval0
  have hW' := hW
  obtain ⟨p, q, hA0, hV, rfl, hfz, hnd⟩ := hW
  have hA : DataW.TrodAll enc Try.prog W 0 (fun _ => true) true Try.f6.params.toList args.toList ds p := hA0
  rw [Try.params6] at hA hval
  obtain ⟨v0, vs0, d0, ds0, p0, q0, hargs, rfl, rfl, h0, r0⟩ := trodAll_cons hA
  obtain ⟨v1, vs1, d1, ds1, p1, q1, rfl, rfl, rfl, h1, r1⟩ := trodAll_cons r0
  obtain ⟨rfl, rfl, rfl⟩ := trodAll_nil r1
  obtain rfl : args = #[v0, v1] := by cases args; simp_all
  obtain ⟨rfl, rfl⟩ := trodVars_none hV
  have k0 := h0
  have lt0 : ∀ x ∈ p0, x.block < W.heap.size := by obtain ⟨m, hm⟩ := k0; exact DataW.trod_lt m _ _ _ hm
  have o0 : Value.okWide Try.prog W .any base 25 v0 := hval 0 25 v0 rfl rfl
  obtain ⟨xr0, xa0, xn0, xc0, xo0, xl0, rfl, fa0, fb0, fc0, fd0⟩ := open_state o0 h0
  have k1 := h1
  have lt1 : ∀ x ∈ p1, x.block < W.heap.size := by obtain ⟨m, hm⟩ := k1; exact DataW.trod_lt m _ _ _ hm
  have o1 : Value.okWide Try.prog W .any base 25 v1 := hval 1 25 v1 rfl rfl
  obtain ⟨xr1, xa1, xn1, xc1, xo1, xl1, rfl, fa1, fb1, fc1, fd1⟩ := open_state o1 h1
  clear hA0 hval0
  refine (walk xr0 xa0 xn0 xc0 xo0 xl0 xr1 xa1 xn1 xc1 xo1 xl1 W fa0 fb0 fc0 fd0 fa1 fb1 fc1 fd1).mono fun e W' ⟨he, bel⟩ => ?_
  subst he
  exact ⟨_, rfl, _, _, _, [], _, [], hW', trodAll_mk1 (shut_bool Try.underlying4 _), (trodAll_cons_mk (Below.trod laidOut (by kernel_rfl) (of_decide_eq_true (by kernel_rfl)) k0 bel lt0) (trodAll_cons_mk (Below.trod laidOut (by kernel_rfl) (of_decide_eq_true (by kernel_rfl)) k1 bel lt1) trodAll_mk0)), rfl, bel.frame _, fun h => by cases h⟩

theorem over : Rows.stateUnlikeRow.holds Try.pinned (OpenSpec.ofChange Rows.stateUnlikeSpec) :=
  OpenClaim.holds_of_wide 6 Try.f6 rfl rfl rfl rfl rfl rfl rfl ⟨rfl, rfl, rfl, rfl, rfl⟩ rfl rfl rfl rfl rfl (by kernel_rfl) Try.func6 (by kernel_rfl)
    (of_decide_eq_true (by kernel_rfl)) (by unfold Func.isWrapper; first | (rw [if_pos (by decide +kernel)]; kernel_rfl) | (rw [if_neg (by decide +kernel)]; exact ⟨rfl, rfl⟩))
    (fun os started H enc _ => lifted os started H enc)

/-- The statement. -/
theorem proved : Rows.StateUnlikeSaid := over
#print axioms proved

end Go.Proofs.Ytpmkhimmlpnbpaa.stateUnlike
