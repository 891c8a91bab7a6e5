/- GraceKeeps holds for every config, timers, sample and round: what is handed in stays; what is answered is new memory. No conditions. -/
import Derived.Test.YtbancemkajgljaaAwake18
namespace Go.Proofs.Ytbancemkajgljaa.graceKeeps
open Go.ChangeShapes Go.WideShapes Go.ChangeAt Go.RowKit
open Go.ChangeMaps (open_string shut_string)
set_option linter.unusedVariables false
set_option linter.unusedSimpArgs false

theorem eq_thr (t u : ThrV) (w : World) : (Op.equalIn 10000 47 (.agg #[.int .i64 t.sig, .int .i64 t.pct, .int .i64 t.amt, .bool t.soft, .int .i64 t.grace]) (.agg #[.int .i64 u.sig, .int .i64 u.pct, .int .i64 u.amt, .bool u.soft, .int .i64 u.grace])).run Try.prog w = .ok (t.sig == u.sig && (t.pct == u.pct && (t.amt == u.amt && (t.soft == u.soft && t.grace == u.grace)))) w := by
  have hs : Try.prog.fieldsOf 47 = #[{ name := "Signal", type := 3, offset := 0, embedded := false, tag := "", pkgPath := "", byteOffset := 0 }, { name := "Percent", type := 3, offset := 1, embedded := false, tag := "", pkgPath := "", byteOffset := 8 }, { name := "Amount", type := 3, offset := 2, embedded := false, tag := "", pkgPath := "", byteOffset := 16 }, { name := "Soft", type := 4, offset := 3, embedded := false, tag := "", pkgPath := "", byteOffset := 24 }, { name := "Grace", type := 3, offset := 4, embedded := false, tag := "", pkgPath := "", byteOffset := 32 }] := by kernel_rfl
  rw [run_equalIn_struct _ _ _ _ _ (by kernel_rfl) (by kernel_rfl), hs]
  simp [go_sem]
  by_cases a1 : t.sig = u.sig
  · by_cases a2 : t.pct = u.pct
    · by_cases a3 : t.amt = u.amt
      · by_cases a4 : t.soft = u.soft
        · by_cases a5 : t.grace = u.grace <;> simp [a1, a2, a3, a4, a5]
        · simp [a1, a2, a3, a4]
      · simp [a1, a2, a3]
    · simp [a1, a2]
  · simp [a1]

theorem info_thr : (Try.prog.info? 47).map (fun i => (i.zero, i.size, i.bytes)) = some (some (.agg #[.int .i64 0, .int .i64 0, .int .i64 0, .bool false, .int .i64 0]), 5, 40) := by kernel_rfl
set_option maxRecDepth 100000 in
set_option maxHeartbeats 8000000 in
theorem walk (c : CfgV) (sa : Option Addr) (sl sc : Nat) (S : List Int) (v0 v1 v2 r : Int) (w : World) (hc : c.ok w) (hS : Ints .i64 w sa sl sc S) (hv0 : InI v0) (hv1 : InI v1) (hv2 : InI v2) (hr0 : InI r) : Calls Try.prog 8 #[.agg #[.int .i64 c.k0, .int .i64 c.k1, .int .i64 c.k2, .int .i64 c.a0, .int .i64 c.a1, .int .i64 c.a2, .slice c.ta c.tl c.tc, .int .i64 c.per, .int .i64 c.ret, .int .i64 c.age, .int .i64 c.dead], .slice sa sl sc, .agg #[.int .i64 v0, .int .i64 v1, .int .i64 v2], .int .i64 r] w fun e w' => e = .returned (.bool true) ∧ Below w.heap.size w w' := by
  have hw : Below w.heap.size w w := Below.refl _ _
  have hbel := hw
  have CF := Lib.hid (fun u (h : Below w.heap.size w u) => ref_Fit c sa sl sc S r u (hc.later h) (hS.later h))
  have HC := Lib.hid hc
  have HS := Lib.hid hS
  have HV := Lib.hid (And.intro hv0 (And.intro hv1 hv2))
  clear hc hS hv0 hv1 hv2 hr0
  go_enter Try.func8, Try.ntmps8
  go_upto_region 1 with fail
  have cc0 : ((w.alloc (.cells #[.int .i64 c.k0, .int .i64 c.k1, .int .i64 c.k2, .int .i64 c.a0, .int .i64 c.a1, .int .i64 c.a2, .slice c.ta c.tl c.tc, .int .i64 c.per, .int .i64 c.ret, .int .i64 c.age, .int .i64 c.dead] 25)).alloc (.cells #[.int .i64 v0, .int .i64 v1, .int .i64 v2] 22)).cell? ⟨w.heap.size, 0, none⟩ = some (.int .i64 c.k0) := by first | (simp; done) | (rw [World.cell?_alloc_at _ _ _ _ (by simp)]; rfl) | (rw [World.cell?_alloc_past _ _ _ (by simp <;> omega), World.cell?_alloc_at _ _ _ _ (by simp)]; rfl) | (rw [World.cell?_alloc_past _ _ _ (by simp <;> omega), World.cell?_alloc_past _ _ _ (by simp <;> omega), World.cell?_alloc_at _ _ _ _ (by simp)]; rfl)
  have cc1 : ((w.alloc (.cells #[.int .i64 c.k0, .int .i64 c.k1, .int .i64 c.k2, .int .i64 c.a0, .int .i64 c.a1, .int .i64 c.a2, .slice c.ta c.tl c.tc, .int .i64 c.per, .int .i64 c.ret, .int .i64 c.age, .int .i64 c.dead] 25)).alloc (.cells #[.int .i64 v0, .int .i64 v1, .int .i64 v2] 22)).cell? ⟨w.heap.size, 1, none⟩ = some (.int .i64 c.k1) := by first | (simp; done) | (rw [World.cell?_alloc_at _ _ _ _ (by simp)]; rfl) | (rw [World.cell?_alloc_past _ _ _ (by simp <;> omega), World.cell?_alloc_at _ _ _ _ (by simp)]; rfl) | (rw [World.cell?_alloc_past _ _ _ (by simp <;> omega), World.cell?_alloc_past _ _ _ (by simp <;> omega), World.cell?_alloc_at _ _ _ _ (by simp)]; rfl)
  have cc2 : ((w.alloc (.cells #[.int .i64 c.k0, .int .i64 c.k1, .int .i64 c.k2, .int .i64 c.a0, .int .i64 c.a1, .int .i64 c.a2, .slice c.ta c.tl c.tc, .int .i64 c.per, .int .i64 c.ret, .int .i64 c.age, .int .i64 c.dead] 25)).alloc (.cells #[.int .i64 v0, .int .i64 v1, .int .i64 v2] 22)).cell? ⟨w.heap.size, 2, none⟩ = some (.int .i64 c.k2) := by first | (simp; done) | (rw [World.cell?_alloc_at _ _ _ _ (by simp)]; rfl) | (rw [World.cell?_alloc_past _ _ _ (by simp <;> omega), World.cell?_alloc_at _ _ _ _ (by simp)]; rfl) | (rw [World.cell?_alloc_past _ _ _ (by simp <;> omega), World.cell?_alloc_past _ _ _ (by simp <;> omega), World.cell?_alloc_at _ _ _ _ (by simp)]; rfl)
  have cc3 : ((w.alloc (.cells #[.int .i64 c.k0, .int .i64 c.k1, .int .i64 c.k2, .int .i64 c.a0, .int .i64 c.a1, .int .i64 c.a2, .slice c.ta c.tl c.tc, .int .i64 c.per, .int .i64 c.ret, .int .i64 c.age, .int .i64 c.dead] 25)).alloc (.cells #[.int .i64 v0, .int .i64 v1, .int .i64 v2] 22)).cell? ⟨w.heap.size, 3, none⟩ = some (.int .i64 c.a0) := by first | (simp; done) | (rw [World.cell?_alloc_at _ _ _ _ (by simp)]; rfl) | (rw [World.cell?_alloc_past _ _ _ (by simp <;> omega), World.cell?_alloc_at _ _ _ _ (by simp)]; rfl) | (rw [World.cell?_alloc_past _ _ _ (by simp <;> omega), World.cell?_alloc_past _ _ _ (by simp <;> omega), World.cell?_alloc_at _ _ _ _ (by simp)]; rfl)
  have cc4 : ((w.alloc (.cells #[.int .i64 c.k0, .int .i64 c.k1, .int .i64 c.k2, .int .i64 c.a0, .int .i64 c.a1, .int .i64 c.a2, .slice c.ta c.tl c.tc, .int .i64 c.per, .int .i64 c.ret, .int .i64 c.age, .int .i64 c.dead] 25)).alloc (.cells #[.int .i64 v0, .int .i64 v1, .int .i64 v2] 22)).cell? ⟨w.heap.size, 4, none⟩ = some (.int .i64 c.a1) := by first | (simp; done) | (rw [World.cell?_alloc_at _ _ _ _ (by simp)]; rfl) | (rw [World.cell?_alloc_past _ _ _ (by simp <;> omega), World.cell?_alloc_at _ _ _ _ (by simp)]; rfl) | (rw [World.cell?_alloc_past _ _ _ (by simp <;> omega), World.cell?_alloc_past _ _ _ (by simp <;> omega), World.cell?_alloc_at _ _ _ _ (by simp)]; rfl)
  have cc5 : ((w.alloc (.cells #[.int .i64 c.k0, .int .i64 c.k1, .int .i64 c.k2, .int .i64 c.a0, .int .i64 c.a1, .int .i64 c.a2, .slice c.ta c.tl c.tc, .int .i64 c.per, .int .i64 c.ret, .int .i64 c.age, .int .i64 c.dead] 25)).alloc (.cells #[.int .i64 v0, .int .i64 v1, .int .i64 v2] 22)).cell? ⟨w.heap.size, 5, none⟩ = some (.int .i64 c.a2) := by first | (simp; done) | (rw [World.cell?_alloc_at _ _ _ _ (by simp)]; rfl) | (rw [World.cell?_alloc_past _ _ _ (by simp <;> omega), World.cell?_alloc_at _ _ _ _ (by simp)]; rfl) | (rw [World.cell?_alloc_past _ _ _ (by simp <;> omega), World.cell?_alloc_past _ _ _ (by simp <;> omega), World.cell?_alloc_at _ _ _ _ (by simp)]; rfl)
  have cc6 : ((w.alloc (.cells #[.int .i64 c.k0, .int .i64 c.k1, .int .i64 c.k2, .int .i64 c.a0, .int .i64 c.a1, .int .i64 c.a2, .slice c.ta c.tl c.tc, .int .i64 c.per, .int .i64 c.ret, .int .i64 c.age, .int .i64 c.dead] 25)).alloc (.cells #[.int .i64 v0, .int .i64 v1, .int .i64 v2] 22)).cell? ⟨w.heap.size, 6, none⟩ = some (.slice c.ta c.tl c.tc) := by first | (simp; done) | (rw [World.cell?_alloc_at _ _ _ _ (by simp)]; rfl) | (rw [World.cell?_alloc_past _ _ _ (by simp <;> omega), World.cell?_alloc_at _ _ _ _ (by simp)]; rfl) | (rw [World.cell?_alloc_past _ _ _ (by simp <;> omega), World.cell?_alloc_past _ _ _ (by simp <;> omega), World.cell?_alloc_at _ _ _ _ (by simp)]; rfl)
  have cc7 : ((w.alloc (.cells #[.int .i64 c.k0, .int .i64 c.k1, .int .i64 c.k2, .int .i64 c.a0, .int .i64 c.a1, .int .i64 c.a2, .slice c.ta c.tl c.tc, .int .i64 c.per, .int .i64 c.ret, .int .i64 c.age, .int .i64 c.dead] 25)).alloc (.cells #[.int .i64 v0, .int .i64 v1, .int .i64 v2] 22)).cell? ⟨w.heap.size, 7, none⟩ = some (.int .i64 c.per) := by first | (simp; done) | (rw [World.cell?_alloc_at _ _ _ _ (by simp)]; rfl) | (rw [World.cell?_alloc_past _ _ _ (by simp <;> omega), World.cell?_alloc_at _ _ _ _ (by simp)]; rfl) | (rw [World.cell?_alloc_past _ _ _ (by simp <;> omega), World.cell?_alloc_past _ _ _ (by simp <;> omega), World.cell?_alloc_at _ _ _ _ (by simp)]; rfl)
  have cc8 : ((w.alloc (.cells #[.int .i64 c.k0, .int .i64 c.k1, .int .i64 c.k2, .int .i64 c.a0, .int .i64 c.a1, .int .i64 c.a2, .slice c.ta c.tl c.tc, .int .i64 c.per, .int .i64 c.ret, .int .i64 c.age, .int .i64 c.dead] 25)).alloc (.cells #[.int .i64 v0, .int .i64 v1, .int .i64 v2] 22)).cell? ⟨w.heap.size, 8, none⟩ = some (.int .i64 c.ret) := by first | (simp; done) | (rw [World.cell?_alloc_at _ _ _ _ (by simp)]; rfl) | (rw [World.cell?_alloc_past _ _ _ (by simp <;> omega), World.cell?_alloc_at _ _ _ _ (by simp)]; rfl) | (rw [World.cell?_alloc_past _ _ _ (by simp <;> omega), World.cell?_alloc_past _ _ _ (by simp <;> omega), World.cell?_alloc_at _ _ _ _ (by simp)]; rfl)
  have cc9 : ((w.alloc (.cells #[.int .i64 c.k0, .int .i64 c.k1, .int .i64 c.k2, .int .i64 c.a0, .int .i64 c.a1, .int .i64 c.a2, .slice c.ta c.tl c.tc, .int .i64 c.per, .int .i64 c.ret, .int .i64 c.age, .int .i64 c.dead] 25)).alloc (.cells #[.int .i64 v0, .int .i64 v1, .int .i64 v2] 22)).cell? ⟨w.heap.size, 9, none⟩ = some (.int .i64 c.age) := by first | (simp; done) | (rw [World.cell?_alloc_at _ _ _ _ (by simp)]; rfl) | (rw [World.cell?_alloc_past _ _ _ (by simp <;> omega), World.cell?_alloc_at _ _ _ _ (by simp)]; rfl) | (rw [World.cell?_alloc_past _ _ _ (by simp <;> omega), World.cell?_alloc_past _ _ _ (by simp <;> omega), World.cell?_alloc_at _ _ _ _ (by simp)]; rfl)
  have cc10 : ((w.alloc (.cells #[.int .i64 c.k0, .int .i64 c.k1, .int .i64 c.k2, .int .i64 c.a0, .int .i64 c.a1, .int .i64 c.a2, .slice c.ta c.tl c.tc, .int .i64 c.per, .int .i64 c.ret, .int .i64 c.age, .int .i64 c.dead] 25)).alloc (.cells #[.int .i64 v0, .int .i64 v1, .int .i64 v2] 22)).cell? ⟨w.heap.size, 10, none⟩ = some (.int .i64 c.dead) := by first | (simp; done) | (rw [World.cell?_alloc_at _ _ _ _ (by simp)]; rfl) | (rw [World.cell?_alloc_past _ _ _ (by simp <;> omega), World.cell?_alloc_at _ _ _ _ (by simp)]; rfl) | (rw [World.cell?_alloc_past _ _ _ (by simp <;> omega), World.cell?_alloc_past _ _ _ (by simp <;> omega), World.cell?_alloc_at _ _ _ _ (by simp)]; rfl)
  have vv0 : ((w.alloc (.cells #[.int .i64 c.k0, .int .i64 c.k1, .int .i64 c.k2, .int .i64 c.a0, .int .i64 c.a1, .int .i64 c.a2, .slice c.ta c.tl c.tc, .int .i64 c.per, .int .i64 c.ret, .int .i64 c.age, .int .i64 c.dead] 25)).alloc (.cells #[.int .i64 v0, .int .i64 v1, .int .i64 v2] 22)).cell? ⟨w.heap.size + 1, 0, none⟩ = some (.int .i64 v0) := by first | (simp; done) | (rw [World.cell?_alloc_at _ _ _ _ (by simp)]; rfl) | (rw [World.cell?_alloc_past _ _ _ (by simp <;> omega), World.cell?_alloc_at _ _ _ _ (by simp)]; rfl) | (rw [World.cell?_alloc_past _ _ _ (by simp <;> omega), World.cell?_alloc_past _ _ _ (by simp <;> omega), World.cell?_alloc_at _ _ _ _ (by simp)]; rfl)
  have vv1 : ((w.alloc (.cells #[.int .i64 c.k0, .int .i64 c.k1, .int .i64 c.k2, .int .i64 c.a0, .int .i64 c.a1, .int .i64 c.a2, .slice c.ta c.tl c.tc, .int .i64 c.per, .int .i64 c.ret, .int .i64 c.age, .int .i64 c.dead] 25)).alloc (.cells #[.int .i64 v0, .int .i64 v1, .int .i64 v2] 22)).cell? ⟨w.heap.size + 1, 1, none⟩ = some (.int .i64 v1) := by first | (simp; done) | (rw [World.cell?_alloc_at _ _ _ _ (by simp)]; rfl) | (rw [World.cell?_alloc_past _ _ _ (by simp <;> omega), World.cell?_alloc_at _ _ _ _ (by simp)]; rfl) | (rw [World.cell?_alloc_past _ _ _ (by simp <;> omega), World.cell?_alloc_past _ _ _ (by simp <;> omega), World.cell?_alloc_at _ _ _ _ (by simp)]; rfl)
  have vv2 : ((w.alloc (.cells #[.int .i64 c.k0, .int .i64 c.k1, .int .i64 c.k2, .int .i64 c.a0, .int .i64 c.a1, .int .i64 c.a2, .slice c.ta c.tl c.tc, .int .i64 c.per, .int .i64 c.ret, .int .i64 c.age, .int .i64 c.dead] 25)).alloc (.cells #[.int .i64 v0, .int .i64 v1, .int .i64 v2] 22)).cell? ⟨w.heap.size + 1, 2, none⟩ = some (.int .i64 v2) := by first | (simp; done) | (rw [World.cell?_alloc_at _ _ _ _ (by simp)]; rfl) | (rw [World.cell?_alloc_past _ _ _ (by simp <;> omega), World.cell?_alloc_at _ _ _ _ (by simp)]; rfl) | (rw [World.cell?_alloc_past _ _ _ (by simp <;> omega), World.cell?_alloc_past _ _ _ (by simp <;> omega), World.cell?_alloc_at _ _ _ _ (by simp)]; rfl)
  have hb2 := (by repeat (first | exact hbel | refine belAlloc ?_ _ | refine belDrew ?_ | refine belSet ?_ _ _ (by simp)) : Below w.heap.size w ((w.alloc (.cells #[.int .i64 c.k0, .int .i64 c.k1, .int .i64 c.k2, .int .i64 c.a0, .int .i64 c.a1, .int .i64 c.a2, .slice c.ta c.tl c.tc, .int .i64 c.per, .int .i64 c.ret, .int .i64 c.age, .int .i64 c.dead] 25)).alloc (.cells #[.int .i64 v0, .int .i64 v1, .int .i64 v2] 22)))
  replace hw := belStep hw hb2
  clear hb2 hbel
  generalize (w.alloc (.cells #[.int .i64 c.k0, .int .i64 c.k1, .int .i64 c.k2, .int .i64 c.a0, .int .i64 c.a1, .int .i64 c.a2, .slice c.ta c.tl c.tc, .int .i64 c.per, .int .i64 c.ret, .int .i64 c.age, .int .i64 c.dead] 25)).alloc (.cells #[.int .i64 v0, .int .i64 v1, .int .i64 v2] 22) = W1 at *
  replace cc0 := keep cc0
  replace cc1 := keep cc1
  replace cc2 := keep cc2
  replace cc3 := keep cc3
  replace cc4 := keep cc4
  replace cc5 := keep cc5
  replace cc6 := keep cc6
  replace cc7 := keep cc7
  replace cc8 := keep cc8
  replace cc9 := keep cc9
  replace cc10 := keep cc10
  replace vv0 := keep vv0
  replace vv1 := keep vv1
  replace vv2 := keep vv2
  have hbel : Below W1.heap.size W1 W1 := Below.refl _ _
  skip
  have HW := Lib.hid hw
  go_upto_region 3 with (first | (go_at_call 9; (with_reducible refine (awake18 _).mono ?_); rintro e w1 ⟨rfl, hb1⟩; replace hbel := belStep hbel hb1; clear hb1) | (go_at_call 10; (with_reducible refine (CF.out _ (belStep HW.out hbel)).mono ?_); rintro e w2 ⟨⟨b, rfl, hT⟩, hb2⟩; replace hbel := belStep hbel hb2; have HTT := Lib.hid hT; clear hb2 hT; rcases Bool.eq_false_or_eq_true b with rfl | rfl))
  rotate_left 1
  · go_wp2_with (first | (go_at_call 9; (with_reducible refine (awake18 _).mono ?_); rintro e w1 ⟨rfl, hb1⟩; replace hbel := belStep hbel hb1; clear hb1))
    go_ret
    exact ⟨rfl, belStep HW.out hbel⟩
  obtain ⟨hrc, hsl, hr00, hr01, hS0⟩ := HTT.out (by simp)
  subst hsl
  have HG := Lib.hid (show ∀ u, Below w.heap.size w u → Good c u from fun u hu => ⟨HC.out.later hu, hrc.few, hrc.right⟩)
  have hfew := hrc.few
  have HSR := Lib.hid (fun u (hu : Below w.heap.size w u) => HS.out.later hu)
  have hslen := HS.out.bounds.1
  have HSL := Lib.hid hslen
  have HLEN := Lib.hid HC.out.len
  obtain ⟨hbs1, hbs2⟩ := HS.out.bounds.2
  obtain ⟨hbd1, hbd2⟩ := (HG.out w (Below.refl _ _)).bd
  have HSb := Lib.hid hS0
  have HRB := Lib.hid (And.intro hr00 hr01)
  clear HC HTT CF hrc hS0 hslen hr00 hr01 HS
  replace cc0 := keepOnP cc0 hbel
  replace cc1 := keepOnP cc1 hbel
  replace cc2 := keepOnP cc2 hbel
  replace cc3 := keepOnP cc3 hbel
  replace cc4 := keepOnP cc4 hbel
  replace cc5 := keepOnP cc5 hbel
  replace cc6 := keepOnP cc6 hbel
  replace cc7 := keepOnP cc7 hbel
  replace cc8 := keepOnP cc8 hbel
  replace cc9 := keepOnP cc9 hbel
  replace cc10 := keepOnP cc10 hbel
  replace vv0 := keepOnP vv0 hbel
  replace vv1 := keepOnP vv1 hbel
  replace vv2 := keepOnP vv2 hbel
  replace hw := belStep hw hbel
  clear hbel
  generalize w2 = W2 at *
  have hbel : Below W2.heap.size W2 W2 := Below.refl _ _
  have HW2 := Lib.hid hw
  clear HW hw
  have HS2 := Lib.hid (HSR.out _ HW2.out)
  have HR2 := Lib.hid (HG.out _ HW2.out).row
  have HSZ := Lib.hid HSL.out
  go_upto_region 4 with (first | (at_builtin; refine wpList_app_row rfl _ _ 26 rfl W2.heap.size 3 (.int .i64 0) 1 8 Try.underlying26 info_int rfl (by decide) _ 0 [] rfl (World.ownsRow_made W2 #[] 0 (Nat.le_refl _) (by unfold maxLen; omega) rfl) _ _ _ _ rfl ((HS2.out.1).later (belAlloc (Below.refl _ _) _)) (fun u hu => by obtain ⟨m, _, rfl⟩ := List.mem_map.1 hu; rfl) (by unfold maxLen; omega) (by omega) (by simp) ?_; intro v3 w3 ho3 hb3 hg3; have HO3 := Lib.hid ho3; have hb3' := (belAlloc (Below.refl W2.heap.size W2) (.cells #[] 3)).trans hb3; replace hbel := hb3'; clear ho3 hb3 hg3 hb3'))
  have HO := Lib.hid (show OwnG (Value.int .i64) w3 W2.heap.size 3 v3 S by have := HO3.out; rw [Nat.zero_add, List.nil_append] at this; unfold OwnG; rw [HSZ.out]; exact this)
  clear HO3
  obtain ⟨oa, oc, e3, _⟩ := HO.out.row
  rw [HSZ.out] at e3
  subst e3
  have HGO := Lib.hid (show ∀ g, oa = some ⟨g, 0, none⟩ → W2.heap.size ≤ g ∧ g < w3.heap.size from fun g hg => World.ownsRow.lt HO.out g (by rw [hg]; rfl))
  have hs3 : W2.heap.size ≤ w3.heap.size := hbel.size
  have HS3 := Lib.hid hs3
  go_upto_region 5 with (first | (at_builtin; refine wpList_app_row rfl _ _ 23 rfl w3.heap.size 47 (.agg #[.int .i64 0, .int .i64 0, .int .i64 0, .bool false, .int .i64 0]) 5 40 Try.underlying23 info_thr rfl (by decide) _ 0 [] rfl (World.ownsRow_made w3 #[] 0 (Nat.le_refl _) (by unfold maxLen; omega) rfl) _ _ _ _ rfl (HR2.out.later (hbel.alloc hs3 _)) (fun u hu => by obtain ⟨t, _, hq⟩ := List.mem_flatMap.1 hu; simp only [ThrV.cells, List.mem_cons, List.not_mem_nil, or_false] at hq; rcases hq with rfl | rfl | rfl | rfl | rfl <;> rfl) (by unfold maxLen; omega) (by omega) (by simp) ?_; intro v4 w4 ho4 hb4 hg4; have HL4 := Lib.hid ho4; have hb4' := (belAlloc (Below.refl w3.heap.size w3) (.cells #[] 47)).trans hb4; replace HO := Lib.hid (HO.out.later hb4'); replace hbel := belStep hbel hb4'; have HZ4 := Lib.hid hb4'.size; clear ho4 hb4 hg4 hb4'))
  have HLr := Lib.hid (show OwnR w4 w3.heap.size 47 5 v4 c.tl (c.L.flatMap ThrV.cells) by have := HL4.out; rw [Nat.zero_add, List.nil_append] at this; exact this)
  clear HL4
  obtain ⟨ka, kc, e4, _⟩ := row_of_own HLr.out
  subst e4
  have CS := Lib.hid (fun u (hu : Below W2.heap.size W2 u) (hS : Ints .i64 u oa c.tl oc S) => gr_Step c oa oc S v0 v1 v2 r u (HG.out u (belStep HW2.out hu)) HV.out hS)
  have CH := Lib.hid (fun u (hu : Below W2.heap.size W2 u) (hS : Ints .i64 u oa c.tl oc S) => gr_Hold c oa oc S r u (HG.out u (belStep HW2.out hu)) hS (by have := HRB.out; omega) (fun k hk => by have := HSb.out k hk; have := HRB.out; omega))
  have CT := Lib.hid (fun u (hu : Below W2.heap.size W2 u) => ref_Step c sa sc S v0 v1 v2 r u (HG.out u (belStep HW2.out hu)) HV.out (HSR.out u (belStep HW2.out hu)) (fun k hk => (HSb.out k hk).1))
  have HWF := Lib.hid HS2.out.2
  have HSTL := Lib.hid (show (stepL c S v0 v1 v2 r).length = c.tl by rw [stepL_len (by rw [HSZ.out, HLEN.out]), HLEN.out])
  go_upto_region 7 with (first
    | (go_at_call 11; (with_reducible refine (CS.out _ hbel (ints_ownG HO.out HWF.out)).mono ?_); rintro e w5 ⟨g5, rfl, ho5, hg5, hb5⟩; have HT := Lib.hid (ho5.mono HZ4.out); replace HO := Lib.hid (HO.out.later hb5); replace HLr := Lib.hid (HLr.out.later hb5); replace hbel := belStep hbel hb5; clear ho5 hg5 hb5)
    | (go_at_call 19; (with_reducible refine (CH.out _ hbel (ints_ownG HO.out HWF.out)).mono ?_); rintro e w6 ⟨g6, rfl, ho6, hg6, hb6⟩; replace HT := Lib.hid (HT.out.later hb6); replace HO := Lib.hid (HO.out.later hb6); replace HLr := Lib.hid (HLr.out.later hb6); replace hbel := belStep hbel hb6; clear ho6 hg6 hb6))
  have HX := Lib.hid (show (List.replicate c.tl (-7 : Int)).length = S.length by rw [List.length_replicate, HSZ.out])
  have HB6 := Lib.hid hbel
  clear CS CH hs3
  go_wp2
  clear hbel
  go_loopw [12] (fun v wr => ∃ k : Nat, k ≤ c.tl ∧ v = .int .i64 k ∧ OwnG (Value.int .i64) wr W2.heap.size 3 (.slice oa c.tl oc) (fillL (List.replicate c.tl (-7)) S k) ∧ OwnR wr w3.heap.size 47 5 (.slice ka c.tl kc) c.tl (c.L.flatMap ThrV.cells) ∧ OwnG (Value.int .i64) wr w3.heap.size 3 (.slice (some ⟨g5, 0, none⟩) c.tl c.tl) (stepL c S v0 v1 v2 r) ∧ Below W2.heap.size W2 wr) (fun v _ => c.tl - (intOf v).toNat)
  case atStart => exact ⟨0, by omega, rfl, by rw [fillL_zero]; exact HO.out, HLr.out, HT.out, HB6.out⟩
  case round =>
    obtain ⟨k, hk, rfl, ho, hl, ht, hbel⟩ := hrel
    have HOk := Lib.hid ho
    have HLk := Lib.hid hl
    have HTk := Lib.hid ht
    have HB := Lib.hid hbel
    clear ho hl ht HO HLr HT HB6
    by_cases hlt : k < c.tl
    · obtain ⟨t, hti, htr, hto, b, off, hta, hbb, x0, x1, x2, x3, x4⟩ := (HG.out _ (belStep HW2.out hbel)).at hlt
      have hki : (k : Int) < (c.tl : Int) := by omega
      have hlen : c.tl = (fillL (List.replicate c.tl (-7)) S k).length := by rw [fillL_len _ _ _ HX.out, HSZ.out]
      have HLen := Lib.hid hlen
      obtain ⟨g, rfl, hg1, hg2, hoc1, hoc2⟩ := HOk.out.open hlen.symm (by omega)
      have hgz := (HGO.out g rfl).2
      have o0 := HOk.out.cellAt HLen.out (i := k) (x := el S k) (by rw [fillL_get _ _ _ HX.out]; exact el_some (by rw [HSZ.out]; exact hlt))
      have of := HOk.out.frozenAt HLen.out k
      obtain ⟨sb, so, rfl, hsb, hsx⟩ := (HSR.out _ (belStep HW2.out hbel)).opened (by omega)
      have s0 := hsx k hlt
      obtain ⟨ka', kc', e4, hrow⟩ := row_of_own HLk.out
      simp at e4
      obtain ⟨rfl, rfl⟩ := e4
      obtain ⟨kb, ko, rfl, _, hkx⟩ := hrow.elem ThrV.cells_len (by omega) hti
      have k0 := hkx 0 _ rfl
      have k1 := hkx 1 _ rfl
      have k2 := hkx 2 _ rfl
      have k3 := hkx 3 _ rfl
      have k4 := hkx 4 _ rfl
      rw [Nat.add_zero] at k0
      have hcl := cc6 _ hbel
      obtain ⟨_, hk1, hk2, _⟩ := hrow
      unfold maxLen at hk2
      simp only [hta] at hcl ⊢
      clear hlen hsx hkx hti htr hto
      generalize el S k = s at *
      have heq := fun u => eq_thr t t u
      simp only [beq_self_eq_true, Bool.and_self] at heq
      have hyl : g < wr.heap.size := hg2
      have HBw := hbel
      replace hbel := Below.refl wr.heap.size wr
      replace x0 := keep x0
      replace x1 := keep x1
      replace x2 := keep x2
      replace x3 := keep x3
      replace x4 := keep x4
      replace k0 := keep k0
      replace k1 := keep k1
      replace k2 := keep k2
      replace k3 := keep k3
      replace k4 := keep k4
      replace o0 := keep o0
      replace s0 := keep s0
      replace hcl := keep hcl
      have of2 : ∀ u, Below wr.heap.size wr u → u.frozen? ⟨g, k, none⟩ = false := fun u hu => (Below.frozens hu _ _ hyl).trans of
      clear cc6 of HBw
      go_wp2
      have kk := fun d os => belStep hbel (below_regrown _ d os)
      refine wp_region_quiet_below (by kernel_rfl) (by kernel_rfl) ?_
      repeat ((with_reducible refine wpQuiet_step (fun K hK => ?_)); go_simp; (try (rw [if_neg]; rotate_left; · decide)); first | ((with_reducible refine hK _ ?_); clear hK K) | (apply Exists.intro; refine ⟨fun _ => ?_, hK _ ?_⟩; (fail); clear hK K))
      refine wpQuiet_nil (fun w1 hw1 => ?_)
      replace hbel := belStep hbel (bel_of_class hw1)
      clear hw1 kk
      go_wp2
      go_roundw
      case rel => exact ⟨k + 1, by omega, by push_cast; rfl, by rw [← fillL_set _ _ _ HX.out (-7) (by simp [hlt])]; exact (HOk.out.later hbel).set HLen.out k (-7), OwnR.setCell (OwnR.later HLk.out hbel) hgz _, (HTk.out.later hbel).far hgz _, (belStep HB.out hbel).setCell hg1 _⟩
      case measure => simp [intOf] <;> omega
    · have hki : ¬ (k : Int) < (c.tl : Int) := by omega
      obtain ⟨ta5, tc5, e5, hr5⟩ := HTk.out.row
      simp at e5
      obtain ⟨rfl, e51, rfl⟩ := e5
      rw [HSTL.out] at hr5
      have HR5 := Lib.hid hr5
      clear hr5 e51
      go_wp2_with (first
        | (go_at_call 18; (with_reducible refine (CT.out _ hbel).mono ?_); rintro e w7 ⟨v7, rfl, ho7, hb7⟩; obtain ⟨a7, c7, e7, hr7⟩ := ho7.row; rw [HSTL.out] at e7 hr7; subst e7; have HR7 := Lib.hid hr7; have HR6 := Lib.hid (HR5.out.later hb7); replace hbel := belStep hbel hb7; clear ho7 hr7 hb7)
        | (go_at_call 12; (with_reducible refine (ref_SameInts _ _ _ _ _ _ _ HR6.out HR7.out).mono ?_); rintro e w8 ⟨rfl, hb8⟩; replace hbel := belStep hbel hb8; clear hb8))
      go_ret
      exact ⟨rfl, belStep HW2.out hbel⟩

set_option maxRecDepth 100000 in
theorem lifted (os : Os) (started : os.Started) (H : Type) (enc : TypeId × Value → H) :
    ReturnsInHanded {} Try.checked os 8 .any (Rows.graceKeepsSpec.pre6 enc Try.prog Try.f8 Rows.graceKeepsRow.domain false) (Rows.graceKeepsSpec.post enc Try.prog Try.f8 false true false false) := by
  refine returnsInHanded_of_change (C := Try.checked) own started (by kernel_rfl) Try.func8
    (ChangeSpec.witness6 (enc := enc) (C := Try.checked) false ⟨#[], #[.agg #[.int .i64 0, .int .i64 0, .int .i64 0, .int .i64 0, .int .i64 0, .int .i64 0, .slice none 0 0, .int .i64 0, .int .i64 0, .int .i64 0, .int .i64 0], .slice none 0 0, .agg #[.int .i64 0, .int .i64 0, .int .i64 0], .int .i64 0], []⟩ 8 (by kernel_rfl) (by kernel_rfl) (by kernel_rfl) (by kernel_rfl)) ?_
  intro W base args ds gs before hval0 hW hcnd _
  have hval : ∀ (j : Nat) t v, Try.f8.params[j]? = some t → args[j]? = some v → Value.okWide Try.prog W .any base t v := hval0
  have hW' := hW
  obtain ⟨p, q, hA0, hV, rfl, hfz, hnd⟩ := hW
  have hA : DataW.TrodAll enc Try.prog W 0 (fun _ => true) true Try.f8.params.toList args.toList ds p := hA0
  rw [Try.params8] at hA hval
  obtain ⟨v0, vs0, d0, ds0, p0, q0, hargs, rfl, rfl, h0, r0⟩ := trodAll_cons hA
  obtain ⟨v1, vs1, d1, ds1, p1, q1, rfl, rfl, rfl, h1, r1⟩ := trodAll_cons r0
  obtain ⟨v2, vs2, d2, ds2, p2, q2, rfl, rfl, rfl, h2, r2⟩ := trodAll_cons r1
  obtain ⟨v3, vs3, d3, ds3, p3, q3, rfl, rfl, rfl, h3, r3⟩ := trodAll_cons r2
  obtain ⟨rfl, rfl, rfl⟩ := trodAll_nil r3
  obtain rfl : args = #[v0, v1, v2, v3] := by cases args; simp_all
  obtain ⟨rfl, rfl⟩ := trodVars_none hV
  have k0 := h0
  have lt0 : ∀ x ∈ p0, x.block < W.heap.size := by obtain ⟨m, hm⟩ := k0; exact DataW.trod_lt m _ _ _ hm
  have o0 : Value.okWide Try.prog W .any base 25 v0 := hval 0 25 v0 rfl rfl
  obtain ⟨c0, rfl, hc0⟩ := open_cfg o0 h0
  have k1 := h1
  have lt1 : ∀ x ∈ p1, x.block < W.heap.size := by obtain ⟨m, hm⟩ := k1; exact DataW.trod_lt m _ _ _ hm
  have o1 : Value.okWide Try.prog W .any base 26 v1 := hval 1 26 v1 rfl rfl
  obtain ⟨a1, len1, cap1, rfl⟩ := okWide_slice Try.underlying26 o1
  obtain ⟨z1, w1⟩ : ∃ zs, Ints .i64 W a1 len1 cap1 zs := ints_of_trod Try.underlying26 Try.underlying3 (by kernel_rfl) h1
  have k2 := h2
  have lt2 : ∀ x ∈ p2, x.block < W.heap.size := by obtain ⟨m, hm⟩ := k2; exact DataW.trod_lt m _ _ _ hm
  have o2 : Value.okWide Try.prog W .any base 22 v2 := hval 2 22 v2 rfl rfl
  obtain ⟨x2, y2, z2, rfl, h12, h22, h32⟩ := open_three o2 h2
  have k3 := h3
  have lt3 : ∀ x ∈ p3, x.block < W.heap.size := by obtain ⟨m, hm⟩ := k3; exact DataW.trod_lt m _ _ _ hm
  have o3 : Value.okWide Try.prog W .any base 3 v3 := hval 3 3 v3 rfl rfl
  obtain ⟨a3, rfl, rfl, rfl, w3⟩ := open_int Try.underlying3 o3 h3
  clear hA0 hval0
  refine (walk c0 a1 len1 cap1 z1 x2 y2 z2 a3 W hc0 w1 h12 h22 h32 (inI_of_wf w3)).mono fun e W' ⟨he, bel⟩ => ?_
  subst he
  exact ⟨_, rfl, _, _, _, [], _, [], hW', trodAll_mk1 (shut_bool Try.underlying4 _), (trodAll_cons_mk (Below.trod laidOut (by kernel_rfl) (of_decide_eq_true (by kernel_rfl)) k0 bel lt0) (trodAll_cons_mk (Below.trod laidOut (by kernel_rfl) (of_decide_eq_true (by kernel_rfl)) k1 bel lt1) (trodAll_cons_mk (Below.trod laidOut (by kernel_rfl) (of_decide_eq_true (by kernel_rfl)) k2 bel lt2) (trodAll_cons_mk (Below.trod laidOut (by kernel_rfl) (of_decide_eq_true (by kernel_rfl)) k3 bel lt3) trodAll_mk0)))), rfl, bel.frame _, fun h => by cases h⟩

theorem over : Rows.graceKeepsRow.holds Try.pinned (OpenSpec.ofChange Rows.graceKeepsSpec) :=
  OpenClaim.holds_of_wide 8 Try.f8 rfl rfl rfl rfl rfl rfl rfl ⟨rfl, rfl, rfl, rfl, rfl⟩ rfl rfl rfl rfl rfl (by kernel_rfl) Try.func8 (by kernel_rfl)
    (of_decide_eq_true (by kernel_rfl)) (by unfold Func.isWrapper; first | (rw [if_pos (by decide +kernel)]; kernel_rfl) | (rw [if_neg (by decide +kernel)]; exact ⟨rfl, rfl⟩))
    (fun os started H enc _ => lifted os started H enc)

/-- The statement. -/
theorem proved : Rows.GraceKeepsSaid := over
#print axioms proved

end Go.Proofs.Ytbancemkajgljaa.graceKeeps
