/- grace.Step, Hold: contracts. -/
import Derived.Test.YtbancemkajgljaaGr3
import Derived.Test.YtbancemkajgljaaTail
namespace Go.Proofs.Ytbancemkajgljaa
open Go.RowKit
set_option linter.unusedVariables false
set_option linter.unusedSimpArgs false

def stepE (m : Bool) (s r : Int) : Int := if m then (if s = -1 then r else s) else -1
def stepL (c : CfgV) (S : List Int) (v0 v1 v2 r : Int) : List Int := List.zipWith (fun t s => stepE (met3 c t v0 v1 v2) s r) c.L S
def holdE (t : ThrV) (s r : Int) : Bool := if s = -1 then false else (!t.soft || decide (t.grace ≤ r - s))
def holdL (c : CfgV) (S : List Int) (r : Int) : List Bool := List.zipWith (fun t s => holdE t s r) c.L S
theorem el_some {S : List Int} {k : Nat} (h : k < S.length) : S[k]? = some (el S k) := by
  unfold el; rw [List.getD_eq_getElem?_getD, List.getElem?_eq_getElem h]; rfl
theorem stepL_get {c : CfgV} {S : List Int} {v0 v1 v2 r : Int} {k : Nat} {t : ThrV} (ht : c.L[k]? = some t) (h : k < S.length) : (stepL c S v0 v1 v2 r)[k]? = some (stepE (met3 c t v0 v1 v2) (el S k) r) := by
  unfold stepL
  rw [List.getElem?_zipWith, ht, el_some h]
theorem holdL_get {c : CfgV} {S : List Int} {r : Int} {k : Nat} {t : ThrV} (ht : c.L[k]? = some t) (h : k < S.length) : (holdL c S r)[k]? = some (holdE t (el S k) r) := by
  unfold holdL
  rw [List.getElem?_zipWith, ht, el_some h]
theorem stepL_len {c : CfgV} {S : List Int} {v0 v1 v2 r : Int} (h : S.length = c.L.length) : (stepL c S v0 v1 v2 r).length = c.L.length := by unfold stepL; simp [h]
theorem holdL_len {c : CfgV} {S : List Int} {r : Int} (h : S.length = c.L.length) : (holdL c S r).length = c.L.length := by unfold holdL; simp [h]
theorem fillL_same {α : Type} (x y : List α) (k : Nat) (h : x.length = y.length) (u : α) (hu : x[k]? = some u) (hy : y[k]? = some u) : fillL x y (k + 1) = fillL x y k := by
  rw [← fillL_set x y k h u hu]
  have : (fillL x y k)[k]? = some u := by rw [fillL_get x y k h, hy]
  obtain ⟨h1, h2⟩ := List.getElem?_eq_some_iff.1 this
  rw [← h2]; exact List.set_getElem_self h1
set_option maxRecDepth 100000 in
set_option maxHeartbeats 8000000 in
theorem gr_Step (c : CfgV) (sa : Option Addr) (sc : Nat) (S : List Int) (v0 v1 v2 r : Int) (w : World) (hc : Good c w) (hv : InI v0 ∧ InI v1 ∧ InI v2) (hS : Ints .i64 w sa c.tl sc S) : Calls Try.prog 11 #[.agg #[.int .i64 c.k0, .int .i64 c.k1, .int .i64 c.k2, .int .i64 c.a0, .int .i64 c.a1, .int .i64 c.a2, .slice c.ta c.tl c.tc, .int .i64 c.per, .int .i64 c.ret, .int .i64 c.age, .int .i64 c.dead], .slice sa c.tl sc, .agg #[.int .i64 v0, .int .i64 v1, .int .i64 v2], .int .i64 r] w fun e w' => ∃ g, e = .returned (.slice (some ⟨g, 0, none⟩) c.tl c.tl) ∧ OwnG (Value.int .i64) w' w.heap.size 3 (.slice (some ⟨g, 0, none⟩) c.tl c.tl) (stepL c S v0 v1 v2 r) ∧ w.heap.size ≤ g ∧ Below w.heap.size w w' := by
  have hw : Below w.heap.size w w := Below.refl _ _
  have hbel := hw
  have hfew := hc.few
  obtain ⟨hbd1, hbd2⟩ := hc.bd
  obtain ⟨hsl, hsc1, hsc2⟩ := hS.bounds
  have HSL := Lib.hid hsl
  have HX := Lib.hid (show (stepL c S v0 v1 v2 r).length = (List.replicate c.tl (-1 : Int)).length by rw [stepL_len (by rw [hsl, hc.len])]; simp [hc.len])
  have CM := Lib.hid (fun t u (h1 : t.right = true) (h2 : t.ok) => gr_met c t v0 v1 v2 u h1 h2 hc.ck hv)
  have CB := Lib.hid (fun u (h : Below w.heap.size w u) => gr_Begin c u (hc.later h))
  have HC := Lib.hid hc
  have HS := Lib.hid hS
  clear hc hv hS
  go_enter Try.func11, Try.ntmps11
  go_upto_region 1 with fail
  have cc0 : ((w.alloc (.cells #[.int .i64 c.k0, .int .i64 c.k1, .int .i64 c.k2, .int .i64 c.a0, .int .i64 c.a1, .int .i64 c.a2, .slice c.ta c.tl c.tc, .int .i64 c.per, .int .i64 c.ret, .int .i64 c.age, .int .i64 c.dead] 25)).alloc (.cells #[.int .i64 v0, .int .i64 v1, .int .i64 v2] 22)).cell? ⟨w.heap.size, 0, none⟩ = some (.int .i64 c.k0) := by first | (simp; done) | (rw [World.cell?_alloc_at _ _ _ _ (by simp)]; rfl) | (rw [World.cell?_alloc_past _ _ _ (by simp <;> omega), World.cell?_alloc_at _ _ _ _ (by simp)]; rfl) | (rw [World.cell?_alloc_past _ _ _ (by simp <;> omega), World.cell?_alloc_past _ _ _ (by simp <;> omega), World.cell?_alloc_at _ _ _ _ (by simp)]; rfl)
  have cc1 : ((w.alloc (.cells #[.int .i64 c.k0, .int .i64 c.k1, .int .i64 c.k2, .int .i64 c.a0, .int .i64 c.a1, .int .i64 c.a2, .slice c.ta c.tl c.tc, .int .i64 c.per, .int .i64 c.ret, .int .i64 c.age, .int .i64 c.dead] 25)).alloc (.cells #[.int .i64 v0, .int .i64 v1, .int .i64 v2] 22)).cell? ⟨w.heap.size, 1, none⟩ = some (.int .i64 c.k1) := by first | (simp; done) | (rw [World.cell?_alloc_at _ _ _ _ (by simp)]; rfl) | (rw [World.cell?_alloc_past _ _ _ (by simp <;> omega), World.cell?_alloc_at _ _ _ _ (by simp)]; rfl) | (rw [World.cell?_alloc_past _ _ _ (by simp <;> omega), World.cell?_alloc_past _ _ _ (by simp <;> omega), World.cell?_alloc_at _ _ _ _ (by simp)]; rfl)
  have cc2 : ((w.alloc (.cells #[.int .i64 c.k0, .int .i64 c.k1, .int .i64 c.k2, .int .i64 c.a0, .int .i64 c.a1, .int .i64 c.a2, .slice c.ta c.tl c.tc, .int .i64 c.per, .int .i64 c.ret, .int .i64 c.age, .int .i64 c.dead] 25)).alloc (.cells #[.int .i64 v0, .int .i64 v1, .int .i64 v2] 22)).cell? ⟨w.heap.size, 2, none⟩ = some (.int .i64 c.k2) := by first | (simp; done) | (rw [World.cell?_alloc_at _ _ _ _ (by simp)]; rfl) | (rw [World.cell?_alloc_past _ _ _ (by simp <;> omega), World.cell?_alloc_at _ _ _ _ (by simp)]; rfl) | (rw [World.cell?_alloc_past _ _ _ (by simp <;> omega), World.cell?_alloc_past _ _ _ (by simp <;> omega), World.cell?_alloc_at _ _ _ _ (by simp)]; rfl)
  have cc3 : ((w.alloc (.cells #[.int .i64 c.k0, .int .i64 c.k1, .int .i64 c.k2, .int .i64 c.a0, .int .i64 c.a1, .int .i64 c.a2, .slice c.ta c.tl c.tc, .int .i64 c.per, .int .i64 c.ret, .int .i64 c.age, .int .i64 c.dead] 25)).alloc (.cells #[.int .i64 v0, .int .i64 v1, .int .i64 v2] 22)).cell? ⟨w.heap.size, 3, none⟩ = some (.int .i64 c.a0) := by first | (simp; done) | (rw [World.cell?_alloc_at _ _ _ _ (by simp)]; rfl) | (rw [World.cell?_alloc_past _ _ _ (by simp <;> omega), World.cell?_alloc_at _ _ _ _ (by simp)]; rfl) | (rw [World.cell?_alloc_past _ _ _ (by simp <;> omega), World.cell?_alloc_past _ _ _ (by simp <;> omega), World.cell?_alloc_at _ _ _ _ (by simp)]; rfl)
  have cc4 : ((w.alloc (.cells #[.int .i64 c.k0, .int .i64 c.k1, .int .i64 c.k2, .int .i64 c.a0, .int .i64 c.a1, .int .i64 c.a2, .slice c.ta c.tl c.tc, .int .i64 c.per, .int .i64 c.ret, .int .i64 c.age, .int .i64 c.dead] 25)).alloc (.cells #[.int .i64 v0, .int .i64 v1, .int .i64 v2] 22)).cell? ⟨w.heap.size, 4, none⟩ = some (.int .i64 c.a1) := by first | (simp; done) | (rw [World.cell?_alloc_at _ _ _ _ (by simp)]; rfl) | (rw [World.cell?_alloc_past _ _ _ (by simp <;> omega), World.cell?_alloc_at _ _ _ _ (by simp)]; rfl) | (rw [World.cell?_alloc_past _ _ _ (by simp <;> omega), World.cell?_alloc_past _ _ _ (by simp <;> omega), World.cell?_alloc_at _ _ _ _ (by simp)]; rfl)
  have cc5 : ((w.alloc (.cells #[.int .i64 c.k0, .int .i64 c.k1, .int .i64 c.k2, .int .i64 c.a0, .int .i64 c.a1, .int .i64 c.a2, .slice c.ta c.tl c.tc, .int .i64 c.per, .int .i64 c.ret, .int .i64 c.age, .int .i64 c.dead] 25)).alloc (.cells #[.int .i64 v0, .int .i64 v1, .int .i64 v2] 22)).cell? ⟨w.heap.size, 5, none⟩ = some (.int .i64 c.a2) := by first | (simp; done) | (rw [World.cell?_alloc_at _ _ _ _ (by simp)]; rfl) | (rw [World.cell?_alloc_past _ _ _ (by simp <;> omega), World.cell?_alloc_at _ _ _ _ (by simp)]; rfl) | (rw [World.cell?_alloc_past _ _ _ (by simp <;> omega), World.cell?_alloc_past _ _ _ (by simp <;> omega), World.cell?_alloc_at _ _ _ _ (by simp)]; rfl)
  have cc6 : ((w.alloc (.cells #[.int .i64 c.k0, .int .i64 c.k1, .int .i64 c.k2, .int .i64 c.a0, .int .i64 c.a1, .int .i64 c.a2, .slice c.ta c.tl c.tc, .int .i64 c.per, .int .i64 c.ret, .int .i64 c.age, .int .i64 c.dead] 25)).alloc (.cells #[.int .i64 v0, .int .i64 v1, .int .i64 v2] 22)).cell? ⟨w.heap.size, 6, none⟩ = some (.slice c.ta c.tl c.tc) := by first | (simp; done) | (rw [World.cell?_alloc_at _ _ _ _ (by simp)]; rfl) | (rw [World.cell?_alloc_past _ _ _ (by simp <;> omega), World.cell?_alloc_at _ _ _ _ (by simp)]; rfl) | (rw [World.cell?_alloc_past _ _ _ (by simp <;> omega), World.cell?_alloc_past _ _ _ (by simp <;> omega), World.cell?_alloc_at _ _ _ _ (by simp)]; rfl)
  have cc7 : ((w.alloc (.cells #[.int .i64 c.k0, .int .i64 c.k1, .int .i64 c.k2, .int .i64 c.a0, .int .i64 c.a1, .int .i64 c.a2, .slice c.ta c.tl c.tc, .int .i64 c.per, .int .i64 c.ret, .int .i64 c.age, .int .i64 c.dead] 25)).alloc (.cells #[.int .i64 v0, .int .i64 v1, .int .i64 v2] 22)).cell? ⟨w.heap.size, 7, none⟩ = some (.int .i64 c.per) := by first | (simp; done) | (rw [World.cell?_alloc_at _ _ _ _ (by simp)]; rfl) | (rw [World.cell?_alloc_past _ _ _ (by simp <;> omega), World.cell?_alloc_at _ _ _ _ (by simp)]; rfl) | (rw [World.cell?_alloc_past _ _ _ (by simp <;> omega), World.cell?_alloc_past _ _ _ (by simp <;> omega), World.cell?_alloc_at _ _ _ _ (by simp)]; rfl)
  have cc8 : ((w.alloc (.cells #[.int .i64 c.k0, .int .i64 c.k1, .int .i64 c.k2, .int .i64 c.a0, .int .i64 c.a1, .int .i64 c.a2, .slice c.ta c.tl c.tc, .int .i64 c.per, .int .i64 c.ret, .int .i64 c.age, .int .i64 c.dead] 25)).alloc (.cells #[.int .i64 v0, .int .i64 v1, .int .i64 v2] 22)).cell? ⟨w.heap.size, 8, none⟩ = some (.int .i64 c.ret) := by first | (simp; done) | (rw [World.cell?_alloc_at _ _ _ _ (by simp)]; rfl) | (rw [World.cell?_alloc_past _ _ _ (by simp <;> omega), World.cell?_alloc_at _ _ _ _ (by simp)]; rfl) | (rw [World.cell?_alloc_past _ _ _ (by simp <;> omega), World.cell?_alloc_past _ _ _ (by simp <;> omega), World.cell?_alloc_at _ _ _ _ (by simp)]; rfl)
  have cc9 : ((w.alloc (.cells #[.int .i64 c.k0, .int .i64 c.k1, .int .i64 c.k2, .int .i64 c.a0, .int .i64 c.a1, .int .i64 c.a2, .slice c.ta c.tl c.tc, .int .i64 c.per, .int .i64 c.ret, .int .i64 c.age, .int .i64 c.dead] 25)).alloc (.cells #[.int .i64 v0, .int .i64 v1, .int .i64 v2] 22)).cell? ⟨w.heap.size, 9, none⟩ = some (.int .i64 c.age) := by first | (simp; done) | (rw [World.cell?_alloc_at _ _ _ _ (by simp)]; rfl) | (rw [World.cell?_alloc_past _ _ _ (by simp <;> omega), World.cell?_alloc_at _ _ _ _ (by simp)]; rfl) | (rw [World.cell?_alloc_past _ _ _ (by simp <;> omega), World.cell?_alloc_past _ _ _ (by simp <;> omega), World.cell?_alloc_at _ _ _ _ (by simp)]; rfl)
  have cc10 : ((w.alloc (.cells #[.int .i64 c.k0, .int .i64 c.k1, .int .i64 c.k2, .int .i64 c.a0, .int .i64 c.a1, .int .i64 c.a2, .slice c.ta c.tl c.tc, .int .i64 c.per, .int .i64 c.ret, .int .i64 c.age, .int .i64 c.dead] 25)).alloc (.cells #[.int .i64 v0, .int .i64 v1, .int .i64 v2] 22)).cell? ⟨w.heap.size, 10, none⟩ = some (.int .i64 c.dead) := by first | (simp; done) | (rw [World.cell?_alloc_at _ _ _ _ (by simp)]; rfl) | (rw [World.cell?_alloc_past _ _ _ (by simp <;> omega), World.cell?_alloc_at _ _ _ _ (by simp)]; rfl) | (rw [World.cell?_alloc_past _ _ _ (by simp <;> omega), World.cell?_alloc_past _ _ _ (by simp <;> omega), World.cell?_alloc_at _ _ _ _ (by simp)]; rfl)
  have vv0 : ((w.alloc (.cells #[.int .i64 c.k0, .int .i64 c.k1, .int .i64 c.k2, .int .i64 c.a0, .int .i64 c.a1, .int .i64 c.a2, .slice c.ta c.tl c.tc, .int .i64 c.per, .int .i64 c.ret, .int .i64 c.age, .int .i64 c.dead] 25)).alloc (.cells #[.int .i64 v0, .int .i64 v1, .int .i64 v2] 22)).cell? ⟨w.heap.size + 1, 0, none⟩ = some (.int .i64 v0) := by first | (simp; done) | (rw [World.cell?_alloc_at _ _ _ _ (by simp)]; rfl) | (rw [World.cell?_alloc_past _ _ _ (by simp <;> omega), World.cell?_alloc_at _ _ _ _ (by simp)]; rfl) | (rw [World.cell?_alloc_past _ _ _ (by simp <;> omega), World.cell?_alloc_past _ _ _ (by simp <;> omega), World.cell?_alloc_at _ _ _ _ (by simp)]; rfl)
  have vv1 : ((w.alloc (.cells #[.int .i64 c.k0, .int .i64 c.k1, .int .i64 c.k2, .int .i64 c.a0, .int .i64 c.a1, .int .i64 c.a2, .slice c.ta c.tl c.tc, .int .i64 c.per, .int .i64 c.ret, .int .i64 c.age, .int .i64 c.dead] 25)).alloc (.cells #[.int .i64 v0, .int .i64 v1, .int .i64 v2] 22)).cell? ⟨w.heap.size + 1, 1, none⟩ = some (.int .i64 v1) := by first | (simp; done) | (rw [World.cell?_alloc_at _ _ _ _ (by simp)]; rfl) | (rw [World.cell?_alloc_past _ _ _ (by simp <;> omega), World.cell?_alloc_at _ _ _ _ (by simp)]; rfl) | (rw [World.cell?_alloc_past _ _ _ (by simp <;> omega), World.cell?_alloc_past _ _ _ (by simp <;> omega), World.cell?_alloc_at _ _ _ _ (by simp)]; rfl)
  have vv2 : ((w.alloc (.cells #[.int .i64 c.k0, .int .i64 c.k1, .int .i64 c.k2, .int .i64 c.a0, .int .i64 c.a1, .int .i64 c.a2, .slice c.ta c.tl c.tc, .int .i64 c.per, .int .i64 c.ret, .int .i64 c.age, .int .i64 c.dead] 25)).alloc (.cells #[.int .i64 v0, .int .i64 v1, .int .i64 v2] 22)).cell? ⟨w.heap.size + 1, 2, none⟩ = some (.int .i64 v2) := by first | (simp; done) | (rw [World.cell?_alloc_at _ _ _ _ (by simp)]; rfl) | (rw [World.cell?_alloc_past _ _ _ (by simp <;> omega), World.cell?_alloc_at _ _ _ _ (by simp)]; rfl) | (rw [World.cell?_alloc_past _ _ _ (by simp <;> omega), World.cell?_alloc_past _ _ _ (by simp <;> omega), World.cell?_alloc_at _ _ _ _ (by simp)]; rfl)
  have hb2 := (by repeat (first | exact hbel | refine belAlloc ?_ _ | refine belDrew ?_ | refine belSet ?_ _ _ (by simp)) : Below w.heap.size w ((w.alloc (.cells #[.int .i64 c.k0, .int .i64 c.k1, .int .i64 c.k2, .int .i64 c.a0, .int .i64 c.a1, .int .i64 c.a2, .slice c.ta c.tl c.tc, .int .i64 c.per, .int .i64 c.ret, .int .i64 c.age, .int .i64 c.dead] 25)).alloc (.cells #[.int .i64 v0, .int .i64 v1, .int .i64 v2] 22)))
  replace hw := belStep hw hb2
  clear hb2 hbel
  generalize (w.alloc (.cells #[.int .i64 c.k0, .int .i64 c.k1, .int .i64 c.k2, .int .i64 c.a0, .int .i64 c.a1, .int .i64 c.a2, .slice c.ta c.tl c.tc, .int .i64 c.per, .int .i64 c.ret, .int .i64 c.age, .int .i64 c.dead] 25)).alloc (.cells #[.int .i64 v0, .int .i64 v1, .int .i64 v2] 22) = W1 at *
  replace cc0 := keep cc0
  replace cc1 := keep cc1
  replace cc2 := keep cc2
  replace cc3 := keep cc3
  replace cc4 := keep cc4
  replace cc5 := keep cc5
  replace cc6 := keep cc6
  replace cc7 := keep cc7
  replace cc8 := keep cc8
  replace cc9 := keep cc9
  replace cc10 := keep cc10
  replace vv0 := keep vv0
  replace vv1 := keep vv1
  replace vv2 := keep vv2
  have hbel : Below W1.heap.size W1 W1 := Below.refl _ _
  skip
  have hs1 : w.heap.size ≤ W1.heap.size := hw.size
  have HCW := Lib.hid (HC.out.later hw)
  have HSW := Lib.hid (HS.out.later hw)
  have HSZ := Lib.hid hs1
  have HW := Lib.hid hw
  clear hs1 HC HS
  go_wp2_with (first | (go_at_call 13; (with_reducible refine (CB.out _ HW.out).mono ?_); rintro e w2 ⟨g, rfl, ho2, hg2, hb2⟩; have HO2 := Lib.hid ho2; have HB2 := Lib.hid hb2; have HG2 := Lib.hid hg2; replace hbel := hb2; clear ho2 hb2 hg2))
  clear hbel hw
  go_loopw [17] (fun i wr => ∃ k : Nat, k ≤ c.tl ∧ i = .int .i64 k ∧ OwnG (Value.int .i64) wr W1.heap.size 3 (.slice (some ⟨g, 0, none⟩) c.tl c.tl) (fillL (stepL c S v0 v1 v2 r) (List.replicate c.tl (-1)) k) ∧ Below W1.heap.size W1 wr) (fun i _ => c.tl - (intOf i).toNat)
  case atStart => exact ⟨0, by omega, rfl, by rw [fillL_zero]; exact HO2.out, HB2.out⟩
  case round =>
    obtain ⟨k, hk, rfl, ho, hbel⟩ := hrel
    have HO := Lib.hid ho
    have HB := Lib.hid hbel
    clear ho
    by_cases hlt : k < c.tl
    · obtain ⟨t, hti, htr, hto, b, off, hta, hbb, x0, x1, x2, x3, x4⟩ := HCW.out.at hlt
      obtain ⟨sb, so, rfl, hsb, hsx⟩ := HSW.out.opened (by omega)
      have s0 := keep (hsx k hlt)
      replace x0 := keep x0
      replace x1 := keep x1
      replace x2 := keep x2
      replace x3 := keep x3
      replace x4 := keep x4
      have hki : (k : Int) < (c.tl : Int) := by omega
      have hlen : c.tl = (fillL (stepL c S v0 v1 v2 r) (List.replicate c.tl (-1)) k).length := by rw [fillL_len _ _ _ HX.out]; simp
      have HLen := Lib.hid hlen
      have hg2 := HG2.out
      clear hlen hsx
      have CM1 := Lib.hid (fun u => CM.out t u htr hto)
      have hu := stepL_get (S := S) (v0 := v0) (v1 := v1) (v2 := v2) (r := r) hti (by rw [HSL.out]; exact hlt)
      simp only [hta] at cc6 CM1 ⊢
      generalize el S k = s at *
      clear hti htr hto
      rcases Bool.eq_false_or_eq_true (met3 c t v0 v1 v2) with hm | hm
      · rw [hm] at CM1 hu
        clear hm
        unfold stepE at hu
        rw [if_pos rfl] at hu
        by_cases hs : s = -1
        · rw [if_pos hs] at hu
          subst hs
          have HU := Lib.hid hu
          clear hu
          go_wp2_with (first | (go_at_call 29; (with_reducible refine (CM1.out _).mono ?_); rintro e w3 ⟨rfl, hb3⟩; have hB3 := belStep (belAlloc (Below.refl wr.heap.size wr) (.cells #[.int .i64 t.sig, .int .i64 t.pct, .int .i64 t.amt, .bool t.soft, .int .i64 t.grace] 47)) hb3; have HO3 := Lib.hid (HO.out.later hB3); have x := HO3.out.cellAt HLen.out (i := k) (x := -1) (by rw [fillL_get _ _ _ HX.out]; simp [hlt]); have fz := HO3.out.frozenAt HLen.out k; have HB3 := Lib.hid (belStep HB.out hB3); replace hbel := HB3.out; clear hb3 hB3))
          go_roundw
          case rel => exact ⟨k + 1, by omega, by push_cast; rfl, by rw [← fillL_set _ _ _ HX.out r HU.out]; exact HO3.out.set HLen.out k r, HB3.out.setCell HG2.out _⟩
          case measure => simp [intOf] <;> omega
        · rw [if_neg hs] at hu
          have hs2 : (s == -1) = false := by simpa using hs
          have HU := Lib.hid hu
          clear hu hs
          go_wp2_with (first | (go_at_call 29; (with_reducible refine (CM1.out _).mono ?_); rintro e w3 ⟨rfl, hb3⟩; have hB3 := belStep (belAlloc (Below.refl wr.heap.size wr) (.cells #[.int .i64 t.sig, .int .i64 t.pct, .int .i64 t.amt, .bool t.soft, .int .i64 t.grace] 47)) hb3; have HO3 := Lib.hid (HO.out.later hB3); have x := HO3.out.cellAt HLen.out (i := k) (x := -1) (by rw [fillL_get _ _ _ HX.out]; simp [hlt]); have fz := HO3.out.frozenAt HLen.out k; have HB3 := Lib.hid (belStep HB.out hB3); replace hbel := HB3.out; clear hb3 hB3))
          go_roundw
          case rel => exact ⟨k + 1, by omega, by push_cast; rfl, by rw [← fillL_set _ _ _ HX.out s HU.out]; have h2 := (HO3.out.set HLen.out k r).set (by rw [List.length_set]; exact HLen.out) k s; rw [List.set_set] at h2; exact h2, (HB3.out.setCell HG2.out _).setCell HG2.out _⟩
          case measure => simp [intOf] <;> omega
      · rw [hm] at CM1 hu
        clear hm
        unfold stepE at hu
        rw [if_neg (by simp)] at hu
        have HU := Lib.hid hu
        clear hu
        go_wp2_with (first | (go_at_call 29; (with_reducible refine (CM1.out _).mono ?_); rintro e w3 ⟨rfl, hb3⟩; have hB3 := belStep (belAlloc (Below.refl wr.heap.size wr) (.cells #[.int .i64 t.sig, .int .i64 t.pct, .int .i64 t.amt, .bool t.soft, .int .i64 t.grace] 47)) hb3; have HO3 := Lib.hid (HO.out.later hB3); have x := HO3.out.cellAt HLen.out (i := k) (x := -1) (by rw [fillL_get _ _ _ HX.out]; simp [hlt]); have fz := HO3.out.frozenAt HLen.out k; have HB3 := Lib.hid (belStep HB.out hB3); replace hbel := HB3.out; clear hb3 hB3))
        go_roundw
        case rel => exact ⟨k + 1, by omega, by push_cast; rfl, by rw [fillL_same _ _ _ HX.out (-1) HU.out (by simp [hlt])]; exact HO3.out, HB3.out⟩
        case measure => simp [intOf] <;> omega
    · obtain rfl : k = c.tl := by omega
      have hki : ¬ (c.tl : Int) < (c.tl : Int) := by omega
      go_wp2
      go_ret
      refine ⟨_, rfl, ?_, Nat.le_trans HSZ.out HG2.out, HW.out.trans (HB.out.mono HSZ.out)⟩
      have := HO.out
      have e := fillL_all _ _ HX.out
      rw [stepL_len (by rw [HSL.out, HCW.out.len]), HCW.out.len] at e
      rw [e] at this
      exact this.mono HSZ.out
set_option maxRecDepth 100000 in
set_option maxHeartbeats 8000000 in
theorem gr_Hold (c : CfgV) (sa : Option Addr) (sc : Nat) (S : List Int) (r : Int) (w : World) (hc : Good c w) (hS : Ints .i64 w sa c.tl sc S) (hr : 0 ≤ r ∧ r ≤ 4611686018427387904) (hSb : ∀ k, k < c.tl → -1 ≤ el S k ∧ el S k ≤ 4611686018427387904) : Calls Try.prog 19 #[.agg #[.int .i64 c.k0, .int .i64 c.k1, .int .i64 c.k2, .int .i64 c.a0, .int .i64 c.a1, .int .i64 c.a2, .slice c.ta c.tl c.tc, .int .i64 c.per, .int .i64 c.ret, .int .i64 c.age, .int .i64 c.dead], .slice sa c.tl sc, .int .i64 r] w fun e w' => ∃ g, e = .returned (.slice (some ⟨g, 0, none⟩) c.tl c.tl) ∧ OwnG Value.bool w' w.heap.size 4 (.slice (some ⟨g, 0, none⟩) c.tl c.tl) (holdL c S r) ∧ w.heap.size ≤ g ∧ Below w.heap.size w w' := by
  have hw : Below w.heap.size w w := Below.refl _ _
  have hbel := hw
  have hfew := hc.few
  obtain ⟨hbd1, hbd2⟩ := hc.bd
  obtain ⟨hsl, hsc1, hsc2⟩ := hS.bounds
  have HSL := Lib.hid hsl
  have HX := Lib.hid (show (holdL c S r).length = (List.replicate c.tl false).length by rw [holdL_len (by rw [hsl, hc.len])]; simp [hc.len])
  have HC := Lib.hid hc
  have HS := Lib.hid hS
  have HSb := Lib.hid hSb
  have HR := Lib.hid hr
  clear hc hS hSb hr
  go_enter Try.func19, Try.ntmps19
  go_upto_region 1 with fail
  have cc0 : (w.alloc (.cells #[.int .i64 c.k0, .int .i64 c.k1, .int .i64 c.k2, .int .i64 c.a0, .int .i64 c.a1, .int .i64 c.a2, .slice c.ta c.tl c.tc, .int .i64 c.per, .int .i64 c.ret, .int .i64 c.age, .int .i64 c.dead] 25)).cell? ⟨w.heap.size, 0, none⟩ = some (.int .i64 c.k0) := by first | (simp; done) | (rw [World.cell?_alloc_at _ _ _ _ (by simp)]; rfl) | (rw [World.cell?_alloc_past _ _ _ (by simp <;> omega), World.cell?_alloc_at _ _ _ _ (by simp)]; rfl) | (rw [World.cell?_alloc_past _ _ _ (by simp <;> omega), World.cell?_alloc_past _ _ _ (by simp <;> omega), World.cell?_alloc_at _ _ _ _ (by simp)]; rfl)
  have cc1 : (w.alloc (.cells #[.int .i64 c.k0, .int .i64 c.k1, .int .i64 c.k2, .int .i64 c.a0, .int .i64 c.a1, .int .i64 c.a2, .slice c.ta c.tl c.tc, .int .i64 c.per, .int .i64 c.ret, .int .i64 c.age, .int .i64 c.dead] 25)).cell? ⟨w.heap.size, 1, none⟩ = some (.int .i64 c.k1) := by first | (simp; done) | (rw [World.cell?_alloc_at _ _ _ _ (by simp)]; rfl) | (rw [World.cell?_alloc_past _ _ _ (by simp <;> omega), World.cell?_alloc_at _ _ _ _ (by simp)]; rfl) | (rw [World.cell?_alloc_past _ _ _ (by simp <;> omega), World.cell?_alloc_past _ _ _ (by simp <;> omega), World.cell?_alloc_at _ _ _ _ (by simp)]; rfl)
  have cc2 : (w.alloc (.cells #[.int .i64 c.k0, .int .i64 c.k1, .int .i64 c.k2, .int .i64 c.a0, .int .i64 c.a1, .int .i64 c.a2, .slice c.ta c.tl c.tc, .int .i64 c.per, .int .i64 c.ret, .int .i64 c.age, .int .i64 c.dead] 25)).cell? ⟨w.heap.size, 2, none⟩ = some (.int .i64 c.k2) := by first | (simp; done) | (rw [World.cell?_alloc_at _ _ _ _ (by simp)]; rfl) | (rw [World.cell?_alloc_past _ _ _ (by simp <;> omega), World.cell?_alloc_at _ _ _ _ (by simp)]; rfl) | (rw [World.cell?_alloc_past _ _ _ (by simp <;> omega), World.cell?_alloc_past _ _ _ (by simp <;> omega), World.cell?_alloc_at _ _ _ _ (by simp)]; rfl)
  have cc3 : (w.alloc (.cells #[.int .i64 c.k0, .int .i64 c.k1, .int .i64 c.k2, .int .i64 c.a0, .int .i64 c.a1, .int .i64 c.a2, .slice c.ta c.tl c.tc, .int .i64 c.per, .int .i64 c.ret, .int .i64 c.age, .int .i64 c.dead] 25)).cell? ⟨w.heap.size, 3, none⟩ = some (.int .i64 c.a0) := by first | (simp; done) | (rw [World.cell?_alloc_at _ _ _ _ (by simp)]; rfl) | (rw [World.cell?_alloc_past _ _ _ (by simp <;> omega), World.cell?_alloc_at _ _ _ _ (by simp)]; rfl) | (rw [World.cell?_alloc_past _ _ _ (by simp <;> omega), World.cell?_alloc_past _ _ _ (by simp <;> omega), World.cell?_alloc_at _ _ _ _ (by simp)]; rfl)
  have cc4 : (w.alloc (.cells #[.int .i64 c.k0, .int .i64 c.k1, .int .i64 c.k2, .int .i64 c.a0, .int .i64 c.a1, .int .i64 c.a2, .slice c.ta c.tl c.tc, .int .i64 c.per, .int .i64 c.ret, .int .i64 c.age, .int .i64 c.dead] 25)).cell? ⟨w.heap.size, 4, none⟩ = some (.int .i64 c.a1) := by first | (simp; done) | (rw [World.cell?_alloc_at _ _ _ _ (by simp)]; rfl) | (rw [World.cell?_alloc_past _ _ _ (by simp <;> omega), World.cell?_alloc_at _ _ _ _ (by simp)]; rfl) | (rw [World.cell?_alloc_past _ _ _ (by simp <;> omega), World.cell?_alloc_past _ _ _ (by simp <;> omega), World.cell?_alloc_at _ _ _ _ (by simp)]; rfl)
  have cc5 : (w.alloc (.cells #[.int .i64 c.k0, .int .i64 c.k1, .int .i64 c.k2, .int .i64 c.a0, .int .i64 c.a1, .int .i64 c.a2, .slice c.ta c.tl c.tc, .int .i64 c.per, .int .i64 c.ret, .int .i64 c.age, .int .i64 c.dead] 25)).cell? ⟨w.heap.size, 5, none⟩ = some (.int .i64 c.a2) := by first | (simp; done) | (rw [World.cell?_alloc_at _ _ _ _ (by simp)]; rfl) | (rw [World.cell?_alloc_past _ _ _ (by simp <;> omega), World.cell?_alloc_at _ _ _ _ (by simp)]; rfl) | (rw [World.cell?_alloc_past _ _ _ (by simp <;> omega), World.cell?_alloc_past _ _ _ (by simp <;> omega), World.cell?_alloc_at _ _ _ _ (by simp)]; rfl)
  have cc6 : (w.alloc (.cells #[.int .i64 c.k0, .int .i64 c.k1, .int .i64 c.k2, .int .i64 c.a0, .int .i64 c.a1, .int .i64 c.a2, .slice c.ta c.tl c.tc, .int .i64 c.per, .int .i64 c.ret, .int .i64 c.age, .int .i64 c.dead] 25)).cell? ⟨w.heap.size, 6, none⟩ = some (.slice c.ta c.tl c.tc) := by first | (simp; done) | (rw [World.cell?_alloc_at _ _ _ _ (by simp)]; rfl) | (rw [World.cell?_alloc_past _ _ _ (by simp <;> omega), World.cell?_alloc_at _ _ _ _ (by simp)]; rfl) | (rw [World.cell?_alloc_past _ _ _ (by simp <;> omega), World.cell?_alloc_past _ _ _ (by simp <;> omega), World.cell?_alloc_at _ _ _ _ (by simp)]; rfl)
  have cc7 : (w.alloc (.cells #[.int .i64 c.k0, .int .i64 c.k1, .int .i64 c.k2, .int .i64 c.a0, .int .i64 c.a1, .int .i64 c.a2, .slice c.ta c.tl c.tc, .int .i64 c.per, .int .i64 c.ret, .int .i64 c.age, .int .i64 c.dead] 25)).cell? ⟨w.heap.size, 7, none⟩ = some (.int .i64 c.per) := by first | (simp; done) | (rw [World.cell?_alloc_at _ _ _ _ (by simp)]; rfl) | (rw [World.cell?_alloc_past _ _ _ (by simp <;> omega), World.cell?_alloc_at _ _ _ _ (by simp)]; rfl) | (rw [World.cell?_alloc_past _ _ _ (by simp <;> omega), World.cell?_alloc_past _ _ _ (by simp <;> omega), World.cell?_alloc_at _ _ _ _ (by simp)]; rfl)
  have cc8 : (w.alloc (.cells #[.int .i64 c.k0, .int .i64 c.k1, .int .i64 c.k2, .int .i64 c.a0, .int .i64 c.a1, .int .i64 c.a2, .slice c.ta c.tl c.tc, .int .i64 c.per, .int .i64 c.ret, .int .i64 c.age, .int .i64 c.dead] 25)).cell? ⟨w.heap.size, 8, none⟩ = some (.int .i64 c.ret) := by first | (simp; done) | (rw [World.cell?_alloc_at _ _ _ _ (by simp)]; rfl) | (rw [World.cell?_alloc_past _ _ _ (by simp <;> omega), World.cell?_alloc_at _ _ _ _ (by simp)]; rfl) | (rw [World.cell?_alloc_past _ _ _ (by simp <;> omega), World.cell?_alloc_past _ _ _ (by simp <;> omega), World.cell?_alloc_at _ _ _ _ (by simp)]; rfl)
  have cc9 : (w.alloc (.cells #[.int .i64 c.k0, .int .i64 c.k1, .int .i64 c.k2, .int .i64 c.a0, .int .i64 c.a1, .int .i64 c.a2, .slice c.ta c.tl c.tc, .int .i64 c.per, .int .i64 c.ret, .int .i64 c.age, .int .i64 c.dead] 25)).cell? ⟨w.heap.size, 9, none⟩ = some (.int .i64 c.age) := by first | (simp; done) | (rw [World.cell?_alloc_at _ _ _ _ (by simp)]; rfl) | (rw [World.cell?_alloc_past _ _ _ (by simp <;> omega), World.cell?_alloc_at _ _ _ _ (by simp)]; rfl) | (rw [World.cell?_alloc_past _ _ _ (by simp <;> omega), World.cell?_alloc_past _ _ _ (by simp <;> omega), World.cell?_alloc_at _ _ _ _ (by simp)]; rfl)
  have cc10 : (w.alloc (.cells #[.int .i64 c.k0, .int .i64 c.k1, .int .i64 c.k2, .int .i64 c.a0, .int .i64 c.a1, .int .i64 c.a2, .slice c.ta c.tl c.tc, .int .i64 c.per, .int .i64 c.ret, .int .i64 c.age, .int .i64 c.dead] 25)).cell? ⟨w.heap.size, 10, none⟩ = some (.int .i64 c.dead) := by first | (simp; done) | (rw [World.cell?_alloc_at _ _ _ _ (by simp)]; rfl) | (rw [World.cell?_alloc_past _ _ _ (by simp <;> omega), World.cell?_alloc_at _ _ _ _ (by simp)]; rfl) | (rw [World.cell?_alloc_past _ _ _ (by simp <;> omega), World.cell?_alloc_past _ _ _ (by simp <;> omega), World.cell?_alloc_at _ _ _ _ (by simp)]; rfl)
  have hb2 := (by repeat (first | exact hbel | refine belAlloc ?_ _ | refine belDrew ?_ | refine belSet ?_ _ _ (by simp)) : Below w.heap.size w (w.alloc (.cells #[.int .i64 c.k0, .int .i64 c.k1, .int .i64 c.k2, .int .i64 c.a0, .int .i64 c.a1, .int .i64 c.a2, .slice c.ta c.tl c.tc, .int .i64 c.per, .int .i64 c.ret, .int .i64 c.age, .int .i64 c.dead] 25)))
  replace hw := belStep hw hb2
  clear hb2 hbel
  generalize w.alloc (.cells #[.int .i64 c.k0, .int .i64 c.k1, .int .i64 c.k2, .int .i64 c.a0, .int .i64 c.a1, .int .i64 c.a2, .slice c.ta c.tl c.tc, .int .i64 c.per, .int .i64 c.ret, .int .i64 c.age, .int .i64 c.dead] 25) = W1 at *
  replace cc0 := keep cc0
  replace cc1 := keep cc1
  replace cc2 := keep cc2
  replace cc3 := keep cc3
  replace cc4 := keep cc4
  replace cc5 := keep cc5
  replace cc6 := keep cc6
  replace cc7 := keep cc7
  replace cc8 := keep cc8
  replace cc9 := keep cc9
  replace cc10 := keep cc10
  have hbel : Below W1.heap.size W1 W1 := Below.refl _ _
  skip
  have hs1 : w.heap.size ≤ W1.heap.size := hw.size
  have HCW := Lib.hid (HC.out.later hw)
  have HSW := Lib.hid (HS.out.later hw)
  have HSZ := Lib.hid hs1
  have HW := Lib.hid hw
  clear hs1 HC HS
  go_wp2_with (first | (at_make; refine wpList_make_g rfl _ _ 33 rfl 4 false 1 Try.underlying33 info_bool rfl c.tl rfl rfl (by omega) (by unfold maxLen; omega) ?_; intro w2 ho2 hb2; have HO2 := Lib.hid ho2; have HB2 := Lib.hid hb2; replace hbel := hb2; clear ho2 hb2))
  clear hbel hw
  go_loopw [17] (fun i wr => ∃ k : Nat, k ≤ c.tl ∧ i = .int .i64 k ∧ OwnG Value.bool wr W1.heap.size 4 (.slice (some ⟨W1.heap.size, 0, none⟩) c.tl c.tl) (fillL (holdL c S r) (List.replicate c.tl false) k) ∧ Below W1.heap.size W1 wr) (fun i _ => c.tl - (intOf i).toNat)
  case atStart => exact ⟨0, by omega, rfl, by rw [fillL_zero]; exact HO2.out, HB2.out⟩
  case round =>
    obtain ⟨k, hk, rfl, ho, hbel⟩ := hrel
    have HO := Lib.hid ho
    have HB := Lib.hid hbel
    clear ho
    by_cases hlt : k < c.tl
    · obtain ⟨t, hti, htr, hto, b, off, hta, hbb, x0, x1, x2, x3, x4⟩ := (HCW.out.later HB.out).at hlt
      obtain ⟨sb, so, rfl, hsb, hsx⟩ := (HSW.out.later HB.out).opened (by omega)
      have s0 := hsx k hlt
      have hki : (k : Int) < (c.tl : Int) := by omega
      have hlen : c.tl = (fillL (holdL c S r) (List.replicate c.tl false) k).length := by rw [fillL_len _ _ _ HX.out]; simp
      have HLen := Lib.hid hlen
      clear hlen hsx
      have hu := holdL_get (S := S) (r := r) hti (by rw [HSL.out]; exact hlt)
      have hsb2 := HSb.out k hlt
      have hgr := (ThrV.facts htr).2.2
      have y0 := HO.out.cellAt HLen.out (i := k) (x := false) (by rw [fillL_get _ _ _ HX.out]; simp [hlt])
      have yf := HO.out.frozenAt HLen.out k
      have hyl : W1.heap.size < wr.heap.size := World.block_lt_of_cell? _ _ y0
      simp only [hta] at cc6 ⊢
      generalize el S k = s at *
      obtain ⟨tg, tp, tm, ts, tgr⟩ := t
      simp only at x0 x1 x2 x3 x4 hgr
      clear hti htr hto
      have hbel : Below wr.heap.size wr wr := Below.refl _ _
      have hw : Below wr.heap.size wr wr := Below.refl _ _
      replace x0 := keep x0
      replace x1 := keep x1
      replace x2 := keep x2
      replace x3 := keep x3
      replace x4 := keep x4
      replace s0 := keep s0
      replace y0 := keep y0
      have y1 : ∀ u, Below wr.heap.size wr u → u.frozen? ⟨W1.heap.size, k, none⟩ = false := fun u hu => (Below.frozens hu _ _ hyl).trans yf
      unfold holdE at hu
      by_cases hs : s = -1
      · rw [if_pos hs] at hu
        subst hs
        have HU := Lib.hid hu
        clear hu
        go_upto_region 5 with fail
        go_wp2
        go_roundw
        case rel => exact ⟨k + 1, by omega, by push_cast; rfl, by rw [fillL_same _ _ _ HX.out false HU.out (by simp [hlt])]; exact HO.out.alloc _, HB.out.alloc HB.out.size _⟩
        case measure => simp [intOf] <;> omega
      · rw [if_neg hs] at hu
        have hs2 : (s == -1) = false := by simpa using hs
        clear hs
        rcases hgr with ⟨rfl, g1, g2⟩ | ⟨rfl, g1⟩
        · have hwr : wrap64 (r - s) = r - s := by have := HR.out; unfold wrap64; omega
          simp only [Bool.not_true, Bool.false_or] at hu
          by_cases hd : tgr ≤ r - s
          · rw [decide_eq_true hd] at hu
            have HU := Lib.hid hu
            clear hu hsb2 g1 g2
            go_upto_region 5 with fail
            have tt0 : (wr.alloc (.cells #[.int .i64 tg, .int .i64 tp, .int .i64 tm, .bool true, .int .i64 tgr] 47)).cell? ⟨wr.heap.size, 0, none⟩ = some (.int .i64 tg) := by first | (simp; done) | (rw [World.cell?_alloc_at _ _ _ _ (by simp)]; rfl) | (rw [World.cell?_alloc_past _ _ _ (by simp <;> omega), World.cell?_alloc_at _ _ _ _ (by simp)]; rfl) | (rw [World.cell?_alloc_past _ _ _ (by simp <;> omega), World.cell?_alloc_past _ _ _ (by simp <;> omega), World.cell?_alloc_at _ _ _ _ (by simp)]; rfl)
            have tt1 : (wr.alloc (.cells #[.int .i64 tg, .int .i64 tp, .int .i64 tm, .bool true, .int .i64 tgr] 47)).cell? ⟨wr.heap.size, 1, none⟩ = some (.int .i64 tp) := by first | (simp; done) | (rw [World.cell?_alloc_at _ _ _ _ (by simp)]; rfl) | (rw [World.cell?_alloc_past _ _ _ (by simp <;> omega), World.cell?_alloc_at _ _ _ _ (by simp)]; rfl) | (rw [World.cell?_alloc_past _ _ _ (by simp <;> omega), World.cell?_alloc_past _ _ _ (by simp <;> omega), World.cell?_alloc_at _ _ _ _ (by simp)]; rfl)
            have tt2 : (wr.alloc (.cells #[.int .i64 tg, .int .i64 tp, .int .i64 tm, .bool true, .int .i64 tgr] 47)).cell? ⟨wr.heap.size, 2, none⟩ = some (.int .i64 tm) := by first | (simp; done) | (rw [World.cell?_alloc_at _ _ _ _ (by simp)]; rfl) | (rw [World.cell?_alloc_past _ _ _ (by simp <;> omega), World.cell?_alloc_at _ _ _ _ (by simp)]; rfl) | (rw [World.cell?_alloc_past _ _ _ (by simp <;> omega), World.cell?_alloc_past _ _ _ (by simp <;> omega), World.cell?_alloc_at _ _ _ _ (by simp)]; rfl)
            have tt3 : (wr.alloc (.cells #[.int .i64 tg, .int .i64 tp, .int .i64 tm, .bool true, .int .i64 tgr] 47)).cell? ⟨wr.heap.size, 3, none⟩ = some (.bool true) := by first | (simp; done) | (rw [World.cell?_alloc_at _ _ _ _ (by simp)]; rfl) | (rw [World.cell?_alloc_past _ _ _ (by simp <;> omega), World.cell?_alloc_at _ _ _ _ (by simp)]; rfl) | (rw [World.cell?_alloc_past _ _ _ (by simp <;> omega), World.cell?_alloc_past _ _ _ (by simp <;> omega), World.cell?_alloc_at _ _ _ _ (by simp)]; rfl)
            have tt4 : (wr.alloc (.cells #[.int .i64 tg, .int .i64 tp, .int .i64 tm, .bool true, .int .i64 tgr] 47)).cell? ⟨wr.heap.size, 4, none⟩ = some (.int .i64 tgr) := by first | (simp; done) | (rw [World.cell?_alloc_at _ _ _ _ (by simp)]; rfl) | (rw [World.cell?_alloc_past _ _ _ (by simp <;> omega), World.cell?_alloc_at _ _ _ _ (by simp)]; rfl) | (rw [World.cell?_alloc_past _ _ _ (by simp <;> omega), World.cell?_alloc_past _ _ _ (by simp <;> omega), World.cell?_alloc_at _ _ _ _ (by simp)]; rfl)
            have hb2 := (by repeat (first | exact hbel | refine belAlloc ?_ _ | refine belDrew ?_ | refine belSet ?_ _ _ (by simp)) : Below wr.heap.size wr (wr.alloc (.cells #[.int .i64 tg, .int .i64 tp, .int .i64 tm, .bool true, .int .i64 tgr] 47)))
            replace s0 := keepOnP s0 hb2
            replace y0 := keepOnP y0 hb2
            replace y1 := keepOnP y1 hb2
            replace hw := belStep hw hb2
            clear hb2 hbel
            generalize wr.alloc (.cells #[.int .i64 tg, .int .i64 tp, .int .i64 tm, .bool true, .int .i64 tgr] 47) = W3 at *
            replace tt0 := keep tt0
            replace tt1 := keep tt1
            replace tt2 := keep tt2
            replace tt3 := keep tt3
            replace tt4 := keep tt4
            have hbel : Below W3.heap.size W3 W3 := Below.refl _ _
            skip
            go_upto_region 6 with fail
            have kk := fun d os => belStep hbel (below_regrown _ d os)
            refine wp_region_below_tail 17 (by kernel_rfl) (by kernel_rfl) ?_
            simp only [List.take_succ_cons, List.take_zero, List.drop_succ_cons, List.drop_zero]
            repeat ((with_reducible refine wpQuiet_step (fun K hK => ?_)); go_simp; (try (rw [if_neg]; rotate_left; · decide)); first | ((with_reducible refine hK _ ?_); clear hK K) | (apply Exists.intro; refine ⟨fun _ => ?_, hK _ ?_⟩; (fail); clear hK K))
            refine wpQuiet_nil (fun w1 hw1 => ?_)
            replace hbel := belStep hbel (bel_of_class hw1)
            clear hw1 kk
            go_wp2
            go_roundw
            case rel => exact ⟨k + 1, by omega, by push_cast; rfl, by rw [← fillL_set _ _ _ HX.out true HU.out]; exact (HO.out.later (belStep hw hbel)).set HLen.out k true, (HB.out.trans ((belStep hw hbel).mono HB.out.size)).setCell (Nat.le_refl _) _⟩
            case measure => simp [intOf] <;> omega
          · rw [decide_eq_false hd] at hu
            have HU := Lib.hid hu
            clear hu hsb2 g1 g2
            go_upto_region 5 with fail
            have tt0 : (wr.alloc (.cells #[.int .i64 tg, .int .i64 tp, .int .i64 tm, .bool true, .int .i64 tgr] 47)).cell? ⟨wr.heap.size, 0, none⟩ = some (.int .i64 tg) := by first | (simp; done) | (rw [World.cell?_alloc_at _ _ _ _ (by simp)]; rfl) | (rw [World.cell?_alloc_past _ _ _ (by simp <;> omega), World.cell?_alloc_at _ _ _ _ (by simp)]; rfl) | (rw [World.cell?_alloc_past _ _ _ (by simp <;> omega), World.cell?_alloc_past _ _ _ (by simp <;> omega), World.cell?_alloc_at _ _ _ _ (by simp)]; rfl)
            have tt1 : (wr.alloc (.cells #[.int .i64 tg, .int .i64 tp, .int .i64 tm, .bool true, .int .i64 tgr] 47)).cell? ⟨wr.heap.size, 1, none⟩ = some (.int .i64 tp) := by first | (simp; done) | (rw [World.cell?_alloc_at _ _ _ _ (by simp)]; rfl) | (rw [World.cell?_alloc_past _ _ _ (by simp <;> omega), World.cell?_alloc_at _ _ _ _ (by simp)]; rfl) | (rw [World.cell?_alloc_past _ _ _ (by simp <;> omega), World.cell?_alloc_past _ _ _ (by simp <;> omega), World.cell?_alloc_at _ _ _ _ (by simp)]; rfl)
            have tt2 : (wr.alloc (.cells #[.int .i64 tg, .int .i64 tp, .int .i64 tm, .bool true, .int .i64 tgr] 47)).cell? ⟨wr.heap.size, 2, none⟩ = some (.int .i64 tm) := by first | (simp; done) | (rw [World.cell?_alloc_at _ _ _ _ (by simp)]; rfl) | (rw [World.cell?_alloc_past _ _ _ (by simp <;> omega), World.cell?_alloc_at _ _ _ _ (by simp)]; rfl) | (rw [World.cell?_alloc_past _ _ _ (by simp <;> omega), World.cell?_alloc_past _ _ _ (by simp <;> omega), World.cell?_alloc_at _ _ _ _ (by simp)]; rfl)
            have tt3 : (wr.alloc (.cells #[.int .i64 tg, .int .i64 tp, .int .i64 tm, .bool true, .int .i64 tgr] 47)).cell? ⟨wr.heap.size, 3, none⟩ = some (.bool true) := by first | (simp; done) | (rw [World.cell?_alloc_at _ _ _ _ (by simp)]; rfl) | (rw [World.cell?_alloc_past _ _ _ (by simp <;> omega), World.cell?_alloc_at _ _ _ _ (by simp)]; rfl) | (rw [World.cell?_alloc_past _ _ _ (by simp <;> omega), World.cell?_alloc_past _ _ _ (by simp <;> omega), World.cell?_alloc_at _ _ _ _ (by simp)]; rfl)
            have tt4 : (wr.alloc (.cells #[.int .i64 tg, .int .i64 tp, .int .i64 tm, .bool true, .int .i64 tgr] 47)).cell? ⟨wr.heap.size, 4, none⟩ = some (.int .i64 tgr) := by first | (simp; done) | (rw [World.cell?_alloc_at _ _ _ _ (by simp)]; rfl) | (rw [World.cell?_alloc_past _ _ _ (by simp <;> omega), World.cell?_alloc_at _ _ _ _ (by simp)]; rfl) | (rw [World.cell?_alloc_past _ _ _ (by simp <;> omega), World.cell?_alloc_past _ _ _ (by simp <;> omega), World.cell?_alloc_at _ _ _ _ (by simp)]; rfl)
            have hb2 := (by repeat (first | exact hbel | refine belAlloc ?_ _ | refine belDrew ?_ | refine belSet ?_ _ _ (by simp)) : Below wr.heap.size wr (wr.alloc (.cells #[.int .i64 tg, .int .i64 tp, .int .i64 tm, .bool true, .int .i64 tgr] 47)))
            replace s0 := keepOnP s0 hb2
            replace y0 := keepOnP y0 hb2
            replace y1 := keepOnP y1 hb2
            replace hw := belStep hw hb2
            clear hb2 hbel
            generalize wr.alloc (.cells #[.int .i64 tg, .int .i64 tp, .int .i64 tm, .bool true, .int .i64 tgr] 47) = W3 at *
            replace tt0 := keep tt0
            replace tt1 := keep tt1
            replace tt2 := keep tt2
            replace tt3 := keep tt3
            replace tt4 := keep tt4
            have hbel : Below W3.heap.size W3 W3 := Below.refl _ _
            skip
            go_upto_region 6 with fail
            have kk := fun d os => belStep hbel (below_regrown _ d os)
            refine wp_region_below_tail 17 (by kernel_rfl) (by kernel_rfl) ?_
            simp only [List.take_succ_cons, List.take_zero, List.drop_succ_cons, List.drop_zero]
            repeat ((with_reducible refine wpQuiet_step (fun K hK => ?_)); go_simp; (try (rw [if_neg]; rotate_left; · decide)); first | ((with_reducible refine hK _ ?_); clear hK K) | (apply Exists.intro; refine ⟨fun _ => ?_, hK _ ?_⟩; (fail); clear hK K))
            refine wpQuiet_nil (fun w1 hw1 => ?_)
            replace hbel := belStep hbel (bel_of_class hw1)
            clear hw1 kk
            go_wp2
            go_roundw
            case rel => exact ⟨k + 1, by omega, by push_cast; rfl, by rw [← fillL_set _ _ _ HX.out false HU.out]; exact (HO.out.later (belStep hw hbel)).set HLen.out k false, (HB.out.trans ((belStep hw hbel).mono HB.out.size)).setCell (Nat.le_refl _) _⟩
            case measure => simp [intOf] <;> omega
        · simp only [Bool.not_false, Bool.true_or] at hu
          have HU := Lib.hid hu
          clear hu hsb2 g1
          go_upto_region 5 with fail
          have tt0 : (wr.alloc (.cells #[.int .i64 tg, .int .i64 tp, .int .i64 tm, .bool false, .int .i64 tgr] 47)).cell? ⟨wr.heap.size, 0, none⟩ = some (.int .i64 tg) := by first | (simp; done) | (rw [World.cell?_alloc_at _ _ _ _ (by simp)]; rfl) | (rw [World.cell?_alloc_past _ _ _ (by simp <;> omega), World.cell?_alloc_at _ _ _ _ (by simp)]; rfl) | (rw [World.cell?_alloc_past _ _ _ (by simp <;> omega), World.cell?_alloc_past _ _ _ (by simp <;> omega), World.cell?_alloc_at _ _ _ _ (by simp)]; rfl)
          have tt1 : (wr.alloc (.cells #[.int .i64 tg, .int .i64 tp, .int .i64 tm, .bool false, .int .i64 tgr] 47)).cell? ⟨wr.heap.size, 1, none⟩ = some (.int .i64 tp) := by first | (simp; done) | (rw [World.cell?_alloc_at _ _ _ _ (by simp)]; rfl) | (rw [World.cell?_alloc_past _ _ _ (by simp <;> omega), World.cell?_alloc_at _ _ _ _ (by simp)]; rfl) | (rw [World.cell?_alloc_past _ _ _ (by simp <;> omega), World.cell?_alloc_past _ _ _ (by simp <;> omega), World.cell?_alloc_at _ _ _ _ (by simp)]; rfl)
          have tt2 : (wr.alloc (.cells #[.int .i64 tg, .int .i64 tp, .int .i64 tm, .bool false, .int .i64 tgr] 47)).cell? ⟨wr.heap.size, 2, none⟩ = some (.int .i64 tm) := by first | (simp; done) | (rw [World.cell?_alloc_at _ _ _ _ (by simp)]; rfl) | (rw [World.cell?_alloc_past _ _ _ (by simp <;> omega), World.cell?_alloc_at _ _ _ _ (by simp)]; rfl) | (rw [World.cell?_alloc_past _ _ _ (by simp <;> omega), World.cell?_alloc_past _ _ _ (by simp <;> omega), World.cell?_alloc_at _ _ _ _ (by simp)]; rfl)
          have tt3 : (wr.alloc (.cells #[.int .i64 tg, .int .i64 tp, .int .i64 tm, .bool false, .int .i64 tgr] 47)).cell? ⟨wr.heap.size, 3, none⟩ = some (.bool false) := by first | (simp; done) | (rw [World.cell?_alloc_at _ _ _ _ (by simp)]; rfl) | (rw [World.cell?_alloc_past _ _ _ (by simp <;> omega), World.cell?_alloc_at _ _ _ _ (by simp)]; rfl) | (rw [World.cell?_alloc_past _ _ _ (by simp <;> omega), World.cell?_alloc_past _ _ _ (by simp <;> omega), World.cell?_alloc_at _ _ _ _ (by simp)]; rfl)
          have tt4 : (wr.alloc (.cells #[.int .i64 tg, .int .i64 tp, .int .i64 tm, .bool false, .int .i64 tgr] 47)).cell? ⟨wr.heap.size, 4, none⟩ = some (.int .i64 tgr) := by first | (simp; done) | (rw [World.cell?_alloc_at _ _ _ _ (by simp)]; rfl) | (rw [World.cell?_alloc_past _ _ _ (by simp <;> omega), World.cell?_alloc_at _ _ _ _ (by simp)]; rfl) | (rw [World.cell?_alloc_past _ _ _ (by simp <;> omega), World.cell?_alloc_past _ _ _ (by simp <;> omega), World.cell?_alloc_at _ _ _ _ (by simp)]; rfl)
          have hb2 := (by repeat (first | exact hbel | refine belAlloc ?_ _ | refine belDrew ?_ | refine belSet ?_ _ _ (by simp)) : Below wr.heap.size wr (wr.alloc (.cells #[.int .i64 tg, .int .i64 tp, .int .i64 tm, .bool false, .int .i64 tgr] 47)))
          replace s0 := keepOnP s0 hb2
          replace y0 := keepOnP y0 hb2
          replace y1 := keepOnP y1 hb2
          replace hw := belStep hw hb2
          clear hb2 hbel
          generalize wr.alloc (.cells #[.int .i64 tg, .int .i64 tp, .int .i64 tm, .bool false, .int .i64 tgr] 47) = W3 at *
          replace tt0 := keep tt0
          replace tt1 := keep tt1
          replace tt2 := keep tt2
          replace tt3 := keep tt3
          replace tt4 := keep tt4
          have hbel : Below W3.heap.size W3 W3 := Below.refl _ _
          skip
          go_upto_region 6 with fail
          have kk := fun d os => belStep hbel (below_regrown _ d os)
          refine wp_region_below_tail 17 (by kernel_rfl) (by kernel_rfl) ?_
          simp only [List.take_succ_cons, List.take_zero, List.drop_succ_cons, List.drop_zero]
          repeat ((with_reducible refine wpQuiet_step (fun K hK => ?_)); go_simp; (try (rw [if_neg]; rotate_left; · decide)); first | ((with_reducible refine hK _ ?_); clear hK K) | (apply Exists.intro; refine ⟨fun _ => ?_, hK _ ?_⟩; (fail); clear hK K))
          refine wpQuiet_nil (fun w1 hw1 => ?_)
          replace hbel := belStep hbel (bel_of_class hw1)
          clear hw1 kk
          go_wp2
          go_roundw
          case rel => exact ⟨k + 1, by omega, by push_cast; rfl, by rw [← fillL_set _ _ _ HX.out true HU.out]; exact (HO.out.later (belStep hw hbel)).set HLen.out k true, (HB.out.trans ((belStep hw hbel).mono HB.out.size)).setCell (Nat.le_refl _) _⟩
          case measure => simp [intOf] <;> omega
    · obtain rfl : k = c.tl := by omega
      have hki : ¬ (c.tl : Int) < (c.tl : Int) := by omega
      go_wp2
      go_ret
      refine ⟨_, rfl, ?_, HSZ.out, HW.out.trans (HB.out.mono HSZ.out)⟩
      have := HO.out
      have e := fillL_all _ _ HX.out
      rw [holdL_len (by rw [HSL.out, HCW.out.len]), HCW.out.len] at e
      rw [e] at this
      exact this.mono HSZ.out
end Go.Proofs.Ytbancemkajgljaa
