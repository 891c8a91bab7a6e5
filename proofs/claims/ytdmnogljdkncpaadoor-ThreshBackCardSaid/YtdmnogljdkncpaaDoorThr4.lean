
/- thresh.Met, Edge, Right, Print: contracts; two thresholds, held against one another. -/
import Derived.Test.YtdmnogljdkncpaaDoorThr2
import Derived.Test.YtdmnogljdkncpaaDoorWide
namespace Go.Proofs.YtdmnogljdkncpaaDoor
open Go.RowKit
set_option linter.unusedVariables false
set_option linter.unusedSimpArgs false

def ThrV.ok (t : ThrV) : Prop := InI t.sig ∧ InI t.pct ∧ InI t.amt ∧ InI t.grace
def metF (t : ThrV) (c a : Int) : Bool := if 0 < t.pct then decide (satNum a * 100 < satNum c * satNum t.pct) else decide (a < t.amt)
def edgeF (t : ThrV) (c : Int) : Int := if 0 < t.pct then shareI c t.pct else t.amt
set_option maxRecDepth 100000 in
set_option maxHeartbeats 2000000 in
theorem thr_Met (t : ThrV) (c a : Int) (w : World) (ht : t.ok) (hc : InI c) (ha : InI a) : Calls Tryd.prog 11 #[.agg #[.int .i64 t.sig, .int .i64 t.pct, .int .i64 t.amt, .bool t.soft, .int .i64 t.grace], .int .i64 c, .int .i64 a] w fun e w' => e = .returned (.bool (metF t c a)) ∧ Below w.heap.size w w' := by
  have hw : Below w.heap.size w w := Below.refl _ _
  have hbel := hw
  obtain ⟨_, hp, _, _⟩ := ht
  have CB := Lib.hid (fun v => wide_Below a c t.pct v ha hc hp)
  by_cases h0 : 0 < t.pct
  · have HM := Lib.hid (show metF t c a = decide (satNum a * 100 < satNum c * satNum t.pct) by unfold metF; rw [if_pos h0])
    generalize decide (satNum a * 100 < satNum c * satNum t.pct) = b at *
    go_enter Tryd.func11, Tryd.ntmps11
    go_upto_region 1 with fail
    have tt0 : (w.alloc (.cells #[.int .i64 t.sig, .int .i64 t.pct, .int .i64 t.amt, .bool t.soft, .int .i64 t.grace] 23)).cell? ⟨w.heap.size, 0, none⟩ = some (.int .i64 t.sig) := by first | (simp; done) | (rw [World.cell?_alloc_at _ _ _ _ (by simp)]; rfl) | (rw [World.cell?_alloc_past _ _ _ (by simp <;> omega), World.cell?_alloc_at _ _ _ _ (by simp)]; rfl) | (rw [World.cell?_alloc_past _ _ _ (by simp <;> omega), World.cell?_alloc_past _ _ _ (by simp <;> omega), World.cell?_alloc_at _ _ _ _ (by simp)]; rfl)
    have tt1 : (w.alloc (.cells #[.int .i64 t.sig, .int .i64 t.pct, .int .i64 t.amt, .bool t.soft, .int .i64 t.grace] 23)).cell? ⟨w.heap.size, 1, none⟩ = some (.int .i64 t.pct) := by first | (simp; done) | (rw [World.cell?_alloc_at _ _ _ _ (by simp)]; rfl) | (rw [World.cell?_alloc_past _ _ _ (by simp <;> omega), World.cell?_alloc_at _ _ _ _ (by simp)]; rfl) | (rw [World.cell?_alloc_past _ _ _ (by simp <;> omega), World.cell?_alloc_past _ _ _ (by simp <;> omega), World.cell?_alloc_at _ _ _ _ (by simp)]; rfl)
    have tt2 : (w.alloc (.cells #[.int .i64 t.sig, .int .i64 t.pct, .int .i64 t.amt, .bool t.soft, .int .i64 t.grace] 23)).cell? ⟨w.heap.size, 2, none⟩ = some (.int .i64 t.amt) := by first | (simp; done) | (rw [World.cell?_alloc_at _ _ _ _ (by simp)]; rfl) | (rw [World.cell?_alloc_past _ _ _ (by simp <;> omega), World.cell?_alloc_at _ _ _ _ (by simp)]; rfl) | (rw [World.cell?_alloc_past _ _ _ (by simp <;> omega), World.cell?_alloc_past _ _ _ (by simp <;> omega), World.cell?_alloc_at _ _ _ _ (by simp)]; rfl)
    have tt3 : (w.alloc (.cells #[.int .i64 t.sig, .int .i64 t.pct, .int .i64 t.amt, .bool t.soft, .int .i64 t.grace] 23)).cell? ⟨w.heap.size, 3, none⟩ = some (.bool t.soft) := by first | (simp; done) | (rw [World.cell?_alloc_at _ _ _ _ (by simp)]; rfl) | (rw [World.cell?_alloc_past _ _ _ (by simp <;> omega), World.cell?_alloc_at _ _ _ _ (by simp)]; rfl) | (rw [World.cell?_alloc_past _ _ _ (by simp <;> omega), World.cell?_alloc_past _ _ _ (by simp <;> omega), World.cell?_alloc_at _ _ _ _ (by simp)]; rfl)
    have tt4 : (w.alloc (.cells #[.int .i64 t.sig, .int .i64 t.pct, .int .i64 t.amt, .bool t.soft, .int .i64 t.grace] 23)).cell? ⟨w.heap.size, 4, none⟩ = some (.int .i64 t.grace) := by first | (simp; done) | (rw [World.cell?_alloc_at _ _ _ _ (by simp)]; rfl) | (rw [World.cell?_alloc_past _ _ _ (by simp <;> omega), World.cell?_alloc_at _ _ _ _ (by simp)]; rfl) | (rw [World.cell?_alloc_past _ _ _ (by simp <;> omega), World.cell?_alloc_past _ _ _ (by simp <;> omega), World.cell?_alloc_at _ _ _ _ (by simp)]; rfl)
    have hb2 := (by repeat (first | exact hbel | refine belAlloc ?_ _ | refine belDrew ?_ | refine belSet ?_ _ _ (by simp)) : Below w.heap.size w (w.alloc (.cells #[.int .i64 t.sig, .int .i64 t.pct, .int .i64 t.amt, .bool t.soft, .int .i64 t.grace] 23)))
    replace hw := belStep hw hb2
    clear hb2 hbel
    generalize w.alloc (.cells #[.int .i64 t.sig, .int .i64 t.pct, .int .i64 t.amt, .bool t.soft, .int .i64 t.grace] 23) = W1 at *
    replace tt0 := keep tt0
    replace tt1 := keep tt1
    replace tt2 := keep tt2
    replace tt3 := keep tt3
    replace tt4 := keep tt4
    have hbel : Below W1.heap.size W1 W1 := Below.refl _ _
    skip
    go_wp2_with (first | (go_at_call 23; (with_reducible refine (CB.out _).mono ?_); rintro e w1 ⟨rfl, hb1⟩; replace hbel := belStep hbel hb1; clear hb1))
    go_ret
    exact ⟨by rw [HM.out]; rfl, belStep hw hbel⟩
  · have HM := Lib.hid (show metF t c a = decide (a < t.amt) by unfold metF; rw [if_neg h0])
    go_enter Tryd.func11, Tryd.ntmps11
    go_upto_region 1 with fail
    have tt0 : (w.alloc (.cells #[.int .i64 t.sig, .int .i64 t.pct, .int .i64 t.amt, .bool t.soft, .int .i64 t.grace] 23)).cell? ⟨w.heap.size, 0, none⟩ = some (.int .i64 t.sig) := by first | (simp; done) | (rw [World.cell?_alloc_at _ _ _ _ (by simp)]; rfl) | (rw [World.cell?_alloc_past _ _ _ (by simp <;> omega), World.cell?_alloc_at _ _ _ _ (by simp)]; rfl) | (rw [World.cell?_alloc_past _ _ _ (by simp <;> omega), World.cell?_alloc_past _ _ _ (by simp <;> omega), World.cell?_alloc_at _ _ _ _ (by simp)]; rfl)
    have tt1 : (w.alloc (.cells #[.int .i64 t.sig, .int .i64 t.pct, .int .i64 t.amt, .bool t.soft, .int .i64 t.grace] 23)).cell? ⟨w.heap.size, 1, none⟩ = some (.int .i64 t.pct) := by first | (simp; done) | (rw [World.cell?_alloc_at _ _ _ _ (by simp)]; rfl) | (rw [World.cell?_alloc_past _ _ _ (by simp <;> omega), World.cell?_alloc_at _ _ _ _ (by simp)]; rfl) | (rw [World.cell?_alloc_past _ _ _ (by simp <;> omega), World.cell?_alloc_past _ _ _ (by simp <;> omega), World.cell?_alloc_at _ _ _ _ (by simp)]; rfl)
    have tt2 : (w.alloc (.cells #[.int .i64 t.sig, .int .i64 t.pct, .int .i64 t.amt, .bool t.soft, .int .i64 t.grace] 23)).cell? ⟨w.heap.size, 2, none⟩ = some (.int .i64 t.amt) := by first | (simp; done) | (rw [World.cell?_alloc_at _ _ _ _ (by simp)]; rfl) | (rw [World.cell?_alloc_past _ _ _ (by simp <;> omega), World.cell?_alloc_at _ _ _ _ (by simp)]; rfl) | (rw [World.cell?_alloc_past _ _ _ (by simp <;> omega), World.cell?_alloc_past _ _ _ (by simp <;> omega), World.cell?_alloc_at _ _ _ _ (by simp)]; rfl)
    have tt3 : (w.alloc (.cells #[.int .i64 t.sig, .int .i64 t.pct, .int .i64 t.amt, .bool t.soft, .int .i64 t.grace] 23)).cell? ⟨w.heap.size, 3, none⟩ = some (.bool t.soft) := by first | (simp; done) | (rw [World.cell?_alloc_at _ _ _ _ (by simp)]; rfl) | (rw [World.cell?_alloc_past _ _ _ (by simp <;> omega), World.cell?_alloc_at _ _ _ _ (by simp)]; rfl) | (rw [World.cell?_alloc_past _ _ _ (by simp <;> omega), World.cell?_alloc_past _ _ _ (by simp <;> omega), World.cell?_alloc_at _ _ _ _ (by simp)]; rfl)
    have tt4 : (w.alloc (.cells #[.int .i64 t.sig, .int .i64 t.pct, .int .i64 t.amt, .bool t.soft, .int .i64 t.grace] 23)).cell? ⟨w.heap.size, 4, none⟩ = some (.int .i64 t.grace) := by first | (simp; done) | (rw [World.cell?_alloc_at _ _ _ _ (by simp)]; rfl) | (rw [World.cell?_alloc_past _ _ _ (by simp <;> omega), World.cell?_alloc_at _ _ _ _ (by simp)]; rfl) | (rw [World.cell?_alloc_past _ _ _ (by simp <;> omega), World.cell?_alloc_past _ _ _ (by simp <;> omega), World.cell?_alloc_at _ _ _ _ (by simp)]; rfl)
    have hb2 := (by repeat (first | exact hbel | refine belAlloc ?_ _ | refine belDrew ?_ | refine belSet ?_ _ _ (by simp)) : Below w.heap.size w (w.alloc (.cells #[.int .i64 t.sig, .int .i64 t.pct, .int .i64 t.amt, .bool t.soft, .int .i64 t.grace] 23)))
    replace hw := belStep hw hb2
    clear hb2 hbel
    generalize w.alloc (.cells #[.int .i64 t.sig, .int .i64 t.pct, .int .i64 t.amt, .bool t.soft, .int .i64 t.grace] 23) = W1 at *
    replace tt0 := keep tt0
    replace tt1 := keep tt1
    replace tt2 := keep tt2
    replace tt3 := keep tt3
    replace tt4 := keep tt4
    have hbel : Below W1.heap.size W1 W1 := Below.refl _ _
    skip
    go_wp2
    go_ret
    exact ⟨by rw [HM.out]; rfl, belStep hw hbel⟩
set_option maxRecDepth 100000 in
set_option maxHeartbeats 2000000 in
theorem thr_Edge (t : ThrV) (c : Int) (w : World) (ht : t.ok) (hc : InI c) : Calls Tryd.prog 12 #[.agg #[.int .i64 t.sig, .int .i64 t.pct, .int .i64 t.amt, .bool t.soft, .int .i64 t.grace], .int .i64 c] w fun e w' => e = .returned (.int .i64 (edgeF t c)) ∧ Below w.heap.size w w' := by
  have hw : Below w.heap.size w w := Below.refl _ _
  have hbel := hw
  obtain ⟨_, hp, _, _⟩ := ht
  have CB := Lib.hid (fun v => wide_Share c t.pct v hc hp)
  by_cases h0 : 0 < t.pct
  · have HM := Lib.hid (show edgeF t c = shareI c t.pct by unfold edgeF; rw [if_pos h0])
    generalize shareI c t.pct = b at *
    go_enter Tryd.func12, Tryd.ntmps12
    go_upto_region 1 with fail
    have tt0 : (w.alloc (.cells #[.int .i64 t.sig, .int .i64 t.pct, .int .i64 t.amt, .bool t.soft, .int .i64 t.grace] 23)).cell? ⟨w.heap.size, 0, none⟩ = some (.int .i64 t.sig) := by first | (simp; done) | (rw [World.cell?_alloc_at _ _ _ _ (by simp)]; rfl) | (rw [World.cell?_alloc_past _ _ _ (by simp <;> omega), World.cell?_alloc_at _ _ _ _ (by simp)]; rfl) | (rw [World.cell?_alloc_past _ _ _ (by simp <;> omega), World.cell?_alloc_past _ _ _ (by simp <;> omega), World.cell?_alloc_at _ _ _ _ (by simp)]; rfl)
    have tt1 : (w.alloc (.cells #[.int .i64 t.sig, .int .i64 t.pct, .int .i64 t.amt, .bool t.soft, .int .i64 t.grace] 23)).cell? ⟨w.heap.size, 1, none⟩ = some (.int .i64 t.pct) := by first | (simp; done) | (rw [World.cell?_alloc_at _ _ _ _ (by simp)]; rfl) | (rw [World.cell?_alloc_past _ _ _ (by simp <;> omega), World.cell?_alloc_at _ _ _ _ (by simp)]; rfl) | (rw [World.cell?_alloc_past _ _ _ (by simp <;> omega), World.cell?_alloc_past _ _ _ (by simp <;> omega), World.cell?_alloc_at _ _ _ _ (by simp)]; rfl)
    have tt2 : (w.alloc (.cells #[.int .i64 t.sig, .int .i64 t.pct, .int .i64 t.amt, .bool t.soft, .int .i64 t.grace] 23)).cell? ⟨w.heap.size, 2, none⟩ = some (.int .i64 t.amt) := by first | (simp; done) | (rw [World.cell?_alloc_at _ _ _ _ (by simp)]; rfl) | (rw [World.cell?_alloc_past _ _ _ (by simp <;> omega), World.cell?_alloc_at _ _ _ _ (by simp)]; rfl) | (rw [World.cell?_alloc_past _ _ _ (by simp <;> omega), World.cell?_alloc_past _ _ _ (by simp <;> omega), World.cell?_alloc_at _ _ _ _ (by simp)]; rfl)
    have tt3 : (w.alloc (.cells #[.int .i64 t.sig, .int .i64 t.pct, .int .i64 t.amt, .bool t.soft, .int .i64 t.grace] 23)).cell? ⟨w.heap.size, 3, none⟩ = some (.bool t.soft) := by first | (simp; done) | (rw [World.cell?_alloc_at _ _ _ _ (by simp)]; rfl) | (rw [World.cell?_alloc_past _ _ _ (by simp <;> omega), World.cell?_alloc_at _ _ _ _ (by simp)]; rfl) | (rw [World.cell?_alloc_past _ _ _ (by simp <;> omega), World.cell?_alloc_past _ _ _ (by simp <;> omega), World.cell?_alloc_at _ _ _ _ (by simp)]; rfl)
    have tt4 : (w.alloc (.cells #[.int .i64 t.sig, .int .i64 t.pct, .int .i64 t.amt, .bool t.soft, .int .i64 t.grace] 23)).cell? ⟨w.heap.size, 4, none⟩ = some (.int .i64 t.grace) := by first | (simp; done) | (rw [World.cell?_alloc_at _ _ _ _ (by simp)]; rfl) | (rw [World.cell?_alloc_past _ _ _ (by simp <;> omega), World.cell?_alloc_at _ _ _ _ (by simp)]; rfl) | (rw [World.cell?_alloc_past _ _ _ (by simp <;> omega), World.cell?_alloc_past _ _ _ (by simp <;> omega), World.cell?_alloc_at _ _ _ _ (by simp)]; rfl)
    have hb2 := (by repeat (first | exact hbel | refine belAlloc ?_ _ | refine belDrew ?_ | refine belSet ?_ _ _ (by simp)) : Below w.heap.size w (w.alloc (.cells #[.int .i64 t.sig, .int .i64 t.pct, .int .i64 t.amt, .bool t.soft, .int .i64 t.grace] 23)))
    replace hw := belStep hw hb2
    clear hb2 hbel
    generalize w.alloc (.cells #[.int .i64 t.sig, .int .i64 t.pct, .int .i64 t.amt, .bool t.soft, .int .i64 t.grace] 23) = W1 at *
    replace tt0 := keep tt0
    replace tt1 := keep tt1
    replace tt2 := keep tt2
    replace tt3 := keep tt3
    replace tt4 := keep tt4
    have hbel : Below W1.heap.size W1 W1 := Below.refl _ _
    skip
    go_wp2_with (first | (go_at_call 24; (with_reducible refine (CB.out _).mono ?_); rintro e w1 ⟨rfl, hb1⟩; replace hbel := belStep hbel hb1; clear hb1))
    go_ret
    exact ⟨by rw [HM.out]; rfl, belStep hw hbel⟩
  · have HM := Lib.hid (show edgeF t c = t.amt by unfold edgeF; rw [if_neg h0])
    go_enter Tryd.func12, Tryd.ntmps12
    go_upto_region 1 with fail
    have tt0 : (w.alloc (.cells #[.int .i64 t.sig, .int .i64 t.pct, .int .i64 t.amt, .bool t.soft, .int .i64 t.grace] 23)).cell? ⟨w.heap.size, 0, none⟩ = some (.int .i64 t.sig) := by first | (simp; done) | (rw [World.cell?_alloc_at _ _ _ _ (by simp)]; rfl) | (rw [World.cell?_alloc_past _ _ _ (by simp <;> omega), World.cell?_alloc_at _ _ _ _ (by simp)]; rfl) | (rw [World.cell?_alloc_past _ _ _ (by simp <;> omega), World.cell?_alloc_past _ _ _ (by simp <;> omega), World.cell?_alloc_at _ _ _ _ (by simp)]; rfl)
    have tt1 : (w.alloc (.cells #[.int .i64 t.sig, .int .i64 t.pct, .int .i64 t.amt, .bool t.soft, .int .i64 t.grace] 23)).cell? ⟨w.heap.size, 1, none⟩ = some (.int .i64 t.pct) := by first | (simp; done) | (rw [World.cell?_alloc_at _ _ _ _ (by simp)]; rfl) | (rw [World.cell?_alloc_past _ _ _ (by simp <;> omega), World.cell?_alloc_at _ _ _ _ (by simp)]; rfl) | (rw [World.cell?_alloc_past _ _ _ (by simp <;> omega), World.cell?_alloc_past _ _ _ (by simp <;> omega), World.cell?_alloc_at _ _ _ _ (by simp)]; rfl)
    have tt2 : (w.alloc (.cells #[.int .i64 t.sig, .int .i64 t.pct, .int .i64 t.amt, .bool t.soft, .int .i64 t.grace] 23)).cell? ⟨w.heap.size, 2, none⟩ = some (.int .i64 t.amt) := by first | (simp; done) | (rw [World.cell?_alloc_at _ _ _ _ (by simp)]; rfl) | (rw [World.cell?_alloc_past _ _ _ (by simp <;> omega), World.cell?_alloc_at _ _ _ _ (by simp)]; rfl) | (rw [World.cell?_alloc_past _ _ _ (by simp <;> omega), World.cell?_alloc_past _ _ _ (by simp <;> omega), World.cell?_alloc_at _ _ _ _ (by simp)]; rfl)
    have tt3 : (w.alloc (.cells #[.int .i64 t.sig, .int .i64 t.pct, .int .i64 t.amt, .bool t.soft, .int .i64 t.grace] 23)).cell? ⟨w.heap.size, 3, none⟩ = some (.bool t.soft) := by first | (simp; done) | (rw [World.cell?_alloc_at _ _ _ _ (by simp)]; rfl) | (rw [World.cell?_alloc_past _ _ _ (by simp <;> omega), World.cell?_alloc_at _ _ _ _ (by simp)]; rfl) | (rw [World.cell?_alloc_past _ _ _ (by simp <;> omega), World.cell?_alloc_past _ _ _ (by simp <;> omega), World.cell?_alloc_at _ _ _ _ (by simp)]; rfl)
    have tt4 : (w.alloc (.cells #[.int .i64 t.sig, .int .i64 t.pct, .int .i64 t.amt, .bool t.soft, .int .i64 t.grace] 23)).cell? ⟨w.heap.size, 4, none⟩ = some (.int .i64 t.grace) := by first | (simp; done) | (rw [World.cell?_alloc_at _ _ _ _ (by simp)]; rfl) | (rw [World.cell?_alloc_past _ _ _ (by simp <;> omega), World.cell?_alloc_at _ _ _ _ (by simp)]; rfl) | (rw [World.cell?_alloc_past _ _ _ (by simp <;> omega), World.cell?_alloc_past _ _ _ (by simp <;> omega), World.cell?_alloc_at _ _ _ _ (by simp)]; rfl)
    have hb2 := (by repeat (first | exact hbel | refine belAlloc ?_ _ | refine belDrew ?_ | refine belSet ?_ _ _ (by simp)) : Below w.heap.size w (w.alloc (.cells #[.int .i64 t.sig, .int .i64 t.pct, .int .i64 t.amt, .bool t.soft, .int .i64 t.grace] 23)))
    replace hw := belStep hw hb2
    clear hb2 hbel
    generalize w.alloc (.cells #[.int .i64 t.sig, .int .i64 t.pct, .int .i64 t.amt, .bool t.soft, .int .i64 t.grace] 23) = W1 at *
    replace tt0 := keep tt0
    replace tt1 := keep tt1
    replace tt2 := keep tt2
    replace tt3 := keep tt3
    replace tt4 := keep tt4
    have hbel : Below W1.heap.size W1 W1 := Below.refl _ _
    skip
    go_wp2
    go_ret
    exact ⟨by rw [HM.out]; rfl, belStep hw hbel⟩

/-- A threshold's text. -/
def prThr (t : ThrV) : ByteArray := wB t.sig ++ ⟨#[60]⟩ ++ (if 0 < t.pct then ddB t.pct.toNat ++ ⟨#[37]⟩ else prAll t.amt) ++ (if t.soft then ⟨#[58]⟩ ++ ddB t.grace.toNat else ⟨#[]⟩)
theorem eq_thr (t u : ThrV) (w : World) : (Op.equalIn 10000 23 (.agg #[.int .i64 t.sig, .int .i64 t.pct, .int .i64 t.amt, .bool t.soft, .int .i64 t.grace]) (.agg #[.int .i64 u.sig, .int .i64 u.pct, .int .i64 u.amt, .bool u.soft, .int .i64 u.grace])).run Tryd.prog w = .ok (t.sig == u.sig && (t.pct == u.pct && (t.amt == u.amt && (t.soft == u.soft && t.grace == u.grace)))) w := by
  have hs : Tryd.prog.fieldsOf 23 = #[{ name := "Signal", type := 3, offset := 0, embedded := false, tag := "", pkgPath := "", byteOffset := 0 }, { name := "Percent", type := 3, offset := 1, embedded := false, tag := "", pkgPath := "", byteOffset := 8 }, { name := "Amount", type := 3, offset := 2, embedded := false, tag := "", pkgPath := "", byteOffset := 16 }, { name := "Soft", type := 4, offset := 3, embedded := false, tag := "", pkgPath := "", byteOffset := 24 }, { name := "Grace", type := 3, offset := 4, embedded := false, tag := "", pkgPath := "", byteOffset := 32 }] := by kernel_rfl
  rw [run_equalIn_struct _ _ _ _ _ (by kernel_rfl) (by kernel_rfl), hs]
  simp [go_sem]
  by_cases a1 : t.sig = u.sig
  · by_cases a2 : t.pct = u.pct
    · by_cases a3 : t.amt = u.amt
      · by_cases a4 : t.soft = u.soft
        · by_cases a5 : t.grace = u.grace <;> simp [a1, a2, a3, a4, a5]
        · simp [a1, a2, a3, a4]
      · simp [a1, a2, a3]
    · simp [a1, a2]
  · simp [a1]
end Go.Proofs.YtdmnogljdkncpaaDoor
