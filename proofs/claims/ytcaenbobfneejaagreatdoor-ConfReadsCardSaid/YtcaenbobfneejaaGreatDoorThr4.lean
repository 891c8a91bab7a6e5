
/- thresh.Met, Edge, Right, Print: contracts; two thresholds, held against one another. -/
import Derived.Test.YtcaenbobfneejaaGreatDoorThrA
import Derived.Test.YtcaenbobfneejaaGreatDoorWide
namespace Go.Proofs.YtcaenbobfneejaaGreatDoor
open Go.RowKit
set_option linter.unusedVariables false
set_option linter.unusedSimpArgs false

def ThrV.ok (t : ThrV) : Prop := InI t.sig ∧ InI t.pct ∧ InI t.amt ∧ InI t.grace
def metF (t : ThrV) (c a : Int) : Bool := if 0 < t.pct then decide (satNum a * 100 < satNum c * satNum t.pct) else decide (a < t.amt)
def edgeF (t : ThrV) (c : Int) : Int := if 0 < t.pct then shareI c t.pct else t.amt
/-- A threshold's text. -/
def prThr (t : ThrV) : ByteArray := wB t.sig ++ ⟨#[60]⟩ ++ (if 0 < t.pct then ddB t.pct.toNat ++ ⟨#[37]⟩ else prAll t.amt) ++ (if t.soft then ⟨#[58]⟩ ++ ddB t.grace.toNat else ⟨#[]⟩)
theorem eq_thr (t u : ThrV) (w : World) : (Op.equalIn 10000 54 (.agg #[.int .i64 t.sig, .int .i64 t.pct, .int .i64 t.amt, .bool t.soft, .int .i64 t.grace]) (.agg #[.int .i64 u.sig, .int .i64 u.pct, .int .i64 u.amt, .bool u.soft, .int .i64 u.grace])).run Tryz.prog w = .ok (t.sig == u.sig && (t.pct == u.pct && (t.amt == u.amt && (t.soft == u.soft && t.grace == u.grace)))) w := by
  have hs : Tryz.prog.fieldsOf 54 = #[{ name := "Signal", type := 3, offset := 0, embedded := false, tag := "", pkgPath := "", byteOffset := 0 }, { name := "Percent", type := 3, offset := 1, embedded := false, tag := "", pkgPath := "", byteOffset := 8 }, { name := "Amount", type := 3, offset := 2, embedded := false, tag := "", pkgPath := "", byteOffset := 16 }, { name := "Soft", type := 4, offset := 3, embedded := false, tag := "", pkgPath := "", byteOffset := 24 }, { name := "Grace", type := 3, offset := 4, embedded := false, tag := "", pkgPath := "", byteOffset := 32 }] := by kernel_rfl
  rw [run_equalIn_struct _ _ _ _ _ (by kernel_rfl) (by kernel_rfl), hs]
  simp [go_sem]
  by_cases a1 : t.sig = u.sig
  · by_cases a2 : t.pct = u.pct
    · by_cases a3 : t.amt = u.amt
      · by_cases a4 : t.soft = u.soft
        · by_cases a5 : t.grace = u.grace <;> simp [a1, a2, a3, a4, a5]
        · simp [a1, a2, a3, a4]
      · simp [a1, a2, a3]
    · simp [a1, a2]
  · simp [a1]
end Go.Proofs.YtcaenbobfneejaaGreatDoor
