
/- Stage 7: what the reading of a config wants (taken out of XCfLines: the two may not stand side by side). -/
import Derived.Test.YtcaenbobfneejaaGreatDoorCfSame
import Derived.Test.YtcaenbobfneejaaGreatDoorCfRead
import Derived.Test.YtcaenbobfneejaaGreatDoorLexCard
import Derived.Test.YtcaenbobfneejaaGreatDoorLexTM
namespace Go.Proofs.YtcaenbobfneejaaGreatDoor
open Go.RowKit
set_option linter.unusedVariables false
set_option linter.unusedSimpArgs false
theorem idx_kwC : ∀ k, k < 6 → idxK (kwL k) = some k ∧ kwL k ≠ tkw := by
  have h : ∀ k ∈ List.range 6, idxK (kwL k) = some k ∧ kwL k ≠ tkw := by decide +kernel
  exact fun k hk => h k (List.mem_range.2 hk)
theorem blk_far {w : World} {M : Nat} {C : List Value} {T : TypeId} (h : Blk w M C T) (a : Addr) (hne : a.block ≠ M) (u : Value) : Blk (w.setCell a u) M C T := by
  unfold Blk at *
  simp [World.setCell, Array.getElem?_modify, h, hne]
theorem bA_extL {x y : ByteArray} (h : x.data.toList = y.data.toList) : x = y := by
  cases x; cases y
  simp only at h
  rw [Array.toList_inj.1 h]
theorem readC_ok (a : Option Addr) (len cap : Nat) (L : List UInt8) (c : CfM) (w : World) (he : Env w) (hI : Ints .u8 w a len cap (numsL L)) (h : confF L = .ok c) :
    Calls Tryz.prog 5 #[.slice a len cap] w fun e w' => (∃ dt dc, e = .returned (.tuple #[.agg #[.int .i64 c.k0, .int .i64 c.k1, .int .i64 c.k2, .int .i64 c.a0, .int .i64 c.a1, .int .i64 c.a2, .slice dt c.T.length dc, .int .i64 c.per, .int .i64 c.ret, .int .i64 c.age, .int .i64 c.dead], .int .i64 0, .int .i64 0]) ∧ OwnR w' w.heap.size 54 5 (.slice dt c.T.length dc) c.T.length (c.T.flatMap ThrV.cells) ∧ c.ok) ∧ Below w.heap.size w w' := by
  refine (cf_Read a len cap L w he hI).mono ?_
  rw [h]
  rintro e w' ⟨⟨v, rfl, hown, hok, _⟩, hb⟩
  obtain ⟨ta, tc, rfl, _⟩ := rowR_of_own hown
  exact ⟨⟨ta, tc, rfl, hown, hok⟩, hb⟩
theorem readC_no (a : Option Addr) (len cap : Nat) (L : List UInt8) (x y : Int) (w : World) (he : Env w) (hI : Ints .u8 w a len cap (numsL L)) (h : confF L = .error (x, y)) :
    Calls Tryz.prog 5 #[.slice a len cap] w fun e w' => e = .returned (.tuple #[.agg #[.int .i64 0, .int .i64 0, .int .i64 0, .int .i64 0, .int .i64 0, .int .i64 0, .slice none 0 0, .int .i64 0, .int .i64 0, .int .i64 0, .int .i64 0], .int .i64 x, .int .i64 y]) ∧ Below w.heap.size w w' := by
  refine (cf_Read a len cap L w he hI).mono ?_
  rw [h]
  exact fun e w' h => h
end Go.Proofs.YtcaenbobfneejaaGreatDoor
