/- The fixed answers of layer 9's statements. -/
import Derived.Test.YtbochncjmcblkaaFrameRef
namespace Go.Proofs.Ytbochncjmcblkaa
open Go.RowKit
set_option linter.unusedVariables false
set_option linter.unusedSimpArgs false

theorem ints_nil (w : World) (k : IntKind) : Ints k w none 0 0 [] := ⟨⟨rfl, Nat.le_refl _, by unfold maxLen; omega, fun _ => ⟨rfl, rfl⟩, .inl rfl⟩, fun n hn => by cases hn⟩
theorem frame_is {v : Nat} {x : List Int} (hv : v < 4294967296) (hx : x.length ≤ 1048576) : IsFrame (frameL v x) v x := ⟨rfl, hv, hx⟩
theorem str_ab2 : ((strOfNums [97, 98]).toList == [97, 98]) = true := by decide +kernel

set_option maxRecDepth 100000 in
set_option maxHeartbeats 4000000 in
theorem awake09 (w : World) : Calls Try.prog 21 #[] w fun e w' => e = .returned (.bool true) ∧ Below w.heap.size w w' := by
  have hw : Below w.heap.size w w := Below.refl _ _
  have hbel := hw
  have hcv := fun (v : World) (C : Array Value) (n c : Nat) => Lib.run_convert_bytes_const (P := Try.prog) v 22 5 C n c Try.underlying22 Try.underlying5
  have hb2 : Bytes [97, 98] := by intro c hc; simp at hc; omega
  have hi : Ints .u8 (w.alloc (.cells #[.int .u8 97, .int .u8 98] 5 (2, 3))) (some ⟨w.heap.size, 0, none⟩) 2 2 [97, 98] := lits w [97, 98] (2, 3) (by simp) hb2
  have cp := frame_Put 7 _ 2 2 [97, 98] _ (by omega) hi (by omega)
  rw [show ((7 : Nat) : Int) = 7 from rfl] at cp
  have CP := Lib.hid cp
  clear cp
  have hst := str_ab2
  have hbel1 : Below w.heap.size w (w.alloc (.cells #[.int .u8 97, .int .u8 98] 5 (2, 3))) := belAlloc hbel _
  have hwf : ∀ m ∈ frameL 7 [97, 98], (Lit.int .u8 m).wf = true := fun m hm => wf8 m (frameL_B hb2 m hm)
  have HWF := Lib.hid hwf
  have HFI := Lib.hid (frame_is (v := 7) (x := [97, 98]) (by omega) (by simp))
  clear hi hb2 hwf
  go_enter Try.func21, Try.ntmps21
  go_wp2_with (first
    | (go_at_call 22; (with_reducible refine CP.out.mono ?_); rintro e w1 ⟨g1, c1, rfl, _, hi1, hb1⟩; have hi2 := ints_ownS hi1 HWF.out; have cg := frame_Get_ok _ _ _ _ _ hi2 (by omega) 7 [97, 98] 2 HFI.out rfl; rw [show ((7 : Nat) : Int) = 7 from rfl] at cg; have CG := Lib.hid cg; clear cg; replace hbel := belStep hbel1 hb1; clear hb1 hi1 hi2)
    | (go_at_call 24; (with_reducible refine CG.out.mono ?_); rintro e w2 ⟨g2, c2, a2, cx2, rfl, ha, _, _, hi2, hb2⟩; obtain rfl := ha (by omega); clear ha; replace hbel := belStep hbel hb2; have HI := Lib.hid hi2; clear hb2 hi2)
    | (go_at_call 24; (with_reducible refine (frame_Get_no none 0 0 [] _ (ints_nil _ _) (by omega) (no_short (by simp))).mono ?_); rintro e w3 ⟨rfl, hb3⟩; replace hbel := belStep hbel hb3; replace HI := Lib.hid (HI.out.later hb3); have ct := conv_str HI.out; clear hb3)
    | (go_at_call 22; (refine (frame_Put_no (-1) none 0 0 _ (by unfold InI; omega) (by omega) (.inl (by omega))).mono ?_); rintro e w4 ⟨rfl, rfl⟩))
  go_ret
  exact ⟨rfl, hbel⟩
end Go.Proofs.Ytbochncjmcblkaa
