
/- sample.numbers: contract. -/
import Derived.Test.YtcgpmihjodolmaaSmpMath
import Derived.Test.YtcgpmihjodolmaaGwM
namespace Go.Proofs.Ytcgpmihjodolmaa
open Go.RowKit Go.Sort Go.Lib
set_option linter.unusedVariables false
set_option linter.unusedSimpArgs false
def nx (b : Bool) (x : Nat) : Int := if b then readF x else 0
theorem all3_list (x y z : Nat) : [x, y, z].all notNaN = all3 x y z := by simp [all3]
theorem num_ret (W : World) (R : Nat) (tm : Array Value) (a b c : Int) (o : Bool) (Q : Ending → World → Prop) (h2 : tm.getD 2 undef = .pointer (some ⟨R, 0, none⟩)) (h3 : tm.getD 3 undef = .bool o) (hb : Blk W R [.int .i64 a, .int .i64 b, .int .i64 c] 29) (hR : Q (.returned (.tuple #[.agg #[.int .i64 a, .int .i64 b, .int .i64 c], .bool o])) W) :
    bodyPost Try.prog Try.f54 Q Exit.ret { tmps := tm, defers := [] } W := by
  have z0 := hb.cell (j := 0) rfl
  have z1 := hb.cell (j := 1) rfl
  have z2 := hb.cell (j := 2) rfl
  refine bodyPost_ret (v := .tuple #[.agg #[.int .i64 a, .int .i64 b, .int .i64 c], .bool o]) ?_ rfl hR
  simp only [Array.getD_eq_getD_getElem?] at h2 h3
  simp [results, Try.results54, go_sem, h2, h3, z0, z1, z2]
set_option maxRecDepth 100000 in
set_option maxHeartbeats 16000000 in
theorem smp_numbers (x y z : Nat) (w : World) (hx : In64 x) (hy : In64 y) (hz : In64 z) :
    Calls Try.prog 54 #[.agg #[.float .f64 x, .float .f64 y, .float .f64 z]] w fun e w' => e = .returned (.tuple #[.agg #[.int .i64 (nx (all3 x y z) x), .int .i64 (nx (all3 x y z) y), .int .i64 (nx (all3 x y z) z)], .bool (all3 x y z)]) ∧ Below w.heap.size w w' := by
  have hw : Below w.heap.size w w := Below.refl _ _
  have hbel := hw
  have HI := Lib.hid (show ∀ n ∈ [x, y, z], n < 18446744073709551616 from fun n hn => by simp at hn; rcases hn with rfl | rfl | rfl <;> assumption)
  clear hx hy hz
  go_enter Try.func54, Try.ntmps54
  go_upto_region 1 with fail
  have aa0 : ((w.alloc (.cells #[.float .f64 x, .float .f64 y, .float .f64 z] 23)).alloc (.cells #[.int .i64 0, .int .i64 0, .int .i64 0] 29)).cell? ⟨w.heap.size, 0, none⟩ = some (.float .f64 x) := by first | (simp; done) | (rw [World.cell?_alloc_at _ _ _ _ (by simp)]; rfl) | (rw [World.cell?_alloc_past _ _ _ (by simp <;> omega), World.cell?_alloc_at _ _ _ _ (by simp)]; rfl) | (rw [World.cell?_alloc_past _ _ _ (by simp <;> omega), World.cell?_alloc_past _ _ _ (by simp <;> omega), World.cell?_alloc_at _ _ _ _ (by simp)]; rfl)
  have aa1 : ((w.alloc (.cells #[.float .f64 x, .float .f64 y, .float .f64 z] 23)).alloc (.cells #[.int .i64 0, .int .i64 0, .int .i64 0] 29)).cell? ⟨w.heap.size, 1, none⟩ = some (.float .f64 y) := by first | (simp; done) | (rw [World.cell?_alloc_at _ _ _ _ (by simp)]; rfl) | (rw [World.cell?_alloc_past _ _ _ (by simp <;> omega), World.cell?_alloc_at _ _ _ _ (by simp)]; rfl) | (rw [World.cell?_alloc_past _ _ _ (by simp <;> omega), World.cell?_alloc_past _ _ _ (by simp <;> omega), World.cell?_alloc_at _ _ _ _ (by simp)]; rfl)
  have aa2 : ((w.alloc (.cells #[.float .f64 x, .float .f64 y, .float .f64 z] 23)).alloc (.cells #[.int .i64 0, .int .i64 0, .int .i64 0] 29)).cell? ⟨w.heap.size, 2, none⟩ = some (.float .f64 z) := by first | (simp; done) | (rw [World.cell?_alloc_at _ _ _ _ (by simp)]; rfl) | (rw [World.cell?_alloc_past _ _ _ (by simp <;> omega), World.cell?_alloc_at _ _ _ _ (by simp)]; rfl) | (rw [World.cell?_alloc_past _ _ _ (by simp <;> omega), World.cell?_alloc_past _ _ _ (by simp <;> omega), World.cell?_alloc_at _ _ _ _ (by simp)]; rfl)
  have rr0 : ((w.alloc (.cells #[.float .f64 x, .float .f64 y, .float .f64 z] 23)).alloc (.cells #[.int .i64 0, .int .i64 0, .int .i64 0] 29)).cell? ⟨w.heap.size + 1, 0, none⟩ = some (.int .i64 0) := by first | (simp; done) | (rw [World.cell?_alloc_at _ _ _ _ (by simp)]; rfl) | (rw [World.cell?_alloc_past _ _ _ (by simp <;> omega), World.cell?_alloc_at _ _ _ _ (by simp)]; rfl) | (rw [World.cell?_alloc_past _ _ _ (by simp <;> omega), World.cell?_alloc_past _ _ _ (by simp <;> omega), World.cell?_alloc_at _ _ _ _ (by simp)]; rfl)
  have rr1 : ((w.alloc (.cells #[.float .f64 x, .float .f64 y, .float .f64 z] 23)).alloc (.cells #[.int .i64 0, .int .i64 0, .int .i64 0] 29)).cell? ⟨w.heap.size + 1, 1, none⟩ = some (.int .i64 0) := by first | (simp; done) | (rw [World.cell?_alloc_at _ _ _ _ (by simp)]; rfl) | (rw [World.cell?_alloc_past _ _ _ (by simp <;> omega), World.cell?_alloc_at _ _ _ _ (by simp)]; rfl) | (rw [World.cell?_alloc_past _ _ _ (by simp <;> omega), World.cell?_alloc_past _ _ _ (by simp <;> omega), World.cell?_alloc_at _ _ _ _ (by simp)]; rfl)
  have rr2 : ((w.alloc (.cells #[.float .f64 x, .float .f64 y, .float .f64 z] 23)).alloc (.cells #[.int .i64 0, .int .i64 0, .int .i64 0] 29)).cell? ⟨w.heap.size + 1, 2, none⟩ = some (.int .i64 0) := by first | (simp; done) | (rw [World.cell?_alloc_at _ _ _ _ (by simp)]; rfl) | (rw [World.cell?_alloc_past _ _ _ (by simp <;> omega), World.cell?_alloc_at _ _ _ _ (by simp)]; rfl) | (rw [World.cell?_alloc_past _ _ _ (by simp <;> omega), World.cell?_alloc_past _ _ _ (by simp <;> omega), World.cell?_alloc_at _ _ _ _ (by simp)]; rfl)
  have hb2 := (by repeat (first | exact hbel | refine belAlloc ?_ _ | refine belDrew ?_ | refine belSet ?_ _ _ (by simp)) : Below w.heap.size w ((w.alloc (.cells #[.float .f64 x, .float .f64 y, .float .f64 z] 23)).alloc (.cells #[.int .i64 0, .int .i64 0, .int .i64 0] 29)))
  replace hw := belStep hw hb2
  have aaB : Blk ((w.alloc (.cells #[.float .f64 x, .float .f64 y, .float .f64 z] 23)).alloc (.cells #[.int .i64 0, .int .i64 0, .int .i64 0] 29)) (w.heap.size) [.float .f64 x, .float .f64 y, .float .f64 z] 23 := (Blk.at (by simp) : Blk (w.alloc (.cells #[.float .f64 x, .float .f64 y, .float .f64 z] 23)) (w.heap.size) [.float .f64 x, .float .f64 y, .float .f64 z] 23).later (by repeat (first | exact Below.refl _ _ | refine belAlloc ?_ _))
  have aaF := Blk.keepF aaB
  replace aaB := Blk.keepB aaB
  have rrB : Blk ((w.alloc (.cells #[.float .f64 x, .float .f64 y, .float .f64 z] 23)).alloc (.cells #[.int .i64 0, .int .i64 0, .int .i64 0] 29)) (w.heap.size + 1) [.int .i64 0, .int .i64 0, .int .i64 0] 29 := (Blk.at (by simp) : Blk ((w.alloc (.cells #[.float .f64 x, .float .f64 y, .float .f64 z] 23)).alloc (.cells #[.int .i64 0, .int .i64 0, .int .i64 0] 29)) (w.heap.size + 1) [.int .i64 0, .int .i64 0, .int .i64 0] 29).later (by repeat (first | exact Below.refl _ _ | refine belAlloc ?_ _))
  have rrF := Blk.keepF rrB
  replace rrB := Blk.keepB rrB
  clear hb2 hbel
  generalize (w.alloc (.cells #[.float .f64 x, .float .f64 y, .float .f64 z] 23)).alloc (.cells #[.int .i64 0, .int .i64 0, .int .i64 0] 29) = W1 at *
  replace aa0 := keep aa0
  replace aa1 := keep aa1
  replace aa2 := keep aa2
  replace rr0 := keep rr0
  replace rr1 := keep rr1
  replace rr2 := keep rr2
  have hbel : Below W1.heap.size W1 W1 := Below.refl _ _
  skip
  have CA := Lib.hid (edge_All (some ⟨w.heap.size, 0, none⟩) 3 3 [x, y, z] W1 ⟨row_of_blkN (aaB _ hbel) rfl (by unfold maxLen; omega), HI.out⟩ (by omega))
  have hz1 : w.heap.size + 1 < W1.heap.size := (rrB _ hbel).lt
  cases ha : all3 x y z with
  | false =>
    have CB : Calls Try.prog 62 #[.slice (some ⟨w.heap.size, 0, none⟩) 3 3] W1 fun e w' => e = .returned (.tuple #[.slice none 0 0, .bool false]) ∧ Below W1.heap.size W1 w' := by
      refine CA.out.mono ?_
      rintro e w' ⟨h, hb⟩
      unfold AllPost at h
      rw [if_neg (by rw [all3_list, ha]; simp)] at h
      exact ⟨h, hb⟩
    have CB2 := Lib.hid CB
    have HA := Lib.hid ha
    clear CA CB ha
    go_wp2_with (first | (go_at_call 62; (with_reducible refine CB2.out.mono ?_); rintro e w2 ⟨rfl, hb2⟩; replace hbel := belStep hbel hb2; clear hb2))
    exact num_ret _ _ _ 0 0 0 false _ rfl rfl ((((rrB _ hbel).set 0 _).set 1 _).set 2 _) ⟨by rw [HA.out]; rfl, by repeat (first | exact belStep hw hbel | refine belSet ?_ _ _ (by dsimp only; omega))⟩
  | true =>
    have CB : Calls Try.prog 62 #[.slice (some ⟨w.heap.size, 0, none⟩) 3 3] W1 fun e w' => (∃ g c, e = .returned (.tuple #[.slice (some ⟨g, 0, none⟩) 3 c, .bool true]) ∧ (3 ≤ c ∧ c ≤ 9223372036854775807) ∧ w'.cell? ⟨g, 0, none⟩ = some (.int .i64 (readF x)) ∧ w'.cell? ⟨g, 1, none⟩ = some (.int .i64 (readF y)) ∧ w'.cell? ⟨g, 2, none⟩ = some (.int .i64 (readF z))) ∧ Below W1.heap.size W1 w' := by
      refine CA.out.mono ?_
      rintro e w' ⟨h, hb⟩
      unfold AllPost at h
      rw [if_pos (by rw [all3_list, ha])] at h
      obtain ⟨v, rfl, ho⟩ := h
      rcases ho.shape with ⟨_, h0⟩ | ⟨g, c, rfl, h1, h2, h3, h4⟩
      · simp at h0
      · exact ⟨⟨g, c, rfl, ⟨h3, h4⟩, OwnI.cellAt (i := 0) rfl ho (by simp), OwnI.cellAt (i := 1) rfl ho (by simp), OwnI.cellAt (i := 2) rfl ho (by simp)⟩, hb⟩
    have CB2 := Lib.hid CB
    have HA := Lib.hid ha
    clear CA CB ha
    go_wp2_with (first | (go_at_call 62; (with_reducible refine CB2.out.mono ?_); rintro e w2 ⟨⟨g, c, rfl, ⟨hc1, hc2⟩, k0, k1, k2⟩, hb2⟩; replace hbel := belStep hbel hb2; clear hb2))
    have hc3 : (3 : Int) ≤ c := by omega
    have hc4 : 0 < c := by omega
    go_still_tail 10, (by kernel_rfl)
    change wpList _ _ _ _ _ (w2.drewN 1)
    have hbel2 : Below W1.heap.size W1 (w2.drewN 1) := belDrewN hbel 1
    clear k0 k1 k2 hbel
    generalize w2.drewN 1 = WS at *
    have hbel := hbel2
    clear hbel2
    go_wp2
    exact num_ret _ _ _ (readF x) (readF y) (readF z) true _ rfl rfl ((((rrB _ hbel).set 0 _).set 1 _).set 2 _) ⟨by rw [HA.out]; rfl, by repeat (first | exact belStep hw hbel | refine belSet ?_ _ _ (by dsimp only; omega))⟩
end Go.Proofs.Ytcgpmihjodolmaa
