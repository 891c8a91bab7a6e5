
/- sample.Of, bilgeref17.Of: contracts. -/
import Derived.Test.YtcgpmihjodolmaaSmp5
namespace Go.Proofs.Ytcgpmihjodolmaa
open Go.RowKit
set_option linter.unusedVariables false
set_option linter.unusedSimpArgs false
set_option maxRecDepth 100000 in
set_option maxHeartbeats 16000000 in
theorem smp_Of (t x0 x1 x2 : Int) (a : Option Addr) (len cap : Nat) (L : List UseV) (s : ByteArray) (w : World) (hl : L.length = len) (hR : Row w a len cap 4 (L.flatMap UseV.cells)) :
    Calls Try.prog 25 #[.agg #[.int .i64 t, .int .i64 x0, .int .i64 x1, .int .i64 x2, .slice a len cap], .string s] w fun e w' => e = .returned (.agg #[.int .i64 (ofF L s).a, .int .i64 (ofF L s).b, .int .i64 (ofF L s).c]) ∧ Below w.heap.size w w' := by
  have hw : Below w.heap.size w w := Below.refl _ _
  have hbel := hw
  have hbd_a : len ≤ cap ∧ cap ≤ 9223372036854775807 := by obtain ⟨_, h1, h2, _⟩ := hR; unfold maxLen at h2; exact ⟨h1, h2⟩
  obtain ⟨hbd1_a, hbd2_a⟩ := hbd_a
  have HR := Lib.hid hR
  clear hR
  subst hl
  go_enter Try.func25, Try.ntmps25
  go_upto_region 1 with fail
  have sb0 : ((w.alloc (.cells #[.int .i64 t, .int .i64 x0, .int .i64 x1, .int .i64 x2, .slice a L.length cap] 32)).alloc (.cells #[.int .i64 0, .int .i64 0, .int .i64 0] 29)).cell? ⟨w.heap.size, 0, none⟩ = some (.int .i64 t) := by first | (simp; done) | (rw [World.cell?_alloc_at _ _ _ _ (by simp)]; rfl) | (rw [World.cell?_alloc_past _ _ _ (by simp <;> omega), World.cell?_alloc_at _ _ _ _ (by simp)]; rfl) | (rw [World.cell?_alloc_past _ _ _ (by simp <;> omega), World.cell?_alloc_past _ _ _ (by simp <;> omega), World.cell?_alloc_at _ _ _ _ (by simp)]; rfl)
  have sb1 : ((w.alloc (.cells #[.int .i64 t, .int .i64 x0, .int .i64 x1, .int .i64 x2, .slice a L.length cap] 32)).alloc (.cells #[.int .i64 0, .int .i64 0, .int .i64 0] 29)).cell? ⟨w.heap.size, 1, none⟩ = some (.int .i64 x0) := by first | (simp; done) | (rw [World.cell?_alloc_at _ _ _ _ (by simp)]; rfl) | (rw [World.cell?_alloc_past _ _ _ (by simp <;> omega), World.cell?_alloc_at _ _ _ _ (by simp)]; rfl) | (rw [World.cell?_alloc_past _ _ _ (by simp <;> omega), World.cell?_alloc_past _ _ _ (by simp <;> omega), World.cell?_alloc_at _ _ _ _ (by simp)]; rfl)
  have sb2 : ((w.alloc (.cells #[.int .i64 t, .int .i64 x0, .int .i64 x1, .int .i64 x2, .slice a L.length cap] 32)).alloc (.cells #[.int .i64 0, .int .i64 0, .int .i64 0] 29)).cell? ⟨w.heap.size, 2, none⟩ = some (.int .i64 x1) := by first | (simp; done) | (rw [World.cell?_alloc_at _ _ _ _ (by simp)]; rfl) | (rw [World.cell?_alloc_past _ _ _ (by simp <;> omega), World.cell?_alloc_at _ _ _ _ (by simp)]; rfl) | (rw [World.cell?_alloc_past _ _ _ (by simp <;> omega), World.cell?_alloc_past _ _ _ (by simp <;> omega), World.cell?_alloc_at _ _ _ _ (by simp)]; rfl)
  have sb3 : ((w.alloc (.cells #[.int .i64 t, .int .i64 x0, .int .i64 x1, .int .i64 x2, .slice a L.length cap] 32)).alloc (.cells #[.int .i64 0, .int .i64 0, .int .i64 0] 29)).cell? ⟨w.heap.size, 3, none⟩ = some (.int .i64 x2) := by first | (simp; done) | (rw [World.cell?_alloc_at _ _ _ _ (by simp)]; rfl) | (rw [World.cell?_alloc_past _ _ _ (by simp <;> omega), World.cell?_alloc_at _ _ _ _ (by simp)]; rfl) | (rw [World.cell?_alloc_past _ _ _ (by simp <;> omega), World.cell?_alloc_past _ _ _ (by simp <;> omega), World.cell?_alloc_at _ _ _ _ (by simp)]; rfl)
  have sb4 : ((w.alloc (.cells #[.int .i64 t, .int .i64 x0, .int .i64 x1, .int .i64 x2, .slice a L.length cap] 32)).alloc (.cells #[.int .i64 0, .int .i64 0, .int .i64 0] 29)).cell? ⟨w.heap.size, 4, none⟩ = some (.slice a L.length cap) := by first | (simp; done) | (rw [World.cell?_alloc_at _ _ _ _ (by simp)]; rfl) | (rw [World.cell?_alloc_past _ _ _ (by simp <;> omega), World.cell?_alloc_at _ _ _ _ (by simp)]; rfl) | (rw [World.cell?_alloc_past _ _ _ (by simp <;> omega), World.cell?_alloc_past _ _ _ (by simp <;> omega), World.cell?_alloc_at _ _ _ _ (by simp)]; rfl)
  have rr0 : ((w.alloc (.cells #[.int .i64 t, .int .i64 x0, .int .i64 x1, .int .i64 x2, .slice a L.length cap] 32)).alloc (.cells #[.int .i64 0, .int .i64 0, .int .i64 0] 29)).cell? ⟨w.heap.size + 1, 0, none⟩ = some (.int .i64 0) := by first | (simp; done) | (rw [World.cell?_alloc_at _ _ _ _ (by simp)]; rfl) | (rw [World.cell?_alloc_past _ _ _ (by simp <;> omega), World.cell?_alloc_at _ _ _ _ (by simp)]; rfl) | (rw [World.cell?_alloc_past _ _ _ (by simp <;> omega), World.cell?_alloc_past _ _ _ (by simp <;> omega), World.cell?_alloc_at _ _ _ _ (by simp)]; rfl)
  have rr1 : ((w.alloc (.cells #[.int .i64 t, .int .i64 x0, .int .i64 x1, .int .i64 x2, .slice a L.length cap] 32)).alloc (.cells #[.int .i64 0, .int .i64 0, .int .i64 0] 29)).cell? ⟨w.heap.size + 1, 1, none⟩ = some (.int .i64 0) := by first | (simp; done) | (rw [World.cell?_alloc_at _ _ _ _ (by simp)]; rfl) | (rw [World.cell?_alloc_past _ _ _ (by simp <;> omega), World.cell?_alloc_at _ _ _ _ (by simp)]; rfl) | (rw [World.cell?_alloc_past _ _ _ (by simp <;> omega), World.cell?_alloc_past _ _ _ (by simp <;> omega), World.cell?_alloc_at _ _ _ _ (by simp)]; rfl)
  have rr2 : ((w.alloc (.cells #[.int .i64 t, .int .i64 x0, .int .i64 x1, .int .i64 x2, .slice a L.length cap] 32)).alloc (.cells #[.int .i64 0, .int .i64 0, .int .i64 0] 29)).cell? ⟨w.heap.size + 1, 2, none⟩ = some (.int .i64 0) := by first | (simp; done) | (rw [World.cell?_alloc_at _ _ _ _ (by simp)]; rfl) | (rw [World.cell?_alloc_past _ _ _ (by simp <;> omega), World.cell?_alloc_at _ _ _ _ (by simp)]; rfl) | (rw [World.cell?_alloc_past _ _ _ (by simp <;> omega), World.cell?_alloc_past _ _ _ (by simp <;> omega), World.cell?_alloc_at _ _ _ _ (by simp)]; rfl)
  have hb2 := (by repeat (first | exact hbel | refine belAlloc ?_ _ | refine belDrew ?_ | refine belSet ?_ _ _ (by simp)) : Below w.heap.size w ((w.alloc (.cells #[.int .i64 t, .int .i64 x0, .int .i64 x1, .int .i64 x2, .slice a L.length cap] 32)).alloc (.cells #[.int .i64 0, .int .i64 0, .int .i64 0] 29)))
  replace hw := belStep hw hb2
  have rrB : Blk ((w.alloc (.cells #[.int .i64 t, .int .i64 x0, .int .i64 x1, .int .i64 x2, .slice a L.length cap] 32)).alloc (.cells #[.int .i64 0, .int .i64 0, .int .i64 0] 29)) (w.heap.size + 1) [.int .i64 0, .int .i64 0, .int .i64 0] 29 := (Blk.at (by simp) : Blk ((w.alloc (.cells #[.int .i64 t, .int .i64 x0, .int .i64 x1, .int .i64 x2, .slice a L.length cap] 32)).alloc (.cells #[.int .i64 0, .int .i64 0, .int .i64 0] 29)) (w.heap.size + 1) [.int .i64 0, .int .i64 0, .int .i64 0] 29).later (by repeat (first | exact Below.refl _ _ | refine belAlloc ?_ _))
  have rrF := Blk.keepF rrB
  replace rrB := Blk.keepB rrB
  clear hb2 hbel
  generalize (w.alloc (.cells #[.int .i64 t, .int .i64 x0, .int .i64 x1, .int .i64 x2, .slice a L.length cap] 32)).alloc (.cells #[.int .i64 0, .int .i64 0, .int .i64 0] 29) = W1 at *
  replace sb0 := keep sb0
  replace sb1 := keep sb1
  replace sb2 := keep sb2
  replace sb3 := keep sb3
  replace sb4 := keep sb4
  replace rr0 := keep rr0
  replace rr1 := keep rr1
  replace rr2 := keep rr2
  have hbel : Below W1.heap.size W1 W1 := Below.refl _ _
  skip
  have hz1 : w.heap.size + 1 < W1.heap.size := (rrB _ hbel).lt
  have HRL := Lib.hid (fun u (hu : Below W1.heap.size W1 u) => HR.out.later (belStep hw hu))
  have HB := Lib.hid hbel
  go_wp2
  clear hbel
  go_loopw [10] (fun i wr => ∃ k : Nat, k ≤ L.length ∧ i = .int .i64 k ∧ Hid ((L.take k).find? (fun u => u.id.toList == s.toList) = none) ∧ Below W1.heap.size W1 wr) (fun i _ => L.length - (intOf i).toNat)
  case atStart => exact ⟨0, Nat.zero_le _, rfl, Lib.hid rfl, HB.out⟩
  case round =>
    obtain ⟨k, hk, rfl, HF, hbel⟩ := hrel
    clear HB
    by_cases hlt : k < L.length
    · obtain ⟨x, hx⟩ : ∃ x, L[k]? = some x := ⟨L[k], List.getElem?_eq_getElem hlt⟩
      obtain ⟨bc, oc, ec, _, hcc⟩ := (HRL.out _ hbel).elem UseV.cells_len (by omega) hx
      subst ec
      have c0 := keep (hcc 0 _ rfl)
      have c1 := keep (hcc 1 _ rfl)
      have c2 := keep (hcc 2 _ rfl)
      have c3 := keep (hcc 3 _ rfl)
      rw [Nat.add_zero] at c0
      have hd : decide ((k : Int) < (L.length : Int)) = true := decide_eq_true (by omega)
      have HX := Lib.hid hx
      clear hx hcc
      have HBW := Lib.hid hbel
      replace sb0 := keepOnP sb0 hbel
      replace sb1 := keepOnP sb1 hbel
      replace sb2 := keepOnP sb2 hbel
      replace sb3 := keepOnP sb3 hbel
      replace sb4 := keepOnP sb4 hbel
      replace rr0 := keepOnP rr0 hbel
      replace rr1 := keepOnP rr1 hbel
      replace rr2 := keepOnP rr2 hbel
      replace rrF := keepOnP rrF hbel
      replace rrB := keepOnP rrB hbel
      replace hw := belStep hw hbel
      clear hbel
      generalize wr = W2 at *
      have hbel : Below W2.heap.size W2 W2 := Below.refl _ _
      have hz2 : w.heap.size + 1 < W2.heap.size := Nat.lt_of_lt_of_le hz1 HBW.out.size
      go_upto_region 4 with fail
      have HBX := Lib.hid (belAlloc (Below.refl W2.heap.size W2) (.cells #[.string x.id, .int .i64 x.a, .int .i64 x.b, .int .i64 x.c] 51))
      have bx0 : (W2.alloc (.cells #[.string x.id, .int .i64 x.a, .int .i64 x.b, .int .i64 x.c] 51)).cell? ⟨W2.heap.size, 0, none⟩ = some (.string x.id) := by first | (simp; done) | (rw [World.cell?_alloc_at _ _ _ _ (by simp)]; rfl) | (rw [World.cell?_alloc_past _ _ _ (by simp <;> omega), World.cell?_alloc_at _ _ _ _ (by simp)]; rfl) | (rw [World.cell?_alloc_past _ _ _ (by simp <;> omega), World.cell?_alloc_past _ _ _ (by simp <;> omega), World.cell?_alloc_at _ _ _ _ (by simp)]; rfl)
      have bx1 : (W2.alloc (.cells #[.string x.id, .int .i64 x.a, .int .i64 x.b, .int .i64 x.c] 51)).cell? ⟨W2.heap.size, 1, none⟩ = some (.int .i64 x.a) := by first | (simp; done) | (rw [World.cell?_alloc_at _ _ _ _ (by simp)]; rfl) | (rw [World.cell?_alloc_past _ _ _ (by simp <;> omega), World.cell?_alloc_at _ _ _ _ (by simp)]; rfl) | (rw [World.cell?_alloc_past _ _ _ (by simp <;> omega), World.cell?_alloc_past _ _ _ (by simp <;> omega), World.cell?_alloc_at _ _ _ _ (by simp)]; rfl)
      have bx2 : (W2.alloc (.cells #[.string x.id, .int .i64 x.a, .int .i64 x.b, .int .i64 x.c] 51)).cell? ⟨W2.heap.size, 2, none⟩ = some (.int .i64 x.b) := by first | (simp; done) | (rw [World.cell?_alloc_at _ _ _ _ (by simp)]; rfl) | (rw [World.cell?_alloc_past _ _ _ (by simp <;> omega), World.cell?_alloc_at _ _ _ _ (by simp)]; rfl) | (rw [World.cell?_alloc_past _ _ _ (by simp <;> omega), World.cell?_alloc_past _ _ _ (by simp <;> omega), World.cell?_alloc_at _ _ _ _ (by simp)]; rfl)
      have bx3 : (W2.alloc (.cells #[.string x.id, .int .i64 x.a, .int .i64 x.b, .int .i64 x.c] 51)).cell? ⟨W2.heap.size, 3, none⟩ = some (.int .i64 x.c) := by first | (simp; done) | (rw [World.cell?_alloc_at _ _ _ _ (by simp)]; rfl) | (rw [World.cell?_alloc_past _ _ _ (by simp <;> omega), World.cell?_alloc_at _ _ _ _ (by simp)]; rfl) | (rw [World.cell?_alloc_past _ _ _ (by simp <;> omega), World.cell?_alloc_past _ _ _ (by simp <;> omega), World.cell?_alloc_at _ _ _ _ (by simp)]; rfl)
      have hb2 := (by repeat (first | exact hbel | refine belAlloc ?_ _ | refine belDrew ?_ | refine belSet ?_ _ _ (by simp)) : Below W2.heap.size W2 (W2.alloc (.cells #[.string x.id, .int .i64 x.a, .int .i64 x.b, .int .i64 x.c] 51)))
      replace sb0 := keepOnP sb0 hb2
      replace sb1 := keepOnP sb1 hb2
      replace sb2 := keepOnP sb2 hb2
      replace sb3 := keepOnP sb3 hb2
      replace sb4 := keepOnP sb4 hb2
      replace rr0 := keepOnP rr0 hb2
      replace rr1 := keepOnP rr1 hb2
      replace rr2 := keepOnP rr2 hb2
      replace rrF := keepOnP rrF hb2
      replace rrB := keepOnP rrB hb2
      replace c0 := keepOnP c0 hb2
      replace c1 := keepOnP c1 hb2
      replace c2 := keepOnP c2 hb2
      replace c3 := keepOnP c3 hb2
      replace hw := belStep hw hb2
      clear hb2 hbel
      generalize W2.alloc (.cells #[.string x.id, .int .i64 x.a, .int .i64 x.b, .int .i64 x.c] 51) = W3 at *
      replace bx0 := keep bx0
      replace bx1 := keep bx1
      replace bx2 := keep bx2
      replace bx3 := keep bx3
      have hbel : Below W3.heap.size W3 W3 := Below.refl _ _
      skip
      cases hq : (x.id.toList == s.toList) with
      | false =>
        have HN := Lib.hid (find_next HF.out HX.out hq)
        go_wp2
        go_roundw
        case rel => exact ⟨k + 1, by omega, by push_cast; rfl, Lib.hid HN.out, belStep HBW.out HBX.out⟩
        case measure => simp [intOf] <;> omega
      | true =>
        have HO := Lib.hid (show ofF L s = x by unfold ofF; rw [find_at HF.out HX.out hq]; rfl)
        go_wp2
        exact of_ret _ _ _ x.a x.b x.c _ rfl ((((rrB _ hbel).set 0 _).set 1 _).set 2 _) ⟨by rw [HO.out], (by repeat (first | exact belStep hw hbel | refine belSet ?_ _ _ (by dsimp only; omega) | refine belAlloc ?_ _))⟩
    · obtain rfl : k = L.length := by omega
      have hd : decide ((L.length : Int) < (L.length : Int)) = false := decide_eq_false (by omega)
      have HO := Lib.hid (show ofF L s = default by unfold ofF; have h := HF.out; rw [List.take_length] at h; rw [h]; rfl)
      go_wp2
      exact of_ret _ _ _ 0 0 0 _ rfl ((((rrB _ hbel).set 0 _).set 1 _).set 2 _) ⟨by rw [HO.out]; rfl, (by repeat (first | exact belStep hw hbel | refine belSet ?_ _ _ (by dsimp only; omega) | refine belAlloc ?_ _))⟩
theorem rof_ret (W : World) (R : Nat) (tm : Array Value) (a b c : Int) (Q : Ending → World → Prop) (h2 : tm.getD 4 undef = .pointer (some ⟨R, 0, none⟩)) (hb : Blk W R [.int .i64 a, .int .i64 b, .int .i64 c] 29) (hR : Q (.returned (.agg #[.int .i64 a, .int .i64 b, .int .i64 c])) W) :
    bodyPost Try.prog Try.f26 Q Exit.ret { tmps := tm, defers := [] } W := by
  have z0 := hb.cell (j := 0) rfl
  have z1 := hb.cell (j := 1) rfl
  have z2 := hb.cell (j := 2) rfl
  refine bodyPost_ret (v := .agg #[.int .i64 a, .int .i64 b, .int .i64 c]) ?_ rfl hR
  simp only [Array.getD_eq_getD_getElem?] at h2
  simp [results, Try.results26, go_sem, h2, z0, z1, z2]
set_option maxRecDepth 100000 in
set_option maxHeartbeats 16000000 in
theorem sref_Of (t x0 x1 x2 : Int) (a : Option Addr) (len cap : Nat) (L : List UseV) (s : ByteArray) (w : World) (hl : L.length = len) (hR : Row w a len cap 4 (L.flatMap UseV.cells)) :
    Calls Try.prog 26 #[.agg #[.int .i64 t, .int .i64 x0, .int .i64 x1, .int .i64 x2, .slice a len cap], .string s] w fun e w' => e = .returned (.agg #[.int .i64 (ofF L s).a, .int .i64 (ofF L s).b, .int .i64 (ofF L s).c]) ∧ Below w.heap.size w w' := by
  have hw : Below w.heap.size w w := Below.refl _ _
  have hbel := hw
  have hbd_a : len ≤ cap ∧ cap ≤ 9223372036854775807 := by obtain ⟨_, h1, h2, _⟩ := hR; unfold maxLen at h2; exact ⟨h1, h2⟩
  obtain ⟨hbd1_a, hbd2_a⟩ := hbd_a
  have HR := Lib.hid hR
  clear hR
  subst hl
  go_enter Try.func26, Try.ntmps26
  go_upto_region 1 with fail
  have sb0 : ((w.alloc (.cells #[.int .i64 t, .int .i64 x0, .int .i64 x1, .int .i64 x2, .slice a L.length cap] 32)).alloc (.cells #[.int .i64 0, .int .i64 0, .int .i64 0] 29)).cell? ⟨w.heap.size, 0, none⟩ = some (.int .i64 t) := by first | (simp; done) | (rw [World.cell?_alloc_at _ _ _ _ (by simp)]; rfl) | (rw [World.cell?_alloc_past _ _ _ (by simp <;> omega), World.cell?_alloc_at _ _ _ _ (by simp)]; rfl) | (rw [World.cell?_alloc_past _ _ _ (by simp <;> omega), World.cell?_alloc_past _ _ _ (by simp <;> omega), World.cell?_alloc_at _ _ _ _ (by simp)]; rfl)
  have sb1 : ((w.alloc (.cells #[.int .i64 t, .int .i64 x0, .int .i64 x1, .int .i64 x2, .slice a L.length cap] 32)).alloc (.cells #[.int .i64 0, .int .i64 0, .int .i64 0] 29)).cell? ⟨w.heap.size, 1, none⟩ = some (.int .i64 x0) := by first | (simp; done) | (rw [World.cell?_alloc_at _ _ _ _ (by simp)]; rfl) | (rw [World.cell?_alloc_past _ _ _ (by simp <;> omega), World.cell?_alloc_at _ _ _ _ (by simp)]; rfl) | (rw [World.cell?_alloc_past _ _ _ (by simp <;> omega), World.cell?_alloc_past _ _ _ (by simp <;> omega), World.cell?_alloc_at _ _ _ _ (by simp)]; rfl)
  have sb2 : ((w.alloc (.cells #[.int .i64 t, .int .i64 x0, .int .i64 x1, .int .i64 x2, .slice a L.length cap] 32)).alloc (.cells #[.int .i64 0, .int .i64 0, .int .i64 0] 29)).cell? ⟨w.heap.size, 2, none⟩ = some (.int .i64 x1) := by first | (simp; done) | (rw [World.cell?_alloc_at _ _ _ _ (by simp)]; rfl) | (rw [World.cell?_alloc_past _ _ _ (by simp <;> omega), World.cell?_alloc_at _ _ _ _ (by simp)]; rfl) | (rw [World.cell?_alloc_past _ _ _ (by simp <;> omega), World.cell?_alloc_past _ _ _ (by simp <;> omega), World.cell?_alloc_at _ _ _ _ (by simp)]; rfl)
  have sb3 : ((w.alloc (.cells #[.int .i64 t, .int .i64 x0, .int .i64 x1, .int .i64 x2, .slice a L.length cap] 32)).alloc (.cells #[.int .i64 0, .int .i64 0, .int .i64 0] 29)).cell? ⟨w.heap.size, 3, none⟩ = some (.int .i64 x2) := by first | (simp; done) | (rw [World.cell?_alloc_at _ _ _ _ (by simp)]; rfl) | (rw [World.cell?_alloc_past _ _ _ (by simp <;> omega), World.cell?_alloc_at _ _ _ _ (by simp)]; rfl) | (rw [World.cell?_alloc_past _ _ _ (by simp <;> omega), World.cell?_alloc_past _ _ _ (by simp <;> omega), World.cell?_alloc_at _ _ _ _ (by simp)]; rfl)
  have sb4 : ((w.alloc (.cells #[.int .i64 t, .int .i64 x0, .int .i64 x1, .int .i64 x2, .slice a L.length cap] 32)).alloc (.cells #[.int .i64 0, .int .i64 0, .int .i64 0] 29)).cell? ⟨w.heap.size, 4, none⟩ = some (.slice a L.length cap) := by first | (simp; done) | (rw [World.cell?_alloc_at _ _ _ _ (by simp)]; rfl) | (rw [World.cell?_alloc_past _ _ _ (by simp <;> omega), World.cell?_alloc_at _ _ _ _ (by simp)]; rfl) | (rw [World.cell?_alloc_past _ _ _ (by simp <;> omega), World.cell?_alloc_past _ _ _ (by simp <;> omega), World.cell?_alloc_at _ _ _ _ (by simp)]; rfl)
  have rr0 : ((w.alloc (.cells #[.int .i64 t, .int .i64 x0, .int .i64 x1, .int .i64 x2, .slice a L.length cap] 32)).alloc (.cells #[.int .i64 0, .int .i64 0, .int .i64 0] 29)).cell? ⟨w.heap.size + 1, 0, none⟩ = some (.int .i64 0) := by first | (simp; done) | (rw [World.cell?_alloc_at _ _ _ _ (by simp)]; rfl) | (rw [World.cell?_alloc_past _ _ _ (by simp <;> omega), World.cell?_alloc_at _ _ _ _ (by simp)]; rfl) | (rw [World.cell?_alloc_past _ _ _ (by simp <;> omega), World.cell?_alloc_past _ _ _ (by simp <;> omega), World.cell?_alloc_at _ _ _ _ (by simp)]; rfl)
  have rr1 : ((w.alloc (.cells #[.int .i64 t, .int .i64 x0, .int .i64 x1, .int .i64 x2, .slice a L.length cap] 32)).alloc (.cells #[.int .i64 0, .int .i64 0, .int .i64 0] 29)).cell? ⟨w.heap.size + 1, 1, none⟩ = some (.int .i64 0) := by first | (simp; done) | (rw [World.cell?_alloc_at _ _ _ _ (by simp)]; rfl) | (rw [World.cell?_alloc_past _ _ _ (by simp <;> omega), World.cell?_alloc_at _ _ _ _ (by simp)]; rfl) | (rw [World.cell?_alloc_past _ _ _ (by simp <;> omega), World.cell?_alloc_past _ _ _ (by simp <;> omega), World.cell?_alloc_at _ _ _ _ (by simp)]; rfl)
  have rr2 : ((w.alloc (.cells #[.int .i64 t, .int .i64 x0, .int .i64 x1, .int .i64 x2, .slice a L.length cap] 32)).alloc (.cells #[.int .i64 0, .int .i64 0, .int .i64 0] 29)).cell? ⟨w.heap.size + 1, 2, none⟩ = some (.int .i64 0) := by first | (simp; done) | (rw [World.cell?_alloc_at _ _ _ _ (by simp)]; rfl) | (rw [World.cell?_alloc_past _ _ _ (by simp <;> omega), World.cell?_alloc_at _ _ _ _ (by simp)]; rfl) | (rw [World.cell?_alloc_past _ _ _ (by simp <;> omega), World.cell?_alloc_past _ _ _ (by simp <;> omega), World.cell?_alloc_at _ _ _ _ (by simp)]; rfl)
  have hb2 := (by repeat (first | exact hbel | refine belAlloc ?_ _ | refine belDrew ?_ | refine belSet ?_ _ _ (by simp)) : Below w.heap.size w ((w.alloc (.cells #[.int .i64 t, .int .i64 x0, .int .i64 x1, .int .i64 x2, .slice a L.length cap] 32)).alloc (.cells #[.int .i64 0, .int .i64 0, .int .i64 0] 29)))
  replace hw := belStep hw hb2
  have rrB : Blk ((w.alloc (.cells #[.int .i64 t, .int .i64 x0, .int .i64 x1, .int .i64 x2, .slice a L.length cap] 32)).alloc (.cells #[.int .i64 0, .int .i64 0, .int .i64 0] 29)) (w.heap.size + 1) [.int .i64 0, .int .i64 0, .int .i64 0] 29 := (Blk.at (by simp) : Blk ((w.alloc (.cells #[.int .i64 t, .int .i64 x0, .int .i64 x1, .int .i64 x2, .slice a L.length cap] 32)).alloc (.cells #[.int .i64 0, .int .i64 0, .int .i64 0] 29)) (w.heap.size + 1) [.int .i64 0, .int .i64 0, .int .i64 0] 29).later (by repeat (first | exact Below.refl _ _ | refine belAlloc ?_ _))
  have rrF := Blk.keepF rrB
  replace rrB := Blk.keepB rrB
  clear hb2 hbel
  generalize (w.alloc (.cells #[.int .i64 t, .int .i64 x0, .int .i64 x1, .int .i64 x2, .slice a L.length cap] 32)).alloc (.cells #[.int .i64 0, .int .i64 0, .int .i64 0] 29) = W1 at *
  replace sb0 := keep sb0
  replace sb1 := keep sb1
  replace sb2 := keep sb2
  replace sb3 := keep sb3
  replace sb4 := keep sb4
  replace rr0 := keep rr0
  replace rr1 := keep rr1
  replace rr2 := keep rr2
  have hbel : Below W1.heap.size W1 W1 := Below.refl _ _
  skip
  have hz1 : w.heap.size + 1 < W1.heap.size := (rrB _ hbel).lt
  have HRL := Lib.hid (fun u (hu : Below W1.heap.size W1 u) => HR.out.later (belStep hw hu))
  have HB := Lib.hid hbel
  go_wp2
  clear hbel
  go_loopw [5] (fun i wr => ∃ k : Nat, k ≤ L.length ∧ i = .int .i64 k ∧ Hid ((L.take k).find? (fun u => u.id.toList == s.toList) = none) ∧ Below W1.heap.size W1 wr) (fun i _ => L.length - (intOf i).toNat)
  case atStart => exact ⟨0, Nat.zero_le _, rfl, Lib.hid rfl, HB.out⟩
  case round =>
    obtain ⟨k, hk, rfl, HF, hbel⟩ := hrel
    clear HB
    by_cases hlt : k < L.length
    · obtain ⟨x, hx⟩ : ∃ x, L[k]? = some x := ⟨L[k], List.getElem?_eq_getElem hlt⟩
      obtain ⟨bc, oc, ec, _, hcc⟩ := (HRL.out _ hbel).elem UseV.cells_len (by omega) hx
      subst ec
      have c0 := keep (hcc 0 _ rfl)
      have c1 := keep (hcc 1 _ rfl)
      have c2 := keep (hcc 2 _ rfl)
      have c3 := keep (hcc 3 _ rfl)
      rw [Nat.add_zero] at c0
      have hd : decide ((k : Int) < (L.length : Int)) = true := decide_eq_true (by omega)
      have HX := Lib.hid hx
      clear hx hcc
      have HBW := Lib.hid hbel
      replace sb0 := keepOnP sb0 hbel
      replace sb1 := keepOnP sb1 hbel
      replace sb2 := keepOnP sb2 hbel
      replace sb3 := keepOnP sb3 hbel
      replace sb4 := keepOnP sb4 hbel
      replace rr0 := keepOnP rr0 hbel
      replace rr1 := keepOnP rr1 hbel
      replace rr2 := keepOnP rr2 hbel
      replace rrF := keepOnP rrF hbel
      replace rrB := keepOnP rrB hbel
      replace hw := belStep hw hbel
      clear hbel
      generalize wr = W2 at *
      have hbel : Below W2.heap.size W2 W2 := Below.refl _ _
      cases hq : (x.id.toList == s.toList) with
      | false =>
        have HN := Lib.hid (find_next HF.out HX.out hq)
        go_wp2
        go_roundw
        case rel => exact ⟨k + 1, by omega, by push_cast; rfl, Lib.hid HN.out, HBW.out⟩
        case measure => simp [intOf] <;> omega
      | true =>
        have HO := Lib.hid (show ofF L s = x by unfold ofF; rw [find_at HF.out HX.out hq]; rfl)
        go_wp2
        exact rof_ret _ _ _ x.a x.b x.c _ rfl ((((rrB _ hbel).set 0 _).set 1 _).set 2 _) ⟨by rw [HO.out], (by repeat (first | exact belStep hw hbel | refine belSet ?_ _ _ (by dsimp only; omega) | refine belAlloc ?_ _))⟩
    · obtain rfl : k = L.length := by omega
      have hd : decide ((L.length : Int) < (L.length : Int)) = false := decide_eq_false (by omega)
      have HO := Lib.hid (show ofF L s = default by unfold ofF; have h := HF.out; rw [List.take_length] at h; rw [h]; rfl)
      go_wp2
      exact rof_ret _ _ _ 0 0 0 _ rfl ((((rrB _ hbel).set 0 _).set 1 _).set 2 _) ⟨by rw [HO.out]; rfl, (by repeat (first | exact belStep hw hbel | refine belSet ?_ _ _ (by dsimp only; omega) | refine belAlloc ?_ _))⟩
end Go.Proofs.Ytcgpmihjodolmaa
