
/- pod.Sums: contract. -/
import Derived.Test.YtpmkhimmlpnbpaaPodBackMath
import Derived.Test.YtpmkhimmlpnbpaaSat
namespace Go.Proofs.Ytpmkhimmlpnbpaa
open Go.RowKit
set_option linter.unusedVariables false
set_option linter.unusedSimpArgs false

/-- The sum of what is asked for, of one resource. -/
def sumF (f : PodV → Int) (L : List PodV) : Int := L.foldl (fun s p => satAdd s (f p)) 0
theorem sumF_next (f : PodV → Int) {L : List PodV} {k : Nat} {p : PodV} (h : L[k]? = some p) : sumF f (L.take (k + 1)) = satAdd (sumF f (L.take k)) (f p) := by
  rw [List.take_add_one, h]; unfold sumF; rw [List.foldl_append]; rfl
theorem sumF_in (f : PodV → Int) (L : List PodV) : InI (sumF f L) := by
  obtain ⟨r, rfl⟩ : ∃ r, L = r.reverse := ⟨L.reverse, by simp⟩
  cases r with
  | nil => exact inI_0
  | cons p r => rw [List.reverse_cons]; unfold sumF; rw [List.foldl_append]; exact inI_add _ _

set_option maxRecDepth 100000 in
set_option maxHeartbeats 1000000 in
theorem Sums_ret (w W : World) (tm : Array Value) (a b c : Int) (R : Ending → World → Prop) (h2 : tm.getD 2 undef = .pointer (some ⟨w.heap.size, 0, none⟩)) (hb : Blk W w.heap.size [.int .i64 a, .int .i64 b, .int .i64 c] 42) (hR : R (.returned (.agg #[.int .i64 a, .int .i64 b, .int .i64 c])) W) :
    bodyPost Try.prog Try.f57 R Exit.ret { tmps := tm, defers := [] } W := by
  have z0 := hb.cell (j := 0) rfl
  have z1 := hb.cell (j := 1) rfl
  have z2 := hb.cell (j := 2) rfl
  refine bodyPost_ret (v := .agg #[.int .i64 a, .int .i64 b, .int .i64 c]) ?_ rfl hR
  simp only [Array.getD_eq_getD_getElem?] at h2
  simp [results, Try.results57, go_sem, h2, z0, z1, z2]

set_option maxRecDepth 100000 in
set_option maxHeartbeats 8000000 in
theorem pod_Sums (a : Option Addr) (len cap : Nat) (L : List PodV) (w : World) (hl : L.length = len) (hok : ∀ x ∈ L, x.ok) (hR : Row w a len cap 11 (L.flatMap PodV.cells)) :
    Calls Try.prog 57 #[.slice a len cap] w fun e w' => e = .returned (.agg #[.int .i64 (sumF PodV.r0 L), .int .i64 (sumF PodV.r1 L), .int .i64 (sumF PodV.r2 L)]) ∧ Below w.heap.size w w' := by
  have hbd : len ≤ cap ∧ cap ≤ 9223372036854775807 := by obtain ⟨_, h1, h2, _⟩ := hR; unfold maxLen at h2; exact ⟨h1, h2⟩
  obtain ⟨hbd1, hbd2⟩ := hbd
  have HR := Lib.hid hR
  have HO := Lib.hid hok
  clear hR hok
  subst hl
  have hix0 : ∀ (x y z : Int) (u : World), (Instr.index 42 (.agg #[.int .i64 x, .int .i64 y, .int .i64 z]) (.int .i64 0)).run Try.prog u = .ok (.int .i64 x) u := fun _ _ _ _ => by kernel_rfl
  have hix1 : ∀ (x y z : Int) (u : World), (Instr.index 42 (.agg #[.int .i64 x, .int .i64 y, .int .i64 z]) (.int .i64 1)).run Try.prog u = .ok (.int .i64 y) u := fun _ _ _ _ => by kernel_rfl
  have hix2 : ∀ (x y z : Int) (u : World), (Instr.index 42 (.agg #[.int .i64 x, .int .i64 y, .int .i64 z]) (.int .i64 2)).run Try.prog u = .ok (.int .i64 z) u := fun _ _ _ _ => by kernel_rfl
  go_enter Try.func57, Try.ntmps57
  go_wp2
  have hR0 := (Blk.new w [.int .i64 0, .int .i64 0, .int .i64 0] 42).later (belAlloc (Below.refl _ _) (.cells #[.int .i64 0, .int .i64 0, .int .i64 0] 42))
  have hM0 : Blk ((w.alloc (.cells #[.int .i64 0, .int .i64 0, .int .i64 0] 42)).alloc (.cells #[.int .i64 0, .int .i64 0, .int .i64 0] 42)) (w.heap.size + 1) [.int .i64 0, .int .i64 0, .int .i64 0] 42 := Blk.at (C := [.int .i64 0, .int .i64 0, .int .i64 0]) (by simp)
  have hb0 : Below w.heap.size w ((w.alloc (.cells #[.int .i64 0, .int .i64 0, .int .i64 0] 42)).alloc (.cells #[.int .i64 0, .int .i64 0, .int .i64 0] 42)) := belAlloc (belAlloc (Below.refl _ _) _) _
  have HR0 := Lib.hid hR0
  have HM0 := Lib.hid hM0
  have HB0 := Lib.hid hb0
  clear hR0 hM0 hb0
  go_loopw [10] (fun i wr => ∃ k : Nat, k ≤ L.length ∧ i = .int .i64 k ∧ Blk wr (w.heap.size + 1) [.int .i64 (sumF PodV.r0 (L.take k)), .int .i64 (sumF PodV.r1 (L.take k)), .int .i64 (sumF PodV.r2 (L.take k))] 42 ∧ Blk wr w.heap.size [.int .i64 0, .int .i64 0, .int .i64 0] 42 ∧ Below w.heap.size w wr) (fun i _ => L.length - (intOf i).toNat)
  case atStart => exact ⟨0, Nat.zero_le _, rfl, HM0.out, HR0.out, HB0.out⟩
  case round =>
    obtain ⟨k, hk, rfl, hbm, hbr, hbw⟩ := hrel
    by_cases hlt : k < L.length
    · have hbel : Below wr.heap.size wr wr := Below.refl _ _
      obtain ⟨p, hx⟩ : ∃ x, L[k]? = some x := ⟨L[k], List.getElem?_eq_getElem hlt⟩
      obtain ⟨b, off, rfl, _, hc⟩ := (HR.out.later hbw).elem PodV.cells_len (by omega) hx
      have x0 := keep (hc 0 _ rfl)
      have x1 := keep (hc 1 _ rfl)
      have x2 := keep (hc 2 _ rfl)
      have x3 := keep (hc 3 _ rfl)
      have x4 := keep (hc 4 _ rfl)
      have x5 := keep (hc 5 _ rfl)
      have x6 := keep (hc 6 _ rfl)
      have x7 := keep (hc 7 _ rfl)
      have x8 := keep (hc 8 _ rfl)
      have x9 := keep (hc 9 _ rfl)
      have x10 := keep (hc 10 _ rfl)
      rw [Nat.add_zero] at x0
      obtain ⟨_, _, _, hq0, hq1, hq2, _⟩ := HO.out p (List.mem_of_getElem? hx)
      have n0 := sumF_next PodV.r0 hx
      have n1 := sumF_next PodV.r1 hx
      have n2 := sumF_next PodV.r2 hx
      have hs0 := sumF_in PodV.r0 (L.take k)
      have hs1 := sumF_in PodV.r1 (L.take k)
      have hs2 := sumF_in PodV.r2 (L.take k)
      obtain ⟨s0, e0⟩ : ∃ s, sumF PodV.r0 (L.take k) = s := ⟨_, rfl⟩
      obtain ⟨s1, e1⟩ : ∃ s, sumF PodV.r1 (L.take k) = s := ⟨_, rfl⟩
      obtain ⟨s2, e2⟩ : ∃ s, sumF PodV.r2 (L.take k) = s := ⟨_, rfl⟩
      rw [e0] at hbm n0 hs0
      rw [e1] at hbm n1 hs1
      rw [e2] at hbm n2 hs2
      have N0 := Lib.hid n0
      have N1 := Lib.hid n1
      have N2 := Lib.hid n2
      have HBM := Lib.hid hbm
      have HBR := Lib.hid hbr
      have HBW := Lib.hid hbw
      have hd : decide ((k : Int) < (L.length : Int)) = true := decide_eq_true (by omega)
      clear hbm hbr hbw n0 n1 n2 e0 e1 e2 hx hc
      go_wp2
      have HBM2 := Lib.hid (HBM.out.later (belAlloc (Below.refl wr.heap.size wr) (.cells #[.string p.id, .int .i64 p.prio, .bool p.crit, .int .i64 p.r0, .int .i64 p.r1, .int .i64 p.r2, .int .i64 p.l0, .int .i64 p.l1, .int .i64 p.l2, .string p.img, .int .i64 p.size] 44)))
      have HBR2 := Lib.hid (HBR.out.later (belAlloc (Below.refl wr.heap.size wr) (.cells #[.string p.id, .int .i64 p.prio, .bool p.crit, .int .i64 p.r0, .int .i64 p.r1, .int .i64 p.r2, .int .i64 p.l0, .int .i64 p.l1, .int .i64 p.l2, .string p.img, .int .i64 p.size] 44)))
      have HBW2 := Lib.hid (belAlloc HBW.out (.cells #[.string p.id, .int .i64 p.prio, .bool p.crit, .int .i64 p.r0, .int .i64 p.r1, .int .i64 p.r2, .int .i64 p.l0, .int .i64 p.l1, .int .i64 p.l2, .string p.img, .int .i64 p.size] 44))
      clear x0 x1 x2 x3 x4 x5 x6 x7 x8 x9 x10 hbel
      go_loopw [16] (fun i wi => ((i = .int .i64 0 ∧ Blk wi (w.heap.size + 1) [.int .i64 (s0), .int .i64 (s1), .int .i64 (s2)] 42) ∨ (i = .int .i64 1 ∧ Blk wi (w.heap.size + 1) [.int .i64 (satAdd s0 p.r0), .int .i64 (s1), .int .i64 (s2)] 42) ∨ (i = .int .i64 2 ∧ Blk wi (w.heap.size + 1) [.int .i64 (satAdd s0 p.r0), .int .i64 (satAdd s1 p.r1), .int .i64 (s2)] 42) ∨ (i = .int .i64 3 ∧ Blk wi (w.heap.size + 1) [.int .i64 (satAdd s0 p.r0), .int .i64 (satAdd s1 p.r1), .int .i64 (satAdd s2 p.r2)] 42)) ∧ Blk wi w.heap.size [.int .i64 0, .int .i64 0, .int .i64 0] 42 ∧ Below w.heap.size w wi) (fun i _ => 3 - (intOf i).toNat)
      case atStart => exact ⟨.inl ⟨rfl, HBM2.out⟩, HBR2.out, HBW2.out⟩
      case round =>
        obtain ⟨h4, hbr3, hbw3⟩ := hrel
        rcases h4 with ⟨rfl, hbm⟩ | ⟨rfl, hbm⟩ | ⟨rfl, hbm⟩ | ⟨rfl, hbm⟩
        · have m0 := hbm.cell (j := 0) rfl
          have f0 := hbm.frozen 0
          have HB := Lib.hid hbm
          clear hbm
          have CA := Lib.hid (fun u => sat_Add s0 p.r0 u hs0 hq0)
          go_wp2_with (go_at_call 62; (with_reducible refine (CA.out _).mono ?_); rintro e w' ⟨rfl, rfl⟩)
          go_roundw
          case rel => exact ⟨.inr (.inl ⟨rfl, HB.out.set 0 _⟩), hbr3.far (by simp) _, hbw3.setCell (by simp) _⟩
          case measure => simp [intOf]
        · have m0 := hbm.cell (j := 1) rfl
          have f0 := hbm.frozen 1
          have HB := Lib.hid hbm
          clear hbm
          have CA := Lib.hid (fun u => sat_Add s1 p.r1 u hs1 hq1)
          go_wp2_with (go_at_call 62; (with_reducible refine (CA.out _).mono ?_); rintro e w' ⟨rfl, rfl⟩)
          go_roundw
          case rel => exact ⟨.inr (.inr (.inl ⟨rfl, HB.out.set 1 _⟩)), hbr3.far (by simp) _, hbw3.setCell (by simp) _⟩
          case measure => simp [intOf]
        · have m0 := hbm.cell (j := 2) rfl
          have f0 := hbm.frozen 2
          have HB := Lib.hid hbm
          clear hbm
          have CA := Lib.hid (fun u => sat_Add s2 p.r2 u hs2 hq2)
          go_wp2_with (go_at_call 62; (with_reducible refine (CA.out _).mono ?_); rintro e w' ⟨rfl, rfl⟩)
          go_roundw
          case rel => exact ⟨.inr (.inr (.inr (⟨rfl, HB.out.set 2 _⟩))), hbr3.far (by simp) _, hbw3.setCell (by simp) _⟩
          case measure => simp [intOf]
        · have HB := Lib.hid hbm
          clear hbm
          go_wp2
          go_roundw
          case rel => exact ⟨k + 1, by omega, by push_cast; rfl, by rw [N0.out, N1.out, N2.out]; exact HB.out, hbr3, hbw3⟩
          case measure => simp [intOf] <;> omega
    · obtain rfl : k = L.length := by omega
      rw [List.take_length] at hbm
      have m0 := hbm.cell (j := 0) rfl
      have m1 := hbm.cell (j := 1) rfl
      have m2 := hbm.cell (j := 2) rfl
      have z0 := hbr.cell (j := 0) rfl
      have z1 := hbr.cell (j := 1) rfl
      have z2 := hbr.cell (j := 2) rfl
      have zf := hbr.frozen
      have HBr := Lib.hid hbr
      clear hbm hbr
      obtain ⟨t0, e0⟩ : ∃ s, sumF PodV.r0 L = s := ⟨_, rfl⟩
      obtain ⟨t1, e1⟩ : ∃ s, sumF PodV.r1 L = s := ⟨_, rfl⟩
      obtain ⟨t2, e2⟩ : ∃ s, sumF PodV.r2 L = s := ⟨_, rfl⟩
      rw [e0] at m0
      have E0 := Lib.hid e0
      rw [e1] at m1
      have E1 := Lib.hid e1
      rw [e2] at m2
      have E2 := Lib.hid e2
      clear e0 e1 e2
      go_wp2
      exact Sums_ret w _ _ t0 t1 t2 _ rfl (((HBr.out.set 0 (.int .i64 t0)).set 1 (.int .i64 t1)).set 2 (.int .i64 t2)) ⟨by rw [E0.out, E1.out, E2.out], belSet (belSet (belSet hbw _ _ (Nat.le_refl _)) _ _ (Nat.le_refl _)) _ _ (Nat.le_refl _)⟩
end Go.Proofs.Ytpmkhimmlpnbpaa
