
/- Stage 27: SameEvents of the same events: contract. -/
import Derived.Test.YtekakalhknjdaaaDoorLg9
namespace Go.Proofs.YtekakalhknjdaaaDoor
open Go.RowKit
set_option linter.unusedVariables false
set_option linter.unusedSimpArgs false
theorem eq_ev2 (e f : EvV) (w : World) : (Op.equalIn 10000 23 (.agg #[.int .i64 e.kind, .string e.id, .int .i64 e.sig, .int .i64 e.n]) (.agg #[.int .i64 f.kind, .string f.id, .int .i64 f.sig, .int .i64 f.n])).run Tryd.prog w = .ok (decide (e.kind = f.kind) && (e.id.data.toList == f.id.data.toList && (decide (e.sig = f.sig) && decide (e.n = f.n)))) w := by
  have hs : Tryd.prog.fieldsOf 23 = #[{ name := "Kind", type := 3, offset := 0, embedded := false, tag := "", pkgPath := "", byteOffset := 0 }, { name := "Id", type := 9, offset := 1, embedded := false, tag := "", pkgPath := "", byteOffset := 8 }, { name := "Signal", type := 3, offset := 2, embedded := false, tag := "", pkgPath := "", byteOffset := 24 }, { name := "N", type := 3, offset := 3, embedded := false, tag := "", pkgPath := "", byteOffset := 32 }] := by kernel_rfl
  rw [run_equalIn_struct _ _ _ _ _ (by kernel_rfl) (by kernel_rfl), hs]
  simp [go_sem, ByteArray.toList_eq]
  by_cases a1 : e.kind = f.kind
  · by_cases a2 : e.id.data = f.id.data
    · by_cases a3 : e.sig = f.sig
      · by_cases a4 : e.n = f.n <;> simp [a1, a2, a3, a4]
      · simp [a1, a2, a3]
    · simp [a1, a2]
  · simp [a1]
def evB (e f : EvV) : Bool := decide (e.kind = f.kind) && (e.id.data.toList == f.id.data.toList && (decide (e.sig = f.sig) && decide (e.n = f.n)))
theorem evB_iff (e f : EvV) : evB e f = true ↔ e = f := by
  unfold evB
  simp only [Bool.and_eq_true, decide_eq_true_eq, beq_iff_eq]
  constructor
  · rintro ⟨a, b, c, d⟩
    have h : e.id = f.id := ext_data b
    obtain ⟨a1, a2, a3, a4⟩ := e
    obtain ⟨b1, b2, b3, b4⟩ := f
    simp only at a h c d
    rw [a, h, c, d]
  · rintro rfl; exact ⟨rfl, rfl, rfl, rfl⟩
theorem eq_ev3 (e f : EvV) (w : World) : (Op.equalIn 10000 23 (.agg #[.int .i64 e.kind, .string e.id, .int .i64 e.sig, .int .i64 e.n]) (.agg #[.int .i64 f.kind, .string f.id, .int .i64 f.sig, .int .i64 f.n])).run Tryd.prog w = .ok (evB e f) w := eq_ev2 e f w
set_option maxRecDepth 100000 in
set_option maxHeartbeats 64000000 in
theorem rf_SameEvents (a b : Option Addr) (n1 n2 c1 c2 : Nat) (E : List EvV) (w : World) (hn : E.length = n1) (hm : E.length = n2) (ha : Row w a n1 c1 4 (E.flatMap EvV.cells)) (hb : Row w b n2 c2 4 (E.flatMap EvV.cells)) :
    Calls Tryd.prog 20 #[.slice a n1 c1, .slice b n2 c2] w fun e w' => e = .returned (.bool true) ∧ Below w.heap.size w w' := by
  have hbd_a : n1 ≤ c1 ∧ c1 ≤ 9223372036854775807 := by obtain ⟨_, h1, h2, _⟩ := ha; unfold maxLen at h2; exact ⟨h1, h2⟩
  obtain ⟨hbd1_a, hbd2_a⟩ := hbd_a
  have hbd_b : n2 ≤ c2 ∧ c2 ≤ 9223372036854775807 := by obtain ⟨_, h1, h2, _⟩ := hb; unfold maxLen at h2; exact ⟨h1, h2⟩
  obtain ⟨hbd1_b, hbd2_b⟩ := hbd_b
  have HA := Lib.hid ha
  have HB := Lib.hid hb
  clear ha hb
  subst hn
  subst hm
  have HW0 := Lib.hid (Below.refl w.heap.size w)
  have hq : ((E.length : Int) != (E.length : Int)) = false := by simp
  go_enter Tryd.func20, Tryd.ntmps20
  go_wp2
  go_loopw [5] (fun iv wr => ∃ k : Nat, k ≤ E.length ∧ iv = .int .i64 k ∧ Hid (Below w.heap.size w wr)) (fun iv _ => E.length - (intOf iv).toNat)
  case atStart => exact ⟨0, Nat.zero_le _, rfl, HW0⟩
  case round =>
    clear HW0
    obtain ⟨k, hk, rfl, HW⟩ := hrel
    by_cases hlt : k < E.length
    · obtain ⟨y, hy⟩ : ∃ y, E[k]? = some y := ⟨E[k], List.getElem?_eq_getElem hlt⟩
      obtain ⟨bc, oc, ec, _, hcc⟩ := (HA.out.later HW.out).elem EvV.cells_len (by omega) hy
      subst ec
      have c0 := keep (hcc 0 _ rfl)
      have c1 := keep (hcc 1 _ rfl)
      have c2 := keep (hcc 2 _ rfl)
      have c3 := keep (hcc 3 _ rfl)
      rw [Nat.add_zero] at c0
      obtain ⟨bd, od, ed, _, hcd⟩ := (HB.out.later HW.out).elem EvV.cells_len (by omega) hy
      subst ed
      have d0 := keep (hcd 0 _ rfl)
      have d1 := keep (hcd 1 _ rfl)
      have d2 := keep (hcd 2 _ rfl)
      have d3 := keep (hcd 3 _ rfl)
      rw [Nat.add_zero] at d0
      have hd : decide ((k : Int) < (E.length : Int)) = true := decide_eq_true (by omega)
      clear hy hcc hcd
      have hbel : Below wr.heap.size wr wr := Below.refl _ _
      have teq := fun u => (eq_ev3 y y u).trans (by rw [(evB_iff y y).2 rfl])
      go_upto_region 6 with fail
      have kk := fun d os => belStep hbel (below_regrown _ d os)
      refine wp_region_quiet_below (by kernel_rfl) (by kernel_rfl) ?_
      repeat ((with_reducible refine wpQuiet_step (fun K hK => ?_)); go_simp; (try (rw [if_neg]; rotate_left; · decide)); first | ((with_reducible refine hK _ ?_); clear hK K) | (apply Exists.intro; refine ⟨fun _ => ?_, hK _ ?_⟩; (fail); clear hK K))
      refine wpQuiet_nil (fun w1 hw1 => ?_)
      replace hbel := belStep hbel (bel_of_class hw1)
      clear hw1 kk
      have HB9 := Lib.hid (belStep HW.out hbel)
      go_wp2
      go_roundw
      case rel => exact ⟨k + 1, by omega, by push_cast; rfl, HB9⟩
      case measure => simp [intOf] <;> omega
    · obtain rfl : k = E.length := by omega
      have hd : decide ((E.length : Int) < (E.length : Int)) = false := decide_eq_false (by omega)
      go_wp2
      go_ret
      exact ⟨rfl, HW.out⟩
end Go.Proofs.YtekakalhknjdaaaDoor
