
/- LogUnlike holds for all its arguments. No conditions but that the library's variables lie as its own text lays them. -/
import Derived.Lay
import Derived.Test.YtekakalhknjdaaaDoorLgB
import Derived.Test.YtekakalhknjdaaaDoorThrCards
namespace Go.Proofs.YtekakalhknjdaaaDoor.logUnlike
open Go.ChangeShapes Go.WideShapes Go.ChangeAt Go.RowKit
open Go.ChangeMaps (open_string shut_string)
set_option linter.unusedVariables false
set_option linter.unusedSimpArgs false
theorem eq_ev2 (e f : EvV) (w : World) : (Op.equalIn 10000 23 (.agg #[.int .i64 e.kind, .string e.id, .int .i64 e.sig, .int .i64 e.n]) (.agg #[.int .i64 f.kind, .string f.id, .int .i64 f.sig, .int .i64 f.n])).run Tryd.prog w = .ok (decide (e.kind = f.kind) && (e.id.data.toList == f.id.data.toList && (decide (e.sig = f.sig) && decide (e.n = f.n)))) w := by
  have hs : Tryd.prog.fieldsOf 23 = #[{ name := "Kind", type := 3, offset := 0, embedded := false, tag := "", pkgPath := "", byteOffset := 0 }, { name := "Id", type := 9, offset := 1, embedded := false, tag := "", pkgPath := "", byteOffset := 8 }, { name := "Signal", type := 3, offset := 2, embedded := false, tag := "", pkgPath := "", byteOffset := 24 }, { name := "N", type := 3, offset := 3, embedded := false, tag := "", pkgPath := "", byteOffset := 32 }] := by kernel_rfl
  rw [run_equalIn_struct _ _ _ _ _ (by kernel_rfl) (by kernel_rfl), hs]
  simp [go_sem, ByteArray.toList_eq]
  by_cases a1 : e.kind = f.kind
  · by_cases a2 : e.id.data = f.id.data
    · by_cases a3 : e.sig = f.sig
      · by_cases a4 : e.n = f.n <;> simp [a1, a2, a3, a4]
      · simp [a1, a2, a3]
    · simp [a1, a2]
  · simp [a1]
def evB (e f : EvV) : Bool := decide (e.kind = f.kind) && (e.id.data.toList == f.id.data.toList && (decide (e.sig = f.sig) && decide (e.n = f.n)))
theorem evB_iff (e f : EvV) : evB e f = true ↔ e = f := by
  unfold evB
  simp only [Bool.and_eq_true, decide_eq_true_eq, beq_iff_eq]
  constructor
  · rintro ⟨a, b, c, d⟩
    have h : e.id = f.id := ext_data b
    obtain ⟨a1, a2, a3, a4⟩ := e
    obtain ⟨b1, b2, b3, b4⟩ := f
    simp only at a h c d
    rw [a, h, c, d]
  · rintro rfl; exact ⟨rfl, rfl, rfl, rfl⟩
theorem eq_ev3 (e f : EvV) (w : World) : (Op.equalIn 10000 23 (.agg #[.int .i64 e.kind, .string e.id, .int .i64 e.sig, .int .i64 e.n]) (.agg #[.int .i64 f.kind, .string f.id, .int .i64 f.sig, .int .i64 f.n])).run Tryd.prog w = .ok (evB e f) w := eq_ev2 e f w
theorem rdX_end {s : List UInt8} : rdR (bA s ++ ⟨#[32]⟩) = 0 ∧ (rdE (bA s ++ ⟨#[32]⟩)).v = .agg #[.int .i64 0, .string ⟨#[]⟩, .int .i64 0, .int .i64 0] ∧ rdX (bA s ++ ⟨#[32]⟩) = 2 := by
  unfold rdR rdE rdX
  rw [show (bA s ++ ⟨#[32]⟩ : ByteArray).data.toList = s ++ [32] from by rw [ByteArray.data_append, Array.toList_append, bA_data], prog_end]
  exact ⟨rfl, rfl, rfl⟩
theorem rdX_head {s : List UInt8} : rdR (⟨#[32]⟩ ++ bA s) = 0 ∧ (rdE (⟨#[32]⟩ ++ bA s)).v = .agg #[.int .i64 0, .string ⟨#[]⟩, .int .i64 0, .int .i64 0] ∧ rdX (⟨#[32]⟩ ++ bA s) = 2 := by
  unfold rdR rdE rdX
  rw [show (⟨#[32]⟩ ++ bA s : ByteArray).data.toList = 32 :: s from by rw [ByteArray.data_append, Array.toList_append, bA_data]; rfl, prog_head]
  exact ⟨rfl, rfl, rfl⟩
theorem unl_eq {a b : Int} {e f : EvV} {s t : List UInt8} (he : e.n ≤ 9223372036854775807) (hf : f.n ≤ 9223372036854775807) (h : lineE a e = some s) (k : lineE b f = some t) : (s == t) = ((a == b) && evB e f) := by
  cases q : (s == t) with
  | true =>
    have h2 : s = t := by simpa using q
    subst h2
    obtain ⟨rfl, rfl⟩ := line_inj he hf h k
    rw [(evB_iff e e).2 rfl]; simp
  | false =>
    cases q2 : ((a == b) && evB e f) with
    | false => rfl
    | true =>
      rw [Bool.and_eq_true] at q2
      obtain ⟨h1, h2⟩ := q2
      have h1 : a = b := by simpa using h1
      have h2 := (evB_iff e f).1 h2
      subst h1 h2
      rw [h] at k
      rw [Option.some.inj k] at q
      simp at q
set_option maxRecDepth 100000 in
set_option maxHeartbeats 16000000 in
theorem walk (a b : Int) (e f : EvV) (W : World) (ht : Env W) (ha : InI a) (hb : InI b) (he : e.ok) (hf : f.ok) :
    Calls Tryd.prog 6 #[.int .i64 a, .int .i64 b, .agg #[.int .i64 e.kind, .string e.id, .int .i64 e.sig, .int .i64 e.n], .agg #[.int .i64 f.kind, .string f.id, .int .i64 f.sig, .int .i64 f.n]] W fun e0 w' => e0 = .returned (.bool true) ∧ Below W.heap.size W w' := by
  have hw : Below W.heap.size W W := Below.refl _ _
  have hbel := hw
  have HE := Lib.hid ht
  have H1 := Lib.hid he
  have H2 := Lib.hid hf
  have HA := Lib.hid ha
  have HB := Lib.hid hb
  clear ht he hf ha hb
  go_enter Tryd.func6, Tryd.ntmps6
  go_upto_region 1 with fail
  have ee0 : ((W.alloc (.cells #[.int .i64 e.kind, .string e.id, .int .i64 e.sig, .int .i64 e.n] 23)).alloc (.cells #[.int .i64 f.kind, .string f.id, .int .i64 f.sig, .int .i64 f.n] 23)).cell? ⟨W.heap.size, 0, none⟩ = some (.int .i64 e.kind) := by first | (simp; done) | (rw [World.cell?_alloc_at _ _ _ _ (by simp)]; rfl) | (rw [World.cell?_alloc_past _ _ _ (by simp <;> omega), World.cell?_alloc_at _ _ _ _ (by simp)]; rfl) | (rw [World.cell?_alloc_past _ _ _ (by simp <;> omega), World.cell?_alloc_past _ _ _ (by simp <;> omega), World.cell?_alloc_at _ _ _ _ (by simp)]; rfl)
  have ee1 : ((W.alloc (.cells #[.int .i64 e.kind, .string e.id, .int .i64 e.sig, .int .i64 e.n] 23)).alloc (.cells #[.int .i64 f.kind, .string f.id, .int .i64 f.sig, .int .i64 f.n] 23)).cell? ⟨W.heap.size, 1, none⟩ = some (.string e.id) := by first | (simp; done) | (rw [World.cell?_alloc_at _ _ _ _ (by simp)]; rfl) | (rw [World.cell?_alloc_past _ _ _ (by simp <;> omega), World.cell?_alloc_at _ _ _ _ (by simp)]; rfl) | (rw [World.cell?_alloc_past _ _ _ (by simp <;> omega), World.cell?_alloc_past _ _ _ (by simp <;> omega), World.cell?_alloc_at _ _ _ _ (by simp)]; rfl)
  have ee2 : ((W.alloc (.cells #[.int .i64 e.kind, .string e.id, .int .i64 e.sig, .int .i64 e.n] 23)).alloc (.cells #[.int .i64 f.kind, .string f.id, .int .i64 f.sig, .int .i64 f.n] 23)).cell? ⟨W.heap.size, 2, none⟩ = some (.int .i64 e.sig) := by first | (simp; done) | (rw [World.cell?_alloc_at _ _ _ _ (by simp)]; rfl) | (rw [World.cell?_alloc_past _ _ _ (by simp <;> omega), World.cell?_alloc_at _ _ _ _ (by simp)]; rfl) | (rw [World.cell?_alloc_past _ _ _ (by simp <;> omega), World.cell?_alloc_past _ _ _ (by simp <;> omega), World.cell?_alloc_at _ _ _ _ (by simp)]; rfl)
  have ee3 : ((W.alloc (.cells #[.int .i64 e.kind, .string e.id, .int .i64 e.sig, .int .i64 e.n] 23)).alloc (.cells #[.int .i64 f.kind, .string f.id, .int .i64 f.sig, .int .i64 f.n] 23)).cell? ⟨W.heap.size, 3, none⟩ = some (.int .i64 e.n) := by first | (simp; done) | (rw [World.cell?_alloc_at _ _ _ _ (by simp)]; rfl) | (rw [World.cell?_alloc_past _ _ _ (by simp <;> omega), World.cell?_alloc_at _ _ _ _ (by simp)]; rfl) | (rw [World.cell?_alloc_past _ _ _ (by simp <;> omega), World.cell?_alloc_past _ _ _ (by simp <;> omega), World.cell?_alloc_at _ _ _ _ (by simp)]; rfl)
  have ff0 : ((W.alloc (.cells #[.int .i64 e.kind, .string e.id, .int .i64 e.sig, .int .i64 e.n] 23)).alloc (.cells #[.int .i64 f.kind, .string f.id, .int .i64 f.sig, .int .i64 f.n] 23)).cell? ⟨W.heap.size + 1, 0, none⟩ = some (.int .i64 f.kind) := by first | (simp; done) | (rw [World.cell?_alloc_at _ _ _ _ (by simp)]; rfl) | (rw [World.cell?_alloc_past _ _ _ (by simp <;> omega), World.cell?_alloc_at _ _ _ _ (by simp)]; rfl) | (rw [World.cell?_alloc_past _ _ _ (by simp <;> omega), World.cell?_alloc_past _ _ _ (by simp <;> omega), World.cell?_alloc_at _ _ _ _ (by simp)]; rfl)
  have ff1 : ((W.alloc (.cells #[.int .i64 e.kind, .string e.id, .int .i64 e.sig, .int .i64 e.n] 23)).alloc (.cells #[.int .i64 f.kind, .string f.id, .int .i64 f.sig, .int .i64 f.n] 23)).cell? ⟨W.heap.size + 1, 1, none⟩ = some (.string f.id) := by first | (simp; done) | (rw [World.cell?_alloc_at _ _ _ _ (by simp)]; rfl) | (rw [World.cell?_alloc_past _ _ _ (by simp <;> omega), World.cell?_alloc_at _ _ _ _ (by simp)]; rfl) | (rw [World.cell?_alloc_past _ _ _ (by simp <;> omega), World.cell?_alloc_past _ _ _ (by simp <;> omega), World.cell?_alloc_at _ _ _ _ (by simp)]; rfl)
  have ff2 : ((W.alloc (.cells #[.int .i64 e.kind, .string e.id, .int .i64 e.sig, .int .i64 e.n] 23)).alloc (.cells #[.int .i64 f.kind, .string f.id, .int .i64 f.sig, .int .i64 f.n] 23)).cell? ⟨W.heap.size + 1, 2, none⟩ = some (.int .i64 f.sig) := by first | (simp; done) | (rw [World.cell?_alloc_at _ _ _ _ (by simp)]; rfl) | (rw [World.cell?_alloc_past _ _ _ (by simp <;> omega), World.cell?_alloc_at _ _ _ _ (by simp)]; rfl) | (rw [World.cell?_alloc_past _ _ _ (by simp <;> omega), World.cell?_alloc_past _ _ _ (by simp <;> omega), World.cell?_alloc_at _ _ _ _ (by simp)]; rfl)
  have ff3 : ((W.alloc (.cells #[.int .i64 e.kind, .string e.id, .int .i64 e.sig, .int .i64 e.n] 23)).alloc (.cells #[.int .i64 f.kind, .string f.id, .int .i64 f.sig, .int .i64 f.n] 23)).cell? ⟨W.heap.size + 1, 3, none⟩ = some (.int .i64 f.n) := by first | (simp; done) | (rw [World.cell?_alloc_at _ _ _ _ (by simp)]; rfl) | (rw [World.cell?_alloc_past _ _ _ (by simp <;> omega), World.cell?_alloc_at _ _ _ _ (by simp)]; rfl) | (rw [World.cell?_alloc_past _ _ _ (by simp <;> omega), World.cell?_alloc_past _ _ _ (by simp <;> omega), World.cell?_alloc_at _ _ _ _ (by simp)]; rfl)
  have hb2 := (by repeat (first | exact hbel | refine belAlloc ?_ _ | refine belDrew ?_ | refine belSet ?_ _ _ (by simp)) : Below W.heap.size W ((W.alloc (.cells #[.int .i64 e.kind, .string e.id, .int .i64 e.sig, .int .i64 e.n] 23)).alloc (.cells #[.int .i64 f.kind, .string f.id, .int .i64 f.sig, .int .i64 f.n] 23)))
  replace hw := belStep hw hb2
  have eeB : Blk ((W.alloc (.cells #[.int .i64 e.kind, .string e.id, .int .i64 e.sig, .int .i64 e.n] 23)).alloc (.cells #[.int .i64 f.kind, .string f.id, .int .i64 f.sig, .int .i64 f.n] 23)) (W.heap.size) [.int .i64 e.kind, .string e.id, .int .i64 e.sig, .int .i64 e.n] 23 := (Blk.at (by simp) : Blk (W.alloc (.cells #[.int .i64 e.kind, .string e.id, .int .i64 e.sig, .int .i64 e.n] 23)) (W.heap.size) [.int .i64 e.kind, .string e.id, .int .i64 e.sig, .int .i64 e.n] 23).later (by repeat (first | exact Below.refl _ _ | refine belAlloc ?_ _))
  have eeF := Blk.keepF eeB
  replace eeB := Blk.keepB eeB
  have ffB : Blk ((W.alloc (.cells #[.int .i64 e.kind, .string e.id, .int .i64 e.sig, .int .i64 e.n] 23)).alloc (.cells #[.int .i64 f.kind, .string f.id, .int .i64 f.sig, .int .i64 f.n] 23)) (W.heap.size + 1) [.int .i64 f.kind, .string f.id, .int .i64 f.sig, .int .i64 f.n] 23 := (Blk.at (by simp) : Blk ((W.alloc (.cells #[.int .i64 e.kind, .string e.id, .int .i64 e.sig, .int .i64 e.n] 23)).alloc (.cells #[.int .i64 f.kind, .string f.id, .int .i64 f.sig, .int .i64 f.n] 23)) (W.heap.size + 1) [.int .i64 f.kind, .string f.id, .int .i64 f.sig, .int .i64 f.n] 23).later (by repeat (first | exact Below.refl _ _ | refine belAlloc ?_ _))
  have ffF := Blk.keepF ffB
  replace ffB := Blk.keepB ffB
  clear hb2 hbel
  generalize (W.alloc (.cells #[.int .i64 e.kind, .string e.id, .int .i64 e.sig, .int .i64 e.n] 23)).alloc (.cells #[.int .i64 f.kind, .string f.id, .int .i64 f.sig, .int .i64 f.n] 23) = W1 at *
  replace ee0 := keep ee0
  replace ee1 := keep ee1
  replace ee2 := keep ee2
  replace ee3 := keep ee3
  replace ff0 := keep ff0
  replace ff1 := keep ff1
  replace ff2 := keep ff2
  replace ff3 := keep ff3
  have hbel : Below W1.heap.size W1 W1 := Below.refl _ _
  skip
  have HW := Lib.hid hw
  clear hw
  have HE1 := Lib.hid (fun u (hu : Below W1.heap.size W1 u) => HE.out.later (belStep HW.out hu))
  clear HE
  have CA := Lib.hid (fun u (hu : Below W1.heap.size W1 u) => awake27 u (HE1.out u hu))
  have hes := H1.out.2.1
  have hfs := H2.out.2.1
  by_cases h1 : 80 < e.id.size
  · have t1 : decide ((80 : Int) < (e.id.size : Int)) = true := decide_eq_true (by omega)
    have t1i : (80 : Int) < (e.id.size : Int) := by omega
    go_wp2_with (go_at_call 10; (with_reducible refine (CA.out _ hbel).mono ?_); rintro e9 w9 ⟨rfl, hb9⟩; replace hbel := belStep hbel hb9; clear hb9)
    go_ret
    exact ⟨rfl, belStep HW.out hbel⟩
  · have t1 : decide ((80 : Int) < (e.id.size : Int)) = false := decide_eq_false (by omega)
    have t1i : ¬ (80 : Int) < (e.id.size : Int) := by omega
    by_cases h2 : 80 < f.id.size
    · have t2 : decide ((80 : Int) < (f.id.size : Int)) = true := decide_eq_true (by omega)
      have t2i : (80 : Int) < (f.id.size : Int) := by omega
      go_wp2_with (go_at_call 10; (with_reducible refine (CA.out _ hbel).mono ?_); rintro e9 w9 ⟨rfl, hb9⟩; replace hbel := belStep hbel hb9; clear hb9)
      go_ret
      exact ⟨rfl, belStep HW.out hbel⟩
    · have t2 : decide ((80 : Int) < (f.id.size : Int)) = false := decide_eq_false (by omega)
      have t2i : ¬ (80 : Int) < (f.id.size : Int) := by omega
      have C1 := Lib.hid (fun u (hu : Below W1.heap.size W1 u) => lg_Line a e u (fun v hv => (HE1.out v (hu.trans (hv.mono hu.size))).tab) HA.out H1.out.2.1 H1.out.2.2.2)
      have C2 := Lib.hid (fun u (hu : Below W1.heap.size W1 u) => lg_Line b f u (fun v hv => (HE1.out v (hu.trans (hv.mono hu.size))).tab) HB.out H2.out.2.1 H2.out.2.2.2)
      cases h3 : lineE a e with
      | none =>
        rw [(ln_no h3).1, (ln_no h3).2] at C1
        cases h4 : lineE b f with
        | none =>
          rw [(ln_no h4).1, (ln_no h4).2] at C2
          go_wp2_with (first | (go_at_call 10; (with_reducible refine (CA.out _ hbel).mono ?_); rintro e9 w9 ⟨rfl, hb9⟩; replace hbel := belStep hbel hb9; clear hb9) | (go_at_call 11; (with_reducible refine (C1.out _ hbel).mono ?_); rintro e9 w9 ⟨rfl, hb9⟩; replace hbel := belStep hbel hb9; clear hb9) | (go_at_call 11; (with_reducible refine (C2.out _ hbel).mono ?_); rintro e9 w9 ⟨rfl, hb9⟩; replace hbel := belStep hbel hb9; clear hb9))
          go_ret
          exact ⟨rfl, belStep HW.out hbel⟩
        | some t =>
          rw [(ln_yes h4).1, (ln_yes h4).2] at C2
          go_wp2_with (first | (go_at_call 10; (with_reducible refine (CA.out _ hbel).mono ?_); rintro e9 w9 ⟨rfl, hb9⟩; replace hbel := belStep hbel hb9; clear hb9) | (go_at_call 11; (with_reducible refine (C1.out _ hbel).mono ?_); rintro e9 w9 ⟨rfl, hb9⟩; replace hbel := belStep hbel hb9; clear hb9) | (go_at_call 11; (with_reducible refine (C2.out _ hbel).mono ?_); rintro e9 w9 ⟨rfl, hb9⟩; replace hbel := belStep hbel hb9; clear hb9))
          go_ret
          exact ⟨rfl, belStep HW.out hbel⟩
      | some s =>
        rw [(ln_yes h3).1, (ln_yes h3).2] at C1
        cases h4 : lineE b f with
        | none =>
          rw [(ln_no h4).1, (ln_no h4).2] at C2
          go_wp2_with (first | (go_at_call 10; (with_reducible refine (CA.out _ hbel).mono ?_); rintro e9 w9 ⟨rfl, hb9⟩; replace hbel := belStep hbel hb9; clear hb9) | (go_at_call 11; (with_reducible refine (C1.out _ hbel).mono ?_); rintro e9 w9 ⟨rfl, hb9⟩; replace hbel := belStep hbel hb9; clear hb9) | (go_at_call 11; (with_reducible refine (C2.out _ hbel).mono ?_); rintro e9 w9 ⟨rfl, hb9⟩; replace hbel := belStep hbel hb9; clear hb9))
          go_ret
          exact ⟨rfl, belStep HW.out hbel⟩
        | some t =>
          rw [(ln_yes h4).1, (ln_yes h4).2] at C2
          have hsl := line_len H1.out.2.2.2.2 h3
          have hss : (bA s).size ≤ 200 := by rw [bA_size]; exact hsl
          have HU := Lib.hid (unl_eq H1.out.2.2.2.2 H2.out.2.2.2.2 h3 h4)
          have C3 := Lib.hid (fun u (hu : Below W1.heap.size W1 u) => lg_Read (bA s ++ ⟨#[32]⟩) u (fun v hv => HE1.out v (hu.trans (hv.mono hu.size))) (by rw [ByteArray.size_append]; have : (⟨#[32]⟩ : ByteArray).size = 1 := rfl; omega))
          have C4 := Lib.hid (fun u (hu : Below W1.heap.size W1 u) => lg_Read (⟨#[32]⟩ ++ bA s) u (fun v hv => HE1.out v (hu.trans (hv.mono hu.size))) (by rw [ByteArray.size_append]; have : (⟨#[32]⟩ : ByteArray).size = 1 := rfl; omega))
          rw [rdX_end.1, rdX_end.2.1, rdX_end.2.2] at C3
          rw [rdX_head.1, rdX_head.2.1, rdX_head.2.2] at C4
          have teq := fun u => eq_ev3 e f u
          generalize evB e f = vb at *
          have t5 : ((bA s).toList == (bA t).toList) = ((a == b) && vb) := by rw [bA_toL, bA_toL]; exact HU.out
          generalize hab : (a == b) = ab at *
          have hq1 : ¬ 9223372036854775807 < (bA s).size + 1 := by omega
          have hq2 : ¬ 9223372036854775807 < 1 + (bA s).size := by omega
          clear h3 h4 hsl HU
          cases ab <;> cases vb
          · go_wp2_with (first | (go_at_call 10; (with_reducible refine (CA.out _ hbel).mono ?_); rintro e9 w9 ⟨rfl, hb9⟩; replace hbel := belStep hbel hb9; clear hb9) | (go_at_call 11; (with_reducible refine (C1.out _ hbel).mono ?_); rintro e9 w9 ⟨rfl, hb9⟩; replace hbel := belStep hbel hb9; clear hb9) | (go_at_call 11; (with_reducible refine (C2.out _ hbel).mono ?_); rintro e9 w9 ⟨rfl, hb9⟩; replace hbel := belStep hbel hb9; clear hb9) | (go_at_call 14; (with_reducible refine (C3.out _ hbel).mono ?_); rintro e9 w9 ⟨rfl, hb9⟩; replace hbel := belAlloc (belStep hbel hb9) (.cells #[.int .i64 0, .string ⟨#[]⟩, .int .i64 0, .int .i64 0] 23); clear hb9) | (go_at_call 14; (with_reducible refine (C4.out _ hbel).mono ?_); rintro e9 w9 ⟨rfl, hb9⟩; replace hbel := belAlloc (belStep hbel hb9) (.cells #[.int .i64 0, .string ⟨#[]⟩, .int .i64 0, .int .i64 0] 23); clear hb9))
            go_ret
            exact ⟨rfl, belStep HW.out (by first | exact hbel | exact belAlloc hbel _)⟩
          · go_wp2_with (first | (go_at_call 10; (with_reducible refine (CA.out _ hbel).mono ?_); rintro e9 w9 ⟨rfl, hb9⟩; replace hbel := belStep hbel hb9; clear hb9) | (go_at_call 11; (with_reducible refine (C1.out _ hbel).mono ?_); rintro e9 w9 ⟨rfl, hb9⟩; replace hbel := belStep hbel hb9; clear hb9) | (go_at_call 11; (with_reducible refine (C2.out _ hbel).mono ?_); rintro e9 w9 ⟨rfl, hb9⟩; replace hbel := belStep hbel hb9; clear hb9) | (go_at_call 14; (with_reducible refine (C3.out _ hbel).mono ?_); rintro e9 w9 ⟨rfl, hb9⟩; replace hbel := belAlloc (belStep hbel hb9) (.cells #[.int .i64 0, .string ⟨#[]⟩, .int .i64 0, .int .i64 0] 23); clear hb9) | (go_at_call 14; (with_reducible refine (C4.out _ hbel).mono ?_); rintro e9 w9 ⟨rfl, hb9⟩; replace hbel := belAlloc (belStep hbel hb9) (.cells #[.int .i64 0, .string ⟨#[]⟩, .int .i64 0, .int .i64 0] 23); clear hb9))
            go_ret
            exact ⟨rfl, belStep HW.out (by first | exact hbel | exact belAlloc hbel _)⟩
          · go_wp2_with (first | (go_at_call 10; (with_reducible refine (CA.out _ hbel).mono ?_); rintro e9 w9 ⟨rfl, hb9⟩; replace hbel := belStep hbel hb9; clear hb9) | (go_at_call 11; (with_reducible refine (C1.out _ hbel).mono ?_); rintro e9 w9 ⟨rfl, hb9⟩; replace hbel := belStep hbel hb9; clear hb9) | (go_at_call 11; (with_reducible refine (C2.out _ hbel).mono ?_); rintro e9 w9 ⟨rfl, hb9⟩; replace hbel := belStep hbel hb9; clear hb9) | (go_at_call 14; (with_reducible refine (C3.out _ hbel).mono ?_); rintro e9 w9 ⟨rfl, hb9⟩; replace hbel := belAlloc (belStep hbel hb9) (.cells #[.int .i64 0, .string ⟨#[]⟩, .int .i64 0, .int .i64 0] 23); clear hb9) | (go_at_call 14; (with_reducible refine (C4.out _ hbel).mono ?_); rintro e9 w9 ⟨rfl, hb9⟩; replace hbel := belAlloc (belStep hbel hb9) (.cells #[.int .i64 0, .string ⟨#[]⟩, .int .i64 0, .int .i64 0] 23); clear hb9))
            go_ret
            exact ⟨rfl, belStep HW.out (by first | exact hbel | exact belAlloc hbel _)⟩
          · go_wp2_with (first | (go_at_call 10; (with_reducible refine (CA.out _ hbel).mono ?_); rintro e9 w9 ⟨rfl, hb9⟩; replace hbel := belStep hbel hb9; clear hb9) | (go_at_call 11; (with_reducible refine (C1.out _ hbel).mono ?_); rintro e9 w9 ⟨rfl, hb9⟩; replace hbel := belStep hbel hb9; clear hb9) | (go_at_call 11; (with_reducible refine (C2.out _ hbel).mono ?_); rintro e9 w9 ⟨rfl, hb9⟩; replace hbel := belStep hbel hb9; clear hb9) | (go_at_call 14; (with_reducible refine (C3.out _ hbel).mono ?_); rintro e9 w9 ⟨rfl, hb9⟩; replace hbel := belAlloc (belStep hbel hb9) (.cells #[.int .i64 0, .string ⟨#[]⟩, .int .i64 0, .int .i64 0] 23); clear hb9) | (go_at_call 14; (with_reducible refine (C4.out _ hbel).mono ?_); rintro e9 w9 ⟨rfl, hb9⟩; replace hbel := belAlloc (belStep hbel hb9) (.cells #[.int .i64 0, .string ⟨#[]⟩, .int .i64 0, .int .i64 0] 23); clear hb9))
            go_ret
            exact ⟨rfl, belStep HW.out (by first | exact hbel | exact belAlloc hbel _)⟩
theorem env_of {W : World} (h : laidMet Tryd.prog Rows.logUnlikeRow.laid W) (hs : W.ShapedOpen Tryd.prog) : Env W := env_of7 h hs

set_option maxRecDepth 100000 in
set_option maxRecDepth 100000 in
theorem lifted (os : Os) (started : os.Started) (H : Type) (enc : TypeId × Value → H) :
    ReturnsInHanded {} Tryd.checked os 6 .any (fun w args => (Rows.logUnlikeSpec.pre enc Tryd.prog Tryd.f6 [] false w args ∧ laidMetH Tryd.prog Rows.logUnlikeRow.laid w) ∧ sizedMet enc Tryd.prog Tryd.f6 (OpenSpec.ofChange Rows.logUnlikeSpec) false w args) (Rows.logUnlikeSpec.post enc Tryd.prog Tryd.f6 false true false false) := by
  refine returnsInHanded_of_change_and_shaped (C := Tryd.checked) (X := fun w _ => laidMetH Tryd.prog Rows.logUnlikeRow.laid w) (fun _ _ _ hh h => h.of_heap hh) own started (by kernel_rfl) Tryd.func6
    (ChangeSpec.witness_shaped (enc := enc) (C := Tryd.checked) (os := os) (X := fun w _ => laidMetH Tryd.prog Rows.logUnlikeRow.laid w) false (World.laidAll Tryd.prog os Rows.logUnlikeRow.laid) #[.int .i64 0, .int .i64 0, .agg #[.int .i64 0, .string ⟨#[]⟩, .int .i64 0, .int .i64 0], .agg #[.int .i64 0, .string ⟨#[]⟩, .int .i64 0, .int .i64 0]] 8 (World.laidAll_os _ _ _) (World.shaped_of_ZipB (by kernel_rfl) (by kernel_rfl)) (by kernel_rfl) (by kernel_rfl) (by kernel_rfl) (by rw [MakeChecks.laidMetH_plain _ _ _ (by kernel_rfl)]; exact laidMet_laidAll _ (by kernel_rfl) (by kernel_rfl))) ?_
  intro W base args ds gs before hval0 hW hL hsh
  rw [MakeChecks.laidMetH_plain _ _ _ (by kernel_rfl)] at hL
  have ht : Env W := env_of hL hsh
  clear hL
  have hval : ∀ (j : Nat) t v, Tryd.f6.params[j]? = some t → args[j]? = some v → Value.okWide Tryd.prog W .any base t v := hval0
  have hW' := hW
  obtain ⟨p, q, hA0, hV, rfl, hfz, hnd⟩ := hW
  have hA : DataW.TrodAll enc Tryd.prog W 0 (fun _ => true) true Tryd.f6.params.toList args.toList ds p := hA0
  rw [Tryd.params6] at hA hval
  obtain ⟨v0, vs0, d0, ds0, p0, q0, hargs, rfl, rfl, h0, r0⟩ := trodAll_cons hA
  obtain ⟨v1, vs1, d1, ds1, p1, q1, rfl, rfl, rfl, h1, r1⟩ := trodAll_cons r0
  obtain ⟨v2, vs2, d2, ds2, p2, q2, rfl, rfl, rfl, h2, r2⟩ := trodAll_cons r1
  obtain ⟨v3, vs3, d3, ds3, p3, q3, rfl, rfl, rfl, h3, r3⟩ := trodAll_cons r2
  obtain ⟨rfl, rfl, rfl⟩ := trodAll_nil r3
  obtain rfl : args = #[v0, v1, v2, v3] := by cases args; simp_all
  obtain ⟨rfl, rfl⟩ := trodVars_none hV
  have k0 := h0
  have lt0 : ∀ x ∈ p0, x.block < W.heap.size := by obtain ⟨m, hm⟩ := k0; exact DataW.trod_lt m _ _ _ hm
  have o0 : Value.okWide Tryd.prog W .any base 3 v0 := hval 0 3 v0 rfl rfl
  obtain ⟨a0, rfl, rfl, rfl, w0⟩ := open_int Tryd.underlying3 o0 h0
  have k1 := h1
  have lt1 : ∀ x ∈ p1, x.block < W.heap.size := by obtain ⟨m, hm⟩ := k1; exact DataW.trod_lt m _ _ _ hm
  have o1 : Value.okWide Tryd.prog W .any base 3 v1 := hval 1 3 v1 rfl rfl
  obtain ⟨a1, rfl, rfl, rfl, w1⟩ := open_int Tryd.underlying3 o1 h1
  have k2 := h2
  have lt2 : ∀ x ∈ p2, x.block < W.heap.size := by obtain ⟨m, hm⟩ := k2; exact DataW.trod_lt m _ _ _ hm
  have o2 : Value.okWide Tryd.prog W .any base 23 v2 := hval 2 23 v2 rfl rfl
  obtain ⟨e2, rfl, he2⟩ := open_event o2 h2
  have k3 := h3
  have lt3 : ∀ x ∈ p3, x.block < W.heap.size := by obtain ⟨m, hm⟩ := k3; exact DataW.trod_lt m _ _ _ hm
  have o3 : Value.okWide Tryd.prog W .any base 23 v3 := hval 3 23 v3 rfl rfl
  obtain ⟨f3, rfl, hf3⟩ := open_event o3 h3
  clear hA0 hval0
  refine (walk a0 a1 e2 f3 W ht (inI_of_wf w0) (inI_of_wf w1) he2 hf3).mono fun e W' ⟨he, bel⟩ => ?_
  subst he
  exact ⟨_, rfl, _, _, _, [], _, [], hW', trodAll_mk1 (shut_bool Tryd.underlying4 _), (trodAll_cons_mk (Below.trod laidOut (by kernel_rfl) (of_decide_eq_true (by kernel_rfl)) k0 bel lt0) (trodAll_cons_mk (Below.trod laidOut (by kernel_rfl) (of_decide_eq_true (by kernel_rfl)) k1 bel lt1) (trodAll_cons_mk (Below.trod laidOut (by kernel_rfl) (of_decide_eq_true (by kernel_rfl)) k2 bel lt2) (trodAll_cons_mk (Below.trod laidOut (by kernel_rfl) (of_decide_eq_true (by kernel_rfl)) k3 bel lt3) trodAll_mk0)))), rfl, bel.frame _, fun h => by cases h⟩

theorem over : Rows.logUnlikeRow.holds Tryd.pinned (OpenSpec.ofChange Rows.logUnlikeSpec) :=
  OpenClaim.holds_of_wide 6 Tryd.f6 rfl rfl rfl rfl rfl rfl rfl ⟨rfl, rfl, rfl, rfl, rfl⟩ rfl rfl rfl rfl rfl (by kernel_rfl) Tryd.func6 (by kernel_rfl)
    (of_decide_eq_true (by kernel_rfl)) (by unfold Func.isWrapper; first | (rw [if_pos (by decide +kernel)]; kernel_rfl) | (rw [if_neg (by decide +kernel)]; exact ⟨rfl, rfl⟩))
    (fun os started H enc _ => lifted os started H enc)

/-- The statement. -/
theorem proved : Rows.LogUnlikeCardSaid :=
  Claim7.holds_tied_plain_at .later [] Rows.logUnlikeCard.laidKinds true Rows.logUnlikeCard.stood.harness true
    over (fun _ h => by cases h) (by kernel_rfl) (fun _ h => by cases h) logUnlike_row_tie rfl ⟨rfl, rfl⟩ (by kernel_rfl) rfl
    (fun f fn hf hfn => by
      obtain rfl : f = 6 := Option.some.inj ((show Tryd.prog.funcNamed Rows.logUnlikeRow.func = some 6 by kernel_rfl).symm.trans hf) |>.symm
      obtain rfl : fn = Tryd.f6 := (Option.some.inj (Tryd.func6.symm.trans hfn)).symm
      exact ⟨by kernel_rfl, fun j t ht => by
        rw [Tryd.params6] at ht
        have hm : t ∈ [3, 3, 23, 23] := by simpa using Array.mem_of_getElem? ht
        have hall : ([3, 3, 23, 23].all fun u => !Tryd.prog.wantsStandIn u) = true := by kernel_rfl
        exact (show Tryd.prog.wantsStandIn t = false by simpa using List.all_eq_true.1 hall t hm)⟩)
    (by kernel_rfl)
#print axioms proved

end Go.Proofs.YtekakalhknjdaaaDoor.logUnlike
