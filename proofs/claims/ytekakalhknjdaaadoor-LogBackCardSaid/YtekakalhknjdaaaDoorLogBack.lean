
/- LogBack holds for all its arguments. No conditions but that the library's variables lie as its own text lays them. -/
import Derived.Lay
import Derived.Test.YtekakalhknjdaaaDoorLgB
import Derived.Test.YtekakalhknjdaaaDoorThrCards
namespace Go.Proofs.YtekakalhknjdaaaDoor.logBack
open Go.ChangeShapes Go.WideShapes Go.ChangeAt Go.RowKit
open Go.ChangeMaps (open_string shut_string)
set_option linter.unusedVariables false
set_option linter.unusedSimpArgs false
theorem eq_ev2 (e f : EvV) (w : World) : (Op.equalIn 10000 23 (.agg #[.int .i64 e.kind, .string e.id, .int .i64 e.sig, .int .i64 e.n]) (.agg #[.int .i64 f.kind, .string f.id, .int .i64 f.sig, .int .i64 f.n])).run Tryd.prog w = .ok (decide (e.kind = f.kind) && (e.id.data.toList == f.id.data.toList && (decide (e.sig = f.sig) && decide (e.n = f.n)))) w := by
  have hs : Tryd.prog.fieldsOf 23 = #[{ name := "Kind", type := 3, offset := 0, embedded := false, tag := "", pkgPath := "", byteOffset := 0 }, { name := "Id", type := 9, offset := 1, embedded := false, tag := "", pkgPath := "", byteOffset := 8 }, { name := "Signal", type := 3, offset := 2, embedded := false, tag := "", pkgPath := "", byteOffset := 24 }, { name := "N", type := 3, offset := 3, embedded := false, tag := "", pkgPath := "", byteOffset := 32 }] := by kernel_rfl
  rw [run_equalIn_struct _ _ _ _ _ (by kernel_rfl) (by kernel_rfl), hs]
  simp [go_sem, ByteArray.toList_eq]
  by_cases a1 : e.kind = f.kind
  · by_cases a2 : e.id.data = f.id.data
    · by_cases a3 : e.sig = f.sig
      · by_cases a4 : e.n = f.n <;> simp [a1, a2, a3, a4]
      · simp [a1, a2, a3]
    · simp [a1, a2]
  · simp [a1]
def evB (e f : EvV) : Bool := decide (e.kind = f.kind) && (e.id.data.toList == f.id.data.toList && (decide (e.sig = f.sig) && decide (e.n = f.n)))
theorem evB_iff (e f : EvV) : evB e f = true ↔ e = f := by
  unfold evB
  simp only [Bool.and_eq_true, decide_eq_true_eq, beq_iff_eq]
  constructor
  · rintro ⟨a, b, c, d⟩
    have h : e.id = f.id := ext_data b
    obtain ⟨a1, a2, a3, a4⟩ := e
    obtain ⟨b1, b2, b3, b4⟩ := f
    simp only at a h c d
    rw [a, h, c, d]
  · rintro rfl; exact ⟨rfl, rfl, rfl, rfl⟩
theorem eq_ev3 (e f : EvV) (w : World) : (Op.equalIn 10000 23 (.agg #[.int .i64 e.kind, .string e.id, .int .i64 e.sig, .int .i64 e.n]) (.agg #[.int .i64 f.kind, .string f.id, .int .i64 f.sig, .int .i64 f.n])).run Tryd.prog w = .ok (evB e f) w := eq_ev2 e f w
theorem rd_is {s : ByteArray} {r : Int} {e : EvV} (h : progF s.data.toList = some (r, e)) : rdR s = r ∧ rdE s = e ∧ rdX s = 0 := by
  unfold rdR rdE rdX
  rw [h]
  exact ⟨rfl, rfl, rfl⟩
theorem rd_isN {s : ByteArray} (h : progF s.data.toList = none) : rdR s = 0 ∧ rdE s = EvV.zero ∧ rdX s = 2 := by
  unfold rdR rdE rdX
  rw [h]
  exact ⟨rfl, rfl, rfl⟩
theorem prog_in {s : ByteArray} {r : Int} {e : EvV} (hs : s.size ≤ 1000000) (h : progF s.data.toList = some (r, e)) : InI r ∧ e.id.size ≤ maxLen ∧ InI e.n := by
  have h1 := readG_in (cutsL 32 s.data.toList) s.size (pcs_len 32 s.data.toList)
  unfold progF at h
  split at h
  · have e9 := Option.some.inj h
    rw [e9] at h1
    have h2 : e.id.size ≤ s.size := h1.2.1
    exact ⟨h1.1, by unfold maxLen; omega, h1.2.2⟩
  · cases h
theorem line_ok0 {r : Int} {e : EvV} {s : List UInt8} (h : lineE r e = some s) : (writeW e).good = true := by
  have h1 := write_eq e
  cases hg : (writeW e).good with
  | true => rfl
  | false =>
    rw [hg] at h1
    simp only [Bool.false_eq_true, if_false] at h1
    unfold lineE at h
    rw [← h1] at h
    split at h <;> cases h
set_option maxRecDepth 100000 in
set_option maxHeartbeats 16000000 in
theorem walk (a : Int) (e : EvV) (s : ByteArray) (W : World) (ht : Env W) (ha : InI a) (he : e.ok) (hs : s.size ≤ maxLen) :
    Calls Tryd.prog 5 #[.int .i64 a, .agg #[.int .i64 e.kind, .string e.id, .int .i64 e.sig, .int .i64 e.n], .string s] W fun e0 w' => e0 = .returned (.bool true) ∧ Below W.heap.size W w' := by
  have hw : Below W.heap.size W W := Below.refl _ _
  have hbel := hw
  have HE := Lib.hid (fun u (hu : Below W.heap.size W u) => ht.later hu)
  have H1 := Lib.hid he
  have HA := Lib.hid ha
  have HS := Lib.hid hs
  clear ht he ha hs
  go_enter Tryd.func5, Tryd.ntmps5
  go_upto_region 1 with fail
  have ee0 : (W.alloc (.cells #[.int .i64 e.kind, .string e.id, .int .i64 e.sig, .int .i64 e.n] 23)).cell? ⟨W.heap.size, 0, none⟩ = some (.int .i64 e.kind) := by first | (simp; done) | (rw [World.cell?_alloc_at _ _ _ _ (by simp)]; rfl) | (rw [World.cell?_alloc_past _ _ _ (by simp <;> omega), World.cell?_alloc_at _ _ _ _ (by simp)]; rfl) | (rw [World.cell?_alloc_past _ _ _ (by simp <;> omega), World.cell?_alloc_past _ _ _ (by simp <;> omega), World.cell?_alloc_at _ _ _ _ (by simp)]; rfl)
  have ee1 : (W.alloc (.cells #[.int .i64 e.kind, .string e.id, .int .i64 e.sig, .int .i64 e.n] 23)).cell? ⟨W.heap.size, 1, none⟩ = some (.string e.id) := by first | (simp; done) | (rw [World.cell?_alloc_at _ _ _ _ (by simp)]; rfl) | (rw [World.cell?_alloc_past _ _ _ (by simp <;> omega), World.cell?_alloc_at _ _ _ _ (by simp)]; rfl) | (rw [World.cell?_alloc_past _ _ _ (by simp <;> omega), World.cell?_alloc_past _ _ _ (by simp <;> omega), World.cell?_alloc_at _ _ _ _ (by simp)]; rfl)
  have ee2 : (W.alloc (.cells #[.int .i64 e.kind, .string e.id, .int .i64 e.sig, .int .i64 e.n] 23)).cell? ⟨W.heap.size, 2, none⟩ = some (.int .i64 e.sig) := by first | (simp; done) | (rw [World.cell?_alloc_at _ _ _ _ (by simp)]; rfl) | (rw [World.cell?_alloc_past _ _ _ (by simp <;> omega), World.cell?_alloc_at _ _ _ _ (by simp)]; rfl) | (rw [World.cell?_alloc_past _ _ _ (by simp <;> omega), World.cell?_alloc_past _ _ _ (by simp <;> omega), World.cell?_alloc_at _ _ _ _ (by simp)]; rfl)
  have ee3 : (W.alloc (.cells #[.int .i64 e.kind, .string e.id, .int .i64 e.sig, .int .i64 e.n] 23)).cell? ⟨W.heap.size, 3, none⟩ = some (.int .i64 e.n) := by first | (simp; done) | (rw [World.cell?_alloc_at _ _ _ _ (by simp)]; rfl) | (rw [World.cell?_alloc_past _ _ _ (by simp <;> omega), World.cell?_alloc_at _ _ _ _ (by simp)]; rfl) | (rw [World.cell?_alloc_past _ _ _ (by simp <;> omega), World.cell?_alloc_past _ _ _ (by simp <;> omega), World.cell?_alloc_at _ _ _ _ (by simp)]; rfl)
  have hb2 := (by repeat (first | exact hbel | refine belAlloc ?_ _ | refine belDrew ?_ | refine belSet ?_ _ _ (by simp)) : Below W.heap.size W (W.alloc (.cells #[.int .i64 e.kind, .string e.id, .int .i64 e.sig, .int .i64 e.n] 23)))
  replace hw := belStep hw hb2
  have eeB : Blk (W.alloc (.cells #[.int .i64 e.kind, .string e.id, .int .i64 e.sig, .int .i64 e.n] 23)) (W.heap.size) [.int .i64 e.kind, .string e.id, .int .i64 e.sig, .int .i64 e.n] 23 := (Blk.at (by simp) : Blk (W.alloc (.cells #[.int .i64 e.kind, .string e.id, .int .i64 e.sig, .int .i64 e.n] 23)) (W.heap.size) [.int .i64 e.kind, .string e.id, .int .i64 e.sig, .int .i64 e.n] 23).later (by repeat (first | exact Below.refl _ _ | refine belAlloc ?_ _))
  have eeF := Blk.keepF eeB
  replace eeB := Blk.keepB eeB
  clear hb2 hbel
  generalize W.alloc (.cells #[.int .i64 e.kind, .string e.id, .int .i64 e.sig, .int .i64 e.n] 23) = W1 at *
  replace ee0 := keep ee0
  replace ee1 := keep ee1
  replace ee2 := keep ee2
  replace ee3 := keep ee3
  have hbel : Below W1.heap.size W1 W1 := Below.refl _ _
  skip
  have CA := Lib.hid (fun u (hu : Below W.heap.size W u) => awake27 u (HE.out u hu))
  have hes := H1.out.2.1
  have hss := HS.out
  by_cases h1 : 80 < e.id.size
  · have t1 : decide ((80 : Int) < (e.id.size : Int)) = true := decide_eq_true (by omega)
    have t1i : (80 : Int) < (e.id.size : Int) := by omega
    go_wp2_with (go_at_call 10; (with_reducible refine (CA.out _ (belStep hw hbel)).mono ?_); rintro e9 w9 ⟨rfl, hb9⟩; replace hbel := belStep hbel hb9; clear hb9)
    go_ret
    exact ⟨rfl, belStep hw hbel⟩
  · have t1 : decide ((80 : Int) < (e.id.size : Int)) = false := decide_eq_false (by omega)
    have t1i : ¬ (80 : Int) < (e.id.size : Int) := by omega
    by_cases h2 : 200 < s.size
    · have t2 : decide ((200 : Int) < (s.size : Int)) = true := decide_eq_true (by omega)
      have t2i : (200 : Int) < (s.size : Int) := by omega
      go_wp2_with (go_at_call 10; (with_reducible refine (CA.out _ (belStep hw hbel)).mono ?_); rintro e9 w9 ⟨rfl, hb9⟩; replace hbel := belStep hbel hb9; clear hb9)
      go_ret
      exact ⟨rfl, belStep hw hbel⟩
    · have t2 : decide ((200 : Int) < (s.size : Int)) = false := decide_eq_false (by omega)
      have t2i : ¬ (200 : Int) < (s.size : Int) := by omega
      have hs6 : s.size ≤ 1000000 := by omega
      have CR := Lib.hid (fun u (hu : Below W.heap.size W u) => lg_Read s u (fun v hv => HE.out v (hu.trans (hv.mono hu.size))) hs6)
      have CL := Lib.hid (fun u (hu : Below W.heap.size W u) => lg_Line a e u (fun v hv => (HE.out v (hu.trans (hv.mono hu.size))).tab) HA.out H1.out.2.1 H1.out.2.2.2)
      cases h4 : progF s.data.toList with
      | none =>
        have hr := rd_isN h4
        rw [hr.1, hr.2.1, hr.2.2] at CR
        rw [show EvV.v EvV.zero = .agg #[.int .i64 0, .string ⟨#[]⟩, .int .i64 0, .int .i64 0] from rfl] at CR
        clear hr h4
        go_upto_region 4 with (first | (go_at_call 10; (with_reducible refine (CA.out _ (belStep hw hbel)).mono ?_); rintro e9 w9 ⟨rfl, hb9⟩; replace hbel := belStep hbel hb9; clear hb9) | (go_at_call 14; (with_reducible refine (CR.out _ (belStep hw hbel)).mono ?_); rintro e9 w2 ⟨rfl, hb9⟩; replace hbel := belStep hbel hb9; clear hb9))
        have xx0 : (w2.alloc (.cells #[.int .i64 0, .string ⟨#[]⟩, .int .i64 0, .int .i64 0] 23)).cell? ⟨w2.heap.size, 0, none⟩ = some (.int .i64 0) := by first | (simp; done) | (rw [World.cell?_alloc_at _ _ _ _ (by simp)]; rfl) | (rw [World.cell?_alloc_past _ _ _ (by simp <;> omega), World.cell?_alloc_at _ _ _ _ (by simp)]; rfl) | (rw [World.cell?_alloc_past _ _ _ (by simp <;> omega), World.cell?_alloc_past _ _ _ (by simp <;> omega), World.cell?_alloc_at _ _ _ _ (by simp)]; rfl)
        have xx1 : (w2.alloc (.cells #[.int .i64 0, .string ⟨#[]⟩, .int .i64 0, .int .i64 0] 23)).cell? ⟨w2.heap.size, 1, none⟩ = some (.string ⟨#[]⟩) := by first | (simp; done) | (rw [World.cell?_alloc_at _ _ _ _ (by simp)]; rfl) | (rw [World.cell?_alloc_past _ _ _ (by simp <;> omega), World.cell?_alloc_at _ _ _ _ (by simp)]; rfl) | (rw [World.cell?_alloc_past _ _ _ (by simp <;> omega), World.cell?_alloc_past _ _ _ (by simp <;> omega), World.cell?_alloc_at _ _ _ _ (by simp)]; rfl)
        have xx2 : (w2.alloc (.cells #[.int .i64 0, .string ⟨#[]⟩, .int .i64 0, .int .i64 0] 23)).cell? ⟨w2.heap.size, 2, none⟩ = some (.int .i64 0) := by first | (simp; done) | (rw [World.cell?_alloc_at _ _ _ _ (by simp)]; rfl) | (rw [World.cell?_alloc_past _ _ _ (by simp <;> omega), World.cell?_alloc_at _ _ _ _ (by simp)]; rfl) | (rw [World.cell?_alloc_past _ _ _ (by simp <;> omega), World.cell?_alloc_past _ _ _ (by simp <;> omega), World.cell?_alloc_at _ _ _ _ (by simp)]; rfl)
        have xx3 : (w2.alloc (.cells #[.int .i64 0, .string ⟨#[]⟩, .int .i64 0, .int .i64 0] 23)).cell? ⟨w2.heap.size, 3, none⟩ = some (.int .i64 0) := by first | (simp; done) | (rw [World.cell?_alloc_at _ _ _ _ (by simp)]; rfl) | (rw [World.cell?_alloc_past _ _ _ (by simp <;> omega), World.cell?_alloc_at _ _ _ _ (by simp)]; rfl) | (rw [World.cell?_alloc_past _ _ _ (by simp <;> omega), World.cell?_alloc_past _ _ _ (by simp <;> omega), World.cell?_alloc_at _ _ _ _ (by simp)]; rfl)
        have hb2 := (by repeat (first | exact hbel | refine belAlloc ?_ _ | refine belDrew ?_ | refine belSet ?_ _ _ (by simp)) : Below W1.heap.size W1 (w2.alloc (.cells #[.int .i64 0, .string ⟨#[]⟩, .int .i64 0, .int .i64 0] 23)))
        replace ee0 := keepOnP ee0 hb2
        replace ee1 := keepOnP ee1 hb2
        replace ee2 := keepOnP ee2 hb2
        replace ee3 := keepOnP ee3 hb2
        replace eeF := keepOnP eeF hb2
        replace eeB := keepOnP eeB hb2
        replace hw := belStep hw hb2
        have xxB : Blk (w2.alloc (.cells #[.int .i64 0, .string ⟨#[]⟩, .int .i64 0, .int .i64 0] 23)) (w2.heap.size) [.int .i64 0, .string ⟨#[]⟩, .int .i64 0, .int .i64 0] 23 := (Blk.at (by simp) : Blk (w2.alloc (.cells #[.int .i64 0, .string ⟨#[]⟩, .int .i64 0, .int .i64 0] 23)) (w2.heap.size) [.int .i64 0, .string ⟨#[]⟩, .int .i64 0, .int .i64 0] 23).later (by repeat (first | exact Below.refl _ _ | refine belAlloc ?_ _))
        have xxF := Blk.keepF xxB
        replace xxB := Blk.keepB xxB
        clear hb2 hbel
        generalize w2.alloc (.cells #[.int .i64 0, .string ⟨#[]⟩, .int .i64 0, .int .i64 0] 23) = W2 at *
        replace xx0 := keep xx0
        replace xx1 := keep xx1
        replace xx2 := keep xx2
        replace xx3 := keep xx3
        generalize w2.heap.size = M at *
        have hbel : Below W2.heap.size W2 W2 := Below.refl _ _
        clear w2
        clear CR CA
        cases h3 : lineE a e with
        | none =>
          rw [(ln_no h3).1, (ln_no h3).2] at CL
          go_wp2_with (go_at_call 11; (with_reducible refine (CL.out _ (belStep hw hbel)).mono ?_); rintro e9 w9 ⟨rfl, hb9⟩; replace hbel := belStep hbel hb9; clear hb9)
          go_ret
          exact ⟨rfl, belStep hw hbel⟩
        | some t =>
          rw [(ln_yes h3).1, (ln_yes h3).2] at CL
          have hsl := line_len H1.out.2.2.2.2 h3
          have hb2 := rd_is (s := bA t) (by rw [bA_data]; exact prog_back H1.out.2.2.2.2 h3)
          have CQ := Lib.hid (fun u (hu : Below W.heap.size W u) => lg_Read (bA t) u (fun v hv => HE.out v (hu.trans (hv.mono hu.size))) (by rw [bA_size]; omega))
          rw [hb2.1, hb2.2.1, hb2.2.2] at CQ
          rw [show e.v = .agg #[.int .i64 e.kind, .string e.id, .int .i64 e.sig, .int .i64 e.n] from rfl] at CQ
          have teq := fun u => (eq_ev3 e e u).trans (by rw [(evB_iff e e).2 rfl])
          clear hb2 hsl h3
          go_wp2_with (first | (go_at_call 11; (with_reducible refine (CL.out _ (belStep hw hbel)).mono ?_); rintro e9 w9 ⟨rfl, hb9⟩; replace hbel := belStep hbel hb9; clear hb9) | (go_at_call 14; (with_reducible refine (CQ.out _ (belStep hw hbel)).mono ?_); rintro e9 w9 ⟨rfl, hb9⟩; replace hbel := belAlloc (belStep hbel hb9) (.cells #[.int .i64 e.kind, .string e.id, .int .i64 e.sig, .int .i64 e.n] 23); clear hb9))
          go_ret
          exact ⟨rfl, belStep hw hbel⟩
      | some p =>
        obtain ⟨r, x⟩ := p
        have hr := rd_is h4
        rw [hr.1, hr.2.1, hr.2.2] at CR
        rw [show x.v = .agg #[.int .i64 x.kind, .string x.id, .int .i64 x.sig, .int .i64 x.n] from rfl] at CR
        obtain ⟨hl4, _⟩ := (progF_iff _ _ _).1 h4
        obtain ⟨i1, i2, i3⟩ := prog_in hs6 h4
        have CX := Lib.hid (fun u (hu : Below W.heap.size W u) => lg_Line r x u (fun v hv => (HE.out v (hu.trans (hv.mono hu.size))).tab) i1 i2 i3)
        rw [(ln_yes hl4).1, (ln_yes hl4).2, bA_self] at CX
        have CG := Lib.hid (fun u (hu : Below W.heap.size W u) => lg_Right x u (fun v hv => (HE.out v (hu.trans (hv.mono hu.size))).tab) i2 i3)
        rw [line_ok0 hl4] at CG
        have t7 : (s.toList == s.toList) = true := beq_self_eq_true _
        have t8 : (s.toList != s.toList) = false := by simp
        clear hr h4 hl4 i1 i2 i3
        go_upto_region 4 with (first | (go_at_call 10; (with_reducible refine (CA.out _ (belStep hw hbel)).mono ?_); rintro e9 w9 ⟨rfl, hb9⟩; replace hbel := belStep hbel hb9; clear hb9) | (go_at_call 14; (with_reducible refine (CR.out _ (belStep hw hbel)).mono ?_); rintro e9 w2 ⟨rfl, hb9⟩; replace hbel := belStep hbel hb9; clear hb9))
        have xx0 : (w2.alloc (.cells #[.int .i64 x.kind, .string x.id, .int .i64 x.sig, .int .i64 x.n] 23)).cell? ⟨w2.heap.size, 0, none⟩ = some (.int .i64 x.kind) := by first | (simp; done) | (rw [World.cell?_alloc_at _ _ _ _ (by simp)]; rfl) | (rw [World.cell?_alloc_past _ _ _ (by simp <;> omega), World.cell?_alloc_at _ _ _ _ (by simp)]; rfl) | (rw [World.cell?_alloc_past _ _ _ (by simp <;> omega), World.cell?_alloc_past _ _ _ (by simp <;> omega), World.cell?_alloc_at _ _ _ _ (by simp)]; rfl)
        have xx1 : (w2.alloc (.cells #[.int .i64 x.kind, .string x.id, .int .i64 x.sig, .int .i64 x.n] 23)).cell? ⟨w2.heap.size, 1, none⟩ = some (.string x.id) := by first | (simp; done) | (rw [World.cell?_alloc_at _ _ _ _ (by simp)]; rfl) | (rw [World.cell?_alloc_past _ _ _ (by simp <;> omega), World.cell?_alloc_at _ _ _ _ (by simp)]; rfl) | (rw [World.cell?_alloc_past _ _ _ (by simp <;> omega), World.cell?_alloc_past _ _ _ (by simp <;> omega), World.cell?_alloc_at _ _ _ _ (by simp)]; rfl)
        have xx2 : (w2.alloc (.cells #[.int .i64 x.kind, .string x.id, .int .i64 x.sig, .int .i64 x.n] 23)).cell? ⟨w2.heap.size, 2, none⟩ = some (.int .i64 x.sig) := by first | (simp; done) | (rw [World.cell?_alloc_at _ _ _ _ (by simp)]; rfl) | (rw [World.cell?_alloc_past _ _ _ (by simp <;> omega), World.cell?_alloc_at _ _ _ _ (by simp)]; rfl) | (rw [World.cell?_alloc_past _ _ _ (by simp <;> omega), World.cell?_alloc_past _ _ _ (by simp <;> omega), World.cell?_alloc_at _ _ _ _ (by simp)]; rfl)
        have xx3 : (w2.alloc (.cells #[.int .i64 x.kind, .string x.id, .int .i64 x.sig, .int .i64 x.n] 23)).cell? ⟨w2.heap.size, 3, none⟩ = some (.int .i64 x.n) := by first | (simp; done) | (rw [World.cell?_alloc_at _ _ _ _ (by simp)]; rfl) | (rw [World.cell?_alloc_past _ _ _ (by simp <;> omega), World.cell?_alloc_at _ _ _ _ (by simp)]; rfl) | (rw [World.cell?_alloc_past _ _ _ (by simp <;> omega), World.cell?_alloc_past _ _ _ (by simp <;> omega), World.cell?_alloc_at _ _ _ _ (by simp)]; rfl)
        have hb2 := (by repeat (first | exact hbel | refine belAlloc ?_ _ | refine belDrew ?_ | refine belSet ?_ _ _ (by simp)) : Below W1.heap.size W1 (w2.alloc (.cells #[.int .i64 x.kind, .string x.id, .int .i64 x.sig, .int .i64 x.n] 23)))
        replace ee0 := keepOnP ee0 hb2
        replace ee1 := keepOnP ee1 hb2
        replace ee2 := keepOnP ee2 hb2
        replace ee3 := keepOnP ee3 hb2
        replace hw := belStep hw hb2
        have xxB : Blk (w2.alloc (.cells #[.int .i64 x.kind, .string x.id, .int .i64 x.sig, .int .i64 x.n] 23)) (w2.heap.size) [.int .i64 x.kind, .string x.id, .int .i64 x.sig, .int .i64 x.n] 23 := (Blk.at (by simp) : Blk (w2.alloc (.cells #[.int .i64 x.kind, .string x.id, .int .i64 x.sig, .int .i64 x.n] 23)) (w2.heap.size) [.int .i64 x.kind, .string x.id, .int .i64 x.sig, .int .i64 x.n] 23).later (by repeat (first | exact Below.refl _ _ | refine belAlloc ?_ _))
        have xxF := Blk.keepF xxB
        replace xxB := Blk.keepB xxB
        clear hb2 hbel
        generalize w2.alloc (.cells #[.int .i64 x.kind, .string x.id, .int .i64 x.sig, .int .i64 x.n] 23) = W2 at *
        replace xx0 := keep xx0
        replace xx1 := keep xx1
        replace xx2 := keep xx2
        replace xx3 := keep xx3
        generalize w2.heap.size = M at *
        have hbel : Below W2.heap.size W2 W2 := Below.refl _ _
        clear w2
        clear CR CA
        go_upto_region 8 with (first | (go_at_call 11; (with_reducible refine (CX.out _ (belStep hw hbel)).mono ?_); rintro e9 w9 ⟨rfl, hb9⟩; replace hbel := belStep hbel hb9; clear hb9) | (go_at_call 13; (with_reducible refine (CG.out _ (belStep hw hbel)).mono ?_); rintro e9 w9 ⟨rfl, hb9⟩; replace hbel := belStep hbel hb9; clear hb9))
        clear CX CG
        cases h3 : lineE a e with
        | none =>
          rw [(ln_no h3).1, (ln_no h3).2] at CL
          go_wp2_with (go_at_call 11; (with_reducible refine (CL.out _ (belStep hw hbel)).mono ?_); rintro e9 w9 ⟨rfl, hb9⟩; replace hbel := belStep hbel hb9; clear hb9)
          go_ret
          exact ⟨rfl, belStep hw hbel⟩
        | some t =>
          rw [(ln_yes h3).1, (ln_yes h3).2] at CL
          have hsl := line_len H1.out.2.2.2.2 h3
          have hb2 := rd_is (s := bA t) (by rw [bA_data]; exact prog_back H1.out.2.2.2.2 h3)
          have CQ := Lib.hid (fun u (hu : Below W.heap.size W u) => lg_Read (bA t) u (fun v hv => HE.out v (hu.trans (hv.mono hu.size))) (by rw [bA_size]; omega))
          rw [hb2.1, hb2.2.1, hb2.2.2] at CQ
          rw [show e.v = .agg #[.int .i64 e.kind, .string e.id, .int .i64 e.sig, .int .i64 e.n] from rfl] at CQ
          have teq := fun u => (eq_ev3 e e u).trans (by rw [(evB_iff e e).2 rfl])
          clear hb2 hsl h3
          go_wp2_with (first | (go_at_call 11; (with_reducible refine (CL.out _ (belStep hw hbel)).mono ?_); rintro e9 w9 ⟨rfl, hb9⟩; replace hbel := belStep hbel hb9; clear hb9) | (go_at_call 14; (with_reducible refine (CQ.out _ (belStep hw hbel)).mono ?_); rintro e9 w9 ⟨rfl, hb9⟩; replace hbel := belAlloc (belStep hbel hb9) (.cells #[.int .i64 e.kind, .string e.id, .int .i64 e.sig, .int .i64 e.n] 23); clear hb9))
          go_ret
          exact ⟨rfl, belStep hw hbel⟩
theorem env_of {W : World} (h : laidMet Tryd.prog Rows.logBackRow.laid W) (hs : W.ShapedOpen Tryd.prog) : Env W := env_of7 h hs

set_option maxRecDepth 100000 in
set_option maxRecDepth 100000 in
theorem lifted (os : Os) (started : os.Started) (H : Type) (enc : TypeId × Value → H) :
    ReturnsInHanded {} Tryd.checked os 5 .any (fun w args => (Rows.logBackSpec.pre enc Tryd.prog Tryd.f5 [] false w args ∧ laidMetH Tryd.prog Rows.logBackRow.laid w) ∧ sizedMet enc Tryd.prog Tryd.f5 (OpenSpec.ofChange Rows.logBackSpec) false w args) (Rows.logBackSpec.post enc Tryd.prog Tryd.f5 false true false false) := by
  refine returnsInHanded_of_change_and_shaped (C := Tryd.checked) (X := fun w _ => laidMetH Tryd.prog Rows.logBackRow.laid w) (fun _ _ _ hh h => h.of_heap hh) own started (by kernel_rfl) Tryd.func5
    (ChangeSpec.witness_shaped (enc := enc) (C := Tryd.checked) (os := os) (X := fun w _ => laidMetH Tryd.prog Rows.logBackRow.laid w) false (World.laidAll Tryd.prog os Rows.logBackRow.laid) #[.int .i64 0, .agg #[.int .i64 0, .string ⟨#[]⟩, .int .i64 0, .int .i64 0], .string ByteArray.empty] 8 (World.laidAll_os _ _ _) (World.shaped_of_ZipB (by kernel_rfl) (by kernel_rfl)) (by kernel_rfl) (by kernel_rfl) (by kernel_rfl) (by rw [MakeChecks.laidMetH_plain _ _ _ (by kernel_rfl)]; exact laidMet_laidAll _ (by kernel_rfl) (by kernel_rfl))) ?_
  intro W base args ds gs before hval0 hW hL hsh
  rw [MakeChecks.laidMetH_plain _ _ _ (by kernel_rfl)] at hL
  have ht : Env W := env_of hL hsh
  clear hL
  have hval : ∀ (j : Nat) t v, Tryd.f5.params[j]? = some t → args[j]? = some v → Value.okWide Tryd.prog W .any base t v := hval0
  have hW' := hW
  obtain ⟨p, q, hA0, hV, rfl, hfz, hnd⟩ := hW
  have hA : DataW.TrodAll enc Tryd.prog W 0 (fun _ => true) true Tryd.f5.params.toList args.toList ds p := hA0
  rw [Tryd.params5] at hA hval
  obtain ⟨v0, vs0, d0, ds0, p0, q0, hargs, rfl, rfl, h0, r0⟩ := trodAll_cons hA
  obtain ⟨v1, vs1, d1, ds1, p1, q1, rfl, rfl, rfl, h1, r1⟩ := trodAll_cons r0
  obtain ⟨v2, vs2, d2, ds2, p2, q2, rfl, rfl, rfl, h2, r2⟩ := trodAll_cons r1
  obtain ⟨rfl, rfl, rfl⟩ := trodAll_nil r2
  obtain rfl : args = #[v0, v1, v2] := by cases args; simp_all
  obtain ⟨rfl, rfl⟩ := trodVars_none hV
  have k0 := h0
  have lt0 : ∀ x ∈ p0, x.block < W.heap.size := by obtain ⟨m, hm⟩ := k0; exact DataW.trod_lt m _ _ _ hm
  have o0 : Value.okWide Tryd.prog W .any base 3 v0 := hval 0 3 v0 rfl rfl
  obtain ⟨a0, rfl, rfl, rfl, w0⟩ := open_int Tryd.underlying3 o0 h0
  have k1 := h1
  have lt1 : ∀ x ∈ p1, x.block < W.heap.size := by obtain ⟨m, hm⟩ := k1; exact DataW.trod_lt m _ _ _ hm
  have o1 : Value.okWide Tryd.prog W .any base 23 v1 := hval 1 23 v1 rfl rfl
  obtain ⟨e1, rfl, he1⟩ := open_event o1 h1
  have k2 := h2
  have lt2 : ∀ x ∈ p2, x.block < W.heap.size := by obtain ⟨m, hm⟩ := k2; exact DataW.trod_lt m _ _ _ hm
  have o2 : Value.okWide Tryd.prog W .any base 9 v2 := hval 2 9 v2 rfl rfl
  obtain ⟨a2, rfl, rfl, rfl, w2⟩ := open_string Tryd.underlying9 o2 h2
  clear hA0 hval0
  refine (walk a0 e1 a2 W ht (inI_of_wf w0) he1 w2).mono fun e W' ⟨he, bel⟩ => ?_
  subst he
  exact ⟨_, rfl, _, _, _, [], _, [], hW', trodAll_mk1 (shut_bool Tryd.underlying4 _), (trodAll_cons_mk (Below.trod laidOut (by kernel_rfl) (of_decide_eq_true (by kernel_rfl)) k0 bel lt0) (trodAll_cons_mk (Below.trod laidOut (by kernel_rfl) (of_decide_eq_true (by kernel_rfl)) k1 bel lt1) (trodAll_cons_mk (Below.trod laidOut (by kernel_rfl) (of_decide_eq_true (by kernel_rfl)) k2 bel lt2) trodAll_mk0))), rfl, bel.frame _, fun h => by cases h⟩

theorem over : Rows.logBackRow.holds Tryd.pinned (OpenSpec.ofChange Rows.logBackSpec) :=
  OpenClaim.holds_of_wide 5 Tryd.f5 rfl rfl rfl rfl rfl rfl rfl ⟨rfl, rfl, rfl, rfl, rfl⟩ rfl rfl rfl rfl rfl (by kernel_rfl) Tryd.func5 (by kernel_rfl)
    (of_decide_eq_true (by kernel_rfl)) (by unfold Func.isWrapper; first | (rw [if_pos (by decide +kernel)]; kernel_rfl) | (rw [if_neg (by decide +kernel)]; exact ⟨rfl, rfl⟩))
    (fun os started H enc _ => lifted os started H enc)

/-- The statement. -/
theorem proved : Rows.LogBackCardSaid :=
  Claim7.holds_tied_plain_at .later [] Rows.logBackCard.laidKinds true Rows.logBackCard.stood.harness true
    over (fun _ h => by cases h) (by kernel_rfl) (fun _ h => by cases h) logBack_row_tie rfl ⟨rfl, rfl⟩ (by kernel_rfl) rfl
    (fun f fn hf hfn => by
      obtain rfl : f = 5 := Option.some.inj ((show Tryd.prog.funcNamed Rows.logBackRow.func = some 5 by kernel_rfl).symm.trans hf) |>.symm
      obtain rfl : fn = Tryd.f5 := (Option.some.inj (Tryd.func5.symm.trans hfn)).symm
      exact ⟨by kernel_rfl, fun j t ht => by
        rw [Tryd.params5] at ht
        have hm : t ∈ [3, 23, 9] := by simpa using Array.mem_of_getElem? ht
        have hall : ([3, 23, 9].all fun u => !Tryd.prog.wantsStandIn u) = true := by kernel_rfl
        exact (show Tryd.prog.wantsStandIn t = false by simpa using List.all_eq_true.1 hall t hm)⟩)
    (by kernel_rfl)
#print axioms proved

end Go.Proofs.YtekakalhknjdaaaDoor.logBack
