
/- LogReads holds for all its arguments. No conditions but that the library's variables lie as its own text lays them. -/
import Derived.Lay
import Derived.Test.YtekakalhknjdaaaDoorLgB
import Derived.Test.YtekakalhknjdaaaDoorThrCards
import Derived.Test.YtekakalhknjdaaaDoorLgG
namespace Go.Proofs.YtekakalhknjdaaaDoor.logReads
open Go.ChangeShapes Go.WideShapes Go.ChangeAt Go.RowKit
open Go.ChangeMaps (open_string shut_string)
set_option linter.unusedVariables false
set_option linter.unusedSimpArgs false
theorem eq_ev2 (e f : EvV) (w : World) : (Op.equalIn 10000 23 (.agg #[.int .i64 e.kind, .string e.id, .int .i64 e.sig, .int .i64 e.n]) (.agg #[.int .i64 f.kind, .string f.id, .int .i64 f.sig, .int .i64 f.n])).run Tryd.prog w = .ok (decide (e.kind = f.kind) && (e.id.data.toList == f.id.data.toList && (decide (e.sig = f.sig) && decide (e.n = f.n)))) w := by
  have hs : Tryd.prog.fieldsOf 23 = #[{ name := "Kind", type := 3, offset := 0, embedded := false, tag := "", pkgPath := "", byteOffset := 0 }, { name := "Id", type := 9, offset := 1, embedded := false, tag := "", pkgPath := "", byteOffset := 8 }, { name := "Signal", type := 3, offset := 2, embedded := false, tag := "", pkgPath := "", byteOffset := 24 }, { name := "N", type := 3, offset := 3, embedded := false, tag := "", pkgPath := "", byteOffset := 32 }] := by kernel_rfl
  rw [run_equalIn_struct _ _ _ _ _ (by kernel_rfl) (by kernel_rfl), hs]
  simp [go_sem, ByteArray.toList_eq]
  by_cases a1 : e.kind = f.kind
  · by_cases a2 : e.id.data = f.id.data
    · by_cases a3 : e.sig = f.sig
      · by_cases a4 : e.n = f.n <;> simp [a1, a2, a3, a4]
      · simp [a1, a2, a3]
    · simp [a1, a2]
  · simp [a1]
def evB (e f : EvV) : Bool := decide (e.kind = f.kind) && (e.id.data.toList == f.id.data.toList && (decide (e.sig = f.sig) && decide (e.n = f.n)))
theorem evB_iff (e f : EvV) : evB e f = true ↔ e = f := by
  unfold evB
  simp only [Bool.and_eq_true, decide_eq_true_eq, beq_iff_eq]
  constructor
  · rintro ⟨a, b, c, d⟩
    have h : e.id = f.id := ext_data b
    obtain ⟨a1, a2, a3, a4⟩ := e
    obtain ⟨b1, b2, b3, b4⟩ := f
    simp only at a h c d
    rw [a, h, c, d]
  · rintro rfl; exact ⟨rfl, rfl, rfl, rfl⟩
theorem eq_ev3 (e f : EvV) (w : World) : (Op.equalIn 10000 23 (.agg #[.int .i64 e.kind, .string e.id, .int .i64 e.sig, .int .i64 e.n]) (.agg #[.int .i64 f.kind, .string f.id, .int .i64 f.sig, .int .i64 f.n])).run Tryd.prog w = .ok (evB e f) w := eq_ev2 e f w
set_option maxRecDepth 100000 in
set_option maxHeartbeats 16000000 in
theorem walk (s : ByteArray) (W : World) (ht : Env W) (hs : s.size ≤ maxLen) :
    Calls Tryd.prog 4 #[.string s] W fun e0 w' => e0 = .returned (.bool true) ∧ Below W.heap.size W w' := by
  have hw : Below W.heap.size W W := Below.refl _ _
  have hbel := hw
  have HE := Lib.hid (fun u (hu : Below W.heap.size W u) => ht.later hu)
  have HS := Lib.hid hs
  clear ht hs
  have CA := Lib.hid (fun u (hu : Below W.heap.size W u) => awake27 u (HE.out u hu))
  have hss := HS.out
  by_cases h2 : 200 < s.size
  · have t2 : decide ((200 : Int) < (s.size : Int)) = true := decide_eq_true (by omega)
    have t2i : (200 : Int) < (s.size : Int) := by omega
    go_enter Tryd.func4, Tryd.ntmps4
    go_wp2_with (go_at_call 10; (with_reducible refine (CA.out _ hbel).mono ?_); rintro e9 w9 ⟨rfl, hb9⟩; replace hbel := belStep hbel hb9; clear hb9)
    go_ret
    exact ⟨rfl, belStep hw hbel⟩
  · have t2 : decide ((200 : Int) < (s.size : Int)) = false := decide_eq_false (by omega)
    have t2i : ¬ (200 : Int) < (s.size : Int) := by omega
    have hs6 : s.size ≤ 1000000 := by omega
    have CR := Lib.hid (fun u (hu : Below W.heap.size W u) => lg_Read s u (fun v hv => HE.out v (hu.trans (hv.mono hu.size))) hs6)
    have CQ := Lib.hid (fun u => rf_Read27 s u hs6)
    cases h4 : progF s.data.toList with
    | none =>
      have hr := rr_none h4
      have hx : rdX s = 2 := by unfold rdX; rw [h4]
      rw [hr.1, hr.2.1, hr.2.2] at CQ
      rw [hr.1, hr.2.1, hx] at CR
      clear hr hx h4
      rw [show EvV.v EvV.zero = .agg #[.int .i64 0, .string ⟨#[]⟩, .int .i64 0, .int .i64 0] from rfl] at CR CQ
      have teq : ∀ u, (Op.equalIn 10000 23 (.agg #[.int .i64 0, .string ⟨#[]⟩, .int .i64 0, .int .i64 0]) (.agg #[.int .i64 0, .string ⟨#[]⟩, .int .i64 0, .int .i64 0])).run Tryd.prog u = .ok true u := fun u => by kernel_rfl
      go_enter Tryd.func4, Tryd.ntmps4
      go_upto_region 4 with (first | (go_at_call 10; (with_reducible refine (CA.out _ hbel).mono ?_); rintro e9 w9 ⟨rfl, hb9⟩; replace hbel := belStep hbel hb9; clear hb9) | (go_at_call 14; (with_reducible refine (CR.out _ hbel).mono ?_); rintro e9 w2 ⟨rfl, hb9⟩; replace hbel := belStep hbel hb9; clear hb9))
      have xx0 : (w2.alloc (.cells #[.int .i64 0, .string ⟨#[]⟩, .int .i64 0, .int .i64 0] 23)).cell? ⟨w2.heap.size, 0, none⟩ = some (.int .i64 0) := by first | (simp; done) | (rw [World.cell?_alloc_at _ _ _ _ (by simp)]; rfl) | (rw [World.cell?_alloc_past _ _ _ (by simp <;> omega), World.cell?_alloc_at _ _ _ _ (by simp)]; rfl) | (rw [World.cell?_alloc_past _ _ _ (by simp <;> omega), World.cell?_alloc_past _ _ _ (by simp <;> omega), World.cell?_alloc_at _ _ _ _ (by simp)]; rfl)
      have xx1 : (w2.alloc (.cells #[.int .i64 0, .string ⟨#[]⟩, .int .i64 0, .int .i64 0] 23)).cell? ⟨w2.heap.size, 1, none⟩ = some (.string ⟨#[]⟩) := by first | (simp; done) | (rw [World.cell?_alloc_at _ _ _ _ (by simp)]; rfl) | (rw [World.cell?_alloc_past _ _ _ (by simp <;> omega), World.cell?_alloc_at _ _ _ _ (by simp)]; rfl) | (rw [World.cell?_alloc_past _ _ _ (by simp <;> omega), World.cell?_alloc_past _ _ _ (by simp <;> omega), World.cell?_alloc_at _ _ _ _ (by simp)]; rfl)
      have xx2 : (w2.alloc (.cells #[.int .i64 0, .string ⟨#[]⟩, .int .i64 0, .int .i64 0] 23)).cell? ⟨w2.heap.size, 2, none⟩ = some (.int .i64 0) := by first | (simp; done) | (rw [World.cell?_alloc_at _ _ _ _ (by simp)]; rfl) | (rw [World.cell?_alloc_past _ _ _ (by simp <;> omega), World.cell?_alloc_at _ _ _ _ (by simp)]; rfl) | (rw [World.cell?_alloc_past _ _ _ (by simp <;> omega), World.cell?_alloc_past _ _ _ (by simp <;> omega), World.cell?_alloc_at _ _ _ _ (by simp)]; rfl)
      have xx3 : (w2.alloc (.cells #[.int .i64 0, .string ⟨#[]⟩, .int .i64 0, .int .i64 0] 23)).cell? ⟨w2.heap.size, 3, none⟩ = some (.int .i64 0) := by first | (simp; done) | (rw [World.cell?_alloc_at _ _ _ _ (by simp)]; rfl) | (rw [World.cell?_alloc_past _ _ _ (by simp <;> omega), World.cell?_alloc_at _ _ _ _ (by simp)]; rfl) | (rw [World.cell?_alloc_past _ _ _ (by simp <;> omega), World.cell?_alloc_past _ _ _ (by simp <;> omega), World.cell?_alloc_at _ _ _ _ (by simp)]; rfl)
      have hb2 := (by repeat (first | exact hbel | refine belAlloc ?_ _ | refine belDrew ?_ | refine belSet ?_ _ _ (by simp)) : Below W.heap.size W (w2.alloc (.cells #[.int .i64 0, .string ⟨#[]⟩, .int .i64 0, .int .i64 0] 23)))
      replace hw := belStep hw hb2
      have xxB : Blk (w2.alloc (.cells #[.int .i64 0, .string ⟨#[]⟩, .int .i64 0, .int .i64 0] 23)) (w2.heap.size) [.int .i64 0, .string ⟨#[]⟩, .int .i64 0, .int .i64 0] 23 := (Blk.at (by simp) : Blk (w2.alloc (.cells #[.int .i64 0, .string ⟨#[]⟩, .int .i64 0, .int .i64 0] 23)) (w2.heap.size) [.int .i64 0, .string ⟨#[]⟩, .int .i64 0, .int .i64 0] 23).later (by repeat (first | exact Below.refl _ _ | refine belAlloc ?_ _))
      have xxF := Blk.keepF xxB
      replace xxB := Blk.keepB xxB
      clear hb2 hbel
      generalize w2.alloc (.cells #[.int .i64 0, .string ⟨#[]⟩, .int .i64 0, .int .i64 0] 23) = W2 at *
      replace xx0 := keep xx0
      replace xx1 := keep xx1
      replace xx2 := keep xx2
      replace xx3 := keep xx3
      generalize w2.heap.size = M at *
      have hbel : Below W2.heap.size W2 W2 := Below.refl _ _
      clear w2
      clear CR CA
      go_upto_region 5 with (go_at_call 15; (with_reducible refine (CQ.out _).mono ?_); rintro e9 w3 ⟨rfl, hb9⟩; replace hbel := belStep hbel hb9; clear hb9)
      have yy0 : (w3.alloc (.cells #[.int .i64 0, .string ⟨#[]⟩, .int .i64 0, .int .i64 0] 23)).cell? ⟨w3.heap.size, 0, none⟩ = some (.int .i64 0) := by first | (simp; done) | (rw [World.cell?_alloc_at _ _ _ _ (by simp)]; rfl) | (rw [World.cell?_alloc_past _ _ _ (by simp <;> omega), World.cell?_alloc_at _ _ _ _ (by simp)]; rfl) | (rw [World.cell?_alloc_past _ _ _ (by simp <;> omega), World.cell?_alloc_past _ _ _ (by simp <;> omega), World.cell?_alloc_at _ _ _ _ (by simp)]; rfl)
      have yy1 : (w3.alloc (.cells #[.int .i64 0, .string ⟨#[]⟩, .int .i64 0, .int .i64 0] 23)).cell? ⟨w3.heap.size, 1, none⟩ = some (.string ⟨#[]⟩) := by first | (simp; done) | (rw [World.cell?_alloc_at _ _ _ _ (by simp)]; rfl) | (rw [World.cell?_alloc_past _ _ _ (by simp <;> omega), World.cell?_alloc_at _ _ _ _ (by simp)]; rfl) | (rw [World.cell?_alloc_past _ _ _ (by simp <;> omega), World.cell?_alloc_past _ _ _ (by simp <;> omega), World.cell?_alloc_at _ _ _ _ (by simp)]; rfl)
      have yy2 : (w3.alloc (.cells #[.int .i64 0, .string ⟨#[]⟩, .int .i64 0, .int .i64 0] 23)).cell? ⟨w3.heap.size, 2, none⟩ = some (.int .i64 0) := by first | (simp; done) | (rw [World.cell?_alloc_at _ _ _ _ (by simp)]; rfl) | (rw [World.cell?_alloc_past _ _ _ (by simp <;> omega), World.cell?_alloc_at _ _ _ _ (by simp)]; rfl) | (rw [World.cell?_alloc_past _ _ _ (by simp <;> omega), World.cell?_alloc_past _ _ _ (by simp <;> omega), World.cell?_alloc_at _ _ _ _ (by simp)]; rfl)
      have yy3 : (w3.alloc (.cells #[.int .i64 0, .string ⟨#[]⟩, .int .i64 0, .int .i64 0] 23)).cell? ⟨w3.heap.size, 3, none⟩ = some (.int .i64 0) := by first | (simp; done) | (rw [World.cell?_alloc_at _ _ _ _ (by simp)]; rfl) | (rw [World.cell?_alloc_past _ _ _ (by simp <;> omega), World.cell?_alloc_at _ _ _ _ (by simp)]; rfl) | (rw [World.cell?_alloc_past _ _ _ (by simp <;> omega), World.cell?_alloc_past _ _ _ (by simp <;> omega), World.cell?_alloc_at _ _ _ _ (by simp)]; rfl)
      have hb2 := (by repeat (first | exact hbel | refine belAlloc ?_ _ | refine belDrew ?_ | refine belSet ?_ _ _ (by simp)) : Below W2.heap.size W2 (w3.alloc (.cells #[.int .i64 0, .string ⟨#[]⟩, .int .i64 0, .int .i64 0] 23)))
      replace xx0 := keepOnP xx0 hb2
      replace xx1 := keepOnP xx1 hb2
      replace xx2 := keepOnP xx2 hb2
      replace xx3 := keepOnP xx3 hb2
      replace xxF := keepOnP xxF hb2
      replace xxB := keepOnP xxB hb2
      replace hw := belStep hw hb2
      have yyB : Blk (w3.alloc (.cells #[.int .i64 0, .string ⟨#[]⟩, .int .i64 0, .int .i64 0] 23)) (w3.heap.size) [.int .i64 0, .string ⟨#[]⟩, .int .i64 0, .int .i64 0] 23 := (Blk.at (by simp) : Blk (w3.alloc (.cells #[.int .i64 0, .string ⟨#[]⟩, .int .i64 0, .int .i64 0] 23)) (w3.heap.size) [.int .i64 0, .string ⟨#[]⟩, .int .i64 0, .int .i64 0] 23).later (by repeat (first | exact Below.refl _ _ | refine belAlloc ?_ _))
      have yyF := Blk.keepF yyB
      replace yyB := Blk.keepB yyB
      clear hb2 hbel
      generalize w3.alloc (.cells #[.int .i64 0, .string ⟨#[]⟩, .int .i64 0, .int .i64 0] 23) = W3 at *
      replace yy0 := keep yy0
      replace yy1 := keep yy1
      replace yy2 := keep yy2
      replace yy3 := keep yy3
      generalize w3.heap.size = M3 at *
      have hbel : Below W3.heap.size W3 W3 := Below.refl _ _
      clear w3
      go_wp2
      go_ret
      exact ⟨rfl, belStep hw hbel⟩
    | some p =>
      obtain ⟨r, x⟩ := p
      have hr : rdR s = r ∧ rdE s = x ∧ rdB s = true ∧ rdX s = 0 := by unfold rdR rdE rdB rdX; rw [h4]; exact ⟨rfl, rfl, rfl, rfl⟩
      rw [hr.1, hr.2.1, hr.2.2.1] at CQ
      rw [hr.1, hr.2.1, hr.2.2.2] at CR
      clear hr h4
      rw [show x.v = .agg #[.int .i64 x.kind, .string x.id, .int .i64 x.sig, .int .i64 x.n] from rfl] at CR CQ
      have teq : ∀ u, (Op.equalIn 10000 23 (.agg #[.int .i64 x.kind, .string x.id, .int .i64 x.sig, .int .i64 x.n]) (.agg #[.int .i64 x.kind, .string x.id, .int .i64 x.sig, .int .i64 x.n])).run Tryd.prog u = .ok true u := fun u => (eq_ev3 x x u).trans (by rw [(evB_iff x x).2 rfl])
      go_enter Tryd.func4, Tryd.ntmps4
      go_upto_region 4 with (first | (go_at_call 10; (with_reducible refine (CA.out _ hbel).mono ?_); rintro e9 w9 ⟨rfl, hb9⟩; replace hbel := belStep hbel hb9; clear hb9) | (go_at_call 14; (with_reducible refine (CR.out _ hbel).mono ?_); rintro e9 w2 ⟨rfl, hb9⟩; replace hbel := belStep hbel hb9; clear hb9))
      have xx0 : (w2.alloc (.cells #[.int .i64 x.kind, .string x.id, .int .i64 x.sig, .int .i64 x.n] 23)).cell? ⟨w2.heap.size, 0, none⟩ = some (.int .i64 x.kind) := by first | (simp; done) | (rw [World.cell?_alloc_at _ _ _ _ (by simp)]; rfl) | (rw [World.cell?_alloc_past _ _ _ (by simp <;> omega), World.cell?_alloc_at _ _ _ _ (by simp)]; rfl) | (rw [World.cell?_alloc_past _ _ _ (by simp <;> omega), World.cell?_alloc_past _ _ _ (by simp <;> omega), World.cell?_alloc_at _ _ _ _ (by simp)]; rfl)
      have xx1 : (w2.alloc (.cells #[.int .i64 x.kind, .string x.id, .int .i64 x.sig, .int .i64 x.n] 23)).cell? ⟨w2.heap.size, 1, none⟩ = some (.string x.id) := by first | (simp; done) | (rw [World.cell?_alloc_at _ _ _ _ (by simp)]; rfl) | (rw [World.cell?_alloc_past _ _ _ (by simp <;> omega), World.cell?_alloc_at _ _ _ _ (by simp)]; rfl) | (rw [World.cell?_alloc_past _ _ _ (by simp <;> omega), World.cell?_alloc_past _ _ _ (by simp <;> omega), World.cell?_alloc_at _ _ _ _ (by simp)]; rfl)
      have xx2 : (w2.alloc (.cells #[.int .i64 x.kind, .string x.id, .int .i64 x.sig, .int .i64 x.n] 23)).cell? ⟨w2.heap.size, 2, none⟩ = some (.int .i64 x.sig) := by first | (simp; done) | (rw [World.cell?_alloc_at _ _ _ _ (by simp)]; rfl) | (rw [World.cell?_alloc_past _ _ _ (by simp <;> omega), World.cell?_alloc_at _ _ _ _ (by simp)]; rfl) | (rw [World.cell?_alloc_past _ _ _ (by simp <;> omega), World.cell?_alloc_past _ _ _ (by simp <;> omega), World.cell?_alloc_at _ _ _ _ (by simp)]; rfl)
      have xx3 : (w2.alloc (.cells #[.int .i64 x.kind, .string x.id, .int .i64 x.sig, .int .i64 x.n] 23)).cell? ⟨w2.heap.size, 3, none⟩ = some (.int .i64 x.n) := by first | (simp; done) | (rw [World.cell?_alloc_at _ _ _ _ (by simp)]; rfl) | (rw [World.cell?_alloc_past _ _ _ (by simp <;> omega), World.cell?_alloc_at _ _ _ _ (by simp)]; rfl) | (rw [World.cell?_alloc_past _ _ _ (by simp <;> omega), World.cell?_alloc_past _ _ _ (by simp <;> omega), World.cell?_alloc_at _ _ _ _ (by simp)]; rfl)
      have hb2 := (by repeat (first | exact hbel | refine belAlloc ?_ _ | refine belDrew ?_ | refine belSet ?_ _ _ (by simp)) : Below W.heap.size W (w2.alloc (.cells #[.int .i64 x.kind, .string x.id, .int .i64 x.sig, .int .i64 x.n] 23)))
      replace hw := belStep hw hb2
      have xxB : Blk (w2.alloc (.cells #[.int .i64 x.kind, .string x.id, .int .i64 x.sig, .int .i64 x.n] 23)) (w2.heap.size) [.int .i64 x.kind, .string x.id, .int .i64 x.sig, .int .i64 x.n] 23 := (Blk.at (by simp) : Blk (w2.alloc (.cells #[.int .i64 x.kind, .string x.id, .int .i64 x.sig, .int .i64 x.n] 23)) (w2.heap.size) [.int .i64 x.kind, .string x.id, .int .i64 x.sig, .int .i64 x.n] 23).later (by repeat (first | exact Below.refl _ _ | refine belAlloc ?_ _))
      have xxF := Blk.keepF xxB
      replace xxB := Blk.keepB xxB
      clear hb2 hbel
      generalize w2.alloc (.cells #[.int .i64 x.kind, .string x.id, .int .i64 x.sig, .int .i64 x.n] 23) = W2 at *
      replace xx0 := keep xx0
      replace xx1 := keep xx1
      replace xx2 := keep xx2
      replace xx3 := keep xx3
      generalize w2.heap.size = M at *
      have hbel : Below W2.heap.size W2 W2 := Below.refl _ _
      clear w2
      clear CR CA
      go_upto_region 5 with (go_at_call 15; (with_reducible refine (CQ.out _).mono ?_); rintro e9 w3 ⟨rfl, hb9⟩; replace hbel := belStep hbel hb9; clear hb9)
      have yy0 : (w3.alloc (.cells #[.int .i64 x.kind, .string x.id, .int .i64 x.sig, .int .i64 x.n] 23)).cell? ⟨w3.heap.size, 0, none⟩ = some (.int .i64 x.kind) := by first | (simp; done) | (rw [World.cell?_alloc_at _ _ _ _ (by simp)]; rfl) | (rw [World.cell?_alloc_past _ _ _ (by simp <;> omega), World.cell?_alloc_at _ _ _ _ (by simp)]; rfl) | (rw [World.cell?_alloc_past _ _ _ (by simp <;> omega), World.cell?_alloc_past _ _ _ (by simp <;> omega), World.cell?_alloc_at _ _ _ _ (by simp)]; rfl)
      have yy1 : (w3.alloc (.cells #[.int .i64 x.kind, .string x.id, .int .i64 x.sig, .int .i64 x.n] 23)).cell? ⟨w3.heap.size, 1, none⟩ = some (.string x.id) := by first | (simp; done) | (rw [World.cell?_alloc_at _ _ _ _ (by simp)]; rfl) | (rw [World.cell?_alloc_past _ _ _ (by simp <;> omega), World.cell?_alloc_at _ _ _ _ (by simp)]; rfl) | (rw [World.cell?_alloc_past _ _ _ (by simp <;> omega), World.cell?_alloc_past _ _ _ (by simp <;> omega), World.cell?_alloc_at _ _ _ _ (by simp)]; rfl)
      have yy2 : (w3.alloc (.cells #[.int .i64 x.kind, .string x.id, .int .i64 x.sig, .int .i64 x.n] 23)).cell? ⟨w3.heap.size, 2, none⟩ = some (.int .i64 x.sig) := by first | (simp; done) | (rw [World.cell?_alloc_at _ _ _ _ (by simp)]; rfl) | (rw [World.cell?_alloc_past _ _ _ (by simp <;> omega), World.cell?_alloc_at _ _ _ _ (by simp)]; rfl) | (rw [World.cell?_alloc_past _ _ _ (by simp <;> omega), World.cell?_alloc_past _ _ _ (by simp <;> omega), World.cell?_alloc_at _ _ _ _ (by simp)]; rfl)
      have yy3 : (w3.alloc (.cells #[.int .i64 x.kind, .string x.id, .int .i64 x.sig, .int .i64 x.n] 23)).cell? ⟨w3.heap.size, 3, none⟩ = some (.int .i64 x.n) := by first | (simp; done) | (rw [World.cell?_alloc_at _ _ _ _ (by simp)]; rfl) | (rw [World.cell?_alloc_past _ _ _ (by simp <;> omega), World.cell?_alloc_at _ _ _ _ (by simp)]; rfl) | (rw [World.cell?_alloc_past _ _ _ (by simp <;> omega), World.cell?_alloc_past _ _ _ (by simp <;> omega), World.cell?_alloc_at _ _ _ _ (by simp)]; rfl)
      have hb2 := (by repeat (first | exact hbel | refine belAlloc ?_ _ | refine belDrew ?_ | refine belSet ?_ _ _ (by simp)) : Below W2.heap.size W2 (w3.alloc (.cells #[.int .i64 x.kind, .string x.id, .int .i64 x.sig, .int .i64 x.n] 23)))
      replace xx0 := keepOnP xx0 hb2
      replace xx1 := keepOnP xx1 hb2
      replace xx2 := keepOnP xx2 hb2
      replace xx3 := keepOnP xx3 hb2
      replace xxF := keepOnP xxF hb2
      replace xxB := keepOnP xxB hb2
      replace hw := belStep hw hb2
      have yyB : Blk (w3.alloc (.cells #[.int .i64 x.kind, .string x.id, .int .i64 x.sig, .int .i64 x.n] 23)) (w3.heap.size) [.int .i64 x.kind, .string x.id, .int .i64 x.sig, .int .i64 x.n] 23 := (Blk.at (by simp) : Blk (w3.alloc (.cells #[.int .i64 x.kind, .string x.id, .int .i64 x.sig, .int .i64 x.n] 23)) (w3.heap.size) [.int .i64 x.kind, .string x.id, .int .i64 x.sig, .int .i64 x.n] 23).later (by repeat (first | exact Below.refl _ _ | refine belAlloc ?_ _))
      have yyF := Blk.keepF yyB
      replace yyB := Blk.keepB yyB
      clear hb2 hbel
      generalize w3.alloc (.cells #[.int .i64 x.kind, .string x.id, .int .i64 x.sig, .int .i64 x.n] 23) = W3 at *
      replace yy0 := keep yy0
      replace yy1 := keep yy1
      replace yy2 := keep yy2
      replace yy3 := keep yy3
      generalize w3.heap.size = M3 at *
      have hbel : Below W3.heap.size W3 W3 := Below.refl _ _
      clear w3
      go_wp2
      go_ret
      exact ⟨rfl, belStep hw hbel⟩
theorem env_of {W : World} (h : laidMet Tryd.prog Rows.logReadsRow.laid W) (hs : W.ShapedOpen Tryd.prog) : Env W := env_of7 h hs

set_option maxRecDepth 100000 in
set_option maxRecDepth 100000 in
theorem lifted (os : Os) (started : os.Started) (H : Type) (enc : TypeId × Value → H) :
    ReturnsInHanded {} Tryd.checked os 4 .any (fun w args => (Rows.logReadsSpec.pre enc Tryd.prog Tryd.f4 [] false w args ∧ laidMetH Tryd.prog Rows.logReadsRow.laid w) ∧ sizedMet enc Tryd.prog Tryd.f4 (OpenSpec.ofChange Rows.logReadsSpec) false w args) (Rows.logReadsSpec.post enc Tryd.prog Tryd.f4 false true false false) := by
  refine returnsInHanded_of_change_and_shaped (C := Tryd.checked) (X := fun w _ => laidMetH Tryd.prog Rows.logReadsRow.laid w) (fun _ _ _ hh h => h.of_heap hh) own started (by kernel_rfl) Tryd.func4
    (ChangeSpec.witness_shaped (enc := enc) (C := Tryd.checked) (os := os) (X := fun w _ => laidMetH Tryd.prog Rows.logReadsRow.laid w) false (World.laidAll Tryd.prog os Rows.logReadsRow.laid) #[.string ByteArray.empty] 8 (World.laidAll_os _ _ _) (World.shaped_of_ZipB (by kernel_rfl) (by kernel_rfl)) (by kernel_rfl) (by kernel_rfl) (by kernel_rfl) (by rw [MakeChecks.laidMetH_plain _ _ _ (by kernel_rfl)]; exact laidMet_laidAll _ (by kernel_rfl) (by kernel_rfl))) ?_
  intro W base args ds gs before hval0 hW hL hsh
  rw [MakeChecks.laidMetH_plain _ _ _ (by kernel_rfl)] at hL
  have ht : Env W := env_of hL hsh
  clear hL
  have hval : ∀ (j : Nat) t v, Tryd.f4.params[j]? = some t → args[j]? = some v → Value.okWide Tryd.prog W .any base t v := hval0
  have hW' := hW
  obtain ⟨p, q, hA0, hV, rfl, hfz, hnd⟩ := hW
  have hA : DataW.TrodAll enc Tryd.prog W 0 (fun _ => true) true Tryd.f4.params.toList args.toList ds p := hA0
  rw [Tryd.params4] at hA hval
  obtain ⟨v0, vs0, d0, ds0, p0, q0, hargs, rfl, rfl, h0, r0⟩ := trodAll_cons hA
  obtain ⟨rfl, rfl, rfl⟩ := trodAll_nil r0
  obtain rfl : args = #[v0] := by cases args; simp_all
  obtain ⟨rfl, rfl⟩ := trodVars_none hV
  have k0 := h0
  have lt0 : ∀ x ∈ p0, x.block < W.heap.size := by obtain ⟨m, hm⟩ := k0; exact DataW.trod_lt m _ _ _ hm
  have o0 : Value.okWide Tryd.prog W .any base 9 v0 := hval 0 9 v0 rfl rfl
  obtain ⟨a0, rfl, rfl, rfl, w0⟩ := open_string Tryd.underlying9 o0 h0
  clear hA0 hval0
  refine (walk a0 W ht w0).mono fun e W' ⟨he, bel⟩ => ?_
  subst he
  exact ⟨_, rfl, _, _, _, [], _, [], hW', trodAll_mk1 (shut_bool Tryd.underlying4 _), (trodAll_cons_mk (Below.trod laidOut (by kernel_rfl) (of_decide_eq_true (by kernel_rfl)) k0 bel lt0) trodAll_mk0), rfl, bel.frame _, fun h => by cases h⟩

theorem over : Rows.logReadsRow.holds Tryd.pinned (OpenSpec.ofChange Rows.logReadsSpec) :=
  OpenClaim.holds_of_wide 4 Tryd.f4 rfl rfl rfl rfl rfl rfl rfl ⟨rfl, rfl, rfl, rfl, rfl⟩ rfl rfl rfl rfl rfl (by kernel_rfl) Tryd.func4 (by kernel_rfl)
    (of_decide_eq_true (by kernel_rfl)) (by unfold Func.isWrapper; first | (rw [if_pos (by decide +kernel)]; kernel_rfl) | (rw [if_neg (by decide +kernel)]; exact ⟨rfl, rfl⟩))
    (fun os started H enc _ => lifted os started H enc)

/-- The statement. -/
theorem proved : Rows.LogReadsCardSaid :=
  Claim7.holds_tied_plain_at .later [] Rows.logReadsCard.laidKinds true Rows.logReadsCard.stood.harness true
    over (fun _ h => by cases h) (by kernel_rfl) (fun _ h => by cases h) logReads_row_tie rfl ⟨rfl, rfl⟩ (by kernel_rfl) rfl
    (fun f fn hf hfn => by
      obtain rfl : f = 4 := Option.some.inj ((show Tryd.prog.funcNamed Rows.logReadsRow.func = some 4 by kernel_rfl).symm.trans hf) |>.symm
      obtain rfl : fn = Tryd.f4 := (Option.some.inj (Tryd.func4.symm.trans hfn)).symm
      exact ⟨by kernel_rfl, fun j t ht => by
        rw [Tryd.params4] at ht
        have hm : t ∈ [9] := by simpa using Array.mem_of_getElem? ht
        have hall : ([9].all fun u => !Tryd.prog.wantsStandIn u) = true := by kernel_rfl
        exact (show Tryd.prog.wantsStandIn t = false by simpa using List.all_eq_true.1 hall t hm)⟩)
    (by kernel_rfl)
#print axioms proved

end Go.Proofs.YtekakalhknjdaaaDoor.logReads
