
/- sample.Read: contract. -/
import Derived.Test.YtcgpmihjodolmaaSmp3
namespace Go.Proofs.Ytcgpmihjodolmaa
open Go.RowKit
set_option linter.unusedVariables false
set_option linter.unusedSimpArgs false
/-- A sample. -/
structure SmpV where
  t : Int
  a : Int
  b : Int
  c : Int
  use : List UseV
def zeroS : SmpV := ⟨0, 0, 0, 0, []⟩
def readOK (r : RawV) (L : List UsgV) : SmpV := ⟨r.t, readF r.x, readF r.y, readF r.z, readL L⟩
def readSF (r : RawV) (L : List UsgV) : SmpV × Int := if rightR r L then (readOK r L, 0) else (zeroS, 1)
def SmpQ (w : World) (S : SmpV) (e : Ending) (w' : World) : Prop := ∃ b n, e = .returned (.agg #[.int .i64 S.t, .int .i64 S.a, .int .i64 S.b, .int .i64 S.c, .slice b S.use.length n]) ∧ OwnR w' w.heap.size 51 4 (.slice b S.use.length n) S.use.length (S.use.flatMap UseV.cells)
def SmpP (w : World) (S : SmpV × Int) (e : Ending) (w' : World) : Prop := ∃ b n, e = .returned (.tuple #[.agg #[.int .i64 S.1.t, .int .i64 S.1.a, .int .i64 S.1.b, .int .i64 S.1.c, .slice b S.1.use.length n], .int .i64 S.2]) ∧ OwnR w' w.heap.size 51 4 (.slice b S.1.use.length n) S.1.use.length (S.1.use.flatMap UseV.cells)
theorem usesF_true {L : List UsgV} {U : List UseV} (h : usesF L = (U, true)) : L.all okU = true ∧ U = readL L := by
  unfold usesF at h
  split at h
  · rename_i q; exact ⟨q, (Prod.mk.inj h).1.symm⟩
  · exact absurd (Prod.mk.inj h).2 (by simp)
theorem usesF_false {L : List UsgV} {U : List UseV} (h : usesF L = (U, false)) : L.all okU = false := by
  unfold usesF at h
  split at h
  · exact absurd (Prod.mk.inj h).2 (by simp)
  · rename_i q; simpa using q
theorem readSF_no {r : RawV} {L : List UsgV} (h : rightR r L = false) : readSF r L = (zeroS, 1) := by unfold readSF; rw [if_neg (by rw [h]; simp)]
theorem readSF_yes {r : RawV} {L : List UsgV} (h : rightR r L = true) : readSF r L = (readOK r L, 0) := by unfold readSF; rw [if_pos h]
theorem read_ret (W : World) (R : Nat) (tm : Array Value) (t a b c er : Int) (s : Value) (Q : Ending → World → Prop) (h2 : tm.getD 2 undef = .pointer (some ⟨R, 0, none⟩)) (h3 : tm.getD 3 undef = .int .i64 er) (hb : Blk W R [.int .i64 t, .int .i64 a, .int .i64 b, .int .i64 c, s] 32) (hR : Q (.returned (.tuple #[.agg #[.int .i64 t, .int .i64 a, .int .i64 b, .int .i64 c, s], .int .i64 er])) W) :
    bodyPost Try.prog Try.f20 Q Exit.ret { tmps := tm, defers := [] } W := by
  have z0 := hb.cell (j := 0) rfl
  have z1 := hb.cell (j := 1) rfl
  have z2 := hb.cell (j := 2) rfl
  have z3 := hb.cell (j := 3) rfl
  have z4 := hb.cell (j := 4) rfl
  refine bodyPost_ret (v := .tuple #[.agg #[.int .i64 t, .int .i64 a, .int .i64 b, .int .i64 c, s], .int .i64 er]) ?_ rfl hR
  simp only [Array.getD_eq_getD_getElem?] at h2 h3
  simp [results, Try.results20, go_sem, h2, h3, z0, z1, z2, z3, z4]
theorem take_ret (W : World) (R : Nat) (tm : Array Value) (t a b c er : Int) (s : Value) (Q : Ending → World → Prop) (h2 : tm.getD 8 undef = .pointer (some ⟨R, 0, none⟩)) (h3 : tm.getD 9 undef = .int .i64 er) (hb : Blk W R [.int .i64 t, .int .i64 a, .int .i64 b, .int .i64 c, s] 32) (hR : Q (.returned (.tuple #[.agg #[.int .i64 t, .int .i64 a, .int .i64 b, .int .i64 c, s], .int .i64 er])) W) :
    bodyPost Try.prog Try.f27 Q Exit.ret { tmps := tm, defers := [] } W := by
  have z0 := hb.cell (j := 0) rfl
  have z1 := hb.cell (j := 1) rfl
  have z2 := hb.cell (j := 2) rfl
  have z3 := hb.cell (j := 3) rfl
  have z4 := hb.cell (j := 4) rfl
  refine bodyPost_ret (v := .tuple #[.agg #[.int .i64 t, .int .i64 a, .int .i64 b, .int .i64 c, s], .int .i64 er]) ?_ rfl hR
  simp only [Array.getD_eq_getD_getElem?] at h2 h3
  simp [results, Try.results27, go_sem, h2, h3, z0, z1, z2, z3, z4]
theorem of_ret (W : World) (R : Nat) (tm : Array Value) (a b c : Int) (Q : Ending → World → Prop) (h2 : tm.getD 4 undef = .pointer (some ⟨R, 0, none⟩)) (hb : Blk W R [.int .i64 a, .int .i64 b, .int .i64 c] 29) (hR : Q (.returned (.agg #[.int .i64 a, .int .i64 b, .int .i64 c])) W) :
    bodyPost Try.prog Try.f25 Q Exit.ret { tmps := tm, defers := [] } W := by
  have z0 := hb.cell (j := 0) rfl
  have z1 := hb.cell (j := 1) rfl
  have z2 := hb.cell (j := 2) rfl
  refine bodyPost_ret (v := .agg #[.int .i64 a, .int .i64 b, .int .i64 c]) ?_ rfl hR
  simp only [Array.getD_eq_getD_getElem?] at h2
  simp [results, Try.results25, go_sem, h2, z0, z1, z2]
set_option maxRecDepth 100000 in
set_option maxHeartbeats 16000000 in
theorem smp_Read (r : RawV) (a : Option Addr) (len cap : Nat) (L : List UsgV) (w : World) (hl : L.length = len) (hr : r.ok) (hok : ∀ x ∈ L, x.ok) (hR : Row w a len cap 4 (L.flatMap UsgV.cells)) :
    Calls Try.prog 20 #[.agg #[.int .i64 r.t, .float .f64 r.x, .float .f64 r.y, .float .f64 r.z, .slice a len cap]] w fun e w' => SmpP w (readSF r L) e w' ∧ Below w.heap.size w w' := by
  have hw : Below w.heap.size w w := Below.refl _ _
  have hbel := hw
  have hbd_a : len ≤ cap ∧ cap ≤ 9223372036854775807 := by obtain ⟨_, h1, h2, _⟩ := hR; unfold maxLen at h2; exact ⟨h1, h2⟩
  obtain ⟨hbd1_a, hbd2_a⟩ := hbd_a
  have HR := Lib.hid hR
  have HOK := Lib.hid hok
  obtain ⟨hr0, hr1, hr2, hr3⟩ := hr
  clear hR hok
  subst hl
  have CTW := Lib.hid (fun u (hu : Below w.heap.size w u) => smp_twice a L.length cap L u rfl (HR.out.later hu))
  have CNU := Lib.hid (fun u => smp_numbers r.x r.y r.z u hr1 hr2 hr3)
  have HE := Lib.hid (right_eq r L)
  have CUS := Lib.hid (fun (hd : twiceB L = false) (h : L.length ≤ 128) u (hu : Below w.heap.size w u) => smp_uses a L.length cap L u rfl HOK.out (HR.out.later hu) (dist_of hd) (by omega))
  go_enter Try.func20, Try.ntmps20
  go_upto_region 1 with fail
  have rw0 : ((w.alloc (.cells #[.int .i64 r.t, .float .f64 r.x, .float .f64 r.y, .float .f64 r.z, .slice a L.length cap] 26)).alloc (.cells #[.int .i64 0, .int .i64 0, .int .i64 0, .int .i64 0, .slice none 0 0] 32)).cell? ⟨w.heap.size, 0, none⟩ = some (.int .i64 r.t) := by first | (simp; done) | (rw [World.cell?_alloc_at _ _ _ _ (by simp)]; rfl) | (rw [World.cell?_alloc_past _ _ _ (by simp <;> omega), World.cell?_alloc_at _ _ _ _ (by simp)]; rfl) | (rw [World.cell?_alloc_past _ _ _ (by simp <;> omega), World.cell?_alloc_past _ _ _ (by simp <;> omega), World.cell?_alloc_at _ _ _ _ (by simp)]; rfl)
  have rw1 : ((w.alloc (.cells #[.int .i64 r.t, .float .f64 r.x, .float .f64 r.y, .float .f64 r.z, .slice a L.length cap] 26)).alloc (.cells #[.int .i64 0, .int .i64 0, .int .i64 0, .int .i64 0, .slice none 0 0] 32)).cell? ⟨w.heap.size, 1, none⟩ = some (.float .f64 r.x) := by first | (simp; done) | (rw [World.cell?_alloc_at _ _ _ _ (by simp)]; rfl) | (rw [World.cell?_alloc_past _ _ _ (by simp <;> omega), World.cell?_alloc_at _ _ _ _ (by simp)]; rfl) | (rw [World.cell?_alloc_past _ _ _ (by simp <;> omega), World.cell?_alloc_past _ _ _ (by simp <;> omega), World.cell?_alloc_at _ _ _ _ (by simp)]; rfl)
  have rw2 : ((w.alloc (.cells #[.int .i64 r.t, .float .f64 r.x, .float .f64 r.y, .float .f64 r.z, .slice a L.length cap] 26)).alloc (.cells #[.int .i64 0, .int .i64 0, .int .i64 0, .int .i64 0, .slice none 0 0] 32)).cell? ⟨w.heap.size, 2, none⟩ = some (.float .f64 r.y) := by first | (simp; done) | (rw [World.cell?_alloc_at _ _ _ _ (by simp)]; rfl) | (rw [World.cell?_alloc_past _ _ _ (by simp <;> omega), World.cell?_alloc_at _ _ _ _ (by simp)]; rfl) | (rw [World.cell?_alloc_past _ _ _ (by simp <;> omega), World.cell?_alloc_past _ _ _ (by simp <;> omega), World.cell?_alloc_at _ _ _ _ (by simp)]; rfl)
  have rw3 : ((w.alloc (.cells #[.int .i64 r.t, .float .f64 r.x, .float .f64 r.y, .float .f64 r.z, .slice a L.length cap] 26)).alloc (.cells #[.int .i64 0, .int .i64 0, .int .i64 0, .int .i64 0, .slice none 0 0] 32)).cell? ⟨w.heap.size, 3, none⟩ = some (.float .f64 r.z) := by first | (simp; done) | (rw [World.cell?_alloc_at _ _ _ _ (by simp)]; rfl) | (rw [World.cell?_alloc_past _ _ _ (by simp <;> omega), World.cell?_alloc_at _ _ _ _ (by simp)]; rfl) | (rw [World.cell?_alloc_past _ _ _ (by simp <;> omega), World.cell?_alloc_past _ _ _ (by simp <;> omega), World.cell?_alloc_at _ _ _ _ (by simp)]; rfl)
  have rw4 : ((w.alloc (.cells #[.int .i64 r.t, .float .f64 r.x, .float .f64 r.y, .float .f64 r.z, .slice a L.length cap] 26)).alloc (.cells #[.int .i64 0, .int .i64 0, .int .i64 0, .int .i64 0, .slice none 0 0] 32)).cell? ⟨w.heap.size, 4, none⟩ = some (.slice a L.length cap) := by first | (simp; done) | (rw [World.cell?_alloc_at _ _ _ _ (by simp)]; rfl) | (rw [World.cell?_alloc_past _ _ _ (by simp <;> omega), World.cell?_alloc_at _ _ _ _ (by simp)]; rfl) | (rw [World.cell?_alloc_past _ _ _ (by simp <;> omega), World.cell?_alloc_past _ _ _ (by simp <;> omega), World.cell?_alloc_at _ _ _ _ (by simp)]; rfl)
  have rr0 : ((w.alloc (.cells #[.int .i64 r.t, .float .f64 r.x, .float .f64 r.y, .float .f64 r.z, .slice a L.length cap] 26)).alloc (.cells #[.int .i64 0, .int .i64 0, .int .i64 0, .int .i64 0, .slice none 0 0] 32)).cell? ⟨w.heap.size + 1, 0, none⟩ = some (.int .i64 0) := by first | (simp; done) | (rw [World.cell?_alloc_at _ _ _ _ (by simp)]; rfl) | (rw [World.cell?_alloc_past _ _ _ (by simp <;> omega), World.cell?_alloc_at _ _ _ _ (by simp)]; rfl) | (rw [World.cell?_alloc_past _ _ _ (by simp <;> omega), World.cell?_alloc_past _ _ _ (by simp <;> omega), World.cell?_alloc_at _ _ _ _ (by simp)]; rfl)
  have rr1 : ((w.alloc (.cells #[.int .i64 r.t, .float .f64 r.x, .float .f64 r.y, .float .f64 r.z, .slice a L.length cap] 26)).alloc (.cells #[.int .i64 0, .int .i64 0, .int .i64 0, .int .i64 0, .slice none 0 0] 32)).cell? ⟨w.heap.size + 1, 1, none⟩ = some (.int .i64 0) := by first | (simp; done) | (rw [World.cell?_alloc_at _ _ _ _ (by simp)]; rfl) | (rw [World.cell?_alloc_past _ _ _ (by simp <;> omega), World.cell?_alloc_at _ _ _ _ (by simp)]; rfl) | (rw [World.cell?_alloc_past _ _ _ (by simp <;> omega), World.cell?_alloc_past _ _ _ (by simp <;> omega), World.cell?_alloc_at _ _ _ _ (by simp)]; rfl)
  have rr2 : ((w.alloc (.cells #[.int .i64 r.t, .float .f64 r.x, .float .f64 r.y, .float .f64 r.z, .slice a L.length cap] 26)).alloc (.cells #[.int .i64 0, .int .i64 0, .int .i64 0, .int .i64 0, .slice none 0 0] 32)).cell? ⟨w.heap.size + 1, 2, none⟩ = some (.int .i64 0) := by first | (simp; done) | (rw [World.cell?_alloc_at _ _ _ _ (by simp)]; rfl) | (rw [World.cell?_alloc_past _ _ _ (by simp <;> omega), World.cell?_alloc_at _ _ _ _ (by simp)]; rfl) | (rw [World.cell?_alloc_past _ _ _ (by simp <;> omega), World.cell?_alloc_past _ _ _ (by simp <;> omega), World.cell?_alloc_at _ _ _ _ (by simp)]; rfl)
  have rr3 : ((w.alloc (.cells #[.int .i64 r.t, .float .f64 r.x, .float .f64 r.y, .float .f64 r.z, .slice a L.length cap] 26)).alloc (.cells #[.int .i64 0, .int .i64 0, .int .i64 0, .int .i64 0, .slice none 0 0] 32)).cell? ⟨w.heap.size + 1, 3, none⟩ = some (.int .i64 0) := by first | (simp; done) | (rw [World.cell?_alloc_at _ _ _ _ (by simp)]; rfl) | (rw [World.cell?_alloc_past _ _ _ (by simp <;> omega), World.cell?_alloc_at _ _ _ _ (by simp)]; rfl) | (rw [World.cell?_alloc_past _ _ _ (by simp <;> omega), World.cell?_alloc_past _ _ _ (by simp <;> omega), World.cell?_alloc_at _ _ _ _ (by simp)]; rfl)
  have rr4 : ((w.alloc (.cells #[.int .i64 r.t, .float .f64 r.x, .float .f64 r.y, .float .f64 r.z, .slice a L.length cap] 26)).alloc (.cells #[.int .i64 0, .int .i64 0, .int .i64 0, .int .i64 0, .slice none 0 0] 32)).cell? ⟨w.heap.size + 1, 4, none⟩ = some (.slice none 0 0) := by first | (simp; done) | (rw [World.cell?_alloc_at _ _ _ _ (by simp)]; rfl) | (rw [World.cell?_alloc_past _ _ _ (by simp <;> omega), World.cell?_alloc_at _ _ _ _ (by simp)]; rfl) | (rw [World.cell?_alloc_past _ _ _ (by simp <;> omega), World.cell?_alloc_past _ _ _ (by simp <;> omega), World.cell?_alloc_at _ _ _ _ (by simp)]; rfl)
  have hb2 := (by repeat (first | exact hbel | refine belAlloc ?_ _ | refine belDrew ?_ | refine belSet ?_ _ _ (by simp)) : Below w.heap.size w ((w.alloc (.cells #[.int .i64 r.t, .float .f64 r.x, .float .f64 r.y, .float .f64 r.z, .slice a L.length cap] 26)).alloc (.cells #[.int .i64 0, .int .i64 0, .int .i64 0, .int .i64 0, .slice none 0 0] 32)))
  replace hw := belStep hw hb2
  have rwB : Blk ((w.alloc (.cells #[.int .i64 r.t, .float .f64 r.x, .float .f64 r.y, .float .f64 r.z, .slice a L.length cap] 26)).alloc (.cells #[.int .i64 0, .int .i64 0, .int .i64 0, .int .i64 0, .slice none 0 0] 32)) (w.heap.size) [.int .i64 r.t, .float .f64 r.x, .float .f64 r.y, .float .f64 r.z, .slice a L.length cap] 26 := (Blk.at (by simp) : Blk (w.alloc (.cells #[.int .i64 r.t, .float .f64 r.x, .float .f64 r.y, .float .f64 r.z, .slice a L.length cap] 26)) (w.heap.size) [.int .i64 r.t, .float .f64 r.x, .float .f64 r.y, .float .f64 r.z, .slice a L.length cap] 26).later (by repeat (first | exact Below.refl _ _ | refine belAlloc ?_ _))
  have rwF := Blk.keepF rwB
  replace rwB := Blk.keepB rwB
  have rrB : Blk ((w.alloc (.cells #[.int .i64 r.t, .float .f64 r.x, .float .f64 r.y, .float .f64 r.z, .slice a L.length cap] 26)).alloc (.cells #[.int .i64 0, .int .i64 0, .int .i64 0, .int .i64 0, .slice none 0 0] 32)) (w.heap.size + 1) [.int .i64 0, .int .i64 0, .int .i64 0, .int .i64 0, .slice none 0 0] 32 := (Blk.at (by simp) : Blk ((w.alloc (.cells #[.int .i64 r.t, .float .f64 r.x, .float .f64 r.y, .float .f64 r.z, .slice a L.length cap] 26)).alloc (.cells #[.int .i64 0, .int .i64 0, .int .i64 0, .int .i64 0, .slice none 0 0] 32)) (w.heap.size + 1) [.int .i64 0, .int .i64 0, .int .i64 0, .int .i64 0, .slice none 0 0] 32).later (by repeat (first | exact Below.refl _ _ | refine belAlloc ?_ _))
  have rrF := Blk.keepF rrB
  replace rrB := Blk.keepB rrB
  clear hb2 hbel
  generalize (w.alloc (.cells #[.int .i64 r.t, .float .f64 r.x, .float .f64 r.y, .float .f64 r.z, .slice a L.length cap] 26)).alloc (.cells #[.int .i64 0, .int .i64 0, .int .i64 0, .int .i64 0, .slice none 0 0] 32) = W1 at *
  replace rw0 := keep rw0
  replace rw1 := keep rw1
  replace rw2 := keep rw2
  replace rw3 := keep rw3
  replace rw4 := keep rw4
  replace rr0 := keep rr0
  replace rr1 := keep rr1
  replace rr2 := keep rr2
  replace rr3 := keep rr3
  replace rr4 := keep rr4
  have hbel : Below W1.heap.size W1 W1 := Below.refl _ _
  skip
  have hz1 : w.heap.size + 1 < W1.heap.size := (rrB _ hbel).lt
  obtain ⟨tw, htw⟩ : ∃ o, twiceB L = o := ⟨_, rfl⟩
  rw [htw] at CTW HE
  by_cases h128 : L.length ≤ 128
  · have hd : ¬ (128 : Int) < (L.length : Int) := by omega
    have hd2 : decide ((128 : Int) < (L.length : Int)) = false := decide_eq_false hd
    rcases tw with _ | _
    · replace CUS := Lib.hid (CUS.out htw h128)
      obtain ⟨⟨U, m⟩, hU⟩ : ∃ p, usesF L = p := ⟨_, rfl⟩
      obtain ⟨o, ho⟩ : ∃ o, all3 r.x r.y r.z = o := ⟨_, rfl⟩
      rw [hU] at CUS
      rw [ho] at CNU HE
      have HU := Lib.hid hU
      clear hU ho htw h128
      go_upto_region 3 with (first | (go_at_call 53; (with_reducible refine (CTW.out _ (belStep hw hbel)).mono ?_); rintro e w1 ⟨rfl, hb1⟩; replace hbel := belStep hbel hb1; clear hb1))
      go_upto_region 4 with (first | (go_at_call 54; (with_reducible refine (CNU.out _).mono ?_); rintro e w3 ⟨rfl, hb3⟩; replace hbel := belStep hbel hb3; clear hb3))
      have HZ3 := Lib.hid (show W1.heap.size ≤ (w3.alloc (.cells #[.int .i64 (nx o r.x), .int .i64 (nx o r.y), .int .i64 (nx o r.z)] 29)).heap.size from (belAlloc hbel _).size)
      have nn0 : (w3.alloc (.cells #[.int .i64 (nx o r.x), .int .i64 (nx o r.y), .int .i64 (nx o r.z)] 29)).cell? ⟨w3.heap.size, 0, none⟩ = some (.int .i64 (nx o r.x)) := by first | (simp; done) | (rw [World.cell?_alloc_at _ _ _ _ (by simp)]; rfl) | (rw [World.cell?_alloc_past _ _ _ (by simp <;> omega), World.cell?_alloc_at _ _ _ _ (by simp)]; rfl) | (rw [World.cell?_alloc_past _ _ _ (by simp <;> omega), World.cell?_alloc_past _ _ _ (by simp <;> omega), World.cell?_alloc_at _ _ _ _ (by simp)]; rfl)
      have nn1 : (w3.alloc (.cells #[.int .i64 (nx o r.x), .int .i64 (nx o r.y), .int .i64 (nx o r.z)] 29)).cell? ⟨w3.heap.size, 1, none⟩ = some (.int .i64 (nx o r.y)) := by first | (simp; done) | (rw [World.cell?_alloc_at _ _ _ _ (by simp)]; rfl) | (rw [World.cell?_alloc_past _ _ _ (by simp <;> omega), World.cell?_alloc_at _ _ _ _ (by simp)]; rfl) | (rw [World.cell?_alloc_past _ _ _ (by simp <;> omega), World.cell?_alloc_past _ _ _ (by simp <;> omega), World.cell?_alloc_at _ _ _ _ (by simp)]; rfl)
      have nn2 : (w3.alloc (.cells #[.int .i64 (nx o r.x), .int .i64 (nx o r.y), .int .i64 (nx o r.z)] 29)).cell? ⟨w3.heap.size, 2, none⟩ = some (.int .i64 (nx o r.z)) := by first | (simp; done) | (rw [World.cell?_alloc_at _ _ _ _ (by simp)]; rfl) | (rw [World.cell?_alloc_past _ _ _ (by simp <;> omega), World.cell?_alloc_at _ _ _ _ (by simp)]; rfl) | (rw [World.cell?_alloc_past _ _ _ (by simp <;> omega), World.cell?_alloc_past _ _ _ (by simp <;> omega), World.cell?_alloc_at _ _ _ _ (by simp)]; rfl)
      have hb2 := (by repeat (first | exact hbel | refine belAlloc ?_ _ | refine belDrew ?_ | refine belSet ?_ _ _ (by simp)) : Below W1.heap.size W1 (w3.alloc (.cells #[.int .i64 (nx o r.x), .int .i64 (nx o r.y), .int .i64 (nx o r.z)] 29)))
      replace rw0 := keepOnP rw0 hb2
      replace rw1 := keepOnP rw1 hb2
      replace rw2 := keepOnP rw2 hb2
      replace rw3 := keepOnP rw3 hb2
      replace rw4 := keepOnP rw4 hb2
      replace rr0 := keepOnP rr0 hb2
      replace rr1 := keepOnP rr1 hb2
      replace rr2 := keepOnP rr2 hb2
      replace rr3 := keepOnP rr3 hb2
      replace rr4 := keepOnP rr4 hb2
      replace rwF := keepOnP rwF hb2
      replace rwB := keepOnP rwB hb2
      replace rrF := keepOnP rrF hb2
      replace rrB := keepOnP rrB hb2
      replace hw := belStep hw hb2
      clear hb2 hbel
      generalize w3.alloc (.cells #[.int .i64 (nx o r.x), .int .i64 (nx o r.y), .int .i64 (nx o r.z)] 29) = W3 at *
      replace nn0 := keep nn0
      replace nn1 := keep nn1
      replace nn2 := keep nn2
      generalize w3.heap.size = M at *
      have hbel : Below W3.heap.size W3 W3 := Below.refl _ _
      clear w3
      have hz3 : w.heap.size + 1 < W3.heap.size := Nat.lt_of_lt_of_le hz1 (by have := HZ3.out; exact this)
      go_upto_region 5 with (first | (go_at_call 55; (with_reducible refine (CUS.out _ (belStep hw hbel)).mono ?_); rintro e w5 ⟨⟨b5, n5, rfl, ho5⟩, hb5⟩; replace hbel := belStep hbel hb5))
      have HO5 := Lib.hid ho5
      clear ho5 hb5
      rcases o with _ | _
      · have HV := Lib.hid (readSF_no (r := r) (L := L) (by rw [HE.out]; simp))
        go_wp2
        exact read_ret _ _ _ 0 0 0 0 1 _ _ rfl rfl ((((((rrB _ hbel).set 0 _).set 1 _).set 2 _).set 3 _).set 4 _) ⟨⟨none, 0, by rw [HV.out]; rfl, by rw [HV.out]; exact OwnR.nil _ _ _ _⟩, (by repeat (first | exact belStep hw hbel | refine belSet ?_ _ _ (by dsimp only; omega) | refine belAlloc ?_ _))⟩
      · rcases m with _ | _
        · have HV := Lib.hid (readSF_no (r := r) (L := L) (by rw [HE.out, usesF_false HU.out]; simp))
          go_wp2
          exact read_ret _ _ _ 0 0 0 0 1 _ _ rfl rfl ((((((rrB _ hbel).set 0 _).set 1 _).set 2 _).set 3 _).set 4 _) ⟨⟨none, 0, by rw [HV.out]; rfl, by rw [HV.out]; exact OwnR.nil _ _ _ _⟩, (by repeat (first | exact belStep hw hbel | refine belSet ?_ _ _ (by dsimp only; omega) | refine belAlloc ?_ _))⟩
        · obtain ⟨hau, rfl⟩ := usesF_true HU.out
          have hle : L.length ≤ 128 := by omega
          have HV := Lib.hid (readSF_yes (r := r) (L := L) (by rw [HE.out, hau, decide_eq_true hle]; rfl))
          clear hau
          go_wp2
          exact read_ret _ _ _ r.t (readF r.x) (readF r.y) (readF r.z) 0 _ _ rfl rfl ((((((rrB _ hbel).set 0 _).set 1 _).set 2 _).set 3 _).set 4 _) ⟨⟨_, _, by rw [HV.out]; rfl, by rw [HV.out]; exact OwnR.mono (OwnR.setCell (a := ⟨w.heap.size + 1, 4, none⟩) (OwnR.setCell (a := ⟨w.heap.size + 1, 3, none⟩) (OwnR.setCell (a := ⟨w.heap.size + 1, 2, none⟩) (OwnR.setCell (a := ⟨w.heap.size + 1, 1, none⟩) (OwnR.setCell (a := ⟨w.heap.size + 1, 0, none⟩) (HO5.out) hz3 _) hz3 _) hz3 _) hz3 _) hz3 _) (Nat.le_trans hw.size (Nat.le_refl _))⟩, (by repeat (first | exact belStep hw hbel | refine belSet ?_ _ _ (by dsimp only; omega) | refine belAlloc ?_ _))⟩
    · have HV := Lib.hid (readSF_no (r := r) (L := L) (by rw [HE.out]; simp))
      go_wp2_with (first | (go_at_call 53; (with_reducible refine (CTW.out _ (belStep hw hbel)).mono ?_); rintro e w1 ⟨rfl, hb1⟩; replace hbel := belStep hbel hb1; clear hb1))
      exact read_ret _ _ _ 0 0 0 0 1 _ _ rfl rfl ((((((rrB _ hbel).set 0 _).set 1 _).set 2 _).set 3 _).set 4 _) ⟨⟨none, 0, by rw [HV.out]; rfl, by rw [HV.out]; exact OwnR.nil _ _ _ _⟩, (by repeat (first | exact belStep hw hbel | refine belSet ?_ _ _ (by dsimp only; omega) | refine belAlloc ?_ _))⟩
  · have hd : (128 : Int) < (L.length : Int) := by omega
    have hd2 : decide ((128 : Int) < (L.length : Int)) = true := decide_eq_true hd
    have HV := Lib.hid (readSF_no (r := r) (L := L) (by rw [HE.out, decide_eq_false h128]; rfl))
    clear h128
    go_wp2
    exact read_ret _ _ _ 0 0 0 0 1 _ _ rfl rfl ((((((rrB _ hbel).set 0 _).set 1 _).set 2 _).set 3 _).set 4 _) ⟨⟨none, 0, by rw [HV.out]; rfl, by rw [HV.out]; exact OwnR.nil _ _ _ _⟩, (by repeat (first | exact belStep hw hbel | refine belSet ?_ _ _ (by dsimp only; omega) | refine belAlloc ?_ _))⟩
end Go.Proofs.Ytcgpmihjodolmaa
