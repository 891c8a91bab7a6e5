
/- SampleOnce holds for all its arguments. No conditions. -/
import Derived.Test.YtcgpmihjodolmaaAwake17
namespace Go.Proofs.Ytcgpmihjodolmaa.sampleOnce
open Go.ChangeShapes Go.WideShapes Go.ChangeAt Go.RowKit
open Go.ChangeMaps (open_string shut_string)
set_option linter.unusedVariables false
set_option linter.unusedSimpArgs false
theorem take_cases (r : RawV) (L : List UsgV) (last round most : Int) : (rightR r L = true ∧ freshB r.t last round most = true ∧ takeSF r L last round most = (readOK r L, 0)) ∨ ∃ er, (er != (0 : Int)) = true ∧ takeSF r L last round most = (zeroS, er) := by
  unfold takeSF
  cases h : rightR r L with
  | false => exact .inr ⟨1, rfl, by rw [if_neg (by simp)]⟩
  | true =>
    cases k : freshB r.t last round most with
    | true => exact .inl ⟨rfl, rfl, by rw [if_pos rfl, if_pos rfl]⟩
    | false => exact .inr ⟨8, rfl, by rw [if_pos rfl, if_neg (by simp)]⟩
theorem fresh_iff {t last round most : Int} : freshB t last round most = true ↔ last < t ∧ t ≤ round ∧ round - t < most := by
  unfold freshB; simp
theorem take_ok {r : RawV} {L : List UsgV} {last round most : Int} (h : rightR r L = true) (h1 : last < r.t) (h2 : r.t ≤ round) (h3 : round - r.t < most) : takeSF r L last round most = (readOK r L, 0) := by
  unfold takeSF; rw [if_pos h, if_pos (fresh_iff.2 ⟨h1, h2, h3⟩)]
theorem take_stale {r : RawV} {L : List UsgV} {last round most : Int} (h : rightR r L = true) (h1 : ¬ (last < r.t ∧ r.t ≤ round ∧ round - r.t < most)) : takeSF r L last round most = (zeroS, 8) := by
  unfold takeSF; rw [if_pos h, if_neg (fun q => h1 (fresh_iff.1 q))]
set_option maxRecDepth 100000 in
set_option maxHeartbeats 16000000 in
theorem walk (r : RawV) (a : Option Addr) (len cap : Nat) (L : List UsgV) (last round most later : Int) (w : World) (hr : r.ok) (hl : L.length = len) (hok : ∀ x ∈ L, x.ok) (hR : Row w a len cap 4 (L.flatMap UsgV.cells)) (hla : InI last) (hro : InI round) (hmo : InI most) (hlt : 0 ≤ later ∧ later ≤ 65535) :
    Calls Try.prog 7 #[.agg #[.int .i64 r.t, .float .f64 r.x, .float .f64 r.y, .float .f64 r.z, .slice a len cap], .int .i64 last, .int .i64 round, .int .i64 most, .int .u16 later] w fun e w' => e = .returned (.bool true) ∧ Below w.heap.size w w' := by
  have hw : Below w.heap.size w w := Below.refl _ _
  have hbel := hw
  have hbd_a : len ≤ cap ∧ cap ≤ 9223372036854775807 := by obtain ⟨_, h1, h2, _⟩ := hR; unfold maxLen at h2; exact ⟨h1, h2⟩
  obtain ⟨hbd1_a, hbd2_a⟩ := hbd_a
  have HR := Lib.hid hR
  have HOK := Lib.hid hok
  have HRO := Lib.hid hr
  clear hR hok hr
  subst hl
  have CFW := Lib.hid (fun u (hu : Below w.heap.size w u) => sref_Few r a L.length cap L u rfl (HR.out.later hu))
  obtain ⟨hl0, hl1⟩ := hla
  obtain ⟨hr0, hr1⟩ := hro
  obtain ⟨hm0, hm1⟩ := hmo
  obtain ⟨hlt0, hlt1⟩ := hlt
  have key : last < -1 ∨ (¬ last < -1 ∧ round < 0) ∨ (¬ last < -1 ∧ ¬ round < 0 ∧ 1099511627776 < round) ∨ (¬ last < -1 ∧ ¬ round < 0 ∧ ¬ 1099511627776 < round ∧ most < 1) ∨ (¬ last < -1 ∧ ¬ round < 0 ∧ ¬ 1099511627776 < round ∧ ¬ most < 1) := by omega
  rcases key with k1 | ⟨k1, k2⟩ | ⟨k1, k2, k3⟩ | ⟨k1, k2, k3, k4⟩ | ⟨k1, k2, k3, k4⟩
  · go_enter Try.func7, Try.ntmps7
    go_upto_region 1 with fail
    have rw0 : (w.alloc (.cells #[.int .i64 r.t, .float .f64 r.x, .float .f64 r.y, .float .f64 r.z, .slice a L.length cap] 26)).cell? ⟨w.heap.size, 0, none⟩ = some (.int .i64 r.t) := by first | (simp; done) | (rw [World.cell?_alloc_at _ _ _ _ (by simp)]; rfl) | (rw [World.cell?_alloc_past _ _ _ (by simp <;> omega), World.cell?_alloc_at _ _ _ _ (by simp)]; rfl) | (rw [World.cell?_alloc_past _ _ _ (by simp <;> omega), World.cell?_alloc_past _ _ _ (by simp <;> omega), World.cell?_alloc_at _ _ _ _ (by simp)]; rfl)
    have rw1 : (w.alloc (.cells #[.int .i64 r.t, .float .f64 r.x, .float .f64 r.y, .float .f64 r.z, .slice a L.length cap] 26)).cell? ⟨w.heap.size, 1, none⟩ = some (.float .f64 r.x) := by first | (simp; done) | (rw [World.cell?_alloc_at _ _ _ _ (by simp)]; rfl) | (rw [World.cell?_alloc_past _ _ _ (by simp <;> omega), World.cell?_alloc_at _ _ _ _ (by simp)]; rfl) | (rw [World.cell?_alloc_past _ _ _ (by simp <;> omega), World.cell?_alloc_past _ _ _ (by simp <;> omega), World.cell?_alloc_at _ _ _ _ (by simp)]; rfl)
    have rw2 : (w.alloc (.cells #[.int .i64 r.t, .float .f64 r.x, .float .f64 r.y, .float .f64 r.z, .slice a L.length cap] 26)).cell? ⟨w.heap.size, 2, none⟩ = some (.float .f64 r.y) := by first | (simp; done) | (rw [World.cell?_alloc_at _ _ _ _ (by simp)]; rfl) | (rw [World.cell?_alloc_past _ _ _ (by simp <;> omega), World.cell?_alloc_at _ _ _ _ (by simp)]; rfl) | (rw [World.cell?_alloc_past _ _ _ (by simp <;> omega), World.cell?_alloc_past _ _ _ (by simp <;> omega), World.cell?_alloc_at _ _ _ _ (by simp)]; rfl)
    have rw3 : (w.alloc (.cells #[.int .i64 r.t, .float .f64 r.x, .float .f64 r.y, .float .f64 r.z, .slice a L.length cap] 26)).cell? ⟨w.heap.size, 3, none⟩ = some (.float .f64 r.z) := by first | (simp; done) | (rw [World.cell?_alloc_at _ _ _ _ (by simp)]; rfl) | (rw [World.cell?_alloc_past _ _ _ (by simp <;> omega), World.cell?_alloc_at _ _ _ _ (by simp)]; rfl) | (rw [World.cell?_alloc_past _ _ _ (by simp <;> omega), World.cell?_alloc_past _ _ _ (by simp <;> omega), World.cell?_alloc_at _ _ _ _ (by simp)]; rfl)
    have rw4 : (w.alloc (.cells #[.int .i64 r.t, .float .f64 r.x, .float .f64 r.y, .float .f64 r.z, .slice a L.length cap] 26)).cell? ⟨w.heap.size, 4, none⟩ = some (.slice a L.length cap) := by first | (simp; done) | (rw [World.cell?_alloc_at _ _ _ _ (by simp)]; rfl) | (rw [World.cell?_alloc_past _ _ _ (by simp <;> omega), World.cell?_alloc_at _ _ _ _ (by simp)]; rfl) | (rw [World.cell?_alloc_past _ _ _ (by simp <;> omega), World.cell?_alloc_past _ _ _ (by simp <;> omega), World.cell?_alloc_at _ _ _ _ (by simp)]; rfl)
    have hb2 := (by repeat (first | exact hbel | refine belAlloc ?_ _ | refine belDrew ?_ | refine belSet ?_ _ _ (by simp)) : Below w.heap.size w (w.alloc (.cells #[.int .i64 r.t, .float .f64 r.x, .float .f64 r.y, .float .f64 r.z, .slice a L.length cap] 26)))
    replace hw := belStep hw hb2
    clear hb2 hbel
    generalize w.alloc (.cells #[.int .i64 r.t, .float .f64 r.x, .float .f64 r.y, .float .f64 r.z, .slice a L.length cap] 26) = W1 at *
    replace rw0 := keep rw0
    replace rw1 := keep rw1
    replace rw2 := keep rw2
    replace rw3 := keep rw3
    replace rw4 := keep rw4
    have hbel : Below W1.heap.size W1 W1 := Below.refl _ _
    skip
    go_wp2_with (first | (go_at_call 18; (with_reducible refine (awake17 _).mono ?_); rintro e w1 ⟨rfl, hb1⟩; replace hbel := belStep hbel hb1; clear hb1) | (go_at_call 19; (with_reducible refine (CFW.out _ (belStep hw hbel)).mono ?_); rintro e u2 ⟨⟨fb, rfl, hq⟩, hb2⟩; replace hbel := belStep hbel hb2; clear hb2; have HFW := Lib.hid hq; clear hq; rcases fb with _ | _))
    all_goals
      go_ret
      exact ⟨rfl, (by repeat (first | exact belStep hw hbel | refine belAlloc ?_ _))⟩
  · go_enter Try.func7, Try.ntmps7
    go_upto_region 1 with fail
    have rw0 : (w.alloc (.cells #[.int .i64 r.t, .float .f64 r.x, .float .f64 r.y, .float .f64 r.z, .slice a L.length cap] 26)).cell? ⟨w.heap.size, 0, none⟩ = some (.int .i64 r.t) := by first | (simp; done) | (rw [World.cell?_alloc_at _ _ _ _ (by simp)]; rfl) | (rw [World.cell?_alloc_past _ _ _ (by simp <;> omega), World.cell?_alloc_at _ _ _ _ (by simp)]; rfl) | (rw [World.cell?_alloc_past _ _ _ (by simp <;> omega), World.cell?_alloc_past _ _ _ (by simp <;> omega), World.cell?_alloc_at _ _ _ _ (by simp)]; rfl)
    have rw1 : (w.alloc (.cells #[.int .i64 r.t, .float .f64 r.x, .float .f64 r.y, .float .f64 r.z, .slice a L.length cap] 26)).cell? ⟨w.heap.size, 1, none⟩ = some (.float .f64 r.x) := by first | (simp; done) | (rw [World.cell?_alloc_at _ _ _ _ (by simp)]; rfl) | (rw [World.cell?_alloc_past _ _ _ (by simp <;> omega), World.cell?_alloc_at _ _ _ _ (by simp)]; rfl) | (rw [World.cell?_alloc_past _ _ _ (by simp <;> omega), World.cell?_alloc_past _ _ _ (by simp <;> omega), World.cell?_alloc_at _ _ _ _ (by simp)]; rfl)
    have rw2 : (w.alloc (.cells #[.int .i64 r.t, .float .f64 r.x, .float .f64 r.y, .float .f64 r.z, .slice a L.length cap] 26)).cell? ⟨w.heap.size, 2, none⟩ = some (.float .f64 r.y) := by first | (simp; done) | (rw [World.cell?_alloc_at _ _ _ _ (by simp)]; rfl) | (rw [World.cell?_alloc_past _ _ _ (by simp <;> omega), World.cell?_alloc_at _ _ _ _ (by simp)]; rfl) | (rw [World.cell?_alloc_past _ _ _ (by simp <;> omega), World.cell?_alloc_past _ _ _ (by simp <;> omega), World.cell?_alloc_at _ _ _ _ (by simp)]; rfl)
    have rw3 : (w.alloc (.cells #[.int .i64 r.t, .float .f64 r.x, .float .f64 r.y, .float .f64 r.z, .slice a L.length cap] 26)).cell? ⟨w.heap.size, 3, none⟩ = some (.float .f64 r.z) := by first | (simp; done) | (rw [World.cell?_alloc_at _ _ _ _ (by simp)]; rfl) | (rw [World.cell?_alloc_past _ _ _ (by simp <;> omega), World.cell?_alloc_at _ _ _ _ (by simp)]; rfl) | (rw [World.cell?_alloc_past _ _ _ (by simp <;> omega), World.cell?_alloc_past _ _ _ (by simp <;> omega), World.cell?_alloc_at _ _ _ _ (by simp)]; rfl)
    have rw4 : (w.alloc (.cells #[.int .i64 r.t, .float .f64 r.x, .float .f64 r.y, .float .f64 r.z, .slice a L.length cap] 26)).cell? ⟨w.heap.size, 4, none⟩ = some (.slice a L.length cap) := by first | (simp; done) | (rw [World.cell?_alloc_at _ _ _ _ (by simp)]; rfl) | (rw [World.cell?_alloc_past _ _ _ (by simp <;> omega), World.cell?_alloc_at _ _ _ _ (by simp)]; rfl) | (rw [World.cell?_alloc_past _ _ _ (by simp <;> omega), World.cell?_alloc_past _ _ _ (by simp <;> omega), World.cell?_alloc_at _ _ _ _ (by simp)]; rfl)
    have hb2 := (by repeat (first | exact hbel | refine belAlloc ?_ _ | refine belDrew ?_ | refine belSet ?_ _ _ (by simp)) : Below w.heap.size w (w.alloc (.cells #[.int .i64 r.t, .float .f64 r.x, .float .f64 r.y, .float .f64 r.z, .slice a L.length cap] 26)))
    replace hw := belStep hw hb2
    clear hb2 hbel
    generalize w.alloc (.cells #[.int .i64 r.t, .float .f64 r.x, .float .f64 r.y, .float .f64 r.z, .slice a L.length cap] 26) = W1 at *
    replace rw0 := keep rw0
    replace rw1 := keep rw1
    replace rw2 := keep rw2
    replace rw3 := keep rw3
    replace rw4 := keep rw4
    have hbel : Below W1.heap.size W1 W1 := Below.refl _ _
    skip
    go_wp2_with (first | (go_at_call 18; (with_reducible refine (awake17 _).mono ?_); rintro e w1 ⟨rfl, hb1⟩; replace hbel := belStep hbel hb1; clear hb1) | (go_at_call 19; (with_reducible refine (CFW.out _ (belStep hw hbel)).mono ?_); rintro e u2 ⟨⟨fb, rfl, hq⟩, hb2⟩; replace hbel := belStep hbel hb2; clear hb2; have HFW := Lib.hid hq; clear hq; rcases fb with _ | _))
    all_goals
      go_ret
      exact ⟨rfl, (by repeat (first | exact belStep hw hbel | refine belAlloc ?_ _))⟩
  · go_enter Try.func7, Try.ntmps7
    go_upto_region 1 with fail
    have rw0 : (w.alloc (.cells #[.int .i64 r.t, .float .f64 r.x, .float .f64 r.y, .float .f64 r.z, .slice a L.length cap] 26)).cell? ⟨w.heap.size, 0, none⟩ = some (.int .i64 r.t) := by first | (simp; done) | (rw [World.cell?_alloc_at _ _ _ _ (by simp)]; rfl) | (rw [World.cell?_alloc_past _ _ _ (by simp <;> omega), World.cell?_alloc_at _ _ _ _ (by simp)]; rfl) | (rw [World.cell?_alloc_past _ _ _ (by simp <;> omega), World.cell?_alloc_past _ _ _ (by simp <;> omega), World.cell?_alloc_at _ _ _ _ (by simp)]; rfl)
    have rw1 : (w.alloc (.cells #[.int .i64 r.t, .float .f64 r.x, .float .f64 r.y, .float .f64 r.z, .slice a L.length cap] 26)).cell? ⟨w.heap.size, 1, none⟩ = some (.float .f64 r.x) := by first | (simp; done) | (rw [World.cell?_alloc_at _ _ _ _ (by simp)]; rfl) | (rw [World.cell?_alloc_past _ _ _ (by simp <;> omega), World.cell?_alloc_at _ _ _ _ (by simp)]; rfl) | (rw [World.cell?_alloc_past _ _ _ (by simp <;> omega), World.cell?_alloc_past _ _ _ (by simp <;> omega), World.cell?_alloc_at _ _ _ _ (by simp)]; rfl)
    have rw2 : (w.alloc (.cells #[.int .i64 r.t, .float .f64 r.x, .float .f64 r.y, .float .f64 r.z, .slice a L.length cap] 26)).cell? ⟨w.heap.size, 2, none⟩ = some (.float .f64 r.y) := by first | (simp; done) | (rw [World.cell?_alloc_at _ _ _ _ (by simp)]; rfl) | (rw [World.cell?_alloc_past _ _ _ (by simp <;> omega), World.cell?_alloc_at _ _ _ _ (by simp)]; rfl) | (rw [World.cell?_alloc_past _ _ _ (by simp <;> omega), World.cell?_alloc_past _ _ _ (by simp <;> omega), World.cell?_alloc_at _ _ _ _ (by simp)]; rfl)
    have rw3 : (w.alloc (.cells #[.int .i64 r.t, .float .f64 r.x, .float .f64 r.y, .float .f64 r.z, .slice a L.length cap] 26)).cell? ⟨w.heap.size, 3, none⟩ = some (.float .f64 r.z) := by first | (simp; done) | (rw [World.cell?_alloc_at _ _ _ _ (by simp)]; rfl) | (rw [World.cell?_alloc_past _ _ _ (by simp <;> omega), World.cell?_alloc_at _ _ _ _ (by simp)]; rfl) | (rw [World.cell?_alloc_past _ _ _ (by simp <;> omega), World.cell?_alloc_past _ _ _ (by simp <;> omega), World.cell?_alloc_at _ _ _ _ (by simp)]; rfl)
    have rw4 : (w.alloc (.cells #[.int .i64 r.t, .float .f64 r.x, .float .f64 r.y, .float .f64 r.z, .slice a L.length cap] 26)).cell? ⟨w.heap.size, 4, none⟩ = some (.slice a L.length cap) := by first | (simp; done) | (rw [World.cell?_alloc_at _ _ _ _ (by simp)]; rfl) | (rw [World.cell?_alloc_past _ _ _ (by simp <;> omega), World.cell?_alloc_at _ _ _ _ (by simp)]; rfl) | (rw [World.cell?_alloc_past _ _ _ (by simp <;> omega), World.cell?_alloc_past _ _ _ (by simp <;> omega), World.cell?_alloc_at _ _ _ _ (by simp)]; rfl)
    have hb2 := (by repeat (first | exact hbel | refine belAlloc ?_ _ | refine belDrew ?_ | refine belSet ?_ _ _ (by simp)) : Below w.heap.size w (w.alloc (.cells #[.int .i64 r.t, .float .f64 r.x, .float .f64 r.y, .float .f64 r.z, .slice a L.length cap] 26)))
    replace hw := belStep hw hb2
    clear hb2 hbel
    generalize w.alloc (.cells #[.int .i64 r.t, .float .f64 r.x, .float .f64 r.y, .float .f64 r.z, .slice a L.length cap] 26) = W1 at *
    replace rw0 := keep rw0
    replace rw1 := keep rw1
    replace rw2 := keep rw2
    replace rw3 := keep rw3
    replace rw4 := keep rw4
    have hbel : Below W1.heap.size W1 W1 := Below.refl _ _
    skip
    go_wp2_with (first | (go_at_call 18; (with_reducible refine (awake17 _).mono ?_); rintro e w1 ⟨rfl, hb1⟩; replace hbel := belStep hbel hb1; clear hb1) | (go_at_call 19; (with_reducible refine (CFW.out _ (belStep hw hbel)).mono ?_); rintro e u2 ⟨⟨fb, rfl, hq⟩, hb2⟩; replace hbel := belStep hbel hb2; clear hb2; have HFW := Lib.hid hq; clear hq; rcases fb with _ | _))
    all_goals
      go_ret
      exact ⟨rfl, (by repeat (first | exact belStep hw hbel | refine belAlloc ?_ _))⟩
  · go_enter Try.func7, Try.ntmps7
    go_upto_region 1 with fail
    have rw0 : (w.alloc (.cells #[.int .i64 r.t, .float .f64 r.x, .float .f64 r.y, .float .f64 r.z, .slice a L.length cap] 26)).cell? ⟨w.heap.size, 0, none⟩ = some (.int .i64 r.t) := by first | (simp; done) | (rw [World.cell?_alloc_at _ _ _ _ (by simp)]; rfl) | (rw [World.cell?_alloc_past _ _ _ (by simp <;> omega), World.cell?_alloc_at _ _ _ _ (by simp)]; rfl) | (rw [World.cell?_alloc_past _ _ _ (by simp <;> omega), World.cell?_alloc_past _ _ _ (by simp <;> omega), World.cell?_alloc_at _ _ _ _ (by simp)]; rfl)
    have rw1 : (w.alloc (.cells #[.int .i64 r.t, .float .f64 r.x, .float .f64 r.y, .float .f64 r.z, .slice a L.length cap] 26)).cell? ⟨w.heap.size, 1, none⟩ = some (.float .f64 r.x) := by first | (simp; done) | (rw [World.cell?_alloc_at _ _ _ _ (by simp)]; rfl) | (rw [World.cell?_alloc_past _ _ _ (by simp <;> omega), World.cell?_alloc_at _ _ _ _ (by simp)]; rfl) | (rw [World.cell?_alloc_past _ _ _ (by simp <;> omega), World.cell?_alloc_past _ _ _ (by simp <;> omega), World.cell?_alloc_at _ _ _ _ (by simp)]; rfl)
    have rw2 : (w.alloc (.cells #[.int .i64 r.t, .float .f64 r.x, .float .f64 r.y, .float .f64 r.z, .slice a L.length cap] 26)).cell? ⟨w.heap.size, 2, none⟩ = some (.float .f64 r.y) := by first | (simp; done) | (rw [World.cell?_alloc_at _ _ _ _ (by simp)]; rfl) | (rw [World.cell?_alloc_past _ _ _ (by simp <;> omega), World.cell?_alloc_at _ _ _ _ (by simp)]; rfl) | (rw [World.cell?_alloc_past _ _ _ (by simp <;> omega), World.cell?_alloc_past _ _ _ (by simp <;> omega), World.cell?_alloc_at _ _ _ _ (by simp)]; rfl)
    have rw3 : (w.alloc (.cells #[.int .i64 r.t, .float .f64 r.x, .float .f64 r.y, .float .f64 r.z, .slice a L.length cap] 26)).cell? ⟨w.heap.size, 3, none⟩ = some (.float .f64 r.z) := by first | (simp; done) | (rw [World.cell?_alloc_at _ _ _ _ (by simp)]; rfl) | (rw [World.cell?_alloc_past _ _ _ (by simp <;> omega), World.cell?_alloc_at _ _ _ _ (by simp)]; rfl) | (rw [World.cell?_alloc_past _ _ _ (by simp <;> omega), World.cell?_alloc_past _ _ _ (by simp <;> omega), World.cell?_alloc_at _ _ _ _ (by simp)]; rfl)
    have rw4 : (w.alloc (.cells #[.int .i64 r.t, .float .f64 r.x, .float .f64 r.y, .float .f64 r.z, .slice a L.length cap] 26)).cell? ⟨w.heap.size, 4, none⟩ = some (.slice a L.length cap) := by first | (simp; done) | (rw [World.cell?_alloc_at _ _ _ _ (by simp)]; rfl) | (rw [World.cell?_alloc_past _ _ _ (by simp <;> omega), World.cell?_alloc_at _ _ _ _ (by simp)]; rfl) | (rw [World.cell?_alloc_past _ _ _ (by simp <;> omega), World.cell?_alloc_past _ _ _ (by simp <;> omega), World.cell?_alloc_at _ _ _ _ (by simp)]; rfl)
    have hb2 := (by repeat (first | exact hbel | refine belAlloc ?_ _ | refine belDrew ?_ | refine belSet ?_ _ _ (by simp)) : Below w.heap.size w (w.alloc (.cells #[.int .i64 r.t, .float .f64 r.x, .float .f64 r.y, .float .f64 r.z, .slice a L.length cap] 26)))
    replace hw := belStep hw hb2
    clear hb2 hbel
    generalize w.alloc (.cells #[.int .i64 r.t, .float .f64 r.x, .float .f64 r.y, .float .f64 r.z, .slice a L.length cap] 26) = W1 at *
    replace rw0 := keep rw0
    replace rw1 := keep rw1
    replace rw2 := keep rw2
    replace rw3 := keep rw3
    replace rw4 := keep rw4
    have hbel : Below W1.heap.size W1 W1 := Below.refl _ _
    skip
    go_wp2_with (first | (go_at_call 18; (with_reducible refine (awake17 _).mono ?_); rintro e w1 ⟨rfl, hb1⟩; replace hbel := belStep hbel hb1; clear hb1) | (go_at_call 19; (with_reducible refine (CFW.out _ (belStep hw hbel)).mono ?_); rintro e u2 ⟨⟨fb, rfl, hq⟩, hb2⟩; replace hbel := belStep hbel hb2; clear hb2; have HFW := Lib.hid hq; clear hq; rcases fb with _ | _))
    all_goals
      go_ret
      exact ⟨rfl, (by repeat (first | exact belStep hw hbel | refine belAlloc ?_ _))⟩
  · rcases take_cases r L last round most with ⟨hq, hf, hS⟩ | ⟨er, her, hS⟩
    rotate_left 1
    · have CT := Lib.hid (fun u (hu : Below w.heap.size w u) => smp_TakeE r a L.length cap L last round most u rfl HRO.out HOK.out (HR.out.later hu) (by omega) (by omega) (by omega) (by omega) hS)
      clear hS
      go_enter Try.func7, Try.ntmps7
      go_upto_region 1 with fail
      have rw0 : (w.alloc (.cells #[.int .i64 r.t, .float .f64 r.x, .float .f64 r.y, .float .f64 r.z, .slice a L.length cap] 26)).cell? ⟨w.heap.size, 0, none⟩ = some (.int .i64 r.t) := by first | (simp; done) | (rw [World.cell?_alloc_at _ _ _ _ (by simp)]; rfl) | (rw [World.cell?_alloc_past _ _ _ (by simp <;> omega), World.cell?_alloc_at _ _ _ _ (by simp)]; rfl) | (rw [World.cell?_alloc_past _ _ _ (by simp <;> omega), World.cell?_alloc_past _ _ _ (by simp <;> omega), World.cell?_alloc_at _ _ _ _ (by simp)]; rfl)
      have rw1 : (w.alloc (.cells #[.int .i64 r.t, .float .f64 r.x, .float .f64 r.y, .float .f64 r.z, .slice a L.length cap] 26)).cell? ⟨w.heap.size, 1, none⟩ = some (.float .f64 r.x) := by first | (simp; done) | (rw [World.cell?_alloc_at _ _ _ _ (by simp)]; rfl) | (rw [World.cell?_alloc_past _ _ _ (by simp <;> omega), World.cell?_alloc_at _ _ _ _ (by simp)]; rfl) | (rw [World.cell?_alloc_past _ _ _ (by simp <;> omega), World.cell?_alloc_past _ _ _ (by simp <;> omega), World.cell?_alloc_at _ _ _ _ (by simp)]; rfl)
      have rw2 : (w.alloc (.cells #[.int .i64 r.t, .float .f64 r.x, .float .f64 r.y, .float .f64 r.z, .slice a L.length cap] 26)).cell? ⟨w.heap.size, 2, none⟩ = some (.float .f64 r.y) := by first | (simp; done) | (rw [World.cell?_alloc_at _ _ _ _ (by simp)]; rfl) | (rw [World.cell?_alloc_past _ _ _ (by simp <;> omega), World.cell?_alloc_at _ _ _ _ (by simp)]; rfl) | (rw [World.cell?_alloc_past _ _ _ (by simp <;> omega), World.cell?_alloc_past _ _ _ (by simp <;> omega), World.cell?_alloc_at _ _ _ _ (by simp)]; rfl)
      have rw3 : (w.alloc (.cells #[.int .i64 r.t, .float .f64 r.x, .float .f64 r.y, .float .f64 r.z, .slice a L.length cap] 26)).cell? ⟨w.heap.size, 3, none⟩ = some (.float .f64 r.z) := by first | (simp; done) | (rw [World.cell?_alloc_at _ _ _ _ (by simp)]; rfl) | (rw [World.cell?_alloc_past _ _ _ (by simp <;> omega), World.cell?_alloc_at _ _ _ _ (by simp)]; rfl) | (rw [World.cell?_alloc_past _ _ _ (by simp <;> omega), World.cell?_alloc_past _ _ _ (by simp <;> omega), World.cell?_alloc_at _ _ _ _ (by simp)]; rfl)
      have rw4 : (w.alloc (.cells #[.int .i64 r.t, .float .f64 r.x, .float .f64 r.y, .float .f64 r.z, .slice a L.length cap] 26)).cell? ⟨w.heap.size, 4, none⟩ = some (.slice a L.length cap) := by first | (simp; done) | (rw [World.cell?_alloc_at _ _ _ _ (by simp)]; rfl) | (rw [World.cell?_alloc_past _ _ _ (by simp <;> omega), World.cell?_alloc_at _ _ _ _ (by simp)]; rfl) | (rw [World.cell?_alloc_past _ _ _ (by simp <;> omega), World.cell?_alloc_past _ _ _ (by simp <;> omega), World.cell?_alloc_at _ _ _ _ (by simp)]; rfl)
      have hb2 := (by repeat (first | exact hbel | refine belAlloc ?_ _ | refine belDrew ?_ | refine belSet ?_ _ _ (by simp)) : Below w.heap.size w (w.alloc (.cells #[.int .i64 r.t, .float .f64 r.x, .float .f64 r.y, .float .f64 r.z, .slice a L.length cap] 26)))
      replace hw := belStep hw hb2
      clear hb2 hbel
      generalize w.alloc (.cells #[.int .i64 r.t, .float .f64 r.x, .float .f64 r.y, .float .f64 r.z, .slice a L.length cap] 26) = W1 at *
      replace rw0 := keep rw0
      replace rw1 := keep rw1
      replace rw2 := keep rw2
      replace rw3 := keep rw3
      replace rw4 := keep rw4
      have hbel : Below W1.heap.size W1 W1 := Below.refl _ _
      skip
      go_upto_region 3 with (first | (go_at_call 18; (with_reducible refine (awake17 _).mono ?_); rintro e w1 ⟨rfl, hb1⟩; replace hbel := belStep hbel hb1; clear hb1) | (go_at_call 19; (with_reducible refine (CFW.out _ (belStep hw hbel)).mono ?_); rintro e u2 ⟨⟨fb, rfl, hq⟩, hb2⟩; replace hbel := belStep hbel hb2; clear hb2; have HFW := Lib.hid hq; clear hq; rcases fb with _ | _))
      · go_ret
        exact ⟨rfl, belStep hw hbel⟩
      obtain ⟨S, hSS⟩ : ∃ S, zeroS = S := ⟨_, rfl⟩
      rw [hSS] at CT
      clear hSS CFW HFW
      go_wp2_with (first | (go_at_call 27; (with_reducible refine (CT.out _ (belStep hw hbel)).mono ?_); rintro e u1 ⟨⟨b1, n1, rfl, ho1⟩, hb1⟩; replace hbel := belStep hbel hb1))
      go_ret
      exact ⟨rfl, (by repeat (first | exact belStep hw hbel | refine belAlloc ?_ _))⟩
    · obtain ⟨f1, f2, f3⟩ := fresh_iff.1 hf
      have CT0 := Lib.hid (fun u (hu : Below w.heap.size w u) => smp_TakeE r a L.length cap L last round most u rfl HRO.out HOK.out (HR.out.later hu) (by omega) (by omega) (by omega) (by omega) hS)
      clear hS hf
      obtain ⟨ht0, ht1⟩ : InI r.t := HRO.out.1
      by_cases hT : 1099511627775 < round + later
      · obtain ⟨S, hS⟩ : ∃ S, readOK r L = S := ⟨_, rfl⟩
        have hSt : r.t = S.t := by rw [← hS]; rfl
        rw [hS] at CT0
        clear hS hSt
        go_enter Try.func7, Try.ntmps7
        go_upto_region 1 with fail
        have rw0 : (w.alloc (.cells #[.int .i64 r.t, .float .f64 r.x, .float .f64 r.y, .float .f64 r.z, .slice a L.length cap] 26)).cell? ⟨w.heap.size, 0, none⟩ = some (.int .i64 r.t) := by first | (simp; done) | (rw [World.cell?_alloc_at _ _ _ _ (by simp)]; rfl) | (rw [World.cell?_alloc_past _ _ _ (by simp <;> omega), World.cell?_alloc_at _ _ _ _ (by simp)]; rfl) | (rw [World.cell?_alloc_past _ _ _ (by simp <;> omega), World.cell?_alloc_past _ _ _ (by simp <;> omega), World.cell?_alloc_at _ _ _ _ (by simp)]; rfl)
        have rw1 : (w.alloc (.cells #[.int .i64 r.t, .float .f64 r.x, .float .f64 r.y, .float .f64 r.z, .slice a L.length cap] 26)).cell? ⟨w.heap.size, 1, none⟩ = some (.float .f64 r.x) := by first | (simp; done) | (rw [World.cell?_alloc_at _ _ _ _ (by simp)]; rfl) | (rw [World.cell?_alloc_past _ _ _ (by simp <;> omega), World.cell?_alloc_at _ _ _ _ (by simp)]; rfl) | (rw [World.cell?_alloc_past _ _ _ (by simp <;> omega), World.cell?_alloc_past _ _ _ (by simp <;> omega), World.cell?_alloc_at _ _ _ _ (by simp)]; rfl)
        have rw2 : (w.alloc (.cells #[.int .i64 r.t, .float .f64 r.x, .float .f64 r.y, .float .f64 r.z, .slice a L.length cap] 26)).cell? ⟨w.heap.size, 2, none⟩ = some (.float .f64 r.y) := by first | (simp; done) | (rw [World.cell?_alloc_at _ _ _ _ (by simp)]; rfl) | (rw [World.cell?_alloc_past _ _ _ (by simp <;> omega), World.cell?_alloc_at _ _ _ _ (by simp)]; rfl) | (rw [World.cell?_alloc_past _ _ _ (by simp <;> omega), World.cell?_alloc_past _ _ _ (by simp <;> omega), World.cell?_alloc_at _ _ _ _ (by simp)]; rfl)
        have rw3 : (w.alloc (.cells #[.int .i64 r.t, .float .f64 r.x, .float .f64 r.y, .float .f64 r.z, .slice a L.length cap] 26)).cell? ⟨w.heap.size, 3, none⟩ = some (.float .f64 r.z) := by first | (simp; done) | (rw [World.cell?_alloc_at _ _ _ _ (by simp)]; rfl) | (rw [World.cell?_alloc_past _ _ _ (by simp <;> omega), World.cell?_alloc_at _ _ _ _ (by simp)]; rfl) | (rw [World.cell?_alloc_past _ _ _ (by simp <;> omega), World.cell?_alloc_past _ _ _ (by simp <;> omega), World.cell?_alloc_at _ _ _ _ (by simp)]; rfl)
        have rw4 : (w.alloc (.cells #[.int .i64 r.t, .float .f64 r.x, .float .f64 r.y, .float .f64 r.z, .slice a L.length cap] 26)).cell? ⟨w.heap.size, 4, none⟩ = some (.slice a L.length cap) := by first | (simp; done) | (rw [World.cell?_alloc_at _ _ _ _ (by simp)]; rfl) | (rw [World.cell?_alloc_past _ _ _ (by simp <;> omega), World.cell?_alloc_at _ _ _ _ (by simp)]; rfl) | (rw [World.cell?_alloc_past _ _ _ (by simp <;> omega), World.cell?_alloc_past _ _ _ (by simp <;> omega), World.cell?_alloc_at _ _ _ _ (by simp)]; rfl)
        have hb2 := (by repeat (first | exact hbel | refine belAlloc ?_ _ | refine belDrew ?_ | refine belSet ?_ _ _ (by simp)) : Below w.heap.size w (w.alloc (.cells #[.int .i64 r.t, .float .f64 r.x, .float .f64 r.y, .float .f64 r.z, .slice a L.length cap] 26)))
        replace hw := belStep hw hb2
        clear hb2 hbel
        generalize w.alloc (.cells #[.int .i64 r.t, .float .f64 r.x, .float .f64 r.y, .float .f64 r.z, .slice a L.length cap] 26) = W1 at *
        replace rw0 := keep rw0
        replace rw1 := keep rw1
        replace rw2 := keep rw2
        replace rw3 := keep rw3
        replace rw4 := keep rw4
        have hbel : Below W1.heap.size W1 W1 := Below.refl _ _
        skip
        go_upto_region 3 with (first | (go_at_call 18; (with_reducible refine (awake17 _).mono ?_); rintro e w1 ⟨rfl, hb1⟩; replace hbel := belStep hbel hb1; clear hb1) | (go_at_call 19; (with_reducible refine (CFW.out _ (belStep hw hbel)).mono ?_); rintro e u2 ⟨⟨fb, rfl, hq⟩, hb2⟩; replace hbel := belStep hbel hb2; clear hb2; have HFW := Lib.hid hq; clear hq; rcases fb with _ | _))
        · go_ret
          exact ⟨rfl, belStep hw hbel⟩
        clear CFW HFW
        go_wp2_with (first | (go_at_call 27; (with_reducible refine (CT0.out _ (belStep hw hbel)).mono ?_); rintro e u1 ⟨⟨b1, n1, rfl, ho1⟩, hb1⟩; replace hbel := belStep hbel hb1))
        go_ret
        exact ⟨rfl, (by repeat (first | exact belStep hw hbel | refine belAlloc ?_ _))⟩
      · obtain ⟨S, hS⟩ : ∃ S, readOK r L = S := ⟨_, rfl⟩
        have hSt : r.t = S.t := by rw [← hS]; rfl
        have CT1 := Lib.hid (fun u (hu : Below w.heap.size w u) => smp_TakeE r a L.length cap L S.t (round + later) 9223372036854775807 u rfl HRO.out HOK.out (HR.out.later hu) (by omega) (by omega) (by omega) (by omega) (take_stale (last := S.t) (round := round + later) (most := 9223372036854775807) hq (by omega)))
        have CT2 := Lib.hid (fun u (hu : Below w.heap.size w u) => smp_TakeE r a L.length cap L last round 9223372036854775807 u rfl HRO.out HOK.out (HR.out.later hu) (by omega) (by omega) (by omega) (by omega) (take_ok (last := last) (round := round) (most := 9223372036854775807) hq f1 f2 (by omega)))
        have hNO : (⟨round + later + 1, r.x, r.y, r.z⟩ : RawV).ok := ⟨⟨by dsimp only; omega, by dsimp only; omega⟩, HRO.out.2⟩
        have hNR : rightR ⟨round + later + 1, r.x, r.y, r.z⟩ L = true := hq
        have CT3 := Lib.hid (fun u (hu : Below w.heap.size w u) => smp_TakeE ⟨round + later + 1, r.x, r.y, r.z⟩ a L.length cap L S.t (round + later + 1) 1 u rfl hNO HOK.out (HR.out.later hu) (by omega) (by omega) (by omega) (by omega) (take_ok (r := ⟨round + later + 1, r.x, r.y, r.z⟩) (last := S.t) (round := round + later + 1) (most := 1) hNR (by dsimp only; omega) (by dsimp only; omega) (by dsimp only; omega)))
        have CT4 := Lib.hid (fun u (hu : Below w.heap.size w u) => smp_TakeE ⟨round + later + 1, r.x, r.y, r.z⟩ a L.length cap L S.t (round + later) 5 u rfl hNO HOK.out (HR.out.later hu) (by omega) (by omega) (by omega) (by omega) (take_stale (r := ⟨round + later + 1, r.x, r.y, r.z⟩) (last := S.t) (round := round + later) (most := 5) hNR (by dsimp only; omega)))
        obtain ⟨S3, hS3⟩ : ∃ S, readOK ⟨round + later + 1, r.x, r.y, r.z⟩ L = S := ⟨_, rfl⟩
        obtain ⟨S0, hS0⟩ : ∃ S, zeroS = S := ⟨_, rfl⟩
        rw [hS] at CT0 CT2
        rw [hS3] at CT3
        rw [hS0] at CT1 CT4
        rw [hSt] at f1 f2 f3 ht0 ht1
        have HST := Lib.hid hSt
        clear hS hS3 hS0 hSt hNO hNR hq
        go_enter Try.func7, Try.ntmps7
        go_upto_region 1 with fail
        have rw0 : (w.alloc (.cells #[.int .i64 r.t, .float .f64 r.x, .float .f64 r.y, .float .f64 r.z, .slice a L.length cap] 26)).cell? ⟨w.heap.size, 0, none⟩ = some (.int .i64 r.t) := by first | (simp; done) | (rw [World.cell?_alloc_at _ _ _ _ (by simp)]; rfl) | (rw [World.cell?_alloc_past _ _ _ (by simp <;> omega), World.cell?_alloc_at _ _ _ _ (by simp)]; rfl) | (rw [World.cell?_alloc_past _ _ _ (by simp <;> omega), World.cell?_alloc_past _ _ _ (by simp <;> omega), World.cell?_alloc_at _ _ _ _ (by simp)]; rfl)
        have rw1 : (w.alloc (.cells #[.int .i64 r.t, .float .f64 r.x, .float .f64 r.y, .float .f64 r.z, .slice a L.length cap] 26)).cell? ⟨w.heap.size, 1, none⟩ = some (.float .f64 r.x) := by first | (simp; done) | (rw [World.cell?_alloc_at _ _ _ _ (by simp)]; rfl) | (rw [World.cell?_alloc_past _ _ _ (by simp <;> omega), World.cell?_alloc_at _ _ _ _ (by simp)]; rfl) | (rw [World.cell?_alloc_past _ _ _ (by simp <;> omega), World.cell?_alloc_past _ _ _ (by simp <;> omega), World.cell?_alloc_at _ _ _ _ (by simp)]; rfl)
        have rw2 : (w.alloc (.cells #[.int .i64 r.t, .float .f64 r.x, .float .f64 r.y, .float .f64 r.z, .slice a L.length cap] 26)).cell? ⟨w.heap.size, 2, none⟩ = some (.float .f64 r.y) := by first | (simp; done) | (rw [World.cell?_alloc_at _ _ _ _ (by simp)]; rfl) | (rw [World.cell?_alloc_past _ _ _ (by simp <;> omega), World.cell?_alloc_at _ _ _ _ (by simp)]; rfl) | (rw [World.cell?_alloc_past _ _ _ (by simp <;> omega), World.cell?_alloc_past _ _ _ (by simp <;> omega), World.cell?_alloc_at _ _ _ _ (by simp)]; rfl)
        have rw3 : (w.alloc (.cells #[.int .i64 r.t, .float .f64 r.x, .float .f64 r.y, .float .f64 r.z, .slice a L.length cap] 26)).cell? ⟨w.heap.size, 3, none⟩ = some (.float .f64 r.z) := by first | (simp; done) | (rw [World.cell?_alloc_at _ _ _ _ (by simp)]; rfl) | (rw [World.cell?_alloc_past _ _ _ (by simp <;> omega), World.cell?_alloc_at _ _ _ _ (by simp)]; rfl) | (rw [World.cell?_alloc_past _ _ _ (by simp <;> omega), World.cell?_alloc_past _ _ _ (by simp <;> omega), World.cell?_alloc_at _ _ _ _ (by simp)]; rfl)
        have rw4 : (w.alloc (.cells #[.int .i64 r.t, .float .f64 r.x, .float .f64 r.y, .float .f64 r.z, .slice a L.length cap] 26)).cell? ⟨w.heap.size, 4, none⟩ = some (.slice a L.length cap) := by first | (simp; done) | (rw [World.cell?_alloc_at _ _ _ _ (by simp)]; rfl) | (rw [World.cell?_alloc_past _ _ _ (by simp <;> omega), World.cell?_alloc_at _ _ _ _ (by simp)]; rfl) | (rw [World.cell?_alloc_past _ _ _ (by simp <;> omega), World.cell?_alloc_past _ _ _ (by simp <;> omega), World.cell?_alloc_at _ _ _ _ (by simp)]; rfl)
        have hb2 := (by repeat (first | exact hbel | refine belAlloc ?_ _ | refine belDrew ?_ | refine belSet ?_ _ _ (by simp)) : Below w.heap.size w (w.alloc (.cells #[.int .i64 r.t, .float .f64 r.x, .float .f64 r.y, .float .f64 r.z, .slice a L.length cap] 26)))
        replace hw := belStep hw hb2
        clear hb2 hbel
        generalize w.alloc (.cells #[.int .i64 r.t, .float .f64 r.x, .float .f64 r.y, .float .f64 r.z, .slice a L.length cap] 26) = W1 at *
        replace rw0 := keep rw0
        replace rw1 := keep rw1
        replace rw2 := keep rw2
        replace rw3 := keep rw3
        replace rw4 := keep rw4
        have hbel : Below W1.heap.size W1 W1 := Below.refl _ _
        skip
        go_upto_region 3 with (first | (go_at_call 18; (with_reducible refine (awake17 _).mono ?_); rintro e w1 ⟨rfl, hb1⟩; replace hbel := belStep hbel hb1; clear hb1) | (go_at_call 19; (with_reducible refine (CFW.out _ (belStep hw hbel)).mono ?_); rintro e u2 ⟨⟨fb, rfl, hq⟩, hb2⟩; replace hbel := belStep hbel hb2; clear hb2; have HFW := Lib.hid hq; clear hq; rcases fb with _ | _))
        · go_ret
          exact ⟨rfl, belStep hw hbel⟩
        clear CFW HFW
        go_upto_region 4 with (first | (go_at_call 27; (with_reducible refine (CT0.out _ (belStep hw hbel)).mono ?_); rintro e u1 ⟨⟨b1, n1, rfl, ho1⟩, hb1⟩; replace hbel := belStep hbel hb1))
        clear ho1 hb1
        have s10 : (u1.alloc (.cells #[.int .i64 S.t, .int .i64 S.a, .int .i64 S.b, .int .i64 S.c, .slice b1 S.use.length n1] 32)).cell? ⟨u1.heap.size, 0, none⟩ = some (.int .i64 S.t) := by first | (simp; done) | (rw [World.cell?_alloc_at _ _ _ _ (by simp)]; rfl) | (rw [World.cell?_alloc_past _ _ _ (by simp <;> omega), World.cell?_alloc_at _ _ _ _ (by simp)]; rfl) | (rw [World.cell?_alloc_past _ _ _ (by simp <;> omega), World.cell?_alloc_past _ _ _ (by simp <;> omega), World.cell?_alloc_at _ _ _ _ (by simp)]; rfl)
        have s11 : (u1.alloc (.cells #[.int .i64 S.t, .int .i64 S.a, .int .i64 S.b, .int .i64 S.c, .slice b1 S.use.length n1] 32)).cell? ⟨u1.heap.size, 1, none⟩ = some (.int .i64 S.a) := by first | (simp; done) | (rw [World.cell?_alloc_at _ _ _ _ (by simp)]; rfl) | (rw [World.cell?_alloc_past _ _ _ (by simp <;> omega), World.cell?_alloc_at _ _ _ _ (by simp)]; rfl) | (rw [World.cell?_alloc_past _ _ _ (by simp <;> omega), World.cell?_alloc_past _ _ _ (by simp <;> omega), World.cell?_alloc_at _ _ _ _ (by simp)]; rfl)
        have s12 : (u1.alloc (.cells #[.int .i64 S.t, .int .i64 S.a, .int .i64 S.b, .int .i64 S.c, .slice b1 S.use.length n1] 32)).cell? ⟨u1.heap.size, 2, none⟩ = some (.int .i64 S.b) := by first | (simp; done) | (rw [World.cell?_alloc_at _ _ _ _ (by simp)]; rfl) | (rw [World.cell?_alloc_past _ _ _ (by simp <;> omega), World.cell?_alloc_at _ _ _ _ (by simp)]; rfl) | (rw [World.cell?_alloc_past _ _ _ (by simp <;> omega), World.cell?_alloc_past _ _ _ (by simp <;> omega), World.cell?_alloc_at _ _ _ _ (by simp)]; rfl)
        have s13 : (u1.alloc (.cells #[.int .i64 S.t, .int .i64 S.a, .int .i64 S.b, .int .i64 S.c, .slice b1 S.use.length n1] 32)).cell? ⟨u1.heap.size, 3, none⟩ = some (.int .i64 S.c) := by first | (simp; done) | (rw [World.cell?_alloc_at _ _ _ _ (by simp)]; rfl) | (rw [World.cell?_alloc_past _ _ _ (by simp <;> omega), World.cell?_alloc_at _ _ _ _ (by simp)]; rfl) | (rw [World.cell?_alloc_past _ _ _ (by simp <;> omega), World.cell?_alloc_past _ _ _ (by simp <;> omega), World.cell?_alloc_at _ _ _ _ (by simp)]; rfl)
        have s14 : (u1.alloc (.cells #[.int .i64 S.t, .int .i64 S.a, .int .i64 S.b, .int .i64 S.c, .slice b1 S.use.length n1] 32)).cell? ⟨u1.heap.size, 4, none⟩ = some (.slice b1 S.use.length n1) := by first | (simp; done) | (rw [World.cell?_alloc_at _ _ _ _ (by simp)]; rfl) | (rw [World.cell?_alloc_past _ _ _ (by simp <;> omega), World.cell?_alloc_at _ _ _ _ (by simp)]; rfl) | (rw [World.cell?_alloc_past _ _ _ (by simp <;> omega), World.cell?_alloc_past _ _ _ (by simp <;> omega), World.cell?_alloc_at _ _ _ _ (by simp)]; rfl)
        have hb2 := (by repeat (first | exact hbel | refine belAlloc ?_ _ | refine belDrew ?_ | refine belSet ?_ _ _ (by simp)) : Below W1.heap.size W1 (u1.alloc (.cells #[.int .i64 S.t, .int .i64 S.a, .int .i64 S.b, .int .i64 S.c, .slice b1 S.use.length n1] 32)))
        replace rw0 := keepOnP rw0 hb2
        replace rw1 := keepOnP rw1 hb2
        replace rw2 := keepOnP rw2 hb2
        replace rw3 := keepOnP rw3 hb2
        replace rw4 := keepOnP rw4 hb2
        replace hw := belStep hw hb2
        clear hb2 hbel
        generalize u1.alloc (.cells #[.int .i64 S.t, .int .i64 S.a, .int .i64 S.b, .int .i64 S.c, .slice b1 S.use.length n1] 32) = W2 at *
        replace s10 := keep s10
        replace s11 := keep s11
        replace s12 := keep s12
        replace s13 := keep s13
        replace s14 := keep s14
        generalize u1.heap.size = M1 at *
        have hbel : Below W2.heap.size W2 W2 := Below.refl _ _
        clear u1
        go_upto_region 10 with (first | (go_at_call 27; (with_reducible refine (CT1.out _ (belStep hw hbel)).mono ?_); rintro e u2 ⟨⟨b2, n2, rfl, ho2⟩, hb2⟩; replace hbel := belStep hbel hb2))
        clear ho2 hb2
        have s20 : (u2.alloc (.cells #[.int .i64 S0.t, .int .i64 S0.a, .int .i64 S0.b, .int .i64 S0.c, .slice b2 S0.use.length n2] 32)).cell? ⟨u2.heap.size, 0, none⟩ = some (.int .i64 S0.t) := by first | (simp; done) | (rw [World.cell?_alloc_at _ _ _ _ (by simp)]; rfl) | (rw [World.cell?_alloc_past _ _ _ (by simp <;> omega), World.cell?_alloc_at _ _ _ _ (by simp)]; rfl) | (rw [World.cell?_alloc_past _ _ _ (by simp <;> omega), World.cell?_alloc_past _ _ _ (by simp <;> omega), World.cell?_alloc_at _ _ _ _ (by simp)]; rfl)
        have s21 : (u2.alloc (.cells #[.int .i64 S0.t, .int .i64 S0.a, .int .i64 S0.b, .int .i64 S0.c, .slice b2 S0.use.length n2] 32)).cell? ⟨u2.heap.size, 1, none⟩ = some (.int .i64 S0.a) := by first | (simp; done) | (rw [World.cell?_alloc_at _ _ _ _ (by simp)]; rfl) | (rw [World.cell?_alloc_past _ _ _ (by simp <;> omega), World.cell?_alloc_at _ _ _ _ (by simp)]; rfl) | (rw [World.cell?_alloc_past _ _ _ (by simp <;> omega), World.cell?_alloc_past _ _ _ (by simp <;> omega), World.cell?_alloc_at _ _ _ _ (by simp)]; rfl)
        have s22 : (u2.alloc (.cells #[.int .i64 S0.t, .int .i64 S0.a, .int .i64 S0.b, .int .i64 S0.c, .slice b2 S0.use.length n2] 32)).cell? ⟨u2.heap.size, 2, none⟩ = some (.int .i64 S0.b) := by first | (simp; done) | (rw [World.cell?_alloc_at _ _ _ _ (by simp)]; rfl) | (rw [World.cell?_alloc_past _ _ _ (by simp <;> omega), World.cell?_alloc_at _ _ _ _ (by simp)]; rfl) | (rw [World.cell?_alloc_past _ _ _ (by simp <;> omega), World.cell?_alloc_past _ _ _ (by simp <;> omega), World.cell?_alloc_at _ _ _ _ (by simp)]; rfl)
        have s23 : (u2.alloc (.cells #[.int .i64 S0.t, .int .i64 S0.a, .int .i64 S0.b, .int .i64 S0.c, .slice b2 S0.use.length n2] 32)).cell? ⟨u2.heap.size, 3, none⟩ = some (.int .i64 S0.c) := by first | (simp; done) | (rw [World.cell?_alloc_at _ _ _ _ (by simp)]; rfl) | (rw [World.cell?_alloc_past _ _ _ (by simp <;> omega), World.cell?_alloc_at _ _ _ _ (by simp)]; rfl) | (rw [World.cell?_alloc_past _ _ _ (by simp <;> omega), World.cell?_alloc_past _ _ _ (by simp <;> omega), World.cell?_alloc_at _ _ _ _ (by simp)]; rfl)
        have s24 : (u2.alloc (.cells #[.int .i64 S0.t, .int .i64 S0.a, .int .i64 S0.b, .int .i64 S0.c, .slice b2 S0.use.length n2] 32)).cell? ⟨u2.heap.size, 4, none⟩ = some (.slice b2 S0.use.length n2) := by first | (simp; done) | (rw [World.cell?_alloc_at _ _ _ _ (by simp)]; rfl) | (rw [World.cell?_alloc_past _ _ _ (by simp <;> omega), World.cell?_alloc_at _ _ _ _ (by simp)]; rfl) | (rw [World.cell?_alloc_past _ _ _ (by simp <;> omega), World.cell?_alloc_past _ _ _ (by simp <;> omega), World.cell?_alloc_at _ _ _ _ (by simp)]; rfl)
        have hb2 := (by repeat (first | exact hbel | refine belAlloc ?_ _ | refine belDrew ?_ | refine belSet ?_ _ _ (by simp)) : Below W2.heap.size W2 (u2.alloc (.cells #[.int .i64 S0.t, .int .i64 S0.a, .int .i64 S0.b, .int .i64 S0.c, .slice b2 S0.use.length n2] 32)))
        replace rw0 := keepOnP rw0 hb2
        replace rw1 := keepOnP rw1 hb2
        replace rw2 := keepOnP rw2 hb2
        replace rw3 := keepOnP rw3 hb2
        replace rw4 := keepOnP rw4 hb2
        replace s10 := keepOnP s10 hb2
        replace s11 := keepOnP s11 hb2
        replace s12 := keepOnP s12 hb2
        replace s13 := keepOnP s13 hb2
        replace s14 := keepOnP s14 hb2
        replace hw := belStep hw hb2
        clear hb2 hbel
        generalize u2.alloc (.cells #[.int .i64 S0.t, .int .i64 S0.a, .int .i64 S0.b, .int .i64 S0.c, .slice b2 S0.use.length n2] 32) = W3 at *
        replace s20 := keep s20
        replace s21 := keep s21
        replace s22 := keep s22
        replace s23 := keep s23
        replace s24 := keep s24
        generalize u2.heap.size = M2 at *
        have hbel : Below W3.heap.size W3 W3 := Below.refl _ _
        clear u2
        go_upto_region 11 with (first | (go_at_call 27; (with_reducible refine (CT2.out _ (belStep hw hbel)).mono ?_); rintro e u3 ⟨⟨b3, n3, rfl, ho3⟩, hb3⟩; replace hbel := belStep hbel hb3))
        clear ho3 hb3
        have s30 : (u3.alloc (.cells #[.int .i64 S.t, .int .i64 S.a, .int .i64 S.b, .int .i64 S.c, .slice b3 S.use.length n3] 32)).cell? ⟨u3.heap.size, 0, none⟩ = some (.int .i64 S.t) := by first | (simp; done) | (rw [World.cell?_alloc_at _ _ _ _ (by simp)]; rfl) | (rw [World.cell?_alloc_past _ _ _ (by simp <;> omega), World.cell?_alloc_at _ _ _ _ (by simp)]; rfl) | (rw [World.cell?_alloc_past _ _ _ (by simp <;> omega), World.cell?_alloc_past _ _ _ (by simp <;> omega), World.cell?_alloc_at _ _ _ _ (by simp)]; rfl)
        have s31 : (u3.alloc (.cells #[.int .i64 S.t, .int .i64 S.a, .int .i64 S.b, .int .i64 S.c, .slice b3 S.use.length n3] 32)).cell? ⟨u3.heap.size, 1, none⟩ = some (.int .i64 S.a) := by first | (simp; done) | (rw [World.cell?_alloc_at _ _ _ _ (by simp)]; rfl) | (rw [World.cell?_alloc_past _ _ _ (by simp <;> omega), World.cell?_alloc_at _ _ _ _ (by simp)]; rfl) | (rw [World.cell?_alloc_past _ _ _ (by simp <;> omega), World.cell?_alloc_past _ _ _ (by simp <;> omega), World.cell?_alloc_at _ _ _ _ (by simp)]; rfl)
        have s32 : (u3.alloc (.cells #[.int .i64 S.t, .int .i64 S.a, .int .i64 S.b, .int .i64 S.c, .slice b3 S.use.length n3] 32)).cell? ⟨u3.heap.size, 2, none⟩ = some (.int .i64 S.b) := by first | (simp; done) | (rw [World.cell?_alloc_at _ _ _ _ (by simp)]; rfl) | (rw [World.cell?_alloc_past _ _ _ (by simp <;> omega), World.cell?_alloc_at _ _ _ _ (by simp)]; rfl) | (rw [World.cell?_alloc_past _ _ _ (by simp <;> omega), World.cell?_alloc_past _ _ _ (by simp <;> omega), World.cell?_alloc_at _ _ _ _ (by simp)]; rfl)
        have s33 : (u3.alloc (.cells #[.int .i64 S.t, .int .i64 S.a, .int .i64 S.b, .int .i64 S.c, .slice b3 S.use.length n3] 32)).cell? ⟨u3.heap.size, 3, none⟩ = some (.int .i64 S.c) := by first | (simp; done) | (rw [World.cell?_alloc_at _ _ _ _ (by simp)]; rfl) | (rw [World.cell?_alloc_past _ _ _ (by simp <;> omega), World.cell?_alloc_at _ _ _ _ (by simp)]; rfl) | (rw [World.cell?_alloc_past _ _ _ (by simp <;> omega), World.cell?_alloc_past _ _ _ (by simp <;> omega), World.cell?_alloc_at _ _ _ _ (by simp)]; rfl)
        have s34 : (u3.alloc (.cells #[.int .i64 S.t, .int .i64 S.a, .int .i64 S.b, .int .i64 S.c, .slice b3 S.use.length n3] 32)).cell? ⟨u3.heap.size, 4, none⟩ = some (.slice b3 S.use.length n3) := by first | (simp; done) | (rw [World.cell?_alloc_at _ _ _ _ (by simp)]; rfl) | (rw [World.cell?_alloc_past _ _ _ (by simp <;> omega), World.cell?_alloc_at _ _ _ _ (by simp)]; rfl) | (rw [World.cell?_alloc_past _ _ _ (by simp <;> omega), World.cell?_alloc_past _ _ _ (by simp <;> omega), World.cell?_alloc_at _ _ _ _ (by simp)]; rfl)
        have hb2 := (by repeat (first | exact hbel | refine belAlloc ?_ _ | refine belDrew ?_ | refine belSet ?_ _ _ (by simp)) : Below W3.heap.size W3 (u3.alloc (.cells #[.int .i64 S.t, .int .i64 S.a, .int .i64 S.b, .int .i64 S.c, .slice b3 S.use.length n3] 32)))
        replace rw0 := keepOnP rw0 hb2
        replace rw1 := keepOnP rw1 hb2
        replace rw2 := keepOnP rw2 hb2
        replace rw3 := keepOnP rw3 hb2
        replace rw4 := keepOnP rw4 hb2
        replace s10 := keepOnP s10 hb2
        replace s11 := keepOnP s11 hb2
        replace s12 := keepOnP s12 hb2
        replace s13 := keepOnP s13 hb2
        replace s14 := keepOnP s14 hb2
        replace s20 := keepOnP s20 hb2
        replace s21 := keepOnP s21 hb2
        replace s22 := keepOnP s22 hb2
        replace s23 := keepOnP s23 hb2
        replace s24 := keepOnP s24 hb2
        replace hw := belStep hw hb2
        clear hb2 hbel
        generalize u3.alloc (.cells #[.int .i64 S.t, .int .i64 S.a, .int .i64 S.b, .int .i64 S.c, .slice b3 S.use.length n3] 32) = W4 at *
        replace s30 := keep s30
        replace s31 := keep s31
        replace s32 := keep s32
        replace s33 := keep s33
        replace s34 := keep s34
        generalize u3.heap.size = M3 at *
        have hbel : Below W4.heap.size W4 W4 := Below.refl _ _
        clear u3
        go_upto_region 13 with fail
        have nx0 : (W4.alloc (.cells #[.int .i64 (round + later + 1), .float .f64 r.x, .float .f64 r.y, .float .f64 r.z, .slice a L.length cap] 26)).cell? ⟨W4.heap.size, 0, none⟩ = some (.int .i64 (round + later + 1)) := by first | (simp; done) | (rw [World.cell?_alloc_at _ _ _ _ (by simp)]; rfl) | (rw [World.cell?_alloc_past _ _ _ (by simp <;> omega), World.cell?_alloc_at _ _ _ _ (by simp)]; rfl) | (rw [World.cell?_alloc_past _ _ _ (by simp <;> omega), World.cell?_alloc_past _ _ _ (by simp <;> omega), World.cell?_alloc_at _ _ _ _ (by simp)]; rfl)
        have nx1 : (W4.alloc (.cells #[.int .i64 (round + later + 1), .float .f64 r.x, .float .f64 r.y, .float .f64 r.z, .slice a L.length cap] 26)).cell? ⟨W4.heap.size, 1, none⟩ = some (.float .f64 r.x) := by first | (simp; done) | (rw [World.cell?_alloc_at _ _ _ _ (by simp)]; rfl) | (rw [World.cell?_alloc_past _ _ _ (by simp <;> omega), World.cell?_alloc_at _ _ _ _ (by simp)]; rfl) | (rw [World.cell?_alloc_past _ _ _ (by simp <;> omega), World.cell?_alloc_past _ _ _ (by simp <;> omega), World.cell?_alloc_at _ _ _ _ (by simp)]; rfl)
        have nx2 : (W4.alloc (.cells #[.int .i64 (round + later + 1), .float .f64 r.x, .float .f64 r.y, .float .f64 r.z, .slice a L.length cap] 26)).cell? ⟨W4.heap.size, 2, none⟩ = some (.float .f64 r.y) := by first | (simp; done) | (rw [World.cell?_alloc_at _ _ _ _ (by simp)]; rfl) | (rw [World.cell?_alloc_past _ _ _ (by simp <;> omega), World.cell?_alloc_at _ _ _ _ (by simp)]; rfl) | (rw [World.cell?_alloc_past _ _ _ (by simp <;> omega), World.cell?_alloc_past _ _ _ (by simp <;> omega), World.cell?_alloc_at _ _ _ _ (by simp)]; rfl)
        have nx3 : (W4.alloc (.cells #[.int .i64 (round + later + 1), .float .f64 r.x, .float .f64 r.y, .float .f64 r.z, .slice a L.length cap] 26)).cell? ⟨W4.heap.size, 3, none⟩ = some (.float .f64 r.z) := by first | (simp; done) | (rw [World.cell?_alloc_at _ _ _ _ (by simp)]; rfl) | (rw [World.cell?_alloc_past _ _ _ (by simp <;> omega), World.cell?_alloc_at _ _ _ _ (by simp)]; rfl) | (rw [World.cell?_alloc_past _ _ _ (by simp <;> omega), World.cell?_alloc_past _ _ _ (by simp <;> omega), World.cell?_alloc_at _ _ _ _ (by simp)]; rfl)
        have nx4 : (W4.alloc (.cells #[.int .i64 (round + later + 1), .float .f64 r.x, .float .f64 r.y, .float .f64 r.z, .slice a L.length cap] 26)).cell? ⟨W4.heap.size, 4, none⟩ = some (.slice a L.length cap) := by first | (simp; done) | (rw [World.cell?_alloc_at _ _ _ _ (by simp)]; rfl) | (rw [World.cell?_alloc_past _ _ _ (by simp <;> omega), World.cell?_alloc_at _ _ _ _ (by simp)]; rfl) | (rw [World.cell?_alloc_past _ _ _ (by simp <;> omega), World.cell?_alloc_past _ _ _ (by simp <;> omega), World.cell?_alloc_at _ _ _ _ (by simp)]; rfl)
        have hb2 := (by repeat (first | exact hbel | refine belAlloc ?_ _ | refine belDrew ?_ | refine belSet ?_ _ _ (by simp)) : Below W4.heap.size W4 (W4.alloc (.cells #[.int .i64 (round + later + 1), .float .f64 r.x, .float .f64 r.y, .float .f64 r.z, .slice a L.length cap] 26)))
        replace rw0 := keepOnP rw0 hb2
        replace rw1 := keepOnP rw1 hb2
        replace rw2 := keepOnP rw2 hb2
        replace rw3 := keepOnP rw3 hb2
        replace rw4 := keepOnP rw4 hb2
        replace s10 := keepOnP s10 hb2
        replace s11 := keepOnP s11 hb2
        replace s12 := keepOnP s12 hb2
        replace s13 := keepOnP s13 hb2
        replace s14 := keepOnP s14 hb2
        replace s20 := keepOnP s20 hb2
        replace s21 := keepOnP s21 hb2
        replace s22 := keepOnP s22 hb2
        replace s23 := keepOnP s23 hb2
        replace s24 := keepOnP s24 hb2
        replace s30 := keepOnP s30 hb2
        replace s31 := keepOnP s31 hb2
        replace s32 := keepOnP s32 hb2
        replace s33 := keepOnP s33 hb2
        replace s34 := keepOnP s34 hb2
        replace hw := belStep hw hb2
        clear hb2 hbel
        generalize W4.alloc (.cells #[.int .i64 (round + later + 1), .float .f64 r.x, .float .f64 r.y, .float .f64 r.z, .slice a L.length cap] 26) = W5 at *
        replace nx0 := keep nx0
        replace nx1 := keep nx1
        replace nx2 := keep nx2
        replace nx3 := keep nx3
        replace nx4 := keep nx4
        have hbel : Below W5.heap.size W5 W5 := Below.refl _ _
        skip
        go_upto_region 14 with (first | (go_at_call 27; (with_reducible refine (CT3.out _ (belStep hw hbel)).mono ?_); rintro e u5 ⟨⟨b5, n5, rfl, ho5⟩, hb5⟩; replace hbel := belStep hbel hb5))
        clear ho5 hb5
        have s50 : (u5.alloc (.cells #[.int .i64 S3.t, .int .i64 S3.a, .int .i64 S3.b, .int .i64 S3.c, .slice b5 S3.use.length n5] 32)).cell? ⟨u5.heap.size, 0, none⟩ = some (.int .i64 S3.t) := by first | (simp; done) | (rw [World.cell?_alloc_at _ _ _ _ (by simp)]; rfl) | (rw [World.cell?_alloc_past _ _ _ (by simp <;> omega), World.cell?_alloc_at _ _ _ _ (by simp)]; rfl) | (rw [World.cell?_alloc_past _ _ _ (by simp <;> omega), World.cell?_alloc_past _ _ _ (by simp <;> omega), World.cell?_alloc_at _ _ _ _ (by simp)]; rfl)
        have s51 : (u5.alloc (.cells #[.int .i64 S3.t, .int .i64 S3.a, .int .i64 S3.b, .int .i64 S3.c, .slice b5 S3.use.length n5] 32)).cell? ⟨u5.heap.size, 1, none⟩ = some (.int .i64 S3.a) := by first | (simp; done) | (rw [World.cell?_alloc_at _ _ _ _ (by simp)]; rfl) | (rw [World.cell?_alloc_past _ _ _ (by simp <;> omega), World.cell?_alloc_at _ _ _ _ (by simp)]; rfl) | (rw [World.cell?_alloc_past _ _ _ (by simp <;> omega), World.cell?_alloc_past _ _ _ (by simp <;> omega), World.cell?_alloc_at _ _ _ _ (by simp)]; rfl)
        have s52 : (u5.alloc (.cells #[.int .i64 S3.t, .int .i64 S3.a, .int .i64 S3.b, .int .i64 S3.c, .slice b5 S3.use.length n5] 32)).cell? ⟨u5.heap.size, 2, none⟩ = some (.int .i64 S3.b) := by first | (simp; done) | (rw [World.cell?_alloc_at _ _ _ _ (by simp)]; rfl) | (rw [World.cell?_alloc_past _ _ _ (by simp <;> omega), World.cell?_alloc_at _ _ _ _ (by simp)]; rfl) | (rw [World.cell?_alloc_past _ _ _ (by simp <;> omega), World.cell?_alloc_past _ _ _ (by simp <;> omega), World.cell?_alloc_at _ _ _ _ (by simp)]; rfl)
        have s53 : (u5.alloc (.cells #[.int .i64 S3.t, .int .i64 S3.a, .int .i64 S3.b, .int .i64 S3.c, .slice b5 S3.use.length n5] 32)).cell? ⟨u5.heap.size, 3, none⟩ = some (.int .i64 S3.c) := by first | (simp; done) | (rw [World.cell?_alloc_at _ _ _ _ (by simp)]; rfl) | (rw [World.cell?_alloc_past _ _ _ (by simp <;> omega), World.cell?_alloc_at _ _ _ _ (by simp)]; rfl) | (rw [World.cell?_alloc_past _ _ _ (by simp <;> omega), World.cell?_alloc_past _ _ _ (by simp <;> omega), World.cell?_alloc_at _ _ _ _ (by simp)]; rfl)
        have s54 : (u5.alloc (.cells #[.int .i64 S3.t, .int .i64 S3.a, .int .i64 S3.b, .int .i64 S3.c, .slice b5 S3.use.length n5] 32)).cell? ⟨u5.heap.size, 4, none⟩ = some (.slice b5 S3.use.length n5) := by first | (simp; done) | (rw [World.cell?_alloc_at _ _ _ _ (by simp)]; rfl) | (rw [World.cell?_alloc_past _ _ _ (by simp <;> omega), World.cell?_alloc_at _ _ _ _ (by simp)]; rfl) | (rw [World.cell?_alloc_past _ _ _ (by simp <;> omega), World.cell?_alloc_past _ _ _ (by simp <;> omega), World.cell?_alloc_at _ _ _ _ (by simp)]; rfl)
        have hb2 := (by repeat (first | exact hbel | refine belAlloc ?_ _ | refine belDrew ?_ | refine belSet ?_ _ _ (by simp)) : Below W5.heap.size W5 (u5.alloc (.cells #[.int .i64 S3.t, .int .i64 S3.a, .int .i64 S3.b, .int .i64 S3.c, .slice b5 S3.use.length n5] 32)))
        replace rw0 := keepOnP rw0 hb2
        replace rw1 := keepOnP rw1 hb2
        replace rw2 := keepOnP rw2 hb2
        replace rw3 := keepOnP rw3 hb2
        replace rw4 := keepOnP rw4 hb2
        replace s10 := keepOnP s10 hb2
        replace s11 := keepOnP s11 hb2
        replace s12 := keepOnP s12 hb2
        replace s13 := keepOnP s13 hb2
        replace s14 := keepOnP s14 hb2
        replace s20 := keepOnP s20 hb2
        replace s21 := keepOnP s21 hb2
        replace s22 := keepOnP s22 hb2
        replace s23 := keepOnP s23 hb2
        replace s24 := keepOnP s24 hb2
        replace s30 := keepOnP s30 hb2
        replace s31 := keepOnP s31 hb2
        replace s32 := keepOnP s32 hb2
        replace s33 := keepOnP s33 hb2
        replace s34 := keepOnP s34 hb2
        replace nx0 := keepOnP nx0 hb2
        replace nx1 := keepOnP nx1 hb2
        replace nx2 := keepOnP nx2 hb2
        replace nx3 := keepOnP nx3 hb2
        replace nx4 := keepOnP nx4 hb2
        replace hw := belStep hw hb2
        clear hb2 hbel
        generalize u5.alloc (.cells #[.int .i64 S3.t, .int .i64 S3.a, .int .i64 S3.b, .int .i64 S3.c, .slice b5 S3.use.length n5] 32) = W6 at *
        replace s50 := keep s50
        replace s51 := keep s51
        replace s52 := keep s52
        replace s53 := keep s53
        replace s54 := keep s54
        generalize u5.heap.size = M5 at *
        have hbel : Below W6.heap.size W6 W6 := Below.refl _ _
        clear u5
        go_upto_region 15 with (first | (go_at_call 27; (with_reducible refine (CT4.out _ (belStep hw hbel)).mono ?_); rintro e u6 ⟨⟨b6, n6, rfl, ho6⟩, hb6⟩; replace hbel := belStep hbel hb6))
        clear ho6 hb6
        have s60 : (u6.alloc (.cells #[.int .i64 S0.t, .int .i64 S0.a, .int .i64 S0.b, .int .i64 S0.c, .slice b6 S0.use.length n6] 32)).cell? ⟨u6.heap.size, 0, none⟩ = some (.int .i64 S0.t) := by first | (simp; done) | (rw [World.cell?_alloc_at _ _ _ _ (by simp)]; rfl) | (rw [World.cell?_alloc_past _ _ _ (by simp <;> omega), World.cell?_alloc_at _ _ _ _ (by simp)]; rfl) | (rw [World.cell?_alloc_past _ _ _ (by simp <;> omega), World.cell?_alloc_past _ _ _ (by simp <;> omega), World.cell?_alloc_at _ _ _ _ (by simp)]; rfl)
        have s61 : (u6.alloc (.cells #[.int .i64 S0.t, .int .i64 S0.a, .int .i64 S0.b, .int .i64 S0.c, .slice b6 S0.use.length n6] 32)).cell? ⟨u6.heap.size, 1, none⟩ = some (.int .i64 S0.a) := by first | (simp; done) | (rw [World.cell?_alloc_at _ _ _ _ (by simp)]; rfl) | (rw [World.cell?_alloc_past _ _ _ (by simp <;> omega), World.cell?_alloc_at _ _ _ _ (by simp)]; rfl) | (rw [World.cell?_alloc_past _ _ _ (by simp <;> omega), World.cell?_alloc_past _ _ _ (by simp <;> omega), World.cell?_alloc_at _ _ _ _ (by simp)]; rfl)
        have s62 : (u6.alloc (.cells #[.int .i64 S0.t, .int .i64 S0.a, .int .i64 S0.b, .int .i64 S0.c, .slice b6 S0.use.length n6] 32)).cell? ⟨u6.heap.size, 2, none⟩ = some (.int .i64 S0.b) := by first | (simp; done) | (rw [World.cell?_alloc_at _ _ _ _ (by simp)]; rfl) | (rw [World.cell?_alloc_past _ _ _ (by simp <;> omega), World.cell?_alloc_at _ _ _ _ (by simp)]; rfl) | (rw [World.cell?_alloc_past _ _ _ (by simp <;> omega), World.cell?_alloc_past _ _ _ (by simp <;> omega), World.cell?_alloc_at _ _ _ _ (by simp)]; rfl)
        have s63 : (u6.alloc (.cells #[.int .i64 S0.t, .int .i64 S0.a, .int .i64 S0.b, .int .i64 S0.c, .slice b6 S0.use.length n6] 32)).cell? ⟨u6.heap.size, 3, none⟩ = some (.int .i64 S0.c) := by first | (simp; done) | (rw [World.cell?_alloc_at _ _ _ _ (by simp)]; rfl) | (rw [World.cell?_alloc_past _ _ _ (by simp <;> omega), World.cell?_alloc_at _ _ _ _ (by simp)]; rfl) | (rw [World.cell?_alloc_past _ _ _ (by simp <;> omega), World.cell?_alloc_past _ _ _ (by simp <;> omega), World.cell?_alloc_at _ _ _ _ (by simp)]; rfl)
        have s64 : (u6.alloc (.cells #[.int .i64 S0.t, .int .i64 S0.a, .int .i64 S0.b, .int .i64 S0.c, .slice b6 S0.use.length n6] 32)).cell? ⟨u6.heap.size, 4, none⟩ = some (.slice b6 S0.use.length n6) := by first | (simp; done) | (rw [World.cell?_alloc_at _ _ _ _ (by simp)]; rfl) | (rw [World.cell?_alloc_past _ _ _ (by simp <;> omega), World.cell?_alloc_at _ _ _ _ (by simp)]; rfl) | (rw [World.cell?_alloc_past _ _ _ (by simp <;> omega), World.cell?_alloc_past _ _ _ (by simp <;> omega), World.cell?_alloc_at _ _ _ _ (by simp)]; rfl)
        have hb2 := (by repeat (first | exact hbel | refine belAlloc ?_ _ | refine belDrew ?_ | refine belSet ?_ _ _ (by simp)) : Below W6.heap.size W6 (u6.alloc (.cells #[.int .i64 S0.t, .int .i64 S0.a, .int .i64 S0.b, .int .i64 S0.c, .slice b6 S0.use.length n6] 32)))
        replace rw0 := keepOnP rw0 hb2
        replace rw1 := keepOnP rw1 hb2
        replace rw2 := keepOnP rw2 hb2
        replace rw3 := keepOnP rw3 hb2
        replace rw4 := keepOnP rw4 hb2
        replace s10 := keepOnP s10 hb2
        replace s11 := keepOnP s11 hb2
        replace s12 := keepOnP s12 hb2
        replace s13 := keepOnP s13 hb2
        replace s14 := keepOnP s14 hb2
        replace s20 := keepOnP s20 hb2
        replace s21 := keepOnP s21 hb2
        replace s22 := keepOnP s22 hb2
        replace s23 := keepOnP s23 hb2
        replace s24 := keepOnP s24 hb2
        replace s30 := keepOnP s30 hb2
        replace s31 := keepOnP s31 hb2
        replace s32 := keepOnP s32 hb2
        replace s33 := keepOnP s33 hb2
        replace s34 := keepOnP s34 hb2
        replace nx0 := keepOnP nx0 hb2
        replace nx1 := keepOnP nx1 hb2
        replace nx2 := keepOnP nx2 hb2
        replace nx3 := keepOnP nx3 hb2
        replace nx4 := keepOnP nx4 hb2
        replace s50 := keepOnP s50 hb2
        replace s51 := keepOnP s51 hb2
        replace s52 := keepOnP s52 hb2
        replace s53 := keepOnP s53 hb2
        replace s54 := keepOnP s54 hb2
        replace hw := belStep hw hb2
        clear hb2 hbel
        generalize u6.alloc (.cells #[.int .i64 S0.t, .int .i64 S0.a, .int .i64 S0.b, .int .i64 S0.c, .slice b6 S0.use.length n6] 32) = W7 at *
        replace s60 := keep s60
        replace s61 := keep s61
        replace s62 := keep s62
        replace s63 := keep s63
        replace s64 := keep s64
        generalize u6.heap.size = M6 at *
        have hbel : Below W7.heap.size W7 W7 := Below.refl _ _
        clear u6
        have hst : (S.t == r.t) = true := by rw [HST.out]; exact beq_self_eq_true _
        go_wp2
        go_ret
        exact ⟨rfl, (by repeat (first | exact belStep hw hbel | refine belAlloc ?_ _))⟩

set_option maxRecDepth 100000 in
theorem lifted (os : Os) (started : os.Started) (H : Type) (enc : TypeId × Value → H) :
    ReturnsInHanded {} Try.checked os 7 .any (Rows.sampleOnceSpec.pre6 enc Try.prog Try.f7 Rows.sampleOnceRow.domain false) (Rows.sampleOnceSpec.post enc Try.prog Try.f7 false true false false) := by
  refine returnsInHanded_of_change (C := Try.checked) own started (by kernel_rfl) Try.func7
    (ChangeSpec.witness6 (enc := enc) (C := Try.checked) false ⟨#[], #[.agg #[.int .i64 0, .float .f64 0, .float .f64 0, .float .f64 0, .slice none 0 0], .int .i64 0, .int .i64 0, .int .i64 0, .int .u16 0], []⟩ 8 (by kernel_rfl) (by kernel_rfl) (by kernel_rfl) (by kernel_rfl)) ?_
  intro W base args ds gs before hval0 hW hcnd _
  have hval : ∀ (j : Nat) t v, Try.f7.params[j]? = some t → args[j]? = some v → Value.okWide Try.prog W .any base t v := hval0
  have hW' := hW
  obtain ⟨p, q, hA0, hV, rfl, hfz, hnd⟩ := hW
  have hA : DataW.TrodAll enc Try.prog W 0 (fun _ => true) true Try.f7.params.toList args.toList ds p := hA0
  rw [Try.params7] at hA hval
  obtain ⟨v0, vs0, d0, ds0, p0, q0, hargs, rfl, rfl, h0, r0⟩ := trodAll_cons hA
  obtain ⟨v1, vs1, d1, ds1, p1, q1, rfl, rfl, rfl, h1, r1⟩ := trodAll_cons r0
  obtain ⟨v2, vs2, d2, ds2, p2, q2, rfl, rfl, rfl, h2, r2⟩ := trodAll_cons r1
  obtain ⟨v3, vs3, d3, ds3, p3, q3, rfl, rfl, rfl, h3, r3⟩ := trodAll_cons r2
  obtain ⟨v4, vs4, d4, ds4, p4, q4, rfl, rfl, rfl, h4, r4⟩ := trodAll_cons r3
  obtain ⟨rfl, rfl, rfl⟩ := trodAll_nil r4
  obtain rfl : args = #[v0, v1, v2, v3, v4] := by cases args; simp_all
  obtain ⟨rfl, rfl⟩ := trodVars_none hV
  have k0 := h0
  have lt0 : ∀ x ∈ p0, x.block < W.heap.size := by obtain ⟨m, hm⟩ := k0; exact DataW.trod_lt m _ _ _ hm
  have o0 : Value.okWide Try.prog W .any base 26 v0 := hval 0 26 v0 rfl rfl
  obtain ⟨x0, a0, len0, cap0, L0, rfl, fa0, fb0, fc0, fd0⟩ := open_raw o0 h0
  have k1 := h1
  have lt1 : ∀ x ∈ p1, x.block < W.heap.size := by obtain ⟨m, hm⟩ := k1; exact DataW.trod_lt m _ _ _ hm
  have o1 : Value.okWide Try.prog W .any base 3 v1 := hval 1 3 v1 rfl rfl
  obtain ⟨a1, rfl, rfl, rfl, w1⟩ := open_int Try.underlying3 o1 h1
  have k2 := h2
  have lt2 : ∀ x ∈ p2, x.block < W.heap.size := by obtain ⟨m, hm⟩ := k2; exact DataW.trod_lt m _ _ _ hm
  have o2 : Value.okWide Try.prog W .any base 3 v2 := hval 2 3 v2 rfl rfl
  obtain ⟨a2, rfl, rfl, rfl, w2⟩ := open_int Try.underlying3 o2 h2
  have k3 := h3
  have lt3 : ∀ x ∈ p3, x.block < W.heap.size := by obtain ⟨m, hm⟩ := k3; exact DataW.trod_lt m _ _ _ hm
  have o3 : Value.okWide Try.prog W .any base 3 v3 := hval 3 3 v3 rfl rfl
  obtain ⟨a3, rfl, rfl, rfl, w3⟩ := open_int Try.underlying3 o3 h3
  have k4 := h4
  have lt4 : ∀ x ∈ p4, x.block < W.heap.size := by obtain ⟨m, hm⟩ := k4; exact DataW.trod_lt m _ _ _ hm
  have o4 : Value.okWide Try.prog W .any base 54 v4 := hval 4 54 v4 rfl rfl
  obtain ⟨a4, rfl, rfl, rfl, w4⟩ := open_int Try.underlying54 o4 h4
  clear hA0 hval0
  refine (walk x0 a0 len0 cap0 L0 a1 a2 a3 a4 W fa0 fb0 fc0 fd0 (inI_of_wf w1) (inI_of_wf w2) (inI_of_wf w3) (in16_of_wf w4)).mono fun e W' ⟨he, bel⟩ => ?_
  subst he
  exact ⟨_, rfl, _, _, _, [], _, [], hW', trodAll_mk1 (shut_bool Try.underlying4 _), (trodAll_cons_mk (Below.trod laidOut (by kernel_rfl) (of_decide_eq_true (by kernel_rfl)) k0 bel lt0) (trodAll_cons_mk (Below.trod laidOut (by kernel_rfl) (of_decide_eq_true (by kernel_rfl)) k1 bel lt1) (trodAll_cons_mk (Below.trod laidOut (by kernel_rfl) (of_decide_eq_true (by kernel_rfl)) k2 bel lt2) (trodAll_cons_mk (Below.trod laidOut (by kernel_rfl) (of_decide_eq_true (by kernel_rfl)) k3 bel lt3) (trodAll_cons_mk (Below.trod laidOut (by kernel_rfl) (of_decide_eq_true (by kernel_rfl)) k4 bel lt4) trodAll_mk0))))), rfl, bel.frame _, fun h => by cases h⟩

theorem over : Rows.sampleOnceRow.holds Try.pinned (OpenSpec.ofChange Rows.sampleOnceSpec) :=
  OpenClaim.holds_of_wide 7 Try.f7 rfl rfl rfl rfl rfl rfl rfl ⟨rfl, rfl, rfl, rfl, rfl⟩ rfl rfl rfl rfl rfl (by kernel_rfl) Try.func7 (by kernel_rfl)
    (of_decide_eq_true (by kernel_rfl)) (by unfold Func.isWrapper; first | (rw [if_pos (by decide +kernel)]; kernel_rfl) | (rw [if_neg (by decide +kernel)]; exact ⟨rfl, rfl⟩))
    (fun os started H enc _ => lifted os started H enc)

/-- The statement. -/
theorem proved : Rows.SampleOnceSaid := over
#print axioms proved

end Go.Proofs.Ytcgpmihjodolmaa.sampleOnce
