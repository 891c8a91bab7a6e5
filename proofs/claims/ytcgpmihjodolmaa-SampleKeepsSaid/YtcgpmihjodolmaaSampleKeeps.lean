
/- SampleKeeps holds for all its arguments. No conditions. -/
import Derived.Test.YtcgpmihjodolmaaAwake17
import Derived.Test.YtcgpmihjodolmaaKeepC
namespace Go.Proofs.Ytcgpmihjodolmaa.sampleKeeps
open Go.ChangeShapes Go.WideShapes Go.ChangeAt Go.RowKit
open Go.ChangeMaps (open_string shut_string)
set_option linter.unusedVariables false
set_option linter.unusedSimpArgs false
theorem info_usage : (Try.prog.info? 47).map (fun i => (i.zero, i.size, i.bytes)) = some (some (.agg #[.string ⟨#[]⟩, .float .f64 0, .float .f64 0, .float .f64 0]), 4, 40) := by kernel_rfl
theorem rread2 {r : RawV} {a : Option Addr} {len cap : Nat} {L : List UsgV} {w : World} {S : SmpV} (hl : L.length = len) (hr : r.ok) (hok : ∀ x ∈ L, x.ok) (hR : Row w a len cap 4 (L.flatMap UsgV.cells)) (hq : rightR r L = true) (hS : readOK r L = S) :
    Calls Try.prog 24 #[.agg #[.int .i64 r.t, .float .f64 r.x, .float .f64 r.y, .float .f64 r.z, .slice a len cap]] w fun e w' => (∃ b n, e = .returned (.agg #[.int .i64 S.t, .int .i64 S.a, .int .i64 S.b, .int .i64 S.c, .slice b S.use.length n]) ∧ OwnR w' w.heap.size 51 4 (.slice b S.use.length n) S.use.length (S.use.flatMap UseV.cells)) ∧ Below w.heap.size w w' := hS ▸ sref_Read r a len cap L w hl hr hok hR hq
theorem stored4 {w : World} {B g n c m : Nat} {cs : List Value} (h : OwnR w B 47 4 (.slice (some ⟨g, 0, none⟩) n c) n cs) : OwnR ((((w.setCell ⟨g, m, none⟩ (.string ⟨#[122, 122]⟩)).setCell ⟨g, m + 1, none⟩ (.float .f64 0)).setCell ⟨g, m + 2, none⟩ (.float .f64 0)).setCell ⟨g, m + 3, none⟩ (.float .f64 0)) B 47 4 (.slice (some ⟨g, 0, none⟩) n c) n ((((cs.set m (.string ⟨#[122, 122]⟩)).set (m + 1) (.float .f64 0)).set (m + 2) (.float .f64 0)).set (m + 3) (.float .f64 0)) := (World.ownsRow.stored ((World.ownsRow.stored ((World.ownsRow.stored ((World.ownsRow.stored (h) (m) (.string ⟨#[122, 122]⟩)).1) (m + 1) (.float .f64 0)).1) (m + 2) (.float .f64 0)).1) (m + 3) (.float .f64 0)).1
theorem low4 {w : World} {B n E g m k : Nat} {v : Value} {cs : List Value} (h : OwnR w B E k v n cs) (hg : g < B) : OwnR ((((w.setCell ⟨g, m, none⟩ (.string ⟨#[122, 122]⟩)).setCell ⟨g, m + 1, none⟩ (.float .f64 0)).setCell ⟨g, m + 2, none⟩ (.float .f64 0)).setCell ⟨g, m + 3, none⟩ (.float .f64 0)) B E k v n cs := own_low (own_low (own_low (own_low (h) ⟨g, m, none⟩ hg (.string ⟨#[122, 122]⟩)) ⟨g, m + 1, none⟩ hg (.float .f64 0)) ⟨g, m + 2, none⟩ hg (.float .f64 0)) ⟨g, m + 3, none⟩ hg (.float .f64 0)
theorem bel4 {w0 w : World} {g m : Nat} (h : Below w0.heap.size w0 w) (hg : w0.heap.size ≤ g) : Below w0.heap.size w0 ((((w.setCell ⟨g, m, none⟩ (.string ⟨#[122, 122]⟩)).setCell ⟨g, m + 1, none⟩ (.float .f64 0)).setCell ⟨g, m + 2, none⟩ (.float .f64 0)).setCell ⟨g, m + 3, none⟩ (.float .f64 0)) := belSet (belSet (belSet (belSet (h) ⟨g, m, none⟩ (.string ⟨#[122, 122]⟩) hg) ⟨g, m + 1, none⟩ (.float .f64 0) hg) ⟨g, m + 2, none⟩ (.float .f64 0) hg) ⟨g, m + 3, none⟩ (.float .f64 0) hg
theorem blk4 {w : World} {g m M : Nat} {C : List Value} {T : TypeId} (h : Blk w M C T) (hg : g ≠ M) : Blk ((((w.setCell ⟨g, m, none⟩ (.string ⟨#[122, 122]⟩)).setCell ⟨g, m + 1, none⟩ (.float .f64 0)).setCell ⟨g, m + 2, none⟩ (.float .f64 0)).setCell ⟨g, m + 3, none⟩ (.float .f64 0)) M C T := ((((h).far (a := ⟨g, m, none⟩) hg (.string ⟨#[122, 122]⟩)).far (a := ⟨g, m + 1, none⟩) hg (.float .f64 0)).far (a := ⟨g, m + 2, none⟩) hg (.float .f64 0)).far (a := ⟨g, m + 3, none⟩) hg (.float .f64 0)
theorem tail4 {cs ds : List Value} {k m : Nat} (h : TailEq cs ds (k * 4)) (hm : m = k * 4) : TailEq ((((cs.set m (.string ⟨#[122, 122]⟩)).set (m + 1) (.float .f64 0)).set (m + 2) (.float .f64 0)).set (m + 3) (.float .f64 0)) ds ((k + 1) * 4) := by
  subst hm
  exact (((h.set (k * 4) (by omega) (by omega) _).set2 (k * 4 + 1) (by omega) _).set2 (k * 4 + 2) (by omega) _).set2 (k * 4 + 3) (by omega) _
theorem own_ne_blk {w : World} {B g n c M : Nat} {E T : TypeId} {cs C : List Value} (h : OwnR w B E 4 (.slice (some ⟨g, 0, none⟩) n c) n cs) (hb : Blk w M C T) (hne : E ≠ T) : g ≠ M := by
  rintro rfl
  obtain ⟨h1, h2⟩ := h
  rcases h2 with ⟨e1, _⟩ | ⟨g', cap, cur, e1, e2, e3, e4⟩
  · cases e1
  · simp only [Value.slice.injEq, Option.some.injEq, Addr.mk.injEq] at e1
    obtain ⟨⟨rfl, _⟩, _⟩ := e1
    unfold Blk at hb
    rw [e3] at hb
    simp at hb
    exact hne hb.2
set_option maxRecDepth 100000 in
set_option maxHeartbeats 16000000 in
theorem walk (r : RawV) (a : Option Addr) (len cap : Nat) (L : List UsgV) (w : World) (hr : r.ok) (hl : L.length = len) (hok : ∀ x ∈ L, x.ok) (hR : Row w a len cap 4 (L.flatMap UsgV.cells)) :
    Calls Try.prog 9 #[.agg #[.int .i64 r.t, .float .f64 r.x, .float .f64 r.y, .float .f64 r.z, .slice a len cap]] w fun e w' => e = .returned (.bool true) ∧ Below w.heap.size w w' := by
  have hw : Below w.heap.size w w := Below.refl _ _
  have hbel := hw
  have hbd_a : len ≤ cap ∧ cap ≤ 9223372036854775807 := by obtain ⟨_, h1, h2, _⟩ := hR; unfold maxLen at h2; exact ⟨h1, h2⟩
  obtain ⟨hbd1_a, hbd2_a⟩ := hbd_a
  have HR := Lib.hid hR
  have HOK := Lib.hid hok
  have HRO := Lib.hid hr
  clear hR hok hr
  subst hl
  have CFW := Lib.hid (fun u (hu : Below w.heap.size w u) => sref_Few r a L.length cap L u rfl (HR.out.later hu))
  obtain ⟨rr, hrr⟩ : ∃ b, rightR r L = b := ⟨_, rfl⟩
  have HRR := Lib.hid hrr
  have CRR := Lib.hid (fun u (hu : Below w.heap.size w u) => hrr ▸ sref_Right r a L.length cap L u rfl HRO.out HOK.out (HR.out.later hu))
  clear hrr
  rcases rr with _ | _
  · go_enter Try.func9, Try.ntmps9
    go_upto_region 1 with fail
    have rw0 : (w.alloc (.cells #[.int .i64 r.t, .float .f64 r.x, .float .f64 r.y, .float .f64 r.z, .slice a L.length cap] 26)).cell? ⟨w.heap.size, 0, none⟩ = some (.int .i64 r.t) := by first | (simp; done) | (rw [World.cell?_alloc_at _ _ _ _ (by simp)]; rfl) | (rw [World.cell?_alloc_past _ _ _ (by simp <;> omega), World.cell?_alloc_at _ _ _ _ (by simp)]; rfl) | (rw [World.cell?_alloc_past _ _ _ (by simp <;> omega), World.cell?_alloc_past _ _ _ (by simp <;> omega), World.cell?_alloc_at _ _ _ _ (by simp)]; rfl)
    have rw1 : (w.alloc (.cells #[.int .i64 r.t, .float .f64 r.x, .float .f64 r.y, .float .f64 r.z, .slice a L.length cap] 26)).cell? ⟨w.heap.size, 1, none⟩ = some (.float .f64 r.x) := by first | (simp; done) | (rw [World.cell?_alloc_at _ _ _ _ (by simp)]; rfl) | (rw [World.cell?_alloc_past _ _ _ (by simp <;> omega), World.cell?_alloc_at _ _ _ _ (by simp)]; rfl) | (rw [World.cell?_alloc_past _ _ _ (by simp <;> omega), World.cell?_alloc_past _ _ _ (by simp <;> omega), World.cell?_alloc_at _ _ _ _ (by simp)]; rfl)
    have rw2 : (w.alloc (.cells #[.int .i64 r.t, .float .f64 r.x, .float .f64 r.y, .float .f64 r.z, .slice a L.length cap] 26)).cell? ⟨w.heap.size, 2, none⟩ = some (.float .f64 r.y) := by first | (simp; done) | (rw [World.cell?_alloc_at _ _ _ _ (by simp)]; rfl) | (rw [World.cell?_alloc_past _ _ _ (by simp <;> omega), World.cell?_alloc_at _ _ _ _ (by simp)]; rfl) | (rw [World.cell?_alloc_past _ _ _ (by simp <;> omega), World.cell?_alloc_past _ _ _ (by simp <;> omega), World.cell?_alloc_at _ _ _ _ (by simp)]; rfl)
    have rw3 : (w.alloc (.cells #[.int .i64 r.t, .float .f64 r.x, .float .f64 r.y, .float .f64 r.z, .slice a L.length cap] 26)).cell? ⟨w.heap.size, 3, none⟩ = some (.float .f64 r.z) := by first | (simp; done) | (rw [World.cell?_alloc_at _ _ _ _ (by simp)]; rfl) | (rw [World.cell?_alloc_past _ _ _ (by simp <;> omega), World.cell?_alloc_at _ _ _ _ (by simp)]; rfl) | (rw [World.cell?_alloc_past _ _ _ (by simp <;> omega), World.cell?_alloc_past _ _ _ (by simp <;> omega), World.cell?_alloc_at _ _ _ _ (by simp)]; rfl)
    have rw4 : (w.alloc (.cells #[.int .i64 r.t, .float .f64 r.x, .float .f64 r.y, .float .f64 r.z, .slice a L.length cap] 26)).cell? ⟨w.heap.size, 4, none⟩ = some (.slice a L.length cap) := by first | (simp; done) | (rw [World.cell?_alloc_at _ _ _ _ (by simp)]; rfl) | (rw [World.cell?_alloc_past _ _ _ (by simp <;> omega), World.cell?_alloc_at _ _ _ _ (by simp)]; rfl) | (rw [World.cell?_alloc_past _ _ _ (by simp <;> omega), World.cell?_alloc_past _ _ _ (by simp <;> omega), World.cell?_alloc_at _ _ _ _ (by simp)]; rfl)
    have hb2 := (by repeat (first | exact hbel | refine belAlloc ?_ _ | refine belDrew ?_ | refine belSet ?_ _ _ (by simp)) : Below w.heap.size w (w.alloc (.cells #[.int .i64 r.t, .float .f64 r.x, .float .f64 r.y, .float .f64 r.z, .slice a L.length cap] 26)))
    replace hw := belStep hw hb2
    clear hb2 hbel
    generalize w.alloc (.cells #[.int .i64 r.t, .float .f64 r.x, .float .f64 r.y, .float .f64 r.z, .slice a L.length cap] 26) = W1 at *
    replace rw0 := keep rw0
    replace rw1 := keep rw1
    replace rw2 := keep rw2
    replace rw3 := keep rw3
    replace rw4 := keep rw4
    have hbel : Below W1.heap.size W1 W1 := Below.refl _ _
    skip
    go_wp2_with (first | (go_at_call 18; (with_reducible refine (awake17 _).mono ?_); rintro e w1 ⟨rfl, hb1⟩; replace hbel := belStep hbel hb1; clear hb1) | (go_at_call 22; (with_reducible refine (CRR.out _ (belStep hw hbel)).mono ?_); rintro e w1 ⟨rfl, hb1⟩; replace hbel := belStep hbel hb1; clear hb1) | (go_at_call 19; (with_reducible refine (CFW.out _ (belStep hw hbel)).mono ?_); rintro e u2 ⟨⟨fb, rfl, hq⟩, hb2⟩; replace hbel := belStep hbel hb2; clear hb2; have HFW := Lib.hid hq; clear hq; rcases fb with _ | _))
    all_goals
      go_ret
      exact ⟨rfl, belStep hw hbel⟩
  obtain ⟨S, hS⟩ : ∃ S, readOK r L = S := ⟨_, rfl⟩
  have hSF : readSF r L = (S, 0) := by rw [readSF_yes HRR.out, hS]
  have HSF := Lib.hid hSF
  have HS := Lib.hid hS
  clear hS hSF
  go_enter Try.func9, Try.ntmps9
  go_upto_region 1 with fail
  have rw0 : (w.alloc (.cells #[.int .i64 r.t, .float .f64 r.x, .float .f64 r.y, .float .f64 r.z, .slice a L.length cap] 26)).cell? ⟨w.heap.size, 0, none⟩ = some (.int .i64 r.t) := by first | (simp; done) | (rw [World.cell?_alloc_at _ _ _ _ (by simp)]; rfl) | (rw [World.cell?_alloc_past _ _ _ (by simp <;> omega), World.cell?_alloc_at _ _ _ _ (by simp)]; rfl) | (rw [World.cell?_alloc_past _ _ _ (by simp <;> omega), World.cell?_alloc_past _ _ _ (by simp <;> omega), World.cell?_alloc_at _ _ _ _ (by simp)]; rfl)
  have rw1 : (w.alloc (.cells #[.int .i64 r.t, .float .f64 r.x, .float .f64 r.y, .float .f64 r.z, .slice a L.length cap] 26)).cell? ⟨w.heap.size, 1, none⟩ = some (.float .f64 r.x) := by first | (simp; done) | (rw [World.cell?_alloc_at _ _ _ _ (by simp)]; rfl) | (rw [World.cell?_alloc_past _ _ _ (by simp <;> omega), World.cell?_alloc_at _ _ _ _ (by simp)]; rfl) | (rw [World.cell?_alloc_past _ _ _ (by simp <;> omega), World.cell?_alloc_past _ _ _ (by simp <;> omega), World.cell?_alloc_at _ _ _ _ (by simp)]; rfl)
  have rw2 : (w.alloc (.cells #[.int .i64 r.t, .float .f64 r.x, .float .f64 r.y, .float .f64 r.z, .slice a L.length cap] 26)).cell? ⟨w.heap.size, 2, none⟩ = some (.float .f64 r.y) := by first | (simp; done) | (rw [World.cell?_alloc_at _ _ _ _ (by simp)]; rfl) | (rw [World.cell?_alloc_past _ _ _ (by simp <;> omega), World.cell?_alloc_at _ _ _ _ (by simp)]; rfl) | (rw [World.cell?_alloc_past _ _ _ (by simp <;> omega), World.cell?_alloc_past _ _ _ (by simp <;> omega), World.cell?_alloc_at _ _ _ _ (by simp)]; rfl)
  have rw3 : (w.alloc (.cells #[.int .i64 r.t, .float .f64 r.x, .float .f64 r.y, .float .f64 r.z, .slice a L.length cap] 26)).cell? ⟨w.heap.size, 3, none⟩ = some (.float .f64 r.z) := by first | (simp; done) | (rw [World.cell?_alloc_at _ _ _ _ (by simp)]; rfl) | (rw [World.cell?_alloc_past _ _ _ (by simp <;> omega), World.cell?_alloc_at _ _ _ _ (by simp)]; rfl) | (rw [World.cell?_alloc_past _ _ _ (by simp <;> omega), World.cell?_alloc_past _ _ _ (by simp <;> omega), World.cell?_alloc_at _ _ _ _ (by simp)]; rfl)
  have rw4 : (w.alloc (.cells #[.int .i64 r.t, .float .f64 r.x, .float .f64 r.y, .float .f64 r.z, .slice a L.length cap] 26)).cell? ⟨w.heap.size, 4, none⟩ = some (.slice a L.length cap) := by first | (simp; done) | (rw [World.cell?_alloc_at _ _ _ _ (by simp)]; rfl) | (rw [World.cell?_alloc_past _ _ _ (by simp <;> omega), World.cell?_alloc_at _ _ _ _ (by simp)]; rfl) | (rw [World.cell?_alloc_past _ _ _ (by simp <;> omega), World.cell?_alloc_past _ _ _ (by simp <;> omega), World.cell?_alloc_at _ _ _ _ (by simp)]; rfl)
  have hb2 := (by repeat (first | exact hbel | refine belAlloc ?_ _ | refine belDrew ?_ | refine belSet ?_ _ _ (by simp)) : Below w.heap.size w (w.alloc (.cells #[.int .i64 r.t, .float .f64 r.x, .float .f64 r.y, .float .f64 r.z, .slice a L.length cap] 26)))
  replace hw := belStep hw hb2
  clear hb2 hbel
  generalize w.alloc (.cells #[.int .i64 r.t, .float .f64 r.x, .float .f64 r.y, .float .f64 r.z, .slice a L.length cap] 26) = W1 at *
  replace rw0 := keep rw0
  replace rw1 := keep rw1
  replace rw2 := keep rw2
  replace rw3 := keep rw3
  replace rw4 := keep rw4
  have hbel : Below W1.heap.size W1 W1 := Below.refl _ _
  skip
  go_upto_region 3 with (first | (go_at_call 18; (with_reducible refine (awake17 _).mono ?_); rintro e w1 ⟨rfl, hb1⟩; replace hbel := belStep hbel hb1; clear hb1) | (go_at_call 22; (with_reducible refine (CRR.out _ (belStep hw hbel)).mono ?_); rintro e w1 ⟨rfl, hb1⟩; replace hbel := belStep hbel hb1; clear hb1) | (go_at_call 19; (with_reducible refine (CFW.out _ (belStep hw hbel)).mono ?_); rintro e u2 ⟨⟨fb, rfl, hq⟩, hb2⟩; replace hbel := belStep hbel hb2; clear hb2; have HFW := Lib.hid hq; clear hq; rcases fb with _ | _))
  · go_ret
    exact ⟨rfl, belStep hw hbel⟩
  have hL140 : L.length ≤ 140 := HFW.out (by trivial)
  clear CFW HFW CRR
  have HB1 := Lib.hid hbel
  replace rw0 := keepOnP rw0 hbel
  replace rw1 := keepOnP rw1 hbel
  replace rw2 := keepOnP rw2 hbel
  replace rw3 := keepOnP rw3 hbel
  replace rw4 := keepOnP rw4 hbel
  replace hw := belStep hw hbel
  clear hbel
  generalize w1 = W2 at *
  have hbel : Below W2.heap.size W2 W2 := Below.refl _ _
  have HRL := Lib.hid (fun u (hu : Below W2.heap.size W2 u) => HR.out.later (belStep hw hu))
  have HW2 := Lib.hid hw
  have zrw0 := rw0
  have zrw1 := rw1
  have zrw2 := rw2
  have zrw3 := rw3
  have zrw4 := rw4
  refine wp_region_held_drew (S := fun u => Below W2.heap.size W2 u) (by kernel_rfl) (by exact (show Below W2.heap.size W2 _ by repeat (first | assumption | exact Below.refl _ _ | refine belDrew ?_ | refine belAlloc ?_ _ | refine belStep ?_ (by assumption)))) (fun hHeld => ?_)
  refine wpAnyH_take (i := 0) (oi := ?oi_k1) (v := ?v_k1) ?hi_k1 (by kernel_rfl) ?hf_k1 ?hr_k1 ?hQ_k1 (Or.inl ⟨?hw_k1, ?hy_k1⟩) (by assumption) ?rest_k1
  case hi_k1 => ((simp only [List.getElem?_toArray, List.getElem?_cons_succ, List.getElem?_cons_zero]); rfl)
  case hf_k1 => kernel_rfl
  case hr_k1 => kernel_rfl
  case hQ_k1 => exact fun _ _ _ h => h
  case hw_k1 => rfl
  case hy_k1 => ((intro w hSw; (try dsimp only at hSw); go_simp); all_goals (with_reducible rfl))
  try simp only [Act.put, List.setIfInBounds_toArray, List.set_cons_zero, List.set_cons_succ]
  refine wpAnyH_take (i := 1) (oi := ?oi_k2) (v := ?v_k2) ?hi_k2 (by kernel_rfl) ?hf_k2 ?hr_k2 ?hQ_k2 (Or.inl ⟨?hw_k2, ?hy_k2⟩) (by assumption) ?rest_k2
  case hi_k2 => ((simp only [List.getElem?_toArray, List.getElem?_cons_succ, List.getElem?_cons_zero]); rfl)
  case hf_k2 => kernel_rfl
  case hr_k2 => kernel_rfl
  case hQ_k2 => exact fun _ _ _ h => h
  case hw_k2 => rfl
  case hy_k2 => ((intro w hSw; (try dsimp only at hSw); go_simp); all_goals (with_reducible rfl))
  try simp only [Act.put, List.setIfInBounds_toArray, List.set_cons_zero, List.set_cons_succ]
  refine wpAnyH_take (i := 2) (oi := ?oi_k3) (v := ?v_k3) ?hi_k3 (by kernel_rfl) ?hf_k3 ?hr_k3 ?hQ_k3 (Or.inl ⟨?hw_k3, ?hy_k3⟩) (by assumption) ?rest_k3
  case hi_k3 => ((simp only [List.getElem?_toArray, List.getElem?_cons_succ, List.getElem?_cons_zero]); rfl)
  case hf_k3 => kernel_rfl
  case hr_k3 => kernel_rfl
  case hQ_k3 => exact fun _ _ _ h => h
  case hw_k3 => rfl
  case hy_k3 => ((intro w hSw; (try dsimp only at hSw); go_simp); all_goals (with_reducible rfl))
  try simp only [Act.put, List.setIfInBounds_toArray, List.set_cons_zero, List.set_cons_succ]
  refine wpAnyH_take (i := 3) (oi := ?oi_k4) (v := ?v_k4) ?hi_k4 (by kernel_rfl) ?hf_k4 ?hr_k4 ?hQ_k4 (Or.inl ⟨?hw_k4, ?hy_k4⟩) (by assumption) ?rest_k4
  case hi_k4 => ((simp only [List.getElem?_toArray, List.getElem?_cons_succ, List.getElem?_cons_zero]); rfl)
  case hf_k4 => kernel_rfl
  case hr_k4 => kernel_rfl
  case hQ_k4 => exact fun _ _ _ h => h
  case hw_k4 => rfl
  case hy_k4 => ((intro w hSw; (try dsimp only at hSw); go_simp); all_goals (with_reducible rfl))
  try simp only [Act.put, List.setIfInBounds_toArray, List.set_cons_zero, List.set_cons_succ]
  refine wpAnyH_take (i := 5) (oi := ?oi_k5) (v := ?v_k5) ?hi_k5 (by kernel_rfl) ?hf_k5 ?hr_k5 ?hQ_k5 (Or.inl ⟨?hw_k5, ?hy_k5⟩) (by assumption) ?rest_k5
  case hi_k5 => ((simp only [List.getElem?_toArray, List.getElem?_cons_succ, List.getElem?_cons_zero]); rfl)
  case hf_k5 => kernel_rfl
  case hr_k5 => kernel_rfl
  case hQ_k5 => exact fun _ _ _ h => h
  case hw_k5 => rfl
  case hy_k5 => ((intro w hSw; (try dsimp only at hSw); go_simp); all_goals (with_reducible rfl))
  try simp only [Act.put, List.setIfInBounds_toArray, List.set_cons_zero, List.set_cons_succ]
  refine wpAnyH_take (i := 6) (oi := ?oi_k6) (v := ?v_k6) ?hi_k6 (by kernel_rfl) ?hf_k6 ?hr_k6 ?hQ_k6 (Or.inl ⟨?hw_k6, ?hy_k6⟩) (by assumption) ?rest_k6
  case hi_k6 => ((simp only [List.getElem?_toArray, List.getElem?_cons_succ, List.getElem?_cons_zero]); rfl)
  case hf_k6 => kernel_rfl
  case hr_k6 => kernel_rfl
  case hQ_k6 => exact fun _ _ _ h => h
  case hw_k6 => rfl
  case hy_k6 => ((intro w hSw; (try dsimp only at hSw); go_simp); all_goals (with_reducible rfl))
  try simp only [Act.put, List.setIfInBounds_toArray, List.set_cons_zero, List.set_cons_succ]
  refine krip (fun u u' => Below u.heap.size u u') [24, 27, 28, 3] [[], [], [], [], [], [], [], [4], [4, 7], [], [4, 7, 8, 9]] [[], [], [], [], [24], [], [], [27], [28], [3], []] [4, 7, 8, 9] (krF [(4, fun t u => ∃ g : Nat, t 24 = .slice (some ⟨g, 0, none⟩) 0 0 ∧ OwnR u (W2.heap.size) 47 4 (.slice (some ⟨g, 0, none⟩) 0 0) 0 []), (7, fun t u => OwnR u (W2.heap.size) 47 4 (t 27) (L.length) (L.flatMap UsgV.cells)), (8, fun t u => ∃ (a8 : Option Addr) (c8 : Nat), t 28 = .agg #[.int .i64 r.t, .float .f64 r.x, .float .f64 r.y, .float .f64 r.z, .slice a8 L.length c8] ∧ OwnR u (W2.heap.size) 47 4 (.slice a8 L.length c8) (L.length) (L.flatMap UsgV.cells)), (9, fun t u => ∃ g : Nat, t 3 = .pointer (some ⟨g, 0, none⟩) ∧ W2.heap.size ≤ g ∧ Blk u g [.int .i64 0, .float .f64 0, .float .f64 0, .float .f64 0, .slice none 0 0] 26)]) 1 #[true, true, true, true, true, true, true, true, true, true, false] (by kernel_rfl) (by kernel_rfl) (by kernel_rfl) (by assumption) (AllL.cons ?s_4_q7 (AllL.cons ?s_7_q7 (AllL.cons ?s_8_q7 (AllL.cons ?s_9_q7 AllL.nil)))) (AllL.cons ?o_4_q7 (AllL.cons ?o_7_q7 (AllL.cons ?o_8_q7 (AllL.cons ?o_9_q7 AllL.nil)))) ?e_q7
  case s_4_q7 => exact fun t u u' hle ⟨g, e, h⟩ => ⟨g, e, OwnR.later h hle⟩
  case s_7_q7 => exact fun t u u' hle h => OwnR.later h hle
  case s_8_q7 => exact fun t u u' hle ⟨a, c, e, h⟩ => ⟨a, c, e, OwnR.later h hle⟩
  case s_9_q7 => exact fun t u u' hle ⟨g, e, hb, h⟩ => ⟨g, e, hb, Blk.later h hle⟩
  case o_4_q7 =>
    refine KrOp.of (o := ?oo_4_q7) ?hi_4_q7 (fun t u hHeld hF K hK => ?rr_4_q7)
    case hi_4_q7 => ((simp only [List.getElem?_toArray, List.getElem?_cons_succ, List.getElem?_cons_zero]); rfl)
    case rr_4_q7 =>
      clear hF
      simp only [setl, List.foldl_cons, List.foldl_nil, Act.put, List.setIfInBounds_toArray, List.set_cons_zero, List.set_cons_succ] at hK ⊢
      go_simp
      refine hK.out _ _ (by exact (by repeat (first | assumption | exact Below.refl _ _ | refine belDrew ?_ | refine belAlloc ?_ _ | refine belStep ?_ (by assumption)))) (by exact (show Below W2.heap.size W2 _ by repeat (first | assumption | exact Below.refl _ _ | refine belDrew ?_ | refine belAlloc ?_ _ | refine belStep ?_ (by assumption)))) ?_
      exact ⟨_, rfl, OwnR.mono (own_empty _ _ 4) (Below.size hHeld)⟩
  case o_7_q7 =>
    refine KrOp.of (o := ?oo_7_q7) ?hi_7_q7 (fun t u hHeld hF K hK => ?rr_7_q7)
    case hi_7_q7 => ((simp only [List.getElem?_toArray, List.getElem?_cons_succ, List.getElem?_cons_zero]); rfl)
    case rr_7_q7 =>
      have h4 : ∃ g : Nat, t 24 = .slice (some ⟨g, 0, none⟩) 0 0 ∧ OwnR u (W2.heap.size) 47 4 (.slice (some ⟨g, 0, none⟩) 0 0) 0 [] := hF 4 rfl rfl
      clear hF
      simp only [setl, List.foldl_cons, List.foldl_nil, Act.put, List.setIfInBounds_toArray, List.set_cons_zero, List.set_cons_succ] at hK ⊢
      generalize t 24 = x24 at *
      obtain ⟨g4, rfl, ho4⟩ := h4
      refine op_first rfl _ _ 24 rfl (W2.heap.size) 47 _ 4 40 Try.underlying24 info_usage rfl (by decide) g4 (by rfl) ho4 (a) (L.length) (cap) (L.flatMap UsgV.cells) (by rfl) (HRL.out _ hHeld) (usgs_one _) (by have := (show L.length ≤ 140 by omega); unfold maxLen; omega) (by have := (show L.length ≤ 140 by omega); omega) (Below.size hHeld) ?_
      intro v4 w4 ho4 hb4
      refine hK.out _ _ (by exact (by repeat (first | assumption | exact Below.refl _ _ | refine belDrew ?_ | refine belAlloc ?_ _ | refine belStep ?_ (by assumption)))) (by exact (show Below W2.heap.size W2 _ by repeat (first | assumption | exact Below.refl _ _ | refine belDrew ?_ | refine belAlloc ?_ _ | refine belStep ?_ (by assumption)))) ?_
      exact ho4
  case o_8_q7 =>
    refine KrOp.of (o := ?oo_8_q7) ?hi_8_q7 (fun t u hHeld hF K hK => ?rr_8_q7)
    case hi_8_q7 => ((simp only [List.getElem?_toArray, List.getElem?_cons_succ, List.getElem?_cons_zero]); rfl)
    case rr_8_q7 =>
      have h7 : OwnR u (W2.heap.size) 47 4 (t 27) (L.length) (L.flatMap UsgV.cells) := hF 7 rfl rfl
      clear hF
      simp only [setl, List.foldl_cons, List.foldl_nil, Act.put, List.setIfInBounds_toArray, List.set_cons_zero, List.set_cons_succ] at hK ⊢
      generalize t 27 = x27 at *
      obtain ⟨a8, c8, e8, hr8⟩ := rowR_of_own h7
      subst e8
      go_simp
      refine hK.out _ _ (by exact (by repeat (first | assumption | exact Below.refl _ _ | refine belDrew ?_ | refine belAlloc ?_ _ | refine belStep ?_ (by assumption)))) (by exact (show Below W2.heap.size W2 _ by repeat (first | assumption | exact Below.refl _ _ | refine belDrew ?_ | refine belAlloc ?_ _ | refine belStep ?_ (by assumption)))) ?_
      exact ⟨_, _, rfl, h7⟩
  case o_9_q7 =>
    refine KrOp.of (o := ?oo_9_q7) ?hi_9_q7 (fun t u hHeld hF K hK => ?rr_9_q7)
    case hi_9_q7 => ((simp only [List.getElem?_toArray, List.getElem?_cons_succ, List.getElem?_cons_zero]); rfl)
    case rr_9_q7 =>
      clear hF
      simp only [setl, List.foldl_cons, List.foldl_nil, Act.put, List.setIfInBounds_toArray, List.set_cons_zero, List.set_cons_succ] at hK ⊢
      go_simp
      refine hK.out _ _ (by exact (by repeat (first | assumption | exact Below.refl _ _ | refine belDrew ?_ | refine belAlloc ?_ _ | refine belStep ?_ (by assumption)))) (by exact (show Below W2.heap.size W2 _ by repeat (first | assumption | exact Below.refl _ _ | refine belDrew ?_ | refine belAlloc ?_ _ | refine belStep ?_ (by assumption)))) ?_
      exact ⟨_, rfl, Below.size hHeld, Blk.new _ _ _⟩
  case e_q7 =>
    intro t u hHeld hF
    have h4 : ∃ g : Nat, t 24 = .slice (some ⟨g, 0, none⟩) 0 0 ∧ OwnR u (W2.heap.size) 47 4 (.slice (some ⟨g, 0, none⟩) 0 0) 0 [] := hF 4 rfl
    have h7 : OwnR u (W2.heap.size) 47 4 (t 27) (L.length) (L.flatMap UsgV.cells) := hF 7 rfl
    have h8 : ∃ (a8 : Option Addr) (c8 : Nat), t 28 = .agg #[.int .i64 r.t, .float .f64 r.x, .float .f64 r.y, .float .f64 r.z, .slice a8 L.length c8] ∧ OwnR u (W2.heap.size) 47 4 (.slice a8 L.length c8) (L.length) (L.flatMap UsgV.cells) := hF 8 rfl
    have h9 : ∃ g : Nat, t 3 = .pointer (some ⟨g, 0, none⟩) ∧ W2.heap.size ≤ g ∧ Blk u g [.int .i64 0, .float .f64 0, .float .f64 0, .float .f64 0, .slice none 0 0] 26 := hF 9 rfl
    clear hF
    simp only [setl, List.foldl_cons, List.foldl_nil, Act.put, List.setIfInBounds_toArray, List.set_cons_zero, List.set_cons_succ]
    generalize t 24 = x24 at *
    generalize t 27 = x27 at *
    generalize t 28 = x28 at *
    generalize t 3 = x3 at *
    obtain ⟨g9, rfl, hg9, hB9⟩ := h9
    obtain ⟨a8, c8, rfl, ho8⟩ := h8
    obtain ⟨g4, rfl, ho4⟩ := h4
    have hfz := Blk.frozen hB9
    have q0 := Blk.cell hB9 (j := 0) rfl
    have q1 := Blk.cell hB9 (j := 1) rfl
    have q2 := Blk.cell hB9 (j := 2) rfl
    have q3 := Blk.cell hB9 (j := 3) rfl
    have q4 := Blk.cell hB9 (j := 4) rfl
    have hbk : Blk _ g9 [.int .i64 r.t, .float .f64 r.x, .float .f64 r.y, .float .f64 r.z, .slice a8 L.length c8] 26 := (((((hB9).set 0 (.int .i64 r.t)).set 1 (.float .f64 r.x)).set 2 (.float .f64 r.y)).set 3 (.float .f64 r.z)).set 4 (.slice a8 L.length c8)
    have hbl := belSet (belSet (belSet (belSet (belSet (hHeld) ⟨g9, 0, none⟩ (.int .i64 r.t) hg9) ⟨g9, 1, none⟩ (.float .f64 r.x) hg9) ⟨g9, 2, none⟩ (.float .f64 r.y) hg9) ⟨g9, 3, none⟩ (.float .f64 r.z) hg9) ⟨g9, 4, none⟩ (.slice a8 L.length c8) hg9
    have how := own_far (own_far (own_far (own_far (own_far (ho8) (hB9) (by decide) ⟨g9, 0, none⟩ rfl (.int .i64 r.t)) ((hB9).set 0 (.int .i64 r.t)) (by decide) ⟨g9, 1, none⟩ rfl (.float .f64 r.x)) (((hB9).set 0 (.int .i64 r.t)).set 1 (.float .f64 r.x)) (by decide) ⟨g9, 2, none⟩ rfl (.float .f64 r.y)) ((((hB9).set 0 (.int .i64 r.t)).set 1 (.float .f64 r.x)).set 2 (.float .f64 r.y)) (by decide) ⟨g9, 3, none⟩ rfl (.float .f64 r.z)) (((((hB9).set 0 (.int .i64 r.t)).set 1 (.float .f64 r.x)).set 2 (.float .f64 r.y)).set 3 (.float .f64 r.z)) (by decide) ⟨g9, 4, none⟩ rfl (.slice a8 L.length c8)
    refine wpAnyH_ready (rs := [10]) (by kernel_rfl) (by simp) ?_
    refine AllReadyH.cons (o := ?o1_lt) ?hi_lt (fun K hK => ?rest_lt) AllReadyH.nil
    case hi_lt => ((simp only [List.getElem?_toArray, List.getElem?_cons_succ, List.getElem?_cons_zero]); rfl)
    go_simp
    refine hK.out _ _ (by exact hbl) (fun hHeld2 => ?_)
    clear hK K
    try simp only [Act.put, List.setIfInBounds_toArray, List.set_cons_zero, List.set_cons_succ]
    refine wpAnyH_done (by kernel_rfl) ?_ _
    clear hHeld hHeld2 hfz ho4 q0 q1 q2 q3 q4
    replace rw0 := keepOnP rw0 hbl
    replace rw1 := keepOnP rw1 hbl
    replace rw2 := keepOnP rw2 hbl
    replace rw3 := keepOnP rw3 hbl
    replace rw4 := keepOnP rw4 hbl
    replace hw := belStep hw hbl
    have HBT8 := Lib.hid hbl
    clear hbl hB9
    (try clear h7)
    generalize ((((u.setCell ⟨g9, 0, none⟩ (.int .i64 r.t)).setCell ⟨g9, 1, none⟩ (.float .f64 r.x)).setCell ⟨g9, 2, none⟩ (.float .f64 r.y)).setCell ⟨g9, 3, none⟩ (.float .f64 r.z)).setCell ⟨g9, 4, none⟩ (.slice a8 L.length c8) = W3 at *
    have HOT8 := Lib.hid how
    have t0 := keep (hbk.cell (j := 0) rfl)
    have t1 := keep (hbk.cell (j := 1) rfl)
    have t2 := keep (hbk.cell (j := 2) rfl)
    have t3 := keep (hbk.cell (j := 3) rfl)
    have t4 := keep (hbk.cell (j := 4) rfl)
    have tB := Blk.keepB hbk
    have tF := Blk.keepF hbk
    have HG8 := Lib.hid hg9
    clear how hbk hg9
    generalize g9 = Mt8 at *
    generalize a8 = at8 at *
    generalize c8 = ct8 at *
    have hbel : Below W3.heap.size W3 W3 := Below.refl _ _
    have HRU := Lib.hid (row_of_ownL HOT8.out)
    have CRD := Lib.hid (fun u (hu : Below W3.heap.size W3 u) => smp_ReadE r at8 L.length ct8 L u rfl HRO.out HOK.out (HRU.out.later hu) HSF.out)
    have hTB := tB _ hbel
    go_upto_region 5 with (go_at_call 20; (with_reducible refine (CRD.out _ hbel).mono ?_); rintro e u1 ⟨⟨b1, n1, rfl, ho1⟩, hb1⟩; replace hbel := belStep hbel hb1)
    have HSO := Lib.hid (OwnR.alloc ho1 (.cells #[.int .i64 S.t, .int .i64 S.a, .int .i64 S.b, .int .i64 S.c, .slice b1 S.use.length n1] 32))
    have HSB := Lib.hid (Blk.new u1 [.int .i64 S.t, .int .i64 S.a, .int .i64 S.b, .int .i64 S.c, .slice b1 S.use.length n1] 32)
    have hb4 := belAlloc hbel (.cells #[.int .i64 S.t, .int .i64 S.a, .int .i64 S.b, .int .i64 S.c, .slice b1 S.use.length n1] 32)
    have HOU := Lib.hid (HOT8.out.later hb4)
    have HTB := Lib.hid (hTB.later hb4)
    have HB4 := Lib.hid (belStep HBT8.out hb4)
    have hz13 := hbel.size
    have HLT := Lib.hid (fun q hq => (World.ownsRow.lt HOT8.out q hq).2)
    clear hTB ho1 hb1 hb4 hbel CRD HRU tB tF t0 t1 t2 t3 t4 rw0 rw1 rw2 rw3 rw4
    generalize u1.alloc (.cells #[.int .i64 S.t, .int .i64 S.a, .int .i64 S.b, .int .i64 S.c, .slice b1 S.use.length n1] 32) = W4 at *
    generalize u1.heap.size = M1 at *
    have hw := HW2.out
    have CRE := Lib.hid (fun u (hu : Below W2.heap.size W2 u) => rread2 rfl HRO.out HOK.out (HRL.out u hu) HRR.out HS.out)
    rcases own_shape HOU.out with ⟨e1, hn⟩ | ⟨g7, cp, e1, hg1, hg2, hcp1, hcp2⟩
    · simp only [Value.slice.injEq] at e1
      obtain ⟨rfl, _, rfl⟩ := e1
      obtain rfl : L = [] := List.eq_nil_of_length_eq_zero hn
      have HTB0 := Lib.hid (show Blk W4 Mt8 [.int .i64 r.t, .float .f64 r.x, .float .f64 r.y, .float .f64 r.z, .slice none 0 0] 26 from HTB.out)
      have CRE2 := CRE.out
      simp only [List.length_nil] at CRE2 zrw4
      clear CRE
      have CRE := Lib.hid CRE2
      clear CRE2
      (try simp only [List.length_nil])
      go_wp2
      go_loopw [6] (fun i wr => i = .int .i64 0 ∧ Hid (OwnR wr W3.heap.size 51 4 (.slice b1 S.use.length n1) S.use.length (S.use.flatMap UseV.cells)) ∧ Hid (Blk wr M1 [.int .i64 S.t, .int .i64 S.a, .int .i64 S.b, .int .i64 S.c, .slice b1 S.use.length n1] 32) ∧ Hid (Blk wr Mt8 [.int .i64 r.t, .float .f64 r.x, .float .f64 r.y, .float .f64 r.z, .slice none 0 0] 26) ∧ Below W2.heap.size W2 wr) (fun i _ => 0)
      case atStart => exact ⟨rfl, HSO, HSB, HTB0, HB4.out⟩
      case round =>
        obtain ⟨rfl, HSO3, HSB2, HTB2, hbel⟩ := hrel
        clear HSO HSB HTB HTB0 HB4 HOU
        have HBW := Lib.hid hbel
        have r4 := keep (HTB2.out.cell (j := 4) rfl)
        have hbr := Below.refl wr.heap.size wr
        have s0 := keep (HSB2.out.cell (j := 0) rfl)
        have s1 := keep (HSB2.out.cell (j := 1) rfl)
        have s2 := keep (HSB2.out.cell (j := 2) rfl)
        have s3 := keep (HSB2.out.cell (j := 3) rfl)
        have s4 := keep (HSB2.out.cell (j := 4) rfl)
        have hbs := HBW.out
        have HSO2 := Lib.hid (row_of_ownL HSO3.out)
        go_upto_region 11 with fail
        skip
        clear hbel
        replace zrw0 := keepOnP zrw0 hbs
        replace zrw1 := keepOnP zrw1 hbs
        replace zrw2 := keepOnP zrw2 hbs
        replace zrw3 := keepOnP zrw3 hbs
        replace zrw4 := keepOnP zrw4 hbs
        have hbel : Below wr.heap.size wr wr := Below.refl _ _
        have hw3 := belStep hw hbs
        clear hw
        have hw := hw3
        clear hw3
        refine wp_region_held_drew (S := (fun u => Below wr.heap.size wr u)) (by kernel_rfl) (by exact (show Below wr.heap.size wr _ from by repeat (first | assumption | exact Below.refl _ _ | refine belDrew ?_ | refine belAlloc ?_ _ | refine belStep ?_ (by assumption)))) (fun hHeld => ?_)
        refine wpAnyH_take (i := 0) (oi := ?oi_1) (v := ?v_1) ?hi_1 (by kernel_rfl) ?hf_1 ?hr_1 ?hQ_1 (Or.inl ⟨?hw_1, ?hy_1⟩) (by assumption) ?rest_1
        case hi_1 => ((simp only [List.getElem?_toArray, List.getElem?_cons_succ, List.getElem?_cons_zero]); rfl)
        case hf_1 => kernel_rfl
        case hr_1 => kernel_rfl
        case hQ_1 => exact fun _ _ _ h => h
        case hw_1 => rfl
        case hy_1 => ((intro w hSw; (try dsimp only at hSw); go_simp); all_goals (with_reducible rfl))
        try simp only [Act.put, List.setIfInBounds_toArray, List.set_cons_zero, List.set_cons_succ]
        refine wpAnyH_take (i := 1) (oi := ?oi_2) (v := ?v_2) ?hi_2 (by kernel_rfl) ?hf_2 ?hr_2 ?hQ_2 (Or.inl ⟨?hw_2, ?hy_2⟩) (by assumption) ?rest_2
        case hi_2 => ((simp only [List.getElem?_toArray, List.getElem?_cons_succ, List.getElem?_cons_zero]); rfl)
        case hf_2 => kernel_rfl
        case hr_2 => kernel_rfl
        case hQ_2 => exact fun _ _ _ h => h
        case hw_2 => rfl
        case hy_2 => ((intro w hSw; (try dsimp only at hSw); go_simp); all_goals (with_reducible rfl))
        try simp only [Act.put, List.setIfInBounds_toArray, List.set_cons_zero, List.set_cons_succ]
        refine wpAnyH_take (i := 2) (oi := ?oi_3) (v := ?v_3) ?hi_3 (by kernel_rfl) ?hf_3 ?hr_3 ?hQ_3 (Or.inl ⟨?hw_3, ?hy_3⟩) (by assumption) ?rest_3
        case hi_3 => ((simp only [List.getElem?_toArray, List.getElem?_cons_succ, List.getElem?_cons_zero]); rfl)
        case hf_3 => kernel_rfl
        case hr_3 => kernel_rfl
        case hQ_3 => exact fun _ _ _ h => h
        case hw_3 => rfl
        case hy_3 => ((intro w hSw; (try dsimp only at hSw); go_simp); all_goals (with_reducible rfl))
        try simp only [Act.put, List.setIfInBounds_toArray, List.set_cons_zero, List.set_cons_succ]
        refine wpAnyH_take (i := 3) (oi := ?oi_4) (v := ?v_4) ?hi_4 (by kernel_rfl) ?hf_4 ?hr_4 ?hQ_4 (Or.inl ⟨?hw_4, ?hy_4⟩) (by assumption) ?rest_4
        case hi_4 => ((simp only [List.getElem?_toArray, List.getElem?_cons_succ, List.getElem?_cons_zero]); rfl)
        case hf_4 => kernel_rfl
        case hr_4 => kernel_rfl
        case hQ_4 => exact fun _ _ _ h => h
        case hw_4 => rfl
        case hy_4 => ((intro w hSw; (try dsimp only at hSw); go_simp); all_goals (with_reducible rfl))
        try simp only [Act.put, List.setIfInBounds_toArray, List.set_cons_zero, List.set_cons_succ]
        refine wpAnyH_take (i := 4) (oi := ?oi_5) (v := ?v_5) ?hi_5 (by kernel_rfl) ?hf_5 ?hr_5 ?hQ_5 (Or.inl ⟨?hw_5, ?hy_5⟩) (by assumption) ?rest_5
        case hi_5 => ((simp only [List.getElem?_toArray, List.getElem?_cons_succ, List.getElem?_cons_zero]); rfl)
        case hf_5 => kernel_rfl
        case hr_5 => kernel_rfl
        case hQ_5 => exact fun _ _ _ h => h
        case hw_5 => rfl
        case hy_5 => ((intro w hSw; (try dsimp only at hSw); go_simp); all_goals (with_reducible rfl))
        try simp only [Act.put, List.setIfInBounds_toArray, List.set_cons_zero, List.set_cons_succ]
        refine wpAnyH_ready (rs := [5]) (by kernel_rfl) (by simp) ?_
        refine AllReadyH.cons (o := ?o1_6) ?hi_6 (fun K hK => ?rest_6) AllReadyH.nil
        case hi_6 => ((simp only [List.getElem?_toArray, List.getElem?_cons_succ, List.getElem?_cons_zero]); rfl)
        go_simp
        (first | (go_at_call 24; (with_reducible refine (CRE.out _ (belStep hbs hHeld)).mono ?_); rintro e u6 ⟨⟨b6, n6, rfl, ho6⟩, hb6⟩; have hh6 := belStep hHeld hb6) | (go_at_call 23; (with_reducible refine (sref_Same S b1 n1 b6 n6 _ (HSO2.out.later hHeld) (row_of_ownL ho6)).mono ?_); rintro e wq ⟨rfl, hbq⟩))
        try go_simp
        refine hK.out _ _ (by exact (show Below wr.heap.size wr _ from by repeat (first | assumption | exact Below.refl _ _ | refine belDrew ?_ | refine belAlloc ?_ _ | refine belStep ?_ (by assumption)))) (fun hHeld => ?_)
        clear hK K
        try simp only [Act.put, List.setIfInBounds_toArray, List.set_cons_zero, List.set_cons_succ]
        refine wpAnyH_ready (rs := [6]) (by kernel_rfl) (by simp) ?_
        refine AllReadyH.cons (o := ?o1_7) ?hi_7 (fun K hK => ?rest_7) AllReadyH.nil
        case hi_7 => ((simp only [List.getElem?_toArray, List.getElem?_cons_succ, List.getElem?_cons_zero]); rfl)
        go_simp
        (first | (go_at_call 24; (with_reducible refine (CRE.out _ (belStep hbs hHeld)).mono ?_); rintro e u6 ⟨⟨b6, n6, rfl, ho6⟩, hb6⟩; have hh6 := belStep hHeld hb6) | (go_at_call 23; (with_reducible refine (sref_Same S b1 n1 b6 n6 _ (HSO2.out.later hHeld) (row_of_ownL ho6)).mono ?_); rintro e wq ⟨rfl, hbq⟩))
        try go_simp
        refine hK.out _ _ (by exact (show Below wr.heap.size wr _ from by repeat (first | assumption | exact Below.refl _ _ | refine belDrew ?_ | refine belAlloc ?_ _ | refine belStep ?_ (by assumption)))) (fun hHeld => ?_)
        clear hK K
        try simp only [Act.put, List.setIfInBounds_toArray, List.set_cons_zero, List.set_cons_succ]
        refine wpAnyH_take (i := 7) (oi := ?oi_8) (v := ?v_8) ?hi_8 (by kernel_rfl) ?hf_8 ?hr_8 ?hQ_8 (Or.inl ⟨?hw_8, ?hy_8⟩) (by assumption) ?rest_8
        case hi_8 => ((simp only [List.getElem?_toArray, List.getElem?_cons_succ, List.getElem?_cons_zero]); rfl)
        case hf_8 => kernel_rfl
        case hr_8 => kernel_rfl
        case hQ_8 => exact fun _ _ _ h => h
        case hw_8 => rfl
        case hy_8 => ((intro w hSw; (try dsimp only at hSw); go_simp); all_goals (with_reducible rfl))
        try simp only [Act.put, List.setIfInBounds_toArray, List.set_cons_zero, List.set_cons_succ]
        refine wpAnyH_take (i := 8) (oi := ?oi_9) (v := ?v_9) ?hi_9 (by kernel_rfl) ?hf_9 ?hr_9 ?hQ_9 (Or.inl ⟨?hw_9, ?hy_9⟩) (by assumption) ?rest_9
        case hi_9 => ((simp only [List.getElem?_toArray, List.getElem?_cons_succ, List.getElem?_cons_zero]); rfl)
        case hf_9 => kernel_rfl
        case hr_9 => kernel_rfl
        case hQ_9 => exact fun _ _ _ h => h
        case hw_9 => rfl
        case hy_9 => ((intro w hSw; (try dsimp only at hSw); go_simp); all_goals (with_reducible rfl))
        try simp only [Act.put, List.setIfInBounds_toArray, List.set_cons_zero, List.set_cons_succ]
        refine wpAnyH_done (by kernel_rfl) ?_ _
        have hbel := hHeld
        go_wp2
        go_ret
        exact ⟨rfl, belStep hw hbel⟩
    · simp only [Value.slice.injEq] at e1
      obtain ⟨rfl, _, rfl⟩ := e1
      have hg5 : g7 < W3.heap.size := HLT.out g7 rfl
      go_wp2
      go_loopw [6] (fun i wr => ∃ (k : Nat) (cs : List Value), k ≤ L.length ∧ i = .int .i64 k ∧ Hid (OwnR wr W2.heap.size 47 4 (.slice (some ⟨g7, 0, none⟩) L.length ct8) L.length cs) ∧ Hid (TailEq cs (L.flatMap UsgV.cells) (k * 4)) ∧ Hid (OwnR wr W3.heap.size 51 4 (.slice b1 S.use.length n1) S.use.length (S.use.flatMap UseV.cells)) ∧ Hid (Blk wr M1 [.int .i64 S.t, .int .i64 S.a, .int .i64 S.b, .int .i64 S.c, .slice b1 S.use.length n1] 32) ∧ Hid (Blk wr Mt8 [.int .i64 r.t, .float .f64 r.x, .float .f64 r.y, .float .f64 r.z, .slice (some ⟨g7, 0, none⟩) L.length ct8] 26) ∧ Below W2.heap.size W2 wr) (fun i _ => L.length - (intOf i).toNat)
      case atStart => exact ⟨0, _, Nat.zero_le _, rfl, HOU, Lib.hid (TailEq.refl _ _), HSO, HSB, HTB, HB4.out⟩
      case round =>
        obtain ⟨k, cs, hk, rfl, HQ, HTE, HSO3, HSB2, HTB2, hbel⟩ := hrel
        clear HSO HSB HTB HB4 HOU
        have HBW := Lib.hid hbel
        have r4 := keep (HTB2.out.cell (j := 4) rfl)
        have hbr := Below.refl wr.heap.size wr
        by_cases hlt : k < L.length
        · generalize wr = WR at *
          obtain ⟨x, hx⟩ : ∃ x, L[k]? = some x := ⟨L[k], List.getElem?_eq_getElem hlt⟩
          obtain ⟨bc, oc, ec, _, hcc⟩ := (HRL.out _ (Below.refl _ _)).elem UsgV.cells_len (by omega) hx
          subst ec
          have c0 := keep (hcc 0 _ rfl)
          have c1 := keep (hcc 1 _ rfl)
          have c2 := keep (hcc 2 _ rfl)
          have c3 := keep (hcc 3 _ rfl)
          rw [Nat.add_zero] at c0
          have d0 := keep (show WR.cell? ⟨g7, k * 4 + 0, none⟩ = some (.string x.id) from by rw [World.ownsRow.cellAt HQ.out (k * 4 + 0) (by omega), HTE.out _ (by omega), flat_cell UsgV.cells_len hx (by omega)]; rfl)
          have d1 := keep (show WR.cell? ⟨g7, k * 4 + 1, none⟩ = some (.float .f64 x.a) from by rw [World.ownsRow.cellAt HQ.out (k * 4 + 1) (by omega), HTE.out _ (by omega), flat_cell UsgV.cells_len hx (by omega)]; rfl)
          have d2 := keep (show WR.cell? ⟨g7, k * 4 + 2, none⟩ = some (.float .f64 x.b) from by rw [World.ownsRow.cellAt HQ.out (k * 4 + 2) (by omega), HTE.out _ (by omega), flat_cell UsgV.cells_len hx (by omega)]; rfl)
          have d3 := keep (show WR.cell? ⟨g7, k * 4 + 3, none⟩ = some (.float .f64 x.c) from by rw [World.ownsRow.cellAt HQ.out (k * 4 + 3) (by omega), HTE.out _ (by omega), flat_cell UsgV.cells_len hx (by omega)]; rfl)
          rw [Nat.add_zero] at d0
          have dF : ∀ u, Below WR.heap.size WR u → ∀ j, u.frozen? ⟨g7, j, none⟩ = false := fun u hu j => World.ownsRow.frozenAt (OwnR.later HQ.out hu) j
          have hd : decide ((k : Int) < (L.length : Int)) = true := decide_eq_true (by omega)
          have hki : (k : Int) < (L.length : Int) := by omega
          have hk0 : (0 : Int) ≤ (k : Int) := by omega
          have hxo := HOK.out x (List.mem_of_getElem? hx)
          obtain ⟨hxo1, hxo2, hxo3, hxo4⟩ := hxo
          have CWH := Lib.hid (fun u => sref_Whole x.a x.b x.c u hxo2 hxo3 hxo4)
          clear hx hcc hxo1 hxo2 hxo3 hxo4
          have hself : (x.id.toList == x.id.toList) = true := beq_self_eq_true _
          have hN1 := own_ne_blk HQ.out HTB2.out (by decide)
          have hN2 := own_ne_blk HQ.out HSB2.out (by decide)
          go_upto_region 8 with fail
          clear hbel
          replace c0 := keepOnP c0 HBW.out
          replace c1 := keepOnP c1 HBW.out
          replace c2 := keepOnP c2 HBW.out
          replace c3 := keepOnP c3 HBW.out
          replace zrw0 := keepOnP zrw0 HBW.out
          replace zrw1 := keepOnP zrw1 HBW.out
          replace zrw2 := keepOnP zrw2 HBW.out
          replace zrw3 := keepOnP zrw3 HBW.out
          replace zrw4 := keepOnP zrw4 HBW.out
          have hE3 : ∀ (v : World) (p q s : Int), (Op.equalIn 10000 29 (.agg #[.int .i64 p, .int .i64 q, .int .i64 s]) (.agg #[.int .i64 p, .int .i64 q, .int .i64 s])).run Try.prog v = .ok true v := fun v p q s => by rw [eq3_any 9998]; simp
          refine wp_region_held_drew (S := (fun u => Below WR.heap.size WR u)) (by kernel_rfl) (by exact (show Below WR.heap.size WR _ from by repeat (first | assumption | exact Below.refl _ _ | refine belDrew ?_ | refine belAlloc ?_ _ | refine belStep ?_ (by assumption)))) (fun hHeld => ?_)
          refine wpAnyH_take (i := 0) (oi := ?oi_10) (v := ?v_10) ?hi_10 (by kernel_rfl) ?hf_10 ?hr_10 ?hQ_10 (Or.inl ⟨?hw_10, ?hy_10⟩) (by assumption) ?rest_10
          case hi_10 => ((simp only [List.getElem?_toArray, List.getElem?_cons_succ, List.getElem?_cons_zero]); rfl)
          case hf_10 => kernel_rfl
          case hr_10 => kernel_rfl
          case hQ_10 => exact fun _ _ _ h => h
          case hw_10 => rfl
          case hy_10 => ((intro w hSw; (try dsimp only at hSw); go_simp); all_goals (with_reducible rfl))
          try simp only [Act.put, List.setIfInBounds_toArray, List.set_cons_zero, List.set_cons_succ]
          refine wpAnyH_take (i := 1) (oi := ?oi_11) (v := ?v_11) ?hi_11 (by kernel_rfl) ?hf_11 ?hr_11 ?hQ_11 (Or.inl ⟨?hw_11, ?hy_11⟩) (by assumption) ?rest_11
          case hi_11 => ((simp only [List.getElem?_toArray, List.getElem?_cons_succ, List.getElem?_cons_zero]); rfl)
          case hf_11 => kernel_rfl
          case hr_11 => kernel_rfl
          case hQ_11 => exact fun _ _ _ h => h
          case hw_11 => rfl
          case hy_11 => ((intro w hSw; (try dsimp only at hSw); go_simp); all_goals (with_reducible rfl))
          try simp only [Act.put, List.setIfInBounds_toArray, List.set_cons_zero, List.set_cons_succ]
          refine wpAnyH_take (i := 2) (oi := ?oi_12) (v := ?v_12) ?hi_12 (by kernel_rfl) ?hf_12 ?hr_12 ?hQ_12 (Or.inl ⟨?hw_12, ?hy_12⟩) (by assumption) ?rest_12
          case hi_12 => ((simp only [List.getElem?_toArray, List.getElem?_cons_succ, List.getElem?_cons_zero]); rfl)
          case hf_12 => kernel_rfl
          case hr_12 => kernel_rfl
          case hQ_12 => exact fun _ _ _ h => h
          case hw_12 => rfl
          case hy_12 => ((intro w hSw; (try dsimp only at hSw); go_simp); all_goals (with_reducible rfl))
          try simp only [Act.put, List.setIfInBounds_toArray, List.set_cons_zero, List.set_cons_succ]
          refine wpAnyH_take (i := 3) (oi := ?oi_13) (v := ?v_13) ?hi_13 (by kernel_rfl) ?hf_13 ?hr_13 ?hQ_13 (Or.inl ⟨?hw_13, ?hy_13⟩) (by assumption) ?rest_13
          case hi_13 => ((simp only [List.getElem?_toArray, List.getElem?_cons_succ, List.getElem?_cons_zero]); rfl)
          case hf_13 => kernel_rfl
          case hr_13 => kernel_rfl
          case hQ_13 => exact fun _ _ _ h => h
          case hw_13 => rfl
          case hy_13 => ((intro w hSw; (try dsimp only at hSw); go_simp); all_goals (with_reducible rfl))
          try simp only [Act.put, List.setIfInBounds_toArray, List.set_cons_zero, List.set_cons_succ]
          refine wpAnyH_take (i := 4) (oi := ?oi_14) (v := ?v_14) ?hi_14 (by kernel_rfl) ?hf_14 ?hr_14 ?hQ_14 (Or.inl ⟨?hw_14, ?hy_14⟩) (by assumption) ?rest_14
          case hi_14 => ((simp only [List.getElem?_toArray, List.getElem?_cons_succ, List.getElem?_cons_zero]); rfl)
          case hf_14 => kernel_rfl
          case hr_14 => kernel_rfl
          case hQ_14 => exact fun _ _ _ h => h
          case hw_14 => rfl
          case hy_14 => ((intro w hSw; (try dsimp only at hSw); go_simp); all_goals (with_reducible rfl))
          try simp only [Act.put, List.setIfInBounds_toArray, List.set_cons_zero, List.set_cons_succ]
          refine wpAnyH_take (i := 5) (oi := ?oi_15) (v := ?v_15) ?hi_15 (by kernel_rfl) ?hf_15 ?hr_15 ?hQ_15 (Or.inl ⟨?hw_15, ?hy_15⟩) (by assumption) ?rest_15
          case hi_15 => ((simp only [List.getElem?_toArray, List.getElem?_cons_succ, List.getElem?_cons_zero]); rfl)
          case hf_15 => kernel_rfl
          case hr_15 => kernel_rfl
          case hQ_15 => exact fun _ _ _ h => h
          case hw_15 => rfl
          case hy_15 => ((intro w hSw; (try dsimp only at hSw); go_simp); all_goals (with_reducible rfl))
          try simp only [Act.put, List.setIfInBounds_toArray, List.set_cons_zero, List.set_cons_succ]
          refine wpAnyH_take (i := 6) (oi := ?oi_16) (v := ?v_16) ?hi_16 (by kernel_rfl) ?hf_16 ?hr_16 ?hQ_16 (Or.inl ⟨?hw_16, ?hy_16⟩) (by assumption) ?rest_16
          case hi_16 => ((simp only [List.getElem?_toArray, List.getElem?_cons_succ, List.getElem?_cons_zero]); rfl)
          case hf_16 => kernel_rfl
          case hr_16 => kernel_rfl
          case hQ_16 => exact fun _ _ _ h => h
          case hw_16 => rfl
          case hy_16 => ((intro w hSw; (try dsimp only at hSw); go_simp); all_goals (with_reducible rfl))
          try simp only [Act.put, List.setIfInBounds_toArray, List.set_cons_zero, List.set_cons_succ]
          refine wpAnyH_take (i := 7) (oi := ?oi_17) (v := ?v_17) ?hi_17 (by kernel_rfl) ?hf_17 ?hr_17 ?hQ_17 (Or.inl ⟨?hw_17, ?hy_17⟩) (by assumption) ?rest_17
          case hi_17 => ((simp only [List.getElem?_toArray, List.getElem?_cons_succ, List.getElem?_cons_zero]); rfl)
          case hf_17 => kernel_rfl
          case hr_17 => kernel_rfl
          case hQ_17 => exact fun _ _ _ h => h
          case hw_17 => rfl
          case hy_17 => ((intro w hSw; (try dsimp only at hSw); go_simp); all_goals (with_reducible rfl))
          try simp only [Act.put, List.setIfInBounds_toArray, List.set_cons_zero, List.set_cons_succ]
          refine wpAnyH_take (i := 8) (oi := ?oi_18) (v := ?v_18) ?hi_18 (by kernel_rfl) ?hf_18 ?hr_18 ?hQ_18 (Or.inl ⟨?hw_18, ?hy_18⟩) (by assumption) ?rest_18
          case hi_18 => ((simp only [List.getElem?_toArray, List.getElem?_cons_succ, List.getElem?_cons_zero]); rfl)
          case hf_18 => kernel_rfl
          case hr_18 => kernel_rfl
          case hQ_18 => exact fun _ _ _ h => h
          case hw_18 => rfl
          case hy_18 => ((intro w hSw; (try dsimp only at hSw); go_simp); all_goals (with_reducible rfl))
          try simp only [Act.put, List.setIfInBounds_toArray, List.set_cons_zero, List.set_cons_succ]
          refine wpAnyH_take (i := 9) (oi := ?oi_19) (v := ?v_19) ?hi_19 (by kernel_rfl) ?hf_19 ?hr_19 ?hQ_19 (Or.inl ⟨?hw_19, ?hy_19⟩) (by assumption) ?rest_19
          case hi_19 => ((simp only [List.getElem?_toArray, List.getElem?_cons_succ, List.getElem?_cons_zero]); rfl)
          case hf_19 => kernel_rfl
          case hr_19 => kernel_rfl
          case hQ_19 => exact fun _ _ _ h => h
          case hw_19 => rfl
          case hy_19 => ((intro w hSw; (try dsimp only at hSw); go_simp); all_goals (with_reducible rfl))
          try simp only [Act.put, List.setIfInBounds_toArray, List.set_cons_zero, List.set_cons_succ]
          refine wpAnyH_take (i := 10) (oi := ?oi_20) (v := ?v_20) ?hi_20 (by kernel_rfl) ?hf_20 ?hr_20 ?hQ_20 (Or.inl ⟨?hw_20, ?hy_20⟩) (by assumption) ?rest_20
          case hi_20 => ((simp only [List.getElem?_toArray, List.getElem?_cons_succ, List.getElem?_cons_zero]); rfl)
          case hf_20 => kernel_rfl
          case hr_20 => kernel_rfl
          case hQ_20 => exact fun _ _ _ h => h
          case hw_20 => rfl
          case hy_20 => ((intro w hSw; (try dsimp only at hSw); go_simp); all_goals (with_reducible rfl))
          try simp only [Act.put, List.setIfInBounds_toArray, List.set_cons_zero, List.set_cons_succ]
          refine wpAnyH_take (i := 11) (oi := ?oi_21) (v := ?v_21) ?hi_21 (by kernel_rfl) ?hf_21 ?hr_21 ?hQ_21 (Or.inl ⟨?hw_21, ?hy_21⟩) (by assumption) ?rest_21
          case hi_21 => ((simp only [List.getElem?_toArray, List.getElem?_cons_succ, List.getElem?_cons_zero]); rfl)
          case hf_21 => kernel_rfl
          case hr_21 => kernel_rfl
          case hQ_21 => exact fun _ _ _ h => h
          case hw_21 => rfl
          case hy_21 => ((intro w hSw; (try dsimp only at hSw); go_simp); all_goals (with_reducible rfl))
          try simp only [Act.put, List.setIfInBounds_toArray, List.set_cons_zero, List.set_cons_succ]
          refine wpAnyH_take (i := 12) (oi := ?oi_22) (v := ?v_22) ?hi_22 (by kernel_rfl) ?hf_22 ?hr_22 ?hQ_22 (Or.inl ⟨?hw_22, ?hy_22⟩) (by assumption) ?rest_22
          case hi_22 => ((simp only [List.getElem?_toArray, List.getElem?_cons_succ, List.getElem?_cons_zero]); rfl)
          case hf_22 => kernel_rfl
          case hr_22 => kernel_rfl
          case hQ_22 => exact fun _ _ _ h => h
          case hw_22 => rfl
          case hy_22 => ((intro w hSw; (try dsimp only at hSw); go_simp); all_goals (with_reducible rfl))
          try simp only [Act.put, List.setIfInBounds_toArray, List.set_cons_zero, List.set_cons_succ]
          refine wpAnyH_take (i := 13) (oi := ?oi_23) (v := ?v_23) ?hi_23 (by kernel_rfl) ?hf_23 ?hr_23 ?hQ_23 (Or.inl ⟨?hw_23, ?hy_23⟩) (by assumption) ?rest_23
          case hi_23 => ((simp only [List.getElem?_toArray, List.getElem?_cons_succ, List.getElem?_cons_zero]); rfl)
          case hf_23 => kernel_rfl
          case hr_23 => kernel_rfl
          case hQ_23 => exact fun _ _ _ h => h
          case hw_23 => rfl
          case hy_23 => ((intro w hSw; (try dsimp only at hSw); go_simp); all_goals (with_reducible rfl))
          try simp only [Act.put, List.setIfInBounds_toArray, List.set_cons_zero, List.set_cons_succ]
          refine wpAnyH_take (i := 14) (oi := ?oi_24) (v := ?v_24) ?hi_24 (by kernel_rfl) ?hf_24 ?hr_24 ?hQ_24 (Or.inl ⟨?hw_24, ?hy_24⟩) (by assumption) ?rest_24
          case hi_24 => ((simp only [List.getElem?_toArray, List.getElem?_cons_succ, List.getElem?_cons_zero]); rfl)
          case hf_24 => kernel_rfl
          case hr_24 => kernel_rfl
          case hQ_24 => exact fun _ _ _ h => h
          case hw_24 => rfl
          case hy_24 => ((intro w hSw; (try dsimp only at hSw); go_simp); all_goals (with_reducible rfl))
          try simp only [Act.put, List.setIfInBounds_toArray, List.set_cons_zero, List.set_cons_succ]
          refine wpAnyH_take (i := 15) (oi := ?oi_25) (v := ?v_25) ?hi_25 (by kernel_rfl) ?hf_25 ?hr_25 ?hQ_25 (Or.inl ⟨?hw_25, ?hy_25⟩) (by assumption) ?rest_25
          case hi_25 => ((simp only [List.getElem?_toArray, List.getElem?_cons_succ, List.getElem?_cons_zero]); rfl)
          case hf_25 => kernel_rfl
          case hr_25 => kernel_rfl
          case hQ_25 => exact fun _ _ _ h => h
          case hw_25 => rfl
          case hy_25 => ((intro w hSw; (try dsimp only at hSw); go_simp); all_goals (with_reducible rfl))
          try simp only [Act.put, List.setIfInBounds_toArray, List.set_cons_zero, List.set_cons_succ]
          refine wpAnyH_take (i := 16) (oi := ?oi_26) (v := ?v_26) ?hi_26 (by kernel_rfl) ?hf_26 ?hr_26 ?hQ_26 (Or.inl ⟨?hw_26, ?hy_26⟩) (by assumption) ?rest_26
          case hi_26 => ((simp only [List.getElem?_toArray, List.getElem?_cons_succ, List.getElem?_cons_zero]); rfl)
          case hf_26 => kernel_rfl
          case hr_26 => kernel_rfl
          case hQ_26 => exact fun _ _ _ h => h
          case hw_26 => rfl
          case hy_26 => ((intro w hSw; (try dsimp only at hSw); go_simp); all_goals (with_reducible rfl))
          try simp only [Act.put, List.setIfInBounds_toArray, List.set_cons_zero, List.set_cons_succ]
          refine wpAnyH_take (i := 17) (oi := ?oi_27) (v := ?v_27) ?hi_27 (by kernel_rfl) ?hf_27 ?hr_27 ?hQ_27 (Or.inl ⟨?hw_27, ?hy_27⟩) (by assumption) ?rest_27
          case hi_27 => ((simp only [List.getElem?_toArray, List.getElem?_cons_succ, List.getElem?_cons_zero]); rfl)
          case hf_27 => kernel_rfl
          case hr_27 => kernel_rfl
          case hQ_27 => exact fun _ _ _ h => h
          case hw_27 => rfl
          case hy_27 => ((intro w hSw; (try dsimp only at hSw); go_simp); all_goals (with_reducible rfl))
          try simp only [Act.put, List.setIfInBounds_toArray, List.set_cons_zero, List.set_cons_succ]
          refine wpAnyH_take (i := 18) (oi := ?oi_28) (v := ?v_28) ?hi_28 (by kernel_rfl) ?hf_28 ?hr_28 ?hQ_28 (Or.inl ⟨?hw_28, ?hy_28⟩) (by assumption) ?rest_28
          case hi_28 => ((simp only [List.getElem?_toArray, List.getElem?_cons_succ, List.getElem?_cons_zero]); rfl)
          case hf_28 => kernel_rfl
          case hr_28 => kernel_rfl
          case hQ_28 => exact fun _ _ _ h => h
          case hw_28 => rfl
          case hy_28 => ((intro w hSw; (try dsimp only at hSw); go_simp); all_goals (with_reducible rfl))
          try simp only [Act.put, List.setIfInBounds_toArray, List.set_cons_zero, List.set_cons_succ]
          refine wpAnyH_take (i := 19) (oi := ?oi_29) (v := ?v_29) ?hi_29 (by kernel_rfl) ?hf_29 ?hr_29 ?hQ_29 (Or.inl ⟨?hw_29, ?hy_29⟩) (by assumption) ?rest_29
          case hi_29 => ((simp only [List.getElem?_toArray, List.getElem?_cons_succ, List.getElem?_cons_zero]); rfl)
          case hf_29 => kernel_rfl
          case hr_29 => kernel_rfl
          case hQ_29 => exact fun _ _ _ h => h
          case hw_29 => rfl
          case hy_29 => ((intro w hSw; (try dsimp only at hSw); go_simp); all_goals (with_reducible rfl))
          try simp only [Act.put, List.setIfInBounds_toArray, List.set_cons_zero, List.set_cons_succ]
          refine wpAnyH_take (i := 21) (oi := ?oi_30) (v := ?v_30) ?hi_30 (by kernel_rfl) ?hf_30 ?hr_30 ?hQ_30 (Or.inl ⟨?hw_30, ?hy_30⟩) (by assumption) ?rest_30
          case hi_30 => ((simp only [List.getElem?_toArray, List.getElem?_cons_succ, List.getElem?_cons_zero]); rfl)
          case hf_30 => kernel_rfl
          case hr_30 => kernel_rfl
          case hQ_30 => exact fun _ _ _ h => h
          case hw_30 => rfl
          case hy_30 => ((intro w hSw; (try dsimp only at hSw); go_simp); all_goals (with_reducible rfl))
          try simp only [Act.put, List.setIfInBounds_toArray, List.set_cons_zero, List.set_cons_succ]
          refine wpAnyH_take (i := 22) (oi := ?oi_31) (v := ?v_31) ?hi_31 (by kernel_rfl) ?hf_31 ?hr_31 ?hQ_31 (Or.inl ⟨?hw_31, ?hy_31⟩) (by assumption) ?rest_31
          case hi_31 => ((simp only [List.getElem?_toArray, List.getElem?_cons_succ, List.getElem?_cons_zero]); rfl)
          case hf_31 => kernel_rfl
          case hr_31 => kernel_rfl
          case hQ_31 => exact fun _ _ _ h => h
          case hw_31 => rfl
          case hy_31 => ((intro w hSw; (try dsimp only at hSw); go_simp); all_goals (with_reducible rfl))
          try simp only [Act.put, List.setIfInBounds_toArray, List.set_cons_zero, List.set_cons_succ]
          refine wpAnyH_take (i := 23) (oi := ?oi_32) (v := ?v_32) ?hi_32 (by kernel_rfl) ?hf_32 ?hr_32 ?hQ_32 (Or.inl ⟨?hw_32, ?hy_32⟩) (by assumption) ?rest_32
          case hi_32 => ((simp only [List.getElem?_toArray, List.getElem?_cons_succ, List.getElem?_cons_zero]); rfl)
          case hf_32 => kernel_rfl
          case hr_32 => kernel_rfl
          case hQ_32 => exact fun _ _ _ h => h
          case hw_32 => rfl
          case hy_32 => ((intro w hSw; (try dsimp only at hSw); go_simp); all_goals (with_reducible rfl))
          try simp only [Act.put, List.setIfInBounds_toArray, List.set_cons_zero, List.set_cons_succ]
          refine wpAnyH_take (i := 24) (oi := ?oi_33) (v := ?v_33) ?hi_33 (by kernel_rfl) ?hf_33 ?hr_33 ?hQ_33 (Or.inl ⟨?hw_33, ?hy_33⟩) (by assumption) ?rest_33
          case hi_33 => ((simp only [List.getElem?_toArray, List.getElem?_cons_succ, List.getElem?_cons_zero]); rfl)
          case hf_33 => kernel_rfl
          case hr_33 => kernel_rfl
          case hQ_33 => exact fun _ _ _ h => h
          case hw_33 => rfl
          case hy_33 => ((intro w hSw; (try dsimp only at hSw); go_simp); all_goals (with_reducible rfl))
          try simp only [Act.put, List.setIfInBounds_toArray, List.set_cons_zero, List.set_cons_succ]
          refine wpAnyH_take (i := 25) (oi := ?oi_34) (v := ?v_34) ?hi_34 (by kernel_rfl) ?hf_34 ?hr_34 ?hQ_34 (Or.inl ⟨?hw_34, ?hy_34⟩) (by assumption) ?rest_34
          case hi_34 => ((simp only [List.getElem?_toArray, List.getElem?_cons_succ, List.getElem?_cons_zero]); rfl)
          case hf_34 => kernel_rfl
          case hr_34 => kernel_rfl
          case hQ_34 => exact fun _ _ _ h => h
          case hw_34 => rfl
          case hy_34 => ((intro w hSw; (try dsimp only at hSw); go_simp); all_goals (with_reducible rfl))
          try simp only [Act.put, List.setIfInBounds_toArray, List.set_cons_zero, List.set_cons_succ]
          refine wpAnyH_take (i := 26) (oi := ?oi_35) (v := ?v_35) ?hi_35 (by kernel_rfl) ?hf_35 ?hr_35 ?hQ_35 (Or.inl ⟨?hw_35, ?hy_35⟩) (by assumption) ?rest_35
          case hi_35 => ((simp only [List.getElem?_toArray, List.getElem?_cons_succ, List.getElem?_cons_zero]); rfl)
          case hf_35 => kernel_rfl
          case hr_35 => kernel_rfl
          case hQ_35 => exact fun _ _ _ h => h
          case hw_35 => rfl
          case hy_35 => ((intro w hSw; (try dsimp only at hSw); go_simp); all_goals (with_reducible rfl))
          try simp only [Act.put, List.setIfInBounds_toArray, List.set_cons_zero, List.set_cons_succ]
          refine wpAnyH_ready (rs := [20]) (by kernel_rfl) (by simp) ?_
          refine AllReadyH.cons (o := ?o1_36) ?hi_36 (fun K hK => ?rest_36) AllReadyH.nil
          case hi_36 => ((simp only [List.getElem?_toArray, List.getElem?_cons_succ, List.getElem?_cons_zero]); rfl)
          go_simp
          (go_at_call 34; (with_reducible refine (CWH.out _).mono ?_); rintro e wq ⟨rfl, hbq⟩)
          try go_simp
          refine hK.out _ _ (by exact (show Below WR.heap.size WR _ from by repeat (first | assumption | exact Below.refl _ _ | refine belDrew ?_ | refine belAlloc ?_ _ | refine belStep ?_ (by assumption)))) (fun hHeld => ?_)
          clear hK K
          try simp only [Act.put, List.setIfInBounds_toArray, List.set_cons_zero, List.set_cons_succ]
          refine wpAnyH_ready (rs := [27]) (by kernel_rfl) (by simp) ?_
          refine AllReadyH.cons (o := ?o1_37) ?hi_37 (fun K hK => ?rest_37) AllReadyH.nil
          case hi_37 => ((simp only [List.getElem?_toArray, List.getElem?_cons_succ, List.getElem?_cons_zero]); rfl)
          go_simp
          (go_at_call 34; (with_reducible refine (CWH.out _).mono ?_); rintro e wq ⟨rfl, hbq⟩)
          try go_simp
          refine hK.out _ _ (by exact (show Below WR.heap.size WR _ from by repeat (first | assumption | exact Below.refl _ _ | refine belDrew ?_ | refine belAlloc ?_ _ | refine belStep ?_ (by assumption)))) (fun hHeld => ?_)
          clear hK K
          try simp only [Act.put, List.setIfInBounds_toArray, List.set_cons_zero, List.set_cons_succ]
          refine wpAnyH_take (i := 28) (oi := ?oi_38) (v := ?v_38) ?hi_38 (by kernel_rfl) ?hf_38 ?hr_38 ?hQ_38 (Or.inl ⟨?hw_38, ?hy_38⟩) (by assumption) ?rest_38
          case hi_38 => ((simp only [List.getElem?_toArray, List.getElem?_cons_succ, List.getElem?_cons_zero]); rfl)
          case hf_38 => kernel_rfl
          case hr_38 => kernel_rfl
          case hQ_38 => exact fun _ _ _ h => h
          case hw_38 => rfl
          case hy_38 => ((intro w hSw; (try dsimp only at hSw); go_simp); all_goals (with_reducible rfl))
          try simp only [Act.put, List.setIfInBounds_toArray, List.set_cons_zero, List.set_cons_succ]
          refine wpAnyH_take (i := 29) (oi := ?oi_39) (v := ?v_39) ?hi_39 (by kernel_rfl) ?hf_39 ?hr_39 ?hQ_39 (Or.inl ⟨?hw_39, ?hy_39⟩) (by assumption) ?rest_39
          case hi_39 => ((simp only [List.getElem?_toArray, List.getElem?_cons_succ, List.getElem?_cons_zero]); rfl)
          case hf_39 => kernel_rfl
          case hr_39 => kernel_rfl
          case hQ_39 => exact fun _ _ _ h => h
          case hw_39 => rfl
          case hy_39 => ((intro w hSw; (try dsimp only at hSw); go_simp); all_goals (with_reducible rfl))
          try simp only [Act.put, List.setIfInBounds_toArray, List.set_cons_zero, List.set_cons_succ]
          refine wpAnyH_done (by kernel_rfl) ?_ _
          have hbel := hHeld
          clear hHeld
          go_upto_region 10 with fail
          have HQ2 := Lib.hid (fun v (hv : Below WR.heap.size WR v) => stored4 (m := k * 4) (HQ.out.later hv))
          have HT2 := Lib.hid (tail4 HTE.out rfl)
          have HO2 := Lib.hid (fun v (hv : Below WR.heap.size WR v) => low4 (g := g7) (m := k * 4) (HSO3.out.later hv) hg5)
          have HS2 := Lib.hid (fun v (hv : Below WR.heap.size WR v) => blk4 (g := g7) (m := k * 4) (HSB2.out.later hv) hN2)
          have HR2 := Lib.hid (fun v (hv : Below WR.heap.size WR v) => blk4 (g := g7) (m := k * 4) (HTB2.out.later hv) hN1)
          have HB6 := Lib.hid (fun v (hv : Below WR.heap.size WR v) => bel4 (g := g7) (m := k * 4) (belStep HBW.out hv) hg1)
          go_wp2
          go_roundw
          case rel => exact ⟨k + 1, _, by omega, by push_cast; rfl, Lib.hid (HQ2.out _ hbel), HT2, Lib.hid (HO2.out _ hbel), Lib.hid (HS2.out _ hbel), Lib.hid (HR2.out _ hbel), HB6.out _ hbel⟩
          case measure => simp [intOf] <;> omega
        · obtain rfl : k = L.length := by omega
          have hd : decide ((L.length : Int) < (L.length : Int)) = false := decide_eq_false (by omega)
          have hki : ¬ (L.length : Int) < (L.length : Int) := by omega
          have s0 := keep (HSB2.out.cell (j := 0) rfl)
          have s1 := keep (HSB2.out.cell (j := 1) rfl)
          have s2 := keep (HSB2.out.cell (j := 2) rfl)
          have s3 := keep (HSB2.out.cell (j := 3) rfl)
          have s4 := keep (HSB2.out.cell (j := 4) rfl)
          have hbs := HBW.out
          have HSO2 := Lib.hid (row_of_ownL HSO3.out)
          go_upto_region 11 with fail
          skip
          clear hbel
          replace zrw0 := keepOnP zrw0 hbs
          replace zrw1 := keepOnP zrw1 hbs
          replace zrw2 := keepOnP zrw2 hbs
          replace zrw3 := keepOnP zrw3 hbs
          replace zrw4 := keepOnP zrw4 hbs
          have hbel : Below wr.heap.size wr wr := Below.refl _ _
          have hw3 := belStep hw hbs
          clear hw
          have hw := hw3
          clear hw3
          refine wp_region_held_drew (S := (fun u => Below wr.heap.size wr u)) (by kernel_rfl) (by exact (show Below wr.heap.size wr _ from by repeat (first | assumption | exact Below.refl _ _ | refine belDrew ?_ | refine belAlloc ?_ _ | refine belStep ?_ (by assumption)))) (fun hHeld => ?_)
          refine wpAnyH_take (i := 0) (oi := ?oi_40) (v := ?v_40) ?hi_40 (by kernel_rfl) ?hf_40 ?hr_40 ?hQ_40 (Or.inl ⟨?hw_40, ?hy_40⟩) (by assumption) ?rest_40
          case hi_40 => ((simp only [List.getElem?_toArray, List.getElem?_cons_succ, List.getElem?_cons_zero]); rfl)
          case hf_40 => kernel_rfl
          case hr_40 => kernel_rfl
          case hQ_40 => exact fun _ _ _ h => h
          case hw_40 => rfl
          case hy_40 => ((intro w hSw; (try dsimp only at hSw); go_simp); all_goals (with_reducible rfl))
          try simp only [Act.put, List.setIfInBounds_toArray, List.set_cons_zero, List.set_cons_succ]
          refine wpAnyH_take (i := 1) (oi := ?oi_41) (v := ?v_41) ?hi_41 (by kernel_rfl) ?hf_41 ?hr_41 ?hQ_41 (Or.inl ⟨?hw_41, ?hy_41⟩) (by assumption) ?rest_41
          case hi_41 => ((simp only [List.getElem?_toArray, List.getElem?_cons_succ, List.getElem?_cons_zero]); rfl)
          case hf_41 => kernel_rfl
          case hr_41 => kernel_rfl
          case hQ_41 => exact fun _ _ _ h => h
          case hw_41 => rfl
          case hy_41 => ((intro w hSw; (try dsimp only at hSw); go_simp); all_goals (with_reducible rfl))
          try simp only [Act.put, List.setIfInBounds_toArray, List.set_cons_zero, List.set_cons_succ]
          refine wpAnyH_take (i := 2) (oi := ?oi_42) (v := ?v_42) ?hi_42 (by kernel_rfl) ?hf_42 ?hr_42 ?hQ_42 (Or.inl ⟨?hw_42, ?hy_42⟩) (by assumption) ?rest_42
          case hi_42 => ((simp only [List.getElem?_toArray, List.getElem?_cons_succ, List.getElem?_cons_zero]); rfl)
          case hf_42 => kernel_rfl
          case hr_42 => kernel_rfl
          case hQ_42 => exact fun _ _ _ h => h
          case hw_42 => rfl
          case hy_42 => ((intro w hSw; (try dsimp only at hSw); go_simp); all_goals (with_reducible rfl))
          try simp only [Act.put, List.setIfInBounds_toArray, List.set_cons_zero, List.set_cons_succ]
          refine wpAnyH_take (i := 3) (oi := ?oi_43) (v := ?v_43) ?hi_43 (by kernel_rfl) ?hf_43 ?hr_43 ?hQ_43 (Or.inl ⟨?hw_43, ?hy_43⟩) (by assumption) ?rest_43
          case hi_43 => ((simp only [List.getElem?_toArray, List.getElem?_cons_succ, List.getElem?_cons_zero]); rfl)
          case hf_43 => kernel_rfl
          case hr_43 => kernel_rfl
          case hQ_43 => exact fun _ _ _ h => h
          case hw_43 => rfl
          case hy_43 => ((intro w hSw; (try dsimp only at hSw); go_simp); all_goals (with_reducible rfl))
          try simp only [Act.put, List.setIfInBounds_toArray, List.set_cons_zero, List.set_cons_succ]
          refine wpAnyH_take (i := 4) (oi := ?oi_44) (v := ?v_44) ?hi_44 (by kernel_rfl) ?hf_44 ?hr_44 ?hQ_44 (Or.inl ⟨?hw_44, ?hy_44⟩) (by assumption) ?rest_44
          case hi_44 => ((simp only [List.getElem?_toArray, List.getElem?_cons_succ, List.getElem?_cons_zero]); rfl)
          case hf_44 => kernel_rfl
          case hr_44 => kernel_rfl
          case hQ_44 => exact fun _ _ _ h => h
          case hw_44 => rfl
          case hy_44 => ((intro w hSw; (try dsimp only at hSw); go_simp); all_goals (with_reducible rfl))
          try simp only [Act.put, List.setIfInBounds_toArray, List.set_cons_zero, List.set_cons_succ]
          refine wpAnyH_ready (rs := [5]) (by kernel_rfl) (by simp) ?_
          refine AllReadyH.cons (o := ?o1_45) ?hi_45 (fun K hK => ?rest_45) AllReadyH.nil
          case hi_45 => ((simp only [List.getElem?_toArray, List.getElem?_cons_succ, List.getElem?_cons_zero]); rfl)
          go_simp
          (first | (go_at_call 24; (with_reducible refine (CRE.out _ (belStep hbs hHeld)).mono ?_); rintro e u6 ⟨⟨b6, n6, rfl, ho6⟩, hb6⟩; have hh6 := belStep hHeld hb6) | (go_at_call 23; (with_reducible refine (sref_Same S b1 n1 b6 n6 _ (HSO2.out.later hHeld) (row_of_ownL ho6)).mono ?_); rintro e wq ⟨rfl, hbq⟩))
          try go_simp
          refine hK.out _ _ (by exact (show Below wr.heap.size wr _ from by repeat (first | assumption | exact Below.refl _ _ | refine belDrew ?_ | refine belAlloc ?_ _ | refine belStep ?_ (by assumption)))) (fun hHeld => ?_)
          clear hK K
          try simp only [Act.put, List.setIfInBounds_toArray, List.set_cons_zero, List.set_cons_succ]
          refine wpAnyH_ready (rs := [6]) (by kernel_rfl) (by simp) ?_
          refine AllReadyH.cons (o := ?o1_46) ?hi_46 (fun K hK => ?rest_46) AllReadyH.nil
          case hi_46 => ((simp only [List.getElem?_toArray, List.getElem?_cons_succ, List.getElem?_cons_zero]); rfl)
          go_simp
          (first | (go_at_call 24; (with_reducible refine (CRE.out _ (belStep hbs hHeld)).mono ?_); rintro e u6 ⟨⟨b6, n6, rfl, ho6⟩, hb6⟩; have hh6 := belStep hHeld hb6) | (go_at_call 23; (with_reducible refine (sref_Same S b1 n1 b6 n6 _ (HSO2.out.later hHeld) (row_of_ownL ho6)).mono ?_); rintro e wq ⟨rfl, hbq⟩))
          try go_simp
          refine hK.out _ _ (by exact (show Below wr.heap.size wr _ from by repeat (first | assumption | exact Below.refl _ _ | refine belDrew ?_ | refine belAlloc ?_ _ | refine belStep ?_ (by assumption)))) (fun hHeld => ?_)
          clear hK K
          try simp only [Act.put, List.setIfInBounds_toArray, List.set_cons_zero, List.set_cons_succ]
          refine wpAnyH_take (i := 7) (oi := ?oi_47) (v := ?v_47) ?hi_47 (by kernel_rfl) ?hf_47 ?hr_47 ?hQ_47 (Or.inl ⟨?hw_47, ?hy_47⟩) (by assumption) ?rest_47
          case hi_47 => ((simp only [List.getElem?_toArray, List.getElem?_cons_succ, List.getElem?_cons_zero]); rfl)
          case hf_47 => kernel_rfl
          case hr_47 => kernel_rfl
          case hQ_47 => exact fun _ _ _ h => h
          case hw_47 => rfl
          case hy_47 => ((intro w hSw; (try dsimp only at hSw); go_simp); all_goals (with_reducible rfl))
          try simp only [Act.put, List.setIfInBounds_toArray, List.set_cons_zero, List.set_cons_succ]
          refine wpAnyH_take (i := 8) (oi := ?oi_48) (v := ?v_48) ?hi_48 (by kernel_rfl) ?hf_48 ?hr_48 ?hQ_48 (Or.inl ⟨?hw_48, ?hy_48⟩) (by assumption) ?rest_48
          case hi_48 => ((simp only [List.getElem?_toArray, List.getElem?_cons_succ, List.getElem?_cons_zero]); rfl)
          case hf_48 => kernel_rfl
          case hr_48 => kernel_rfl
          case hQ_48 => exact fun _ _ _ h => h
          case hw_48 => rfl
          case hy_48 => ((intro w hSw; (try dsimp only at hSw); go_simp); all_goals (with_reducible rfl))
          try simp only [Act.put, List.setIfInBounds_toArray, List.set_cons_zero, List.set_cons_succ]
          refine wpAnyH_done (by kernel_rfl) ?_ _
          have hbel := hHeld
          go_wp2
          go_ret
          exact ⟨rfl, belStep hw hbel⟩

set_option maxRecDepth 100000 in
theorem lifted (os : Os) (started : os.Started) (H : Type) (enc : TypeId × Value → H) :
    ReturnsInHanded {} Try.checked os 9 .any (Rows.sampleKeepsSpec.pre6 enc Try.prog Try.f9 Rows.sampleKeepsRow.domain false) (Rows.sampleKeepsSpec.post enc Try.prog Try.f9 false true false false) := by
  refine returnsInHanded_of_change (C := Try.checked) own started (by kernel_rfl) Try.func9
    (ChangeSpec.witness6 (enc := enc) (C := Try.checked) false ⟨#[], #[.agg #[.int .i64 0, .float .f64 0, .float .f64 0, .float .f64 0, .slice none 0 0]], []⟩ 8 (by kernel_rfl) (by kernel_rfl) (by kernel_rfl) (by kernel_rfl)) ?_
  intro W base args ds gs before hval0 hW hcnd _
  have hval : ∀ (j : Nat) t v, Try.f9.params[j]? = some t → args[j]? = some v → Value.okWide Try.prog W .any base t v := hval0
  have hW' := hW
  obtain ⟨p, q, hA0, hV, rfl, hfz, hnd⟩ := hW
  have hA : DataW.TrodAll enc Try.prog W 0 (fun _ => true) true Try.f9.params.toList args.toList ds p := hA0
  rw [Try.params9] at hA hval
  obtain ⟨v0, vs0, d0, ds0, p0, q0, hargs, rfl, rfl, h0, r0⟩ := trodAll_cons hA
  obtain ⟨rfl, rfl, rfl⟩ := trodAll_nil r0
  obtain rfl : args = #[v0] := by cases args; simp_all
  obtain ⟨rfl, rfl⟩ := trodVars_none hV
  have k0 := h0
  have lt0 : ∀ x ∈ p0, x.block < W.heap.size := by obtain ⟨m, hm⟩ := k0; exact DataW.trod_lt m _ _ _ hm
  have o0 : Value.okWide Try.prog W .any base 26 v0 := hval 0 26 v0 rfl rfl
  obtain ⟨x0, a0, len0, cap0, L0, rfl, fa0, fb0, fc0, fd0⟩ := open_raw o0 h0
  clear hA0 hval0
  refine (walk x0 a0 len0 cap0 L0 W fa0 fb0 fc0 fd0).mono fun e W' ⟨he, bel⟩ => ?_
  subst he
  exact ⟨_, rfl, _, _, _, [], _, [], hW', trodAll_mk1 (shut_bool Try.underlying4 _), (trodAll_cons_mk (Below.trod laidOut (by kernel_rfl) (of_decide_eq_true (by kernel_rfl)) k0 bel lt0) trodAll_mk0), rfl, bel.frame _, fun h => by cases h⟩

theorem over : Rows.sampleKeepsRow.holds Try.pinned (OpenSpec.ofChange Rows.sampleKeepsSpec) :=
  OpenClaim.holds_of_wide 9 Try.f9 rfl rfl rfl rfl rfl rfl rfl ⟨rfl, rfl, rfl, rfl, rfl⟩ rfl rfl rfl rfl rfl (by kernel_rfl) Try.func9 (by kernel_rfl)
    (of_decide_eq_true (by kernel_rfl)) (by unfold Func.isWrapper; first | (rw [if_pos (by decide +kernel)]; kernel_rfl) | (rw [if_neg (by decide +kernel)]; exact ⟨rfl, rfl⟩))
    (fun os started H enc _ => lifted os started H enc)

/-- The statement. -/
theorem proved : Rows.SampleKeepsSaid := over
#print axioms proved

end Go.Proofs.Ytcgpmihjodolmaa.sampleKeeps
