
/- RankFirst holds for all its arguments. No conditions. -/
import Derived.Test.YtcgpmihjodolmaaAwake20
import Derived.Test.YtcgpmihjodolmaaRkLM
namespace Go.Proofs.Ytcgpmihjodolmaa.rankFirst
open Go.ChangeShapes Go.WideShapes Go.ChangeAt Go.RowKit
open Go.ChangeMaps (open_string shut_string)
set_option linter.unusedVariables false
set_option linter.unusedSimpArgs false
theorem sig_any (n : Int) (w : World) (hn : 0 ≤ n ∧ n ≤ 255) : Calls Try.prog 38 #[.int .u8 n] w fun e w' => (∃ g : Nat, g < 3 ∧ e = .returned (.int .i64 (g : Int))) ∧ w = w' := by
  obtain ⟨h0, h1⟩ := hn
  have hne : ¬ ((3 : Int) = 0) := by omega
  obtain ⟨g, hg⟩ : ∃ g : Nat, n % 3 = (g : Int) := ⟨(n % 3).toNat, by omega⟩
  have hg3 : g < 3 := by omega
  go_enter Try.func38, Try.ntmps38
  go_wp2
  go_ret
  exact ⟨⟨g, hg3, rfl⟩, rfl⟩
theorem readF_bd (n : Nat) : 0 ≤ readF n ∧ readF n ≤ 9223372036854775807 := by
  unfold readF
  split
  · omega
  · split
    · omega
    · rename_i h
      have := whole_lt (frung n) (by omega)
      omega
theorem readL_ok (L : List UsgV) : ∀ u ∈ readL L, UseOK u := by
  intro u hu
  unfold readL sortU at hu
  obtain ⟨v, _, rfl⟩ := List.mem_map.1 (sortBy_mem.1 hu)
  exact ⟨readF_bd _, readF_bd _, readF_bd _⟩
theorem rread2 {r : RawV} {a : Option Addr} {len cap : Nat} {L : List UsgV} {w : World} {S : SmpV} (hl : L.length = len) (hr : r.ok) (hok : ∀ x ∈ L, x.ok) (hR : Row w a len cap 4 (L.flatMap UsgV.cells)) (hq : rightR r L = true) (hS : readOK r L = S) :
    Calls Try.prog 24 #[.agg #[.int .i64 r.t, .float .f64 r.x, .float .f64 r.y, .float .f64 r.z, .slice a len cap]] w fun e w' => (∃ b n, e = .returned (.agg #[.int .i64 S.t, .int .i64 S.a, .int .i64 S.b, .int .i64 S.c, .slice b S.use.length n]) ∧ OwnR w' w.heap.size 51 4 (.slice b S.use.length n) S.use.length (S.use.flatMap UseV.cells)) ∧ Below w.heap.size w w' := hS ▸ sref_Read r a len cap L w hl hr hok hR hq
set_option maxRecDepth 100000 in
set_option maxHeartbeats 16000000 in
theorem walk (n : Int) (ta : Option Addr) (tlen tcap : Nat) (T : List EntV) (r : RawV) (a : Option Addr) (len cap : Nat) (L : List UsgV) (w : World) (hn : 0 ≤ n ∧ n ≤ 255) (htl : T.length = tlen) (htok : ∀ x ∈ T, x.ok) (hTR : Row w ta tlen tcap 12 (T.flatMap EntV.cells)) (hr : r.ok) (hl : L.length = len) (hok : ∀ x ∈ L, x.ok) (hR : Row w a len cap 4 (L.flatMap UsgV.cells)) :
    Calls Try.prog 13 #[.int .u8 n, .slice ta tlen tcap, .agg #[.int .i64 r.t, .float .f64 r.x, .float .f64 r.y, .float .f64 r.z, .slice a len cap]] w fun e w' => e = .returned (.bool true) ∧ Below w.heap.size w w' := by
  have hw : Below w.heap.size w w := Below.refl _ _
  have hbel := hw
  have hbd_t : tlen ≤ tcap ∧ tcap ≤ 9223372036854775807 := by obtain ⟨_, h1, h2, _⟩ := hTR; unfold maxLen at h2; exact ⟨h1, h2⟩
  obtain ⟨hbd1_t, hbd2_t⟩ := hbd_t
  have hbd_a : len ≤ cap ∧ cap ≤ 9223372036854775807 := by obtain ⟨_, h1, h2, _⟩ := hR; unfold maxLen at h2; exact ⟨h1, h2⟩
  obtain ⟨hbd1_a, hbd2_a⟩ := hbd_a
  have HTR := Lib.hid hTR
  have HTO := Lib.hid htok
  have HR := Lib.hid hR
  have HOK := Lib.hid hok
  have HRO := Lib.hid hr
  have HN := Lib.hid hn
  clear hR hok hr hn hTR htok
  subst hl htl
  have CFW := Lib.hid (fun u (hu : Below w.heap.size w u) => sref_Few r a L.length cap L u rfl (HR.out.later hu))
  have CRR := Lib.hid (fun u (hu : Below w.heap.size w u) => sref_Right r a L.length cap L u rfl HRO.out HOK.out (HR.out.later hu))
  have CFT := Lib.hid (fun v (hv : Below w.heap.size w v) => rref_Fit ta T.length tcap T v rfl HTO.out (HTR.out.later hv))
  obtain ⟨rr, hrr⟩ : ∃ b, rightR r L = b := ⟨_, rfl⟩
  have HRR := Lib.hid hrr
  rw [hrr] at CRR
  clear hrr
  have CSG := Lib.hid (fun u => sig_any n u HN.out)
  rcases rr with _ | _
  · go_enter Try.func13, Try.ntmps13
    go_upto_region 1 with fail
    have rw0 : (w.alloc (.cells #[.int .i64 r.t, .float .f64 r.x, .float .f64 r.y, .float .f64 r.z, .slice a L.length cap] 26)).cell? ⟨w.heap.size, 0, none⟩ = some (.int .i64 r.t) := by first | (simp; done) | (rw [World.cell?_alloc_at _ _ _ _ (by simp)]; rfl) | (rw [World.cell?_alloc_past _ _ _ (by simp <;> omega), World.cell?_alloc_at _ _ _ _ (by simp)]; rfl) | (rw [World.cell?_alloc_past _ _ _ (by simp <;> omega), World.cell?_alloc_past _ _ _ (by simp <;> omega), World.cell?_alloc_at _ _ _ _ (by simp)]; rfl)
    have rw1 : (w.alloc (.cells #[.int .i64 r.t, .float .f64 r.x, .float .f64 r.y, .float .f64 r.z, .slice a L.length cap] 26)).cell? ⟨w.heap.size, 1, none⟩ = some (.float .f64 r.x) := by first | (simp; done) | (rw [World.cell?_alloc_at _ _ _ _ (by simp)]; rfl) | (rw [World.cell?_alloc_past _ _ _ (by simp <;> omega), World.cell?_alloc_at _ _ _ _ (by simp)]; rfl) | (rw [World.cell?_alloc_past _ _ _ (by simp <;> omega), World.cell?_alloc_past _ _ _ (by simp <;> omega), World.cell?_alloc_at _ _ _ _ (by simp)]; rfl)
    have rw2 : (w.alloc (.cells #[.int .i64 r.t, .float .f64 r.x, .float .f64 r.y, .float .f64 r.z, .slice a L.length cap] 26)).cell? ⟨w.heap.size, 2, none⟩ = some (.float .f64 r.y) := by first | (simp; done) | (rw [World.cell?_alloc_at _ _ _ _ (by simp)]; rfl) | (rw [World.cell?_alloc_past _ _ _ (by simp <;> omega), World.cell?_alloc_at _ _ _ _ (by simp)]; rfl) | (rw [World.cell?_alloc_past _ _ _ (by simp <;> omega), World.cell?_alloc_past _ _ _ (by simp <;> omega), World.cell?_alloc_at _ _ _ _ (by simp)]; rfl)
    have rw3 : (w.alloc (.cells #[.int .i64 r.t, .float .f64 r.x, .float .f64 r.y, .float .f64 r.z, .slice a L.length cap] 26)).cell? ⟨w.heap.size, 3, none⟩ = some (.float .f64 r.z) := by first | (simp; done) | (rw [World.cell?_alloc_at _ _ _ _ (by simp)]; rfl) | (rw [World.cell?_alloc_past _ _ _ (by simp <;> omega), World.cell?_alloc_at _ _ _ _ (by simp)]; rfl) | (rw [World.cell?_alloc_past _ _ _ (by simp <;> omega), World.cell?_alloc_past _ _ _ (by simp <;> omega), World.cell?_alloc_at _ _ _ _ (by simp)]; rfl)
    have rw4 : (w.alloc (.cells #[.int .i64 r.t, .float .f64 r.x, .float .f64 r.y, .float .f64 r.z, .slice a L.length cap] 26)).cell? ⟨w.heap.size, 4, none⟩ = some (.slice a L.length cap) := by first | (simp; done) | (rw [World.cell?_alloc_at _ _ _ _ (by simp)]; rfl) | (rw [World.cell?_alloc_past _ _ _ (by simp <;> omega), World.cell?_alloc_at _ _ _ _ (by simp)]; rfl) | (rw [World.cell?_alloc_past _ _ _ (by simp <;> omega), World.cell?_alloc_past _ _ _ (by simp <;> omega), World.cell?_alloc_at _ _ _ _ (by simp)]; rfl)
    have hb2 := (by repeat (first | exact hbel | refine belAlloc ?_ _ | refine belDrew ?_ | refine belSet ?_ _ _ (by simp)) : Below w.heap.size w (w.alloc (.cells #[.int .i64 r.t, .float .f64 r.x, .float .f64 r.y, .float .f64 r.z, .slice a L.length cap] 26)))
    replace hw := belStep hw hb2
    clear hb2 hbel
    generalize w.alloc (.cells #[.int .i64 r.t, .float .f64 r.x, .float .f64 r.y, .float .f64 r.z, .slice a L.length cap] 26) = W1 at *
    replace rw0 := keep rw0
    replace rw1 := keep rw1
    replace rw2 := keep rw2
    replace rw3 := keep rw3
    replace rw4 := keep rw4
    have hbel : Below W1.heap.size W1 W1 := Below.refl _ _
    skip
    go_wp2_with (first | (go_at_call 35; (with_reducible refine (awake20 _).mono ?_); rintro e w1 ⟨rfl, hb1⟩; replace hbel := belStep hbel hb1; clear hb1) | (go_at_call 45; (with_reducible refine (CFT.out _ (belStep hw hbel)).mono ?_); rintro e w3 ⟨⟨b, rfl, hq⟩, hb3⟩; replace hbel := belStep hbel hb3; clear hb3; have HT := Lib.hid hq; clear hq; rcases b with _ | _) | (go_at_call 22; (with_reducible refine (CRR.out _ (belStep hw hbel)).mono ?_); rintro e w1 ⟨rfl, hb1⟩; replace hbel := belStep hbel hb1; clear hb1) | (go_at_call 19; (with_reducible refine (CFW.out _ (belStep hw hbel)).mono ?_); rintro e u2 ⟨⟨fb, rfl, hq⟩, hb2⟩; replace hbel := belStep hbel hb2; clear hb2; have HFW := Lib.hid hq; clear hq; rcases fb with _ | _))
    all_goals
      go_ret
      exact ⟨rfl, belStep hw hbel⟩
  obtain ⟨S, hS⟩ : ∃ S, readOK r L = S := ⟨_, rfl⟩
  have HUO := Lib.hid (show ∀ u ∈ S.use, UseOK u by rw [← hS]; exact readL_ok L)
  have CRE := Lib.hid (fun u (hu : Below w.heap.size w u) => rread2 rfl HRO.out HOK.out (HR.out.later hu) HRR.out hS)
  clear hS
  go_enter Try.func13, Try.ntmps13
  go_upto_region 1 with fail
  have rw0 : (w.alloc (.cells #[.int .i64 r.t, .float .f64 r.x, .float .f64 r.y, .float .f64 r.z, .slice a L.length cap] 26)).cell? ⟨w.heap.size, 0, none⟩ = some (.int .i64 r.t) := by first | (simp; done) | (rw [World.cell?_alloc_at _ _ _ _ (by simp)]; rfl) | (rw [World.cell?_alloc_past _ _ _ (by simp <;> omega), World.cell?_alloc_at _ _ _ _ (by simp)]; rfl) | (rw [World.cell?_alloc_past _ _ _ (by simp <;> omega), World.cell?_alloc_past _ _ _ (by simp <;> omega), World.cell?_alloc_at _ _ _ _ (by simp)]; rfl)
  have rw1 : (w.alloc (.cells #[.int .i64 r.t, .float .f64 r.x, .float .f64 r.y, .float .f64 r.z, .slice a L.length cap] 26)).cell? ⟨w.heap.size, 1, none⟩ = some (.float .f64 r.x) := by first | (simp; done) | (rw [World.cell?_alloc_at _ _ _ _ (by simp)]; rfl) | (rw [World.cell?_alloc_past _ _ _ (by simp <;> omega), World.cell?_alloc_at _ _ _ _ (by simp)]; rfl) | (rw [World.cell?_alloc_past _ _ _ (by simp <;> omega), World.cell?_alloc_past _ _ _ (by simp <;> omega), World.cell?_alloc_at _ _ _ _ (by simp)]; rfl)
  have rw2 : (w.alloc (.cells #[.int .i64 r.t, .float .f64 r.x, .float .f64 r.y, .float .f64 r.z, .slice a L.length cap] 26)).cell? ⟨w.heap.size, 2, none⟩ = some (.float .f64 r.y) := by first | (simp; done) | (rw [World.cell?_alloc_at _ _ _ _ (by simp)]; rfl) | (rw [World.cell?_alloc_past _ _ _ (by simp <;> omega), World.cell?_alloc_at _ _ _ _ (by simp)]; rfl) | (rw [World.cell?_alloc_past _ _ _ (by simp <;> omega), World.cell?_alloc_past _ _ _ (by simp <;> omega), World.cell?_alloc_at _ _ _ _ (by simp)]; rfl)
  have rw3 : (w.alloc (.cells #[.int .i64 r.t, .float .f64 r.x, .float .f64 r.y, .float .f64 r.z, .slice a L.length cap] 26)).cell? ⟨w.heap.size, 3, none⟩ = some (.float .f64 r.z) := by first | (simp; done) | (rw [World.cell?_alloc_at _ _ _ _ (by simp)]; rfl) | (rw [World.cell?_alloc_past _ _ _ (by simp <;> omega), World.cell?_alloc_at _ _ _ _ (by simp)]; rfl) | (rw [World.cell?_alloc_past _ _ _ (by simp <;> omega), World.cell?_alloc_past _ _ _ (by simp <;> omega), World.cell?_alloc_at _ _ _ _ (by simp)]; rfl)
  have rw4 : (w.alloc (.cells #[.int .i64 r.t, .float .f64 r.x, .float .f64 r.y, .float .f64 r.z, .slice a L.length cap] 26)).cell? ⟨w.heap.size, 4, none⟩ = some (.slice a L.length cap) := by first | (simp; done) | (rw [World.cell?_alloc_at _ _ _ _ (by simp)]; rfl) | (rw [World.cell?_alloc_past _ _ _ (by simp <;> omega), World.cell?_alloc_at _ _ _ _ (by simp)]; rfl) | (rw [World.cell?_alloc_past _ _ _ (by simp <;> omega), World.cell?_alloc_past _ _ _ (by simp <;> omega), World.cell?_alloc_at _ _ _ _ (by simp)]; rfl)
  have hb2 := (by repeat (first | exact hbel | refine belAlloc ?_ _ | refine belDrew ?_ | refine belSet ?_ _ _ (by simp)) : Below w.heap.size w (w.alloc (.cells #[.int .i64 r.t, .float .f64 r.x, .float .f64 r.y, .float .f64 r.z, .slice a L.length cap] 26)))
  replace hw := belStep hw hb2
  clear hb2 hbel
  generalize w.alloc (.cells #[.int .i64 r.t, .float .f64 r.x, .float .f64 r.y, .float .f64 r.z, .slice a L.length cap] 26) = W1 at *
  replace rw0 := keep rw0
  replace rw1 := keep rw1
  replace rw2 := keep rw2
  replace rw3 := keep rw3
  replace rw4 := keep rw4
  have hbel : Below W1.heap.size W1 W1 := Below.refl _ _
  skip
  go_upto_region 3 with (first | (go_at_call 35; (with_reducible refine (awake20 _).mono ?_); rintro e w1 ⟨rfl, hb1⟩; replace hbel := belStep hbel hb1; clear hb1) | (go_at_call 45; (with_reducible refine (CFT.out _ (belStep hw hbel)).mono ?_); rintro e w3 ⟨⟨b, rfl, hq⟩, hb3⟩; replace hbel := belStep hbel hb3; clear hb3; have HT := Lib.hid hq; clear hq; rcases b with _ | _) | (go_at_call 22; (with_reducible refine (CRR.out _ (belStep hw hbel)).mono ?_); rintro e w1 ⟨rfl, hb1⟩; replace hbel := belStep hbel hb1; clear hb1) | (go_at_call 19; (with_reducible refine (CFW.out _ (belStep hw hbel)).mono ?_); rintro e u2 ⟨⟨fb, rfl, hq⟩, hb2⟩; replace hbel := belStep hbel hb2; clear hb2; have HFW := Lib.hid hq; clear hq; rcases fb with _ | _))
  · go_ret
    exact ⟨rfl, belStep hw hbel⟩
  · go_ret
    exact ⟨rfl, belStep hw hbel⟩
  clear CFW HFW CRR CFT
  replace HT := Lib.hid (HT.out (by trivial))
  have hT64 : T.length ≤ 64 := HT.out.len
  go_upto_region 4 with (go_at_call 38; (with_reducible refine (CSG.out _).mono ?_); rintro e wg ⟨⟨g, hg, rfl⟩, rfl⟩)
  go_upto_region 5 with (go_at_call 24; (with_reducible refine (CRE.out _ (belStep hw hbel)).mono ?_); rintro e u1 ⟨⟨b1, n1, rfl, ho1⟩, hb1⟩; replace hbel := belStep hbel hb1)
  have HX1 := Lib.hid ((row_of_ownL ho1).later (belAlloc (Below.refl u1.heap.size u1) (.cells #[.int .i64 S.t, .int .i64 S.a, .int .i64 S.b, .int .i64 S.c, .slice b1 S.use.length n1] 32)))
  clear ho1 hb1
  have ss0 : (u1.alloc (.cells #[.int .i64 S.t, .int .i64 S.a, .int .i64 S.b, .int .i64 S.c, .slice b1 S.use.length n1] 32)).cell? ⟨u1.heap.size, 0, none⟩ = some (.int .i64 S.t) := by first | (simp; done) | (rw [World.cell?_alloc_at _ _ _ _ (by simp)]; rfl) | (rw [World.cell?_alloc_past _ _ _ (by simp <;> omega), World.cell?_alloc_at _ _ _ _ (by simp)]; rfl) | (rw [World.cell?_alloc_past _ _ _ (by simp <;> omega), World.cell?_alloc_past _ _ _ (by simp <;> omega), World.cell?_alloc_at _ _ _ _ (by simp)]; rfl)
  have ss1 : (u1.alloc (.cells #[.int .i64 S.t, .int .i64 S.a, .int .i64 S.b, .int .i64 S.c, .slice b1 S.use.length n1] 32)).cell? ⟨u1.heap.size, 1, none⟩ = some (.int .i64 S.a) := by first | (simp; done) | (rw [World.cell?_alloc_at _ _ _ _ (by simp)]; rfl) | (rw [World.cell?_alloc_past _ _ _ (by simp <;> omega), World.cell?_alloc_at _ _ _ _ (by simp)]; rfl) | (rw [World.cell?_alloc_past _ _ _ (by simp <;> omega), World.cell?_alloc_past _ _ _ (by simp <;> omega), World.cell?_alloc_at _ _ _ _ (by simp)]; rfl)
  have ss2 : (u1.alloc (.cells #[.int .i64 S.t, .int .i64 S.a, .int .i64 S.b, .int .i64 S.c, .slice b1 S.use.length n1] 32)).cell? ⟨u1.heap.size, 2, none⟩ = some (.int .i64 S.b) := by first | (simp; done) | (rw [World.cell?_alloc_at _ _ _ _ (by simp)]; rfl) | (rw [World.cell?_alloc_past _ _ _ (by simp <;> omega), World.cell?_alloc_at _ _ _ _ (by simp)]; rfl) | (rw [World.cell?_alloc_past _ _ _ (by simp <;> omega), World.cell?_alloc_past _ _ _ (by simp <;> omega), World.cell?_alloc_at _ _ _ _ (by simp)]; rfl)
  have ss3 : (u1.alloc (.cells #[.int .i64 S.t, .int .i64 S.a, .int .i64 S.b, .int .i64 S.c, .slice b1 S.use.length n1] 32)).cell? ⟨u1.heap.size, 3, none⟩ = some (.int .i64 S.c) := by first | (simp; done) | (rw [World.cell?_alloc_at _ _ _ _ (by simp)]; rfl) | (rw [World.cell?_alloc_past _ _ _ (by simp <;> omega), World.cell?_alloc_at _ _ _ _ (by simp)]; rfl) | (rw [World.cell?_alloc_past _ _ _ (by simp <;> omega), World.cell?_alloc_past _ _ _ (by simp <;> omega), World.cell?_alloc_at _ _ _ _ (by simp)]; rfl)
  have ss4 : (u1.alloc (.cells #[.int .i64 S.t, .int .i64 S.a, .int .i64 S.b, .int .i64 S.c, .slice b1 S.use.length n1] 32)).cell? ⟨u1.heap.size, 4, none⟩ = some (.slice b1 S.use.length n1) := by first | (simp; done) | (rw [World.cell?_alloc_at _ _ _ _ (by simp)]; rfl) | (rw [World.cell?_alloc_past _ _ _ (by simp <;> omega), World.cell?_alloc_at _ _ _ _ (by simp)]; rfl) | (rw [World.cell?_alloc_past _ _ _ (by simp <;> omega), World.cell?_alloc_past _ _ _ (by simp <;> omega), World.cell?_alloc_at _ _ _ _ (by simp)]; rfl)
  have hb2 := (by repeat (first | exact hbel | refine belAlloc ?_ _ | refine belDrew ?_ | refine belSet ?_ _ _ (by simp)) : Below W1.heap.size W1 (u1.alloc (.cells #[.int .i64 S.t, .int .i64 S.a, .int .i64 S.b, .int .i64 S.c, .slice b1 S.use.length n1] 32)))
  replace rw0 := keepOnP rw0 hb2
  replace rw1 := keepOnP rw1 hb2
  replace rw2 := keepOnP rw2 hb2
  replace rw3 := keepOnP rw3 hb2
  replace rw4 := keepOnP rw4 hb2
  replace hw := belStep hw hb2
  clear hb2 hbel
  generalize u1.alloc (.cells #[.int .i64 S.t, .int .i64 S.a, .int .i64 S.b, .int .i64 S.c, .slice b1 S.use.length n1] 32) = W2 at *
  replace ss0 := keep ss0
  replace ss1 := keep ss1
  replace ss2 := keep ss2
  replace ss3 := keep ss3
  replace ss4 := keep ss4
  generalize u1.heap.size = M1 at *
  have hbel : Below W2.heap.size W2 W2 := Below.refl _ _
  clear u1
  replace HX1 := Lib.hid (fun u (hu : Below W2.heap.size W2 u) => HX1.out.later hu)
  have HTL := Lib.hid (fun u (hu : Below W2.heap.size W2 u) => HTR.out.later (belStep hw hu))
  clear CSG CRE
  rcases first_facts (g := g) (U := S.use) HT.out with ⟨h0, hno⟩ | ⟨A, z, hA, hmz, he, hh, hall⟩
  · have CFI := Lib.hid (show ∀ u : World, Below W2.heap.size W2 u → Calls Try.prog 47 #[.int .i64 g, .slice ta T.length tcap, .agg #[.int .i64 S.t, .int .i64 S.a, .int .i64 S.b, .int .i64 S.c, .slice b1 S.use.length n1]] u fun e w' => e = .returned (.tuple #[.string ⟨#[]⟩, .bool false]) ∧ Below u.heap.size u w' from fun u hu => by have h := rk_First g g ta T.length tcap T S.t S.a S.b S.c b1 S.use.length n1 S.use u hg rfl HT.out HTO.out rfl (HTL.out u hu) HUO.out rfl (HX1.out u hu); rw [h0] at h; exact h)
    have HNO := Lib.hid hno
    clear hno h0
    go_upto_region 6 with (go_at_call 47; (with_reducible refine (CFI.out _ hbel).mono ?_); rintro e w1 ⟨rfl, hb1⟩; replace hbel := belStep hbel hb1; clear hb1)
    have HB := Lib.hid hbel
    clear hbel CFI
    go_wp2
    go_loopw [11, 12, 13] (fun av sv i wr => ∃ k : Nat, k ≤ T.length ∧ i = .int .i64 k ∧ av = .int .i64 (-1) ∧ sv = .bool false ∧ Below W2.heap.size W2 wr) (fun _ _ i _ => T.length - (intOf i).toNat)
    case atStart => exact ⟨0, Nat.zero_le _, rfl, rfl, rfl, HB.out⟩
    case round =>
      obtain ⟨k, hk, rfl, rfl, rfl, hbel⟩ := hrel
      clear HB
      by_cases hlt : k < T.length
      · obtain ⟨x, hx⟩ : ∃ x, T[k]? = some x := ⟨T[k], List.getElem?_eq_getElem hlt⟩
        obtain ⟨bc, oc, ec, _, hcc⟩ := (HTL.out _ (Below.refl _ _)).elem EntV.cells_len (by omega) hx
        subst ec
        have c0 := keep (hcc 0 _ rfl)
        have c1 := keep (hcc 1 _ rfl)
        have c2 := keep (hcc 2 _ rfl)
        have c3 := keep (hcc 3 _ rfl)
        have c4 := keep (hcc 4 _ rfl)
        have c5 := keep (hcc 5 _ rfl)
        have c6 := keep (hcc 6 _ rfl)
        have c7 := keep (hcc 7 _ rfl)
        have c8 := keep (hcc 8 _ rfl)
        have c9 := keep (hcc 9 _ rfl)
        have c10 := keep (hcc 10 _ rfl)
        have c11 := keep (hcc 11 _ rfl)
        rw [Nat.add_zero] at c0
        have hd : decide ((k : Int) < (T.length : Int)) = true := decide_eq_true (by omega)
        have hki : (k : Int) < (T.length : Int) := by omega
        have hk0 : (0 : Int) ≤ (k : Int) := by omega
        obtain ⟨cr, hcr⟩ : ∃ b, x.pod.crit = b := ⟨_, rfl⟩
        obtain ⟨ph, hph⟩ : ∃ b, x.phase = b := ⟨_, rfl⟩
        rw [hcr] at c2
        rw [hph] at c11
        have hpb := (HT.out.right x (List.mem_of_getElem? hx)).2
        rw [hph] at hpb
        have hm := HNO.out x (List.mem_of_getElem? hx)
        have key : cr = true ∨ (cr = false ∧ ph = 3) := by
          unfold mayE at hm
          rw [hcr, hph] at hm
          cases cr with
          | true => exact .inl rfl
          | false => simp at hm; exact .inr ⟨rfl, by omega⟩
        clear hm hcr hph hpb hx hcc
        rcases key with rfl | ⟨rfl, rfl⟩
        all_goals
          go_wp2
          all_goals
            go_roundw
            case rel => exact ⟨k + 1, by omega, by push_cast; rfl, rfl, rfl, hbel⟩
            case measure => simp [intOf] <;> omega
      · obtain rfl : k = T.length := by omega
        have hd : decide ((T.length : Int) < (T.length : Int)) = false := decide_eq_false (by omega)
        have hki : ¬ (T.length : Int) < (T.length : Int) := by omega
        go_wp2
        go_wp2
        go_loopw [15] (fun i wr => ∃ k : Nat, i = .int .i64 k ∧ k ≤ T.length ∧ Below W2.heap.size W2 wr) (fun i _ => T.length - (intOf i).toNat)
        case atStart => exact ⟨0, rfl, Nat.zero_le _, hbel⟩
        case round =>
          obtain ⟨k, rfl, hk2, hbel⟩ := hrel
          by_cases h2 : (k : Int) < (T.length : Int)
          all_goals
            go_wp2
            go_ret
            exact ⟨rfl, belStep hw hbel⟩
  · have CFI := Lib.hid (show ∀ u : World, Below W2.heap.size W2 u → Calls Try.prog 47 #[.int .i64 g, .slice ta T.length tcap, .agg #[.int .i64 S.t, .int .i64 S.a, .int .i64 S.b, .int .i64 S.c, .slice b1 S.use.length n1]] u fun e w' => e = .returned (.tuple #[.string z.pod.id, .bool true]) ∧ Below u.heap.size u w' from fun u hu => by have h := rk_First g g ta T.length tcap T S.t S.a S.b S.c b1 S.use.length n1 S.use u hg rfl HT.out HTO.out rfl (HTL.out u hu) HUO.out rfl (HX1.out u hu); rw [hh, he] at h; exact h)
    have HA := Lib.hid hA
    have hAl : A < T.length := (List.getElem?_eq_some_iff.1 hA).1
    have HMZ := Lib.hid hmz
    have HALL := Lib.hid hall
    clear hA hmz he hh hall
    go_upto_region 6 with (go_at_call 47; (with_reducible refine (CFI.out _ hbel).mono ?_); rintro e w1 ⟨rfl, hb1⟩; replace hbel := belStep hbel hb1; clear hb1)
    have HB := Lib.hid hbel
    clear hbel CFI
    go_wp2
    go_loopw [11, 12, 13] (fun av sv i wr => ∃ (k : Nat) (sb : Bool), k ≤ T.length ∧ i = .int .i64 k ∧ av = .int .i64 (plF A k) ∧ sv = .bool sb ∧ Hid (A < k → sb = true) ∧ Below W2.heap.size W2 wr) (fun _ _ i _ => T.length - (intOf i).toNat)
    case atStart => exact ⟨0, false, Nat.zero_le _, rfl, rfl, rfl, Lib.hid (fun h => absurd h (by omega)), HB.out⟩
    case round =>
      obtain ⟨k, sb, hk, rfl, rfl, rfl, HSB, hbel⟩ := hrel
      clear HB
      by_cases hlt : k < T.length
      · obtain ⟨x, hx⟩ : ∃ x, T[k]? = some x := ⟨T[k], List.getElem?_eq_getElem hlt⟩
        obtain ⟨bc, oc, ec, _, hcc⟩ := (HTL.out _ (Below.refl _ _)).elem EntV.cells_len (by omega) hx
        subst ec
        have c0 := keep (hcc 0 _ rfl)
        have c1 := keep (hcc 1 _ rfl)
        have c2 := keep (hcc 2 _ rfl)
        have c3 := keep (hcc 3 _ rfl)
        have c4 := keep (hcc 4 _ rfl)
        have c5 := keep (hcc 5 _ rfl)
        have c6 := keep (hcc 6 _ rfl)
        have c7 := keep (hcc 7 _ rfl)
        have c8 := keep (hcc 8 _ rfl)
        have c9 := keep (hcc 9 _ rfl)
        have c10 := keep (hcc 10 _ rfl)
        have c11 := keep (hcc 11 _ rfl)
        rw [Nat.add_zero] at c0
        have hd : decide ((k : Int) < (T.length : Int)) = true := decide_eq_true (by omega)
        have hki : (k : Int) < (T.length : Int) := by omega
        have hk0 : (0 : Int) ≤ (k : Int) := by omega
        obtain ⟨cr, hcr⟩ : ∃ b, x.pod.crit = b := ⟨_, rfl⟩
        obtain ⟨ph, hph⟩ : ∃ b, x.phase = b := ⟨_, rfl⟩
        rw [hcr] at c2
        rw [hph] at c11
        have hpb := (HT.out.right x (List.mem_of_getElem? hx)).2
        rw [hph] at hpb
        by_cases hkA : A = k
        · subst hkA
          obtain rfl : x = z := by have h := HA.out; rw [hx] at h; exact Option.some.inj h
          have hm := HMZ.out
          have key : cr = false ∧ ((ph != 3) = true ∧ ¬ ph = 3) := by
            unfold mayE at hm
            rw [hcr, hph] at hm
            cases cr with
            | true => simp at hm
            | false => simp at hm; exact ⟨rfl, by rcases hm with h | h <;> (subst h; rfl), by omega⟩
          obtain ⟨rfl, hp3, hp4⟩ := key
          have hself : (x.pod.id.toList == x.pod.id.toList) = true := beq_self_eq_true _
          clear hm hcr hph hpb hx hcc
          rcases sb with _ | _
          all_goals
            go_wp2
            go_roundw
            case rel => exact ⟨A + 1, true, by omega, by push_cast; rfl, by rw [plF_at], rfl, Lib.hid (fun _ => rfl), hbel⟩
            case measure => simp [intOf] <;> omega
        · have hidn : (x.pod.id.toList == z.pod.id.toList) = false := by
            cases hq : (x.pod.id.toList == z.pod.id.toList) with
            | false => rfl
            | true => exact absurd (str_extG (beq_iff_eq.1 hq)) (dist_at HT.out.dist hx HA.out (fun h => hkA h.symm))
          have hpl : plF A (k + 1) = plF A k := plF_next hkA
          have HPL := Lib.hid hpl
          clear hpl
          have key : cr = true ∨ (cr = false ∧ ph = 3) ∨ (cr = false ∧ (ph != 3) = true ∧ ¬ ph = 3) := by
            by_cases h3 : ph = 3
            · cases cr
              · exact .inr (.inl ⟨rfl, h3⟩)
              · exact .inl rfl
            · cases cr
              · exact .inr (.inr ⟨rfl, by simpa using h3, h3⟩)
              · exact .inl rfl
          clear hcr hph hpb hx hcc
          rcases key with rfl | ⟨rfl, rfl⟩ | ⟨rfl, hp3, hp4⟩
          all_goals
            rcases sb with _ | _
          · go_wp2
            go_roundw
            case rel => exact ⟨k + 1, false, by omega, by push_cast; rfl, by rw [HPL.out], rfl, Lib.hid (fun h => HSB.out (by omega)), hbel⟩
            case measure => simp [intOf] <;> omega
          · go_wp2
            go_roundw
            case rel => exact ⟨k + 1, true, by omega, by push_cast; rfl, by rw [HPL.out], rfl, Lib.hid (fun _ => rfl), hbel⟩
            case measure => simp [intOf] <;> omega
          · go_wp2
            go_roundw
            case rel => exact ⟨k + 1, false, by omega, by push_cast; rfl, by rw [HPL.out], rfl, Lib.hid (fun h => HSB.out (by omega)), hbel⟩
            case measure => simp [intOf] <;> omega
          · go_wp2
            go_roundw
            case rel => exact ⟨k + 1, true, by omega, by push_cast; rfl, by rw [HPL.out], rfl, Lib.hid (fun _ => rfl), hbel⟩
            case measure => simp [intOf] <;> omega
          · go_wp2
            go_roundw
            case rel => exact ⟨k + 1, true, by omega, by push_cast; rfl, by rw [HPL.out], rfl, Lib.hid (fun _ => rfl), hbel⟩
            case measure => simp [intOf] <;> omega
          · go_wp2
            go_roundw
            case rel => exact ⟨k + 1, true, by omega, by push_cast; rfl, by rw [HPL.out], rfl, Lib.hid (fun _ => rfl), hbel⟩
            case measure => simp [intOf] <;> omega
      · obtain rfl : k = T.length := by omega
        have hd : decide ((T.length : Int) < (T.length : Int)) = false := decide_eq_false (by omega)
        have hki : ¬ (T.length : Int) < (T.length : Int) := by omega
        obtain rfl : sb = true := HSB.out hAl
        rw [plF_in hAl]
        clear HSB
        have hA0 : ¬ (A : Int) < 0 := by omega
        have hA1 : (0 : Int) ≤ (A : Int) := by omega
        have hA2 : (A : Int) < (T.length : Int) := by omega
        have HB := Lib.hid hbel
        clear hbel
        go_wp2
        go_loopw [15] (fun i wr => ∃ k : Nat, k ≤ T.length ∧ i = .int .i64 k ∧ Below W2.heap.size W2 wr) (fun i _ => T.length - (intOf i).toNat)
        case atStart => exact ⟨0, Nat.zero_le _, rfl, HB.out⟩
        case round =>
          obtain ⟨k, hk, rfl, hbel⟩ := hrel
          clear HB
          by_cases hlt : k < T.length
          · obtain ⟨x, hx⟩ : ∃ x, T[k]? = some x := ⟨T[k], List.getElem?_eq_getElem hlt⟩
            obtain ⟨bc, oc, ec, _, hcc⟩ := (HTL.out _ (Below.refl _ _)).elem EntV.cells_len (by omega) hx
            subst ec
            have c0 := keep (hcc 0 _ rfl)
            have c1 := keep (hcc 1 _ rfl)
            have c2 := keep (hcc 2 _ rfl)
            have c3 := keep (hcc 3 _ rfl)
            have c4 := keep (hcc 4 _ rfl)
            have c5 := keep (hcc 5 _ rfl)
            have c6 := keep (hcc 6 _ rfl)
            have c7 := keep (hcc 7 _ rfl)
            have c8 := keep (hcc 8 _ rfl)
            have c9 := keep (hcc 9 _ rfl)
            have c10 := keep (hcc 10 _ rfl)
            have c11 := keep (hcc 11 _ rfl)
            rw [Nat.add_zero] at c0
            have hd : decide ((k : Int) < (T.length : Int)) = true := decide_eq_true (by omega)
            have hki : (k : Int) < (T.length : Int) := by omega
            have hk0 : (0 : Int) ≤ (k : Int) := by omega
            have HX := Lib.hid hx
            clear hcc
            have HBW := Lib.hid hbel
            obtain ⟨bz, oz, ez, _, hcz⟩ := (HTL.out _ (Below.refl _ _)).elem EntV.cells_len (by omega) HA.out
            simp only [Option.some.injEq, Addr.mk.injEq, and_true] at ez
            obtain ⟨rfl, rfl⟩ := ez
            have z0 := keep (hcz 0 _ rfl)
            have z1 := keep (hcz 1 _ rfl)
            have z2 := keep (hcz 2 _ rfl)
            have z3 := keep (hcz 3 _ rfl)
            have z4 := keep (hcz 4 _ rfl)
            have z5 := keep (hcz 5 _ rfl)
            have z6 := keep (hcz 6 _ rfl)
            have z7 := keep (hcz 7 _ rfl)
            have z8 := keep (hcz 8 _ rfl)
            have z9 := keep (hcz 9 _ rfl)
            have z10 := keep (hcz 10 _ rfl)
            have z11 := keep (hcz 11 _ rfl)
            rw [Nat.add_zero] at z0
            clear hcz
            clear hx
            replace ss0 := keepOnP ss0 hbel
            replace ss1 := keepOnP ss1 hbel
            replace ss2 := keepOnP ss2 hbel
            replace ss3 := keepOnP ss3 hbel
            replace ss4 := keepOnP ss4 hbel
            replace c0 := keepOnP c0 hbel
            replace z0 := keepOnP z0 hbel
            replace c1 := keepOnP c1 hbel
            replace z1 := keepOnP z1 hbel
            replace c2 := keepOnP c2 hbel
            replace z2 := keepOnP z2 hbel
            replace c3 := keepOnP c3 hbel
            replace z3 := keepOnP z3 hbel
            replace c4 := keepOnP c4 hbel
            replace z4 := keepOnP z4 hbel
            replace c5 := keepOnP c5 hbel
            replace z5 := keepOnP z5 hbel
            replace c6 := keepOnP c6 hbel
            replace z6 := keepOnP z6 hbel
            replace c7 := keepOnP c7 hbel
            replace z7 := keepOnP z7 hbel
            replace c8 := keepOnP c8 hbel
            replace z8 := keepOnP z8 hbel
            replace c9 := keepOnP c9 hbel
            replace z9 := keepOnP z9 hbel
            replace c10 := keepOnP c10 hbel
            replace z10 := keepOnP z10 hbel
            replace c11 := keepOnP c11 hbel
            replace z11 := keepOnP z11 hbel
            replace hw := belStep hw hbel
            clear hbel
            generalize wr = W3 at *
            have hbel : Below W3.heap.size W3 W3 := Below.refl _ _
            have CM := Lib.hid (fun u => rk_May x u)
            by_cases hkA : k = A
            · subst hkA
              go_upto_region 20 with fail
              clear hbel
              refine wp_region_held_drew (S := (fun u => Below W3.heap.size W3 u)) (by kernel_rfl) (by exact (show Below W3.heap.size W3 _ from by repeat (first | assumption | exact Below.refl _ _ | refine belDrew ?_ | refine belAlloc ?_ _ | refine belStep ?_ (by assumption)))) (fun hHeld => ?_)
              refine wpAnyH_take (i := 0) (oi := ?oi_1) (v := ?v_1) ?hi_1 (by kernel_rfl) ?hf_1 ?hr_1 ?hQ_1 (Or.inl ⟨?hw_1, ?hy_1⟩) (by assumption) ?rest_1
              case hi_1 => ((simp only [List.getElem?_toArray, List.getElem?_cons_succ, List.getElem?_cons_zero]); rfl)
              case hf_1 => kernel_rfl
              case hr_1 => kernel_rfl
              case hQ_1 => exact fun _ _ _ h => h
              case hw_1 => rfl
              case hy_1 => ((intro w hSw; (try dsimp only at hSw); go_simp); all_goals (with_reducible rfl))
              try simp only [Act.put, List.setIfInBounds_toArray, List.set_cons_zero, List.set_cons_succ]
              refine wpAnyH_take (i := 1) (oi := ?oi_2) (v := ?v_2) ?hi_2 (by kernel_rfl) ?hf_2 ?hr_2 ?hQ_2 (Or.inl ⟨?hw_2, ?hy_2⟩) (by assumption) ?rest_2
              case hi_2 => ((simp only [List.getElem?_toArray, List.getElem?_cons_succ, List.getElem?_cons_zero]); rfl)
              case hf_2 => kernel_rfl
              case hr_2 => kernel_rfl
              case hQ_2 => exact fun _ _ _ h => h
              case hw_2 => rfl
              case hy_2 => ((intro w hSw; (try dsimp only at hSw); go_simp); all_goals (with_reducible rfl))
              try simp only [Act.put, List.setIfInBounds_toArray, List.set_cons_zero, List.set_cons_succ]
              refine wpAnyH_take (i := 2) (oi := ?oi_3) (v := ?v_3) ?hi_3 (by kernel_rfl) ?hf_3 ?hr_3 ?hQ_3 (Or.inl ⟨?hw_3, ?hy_3⟩) (by assumption) ?rest_3
              case hi_3 => ((simp only [List.getElem?_toArray, List.getElem?_cons_succ, List.getElem?_cons_zero]); rfl)
              case hf_3 => kernel_rfl
              case hr_3 => kernel_rfl
              case hQ_3 => exact fun _ _ _ h => h
              case hw_3 => rfl
              case hy_3 => ((intro w hSw; (try dsimp only at hSw); go_simp); all_goals (with_reducible rfl))
              try simp only [Act.put, List.setIfInBounds_toArray, List.set_cons_zero, List.set_cons_succ]
              refine wpAnyH_take (i := 3) (oi := ?oi_4) (v := ?v_4) ?hi_4 (by kernel_rfl) ?hf_4 ?hr_4 ?hQ_4 (Or.inl ⟨?hw_4, ?hy_4⟩) (by assumption) ?rest_4
              case hi_4 => ((simp only [List.getElem?_toArray, List.getElem?_cons_succ, List.getElem?_cons_zero]); rfl)
              case hf_4 => kernel_rfl
              case hr_4 => kernel_rfl
              case hQ_4 => exact fun _ _ _ h => h
              case hw_4 => rfl
              case hy_4 => ((intro w hSw; (try dsimp only at hSw); go_simp); all_goals (with_reducible rfl))
              try simp only [Act.put, List.setIfInBounds_toArray, List.set_cons_zero, List.set_cons_succ]
              refine wpAnyH_take (i := 4) (oi := ?oi_5) (v := undef) ?hi_5 (by kernel_rfl) ?hf_5 ?hr_5 ?hQ_5 (Or.inr ⟨?hw_5, rfl⟩) (by assumption) ?rest_5
              case hi_5 => ((simp only [List.getElem?_toArray, List.getElem?_cons_succ, List.getElem?_cons_zero]); rfl)
              case hf_5 => kernel_rfl
              case hr_5 => kernel_rfl
              case hQ_5 => exact fun _ _ _ h => h
              case hw_5 => rfl
              try simp only [Act.put, List.setIfInBounds_toArray, List.set_cons_zero, List.set_cons_succ]
              refine wpAnyH_take (i := 5) (oi := ?oi_6) (v := undef) ?hi_6 (by kernel_rfl) ?hf_6 ?hr_6 ?hQ_6 (Or.inr ⟨?hw_6, rfl⟩) (by assumption) ?rest_6
              case hi_6 => ((simp only [List.getElem?_toArray, List.getElem?_cons_succ, List.getElem?_cons_zero]); rfl)
              case hf_6 => kernel_rfl
              case hr_6 => kernel_rfl
              case hQ_6 => exact fun _ _ _ h => h
              case hw_6 => rfl
              try simp only [Act.put, List.setIfInBounds_toArray, List.set_cons_zero, List.set_cons_succ]
              refine wpAnyH_take (i := 6) (oi := ?oi_7) (v := undef) ?hi_7 (by kernel_rfl) ?hf_7 ?hr_7 ?hQ_7 (Or.inr ⟨?hw_7, rfl⟩) (by assumption) ?rest_7
              case hi_7 => ((simp only [List.getElem?_toArray, List.getElem?_cons_succ, List.getElem?_cons_zero]); rfl)
              case hf_7 => kernel_rfl
              case hr_7 => kernel_rfl
              case hQ_7 => exact fun _ _ _ h => h
              case hw_7 => rfl
              try simp only [Act.put, List.setIfInBounds_toArray, List.set_cons_zero, List.set_cons_succ]
              refine wpAnyH_take (i := 7) (oi := ?oi_8) (v := undef) ?hi_8 (by kernel_rfl) ?hf_8 ?hr_8 ?hQ_8 (Or.inr ⟨?hw_8, rfl⟩) (by assumption) ?rest_8
              case hi_8 => ((simp only [List.getElem?_toArray, List.getElem?_cons_succ, List.getElem?_cons_zero]); rfl)
              case hf_8 => kernel_rfl
              case hr_8 => kernel_rfl
              case hQ_8 => exact fun _ _ _ h => h
              case hw_8 => rfl
              try simp only [Act.put, List.setIfInBounds_toArray, List.set_cons_zero, List.set_cons_succ]
              refine wpAnyH_take (i := 8) (oi := ?oi_9) (v := undef) ?hi_9 (by kernel_rfl) ?hf_9 ?hr_9 ?hQ_9 (Or.inr ⟨?hw_9, rfl⟩) (by assumption) ?rest_9
              case hi_9 => ((simp only [List.getElem?_toArray, List.getElem?_cons_succ, List.getElem?_cons_zero]); rfl)
              case hf_9 => kernel_rfl
              case hr_9 => kernel_rfl
              case hQ_9 => exact fun _ _ _ h => h
              case hw_9 => rfl
              try simp only [Act.put, List.setIfInBounds_toArray, List.set_cons_zero, List.set_cons_succ]
              refine wpAnyH_take (i := 9) (oi := ?oi_10) (v := ?v_10) ?hi_10 (by kernel_rfl) ?hf_10 ?hr_10 ?hQ_10 (Or.inl ⟨?hw_10, ?hy_10⟩) (by assumption) ?rest_10
              case hi_10 => ((simp only [List.getElem?_toArray, List.getElem?_cons_succ, List.getElem?_cons_zero]); rfl)
              case hf_10 => kernel_rfl
              case hr_10 => kernel_rfl
              case hQ_10 => exact fun _ _ _ h => h
              case hw_10 => rfl
              case hy_10 => ((intro w hSw; (try dsimp only at hSw); go_simp); all_goals (with_reducible rfl))
              try simp only [Act.put, List.setIfInBounds_toArray, List.set_cons_zero, List.set_cons_succ]
              refine wpAnyH_take (i := 10) (oi := ?oi_11) (v := ?v_11) ?hi_11 (by kernel_rfl) ?hf_11 ?hr_11 ?hQ_11 (Or.inl ⟨?hw_11, ?hy_11⟩) (by assumption) ?rest_11
              case hi_11 => ((simp only [List.getElem?_toArray, List.getElem?_cons_succ, List.getElem?_cons_zero]); rfl)
              case hf_11 => kernel_rfl
              case hr_11 => kernel_rfl
              case hQ_11 => exact fun _ _ _ h => h
              case hw_11 => rfl
              case hy_11 => ((intro w hSw; (try dsimp only at hSw); go_simp); all_goals (with_reducible rfl))
              try simp only [Act.put, List.setIfInBounds_toArray, List.set_cons_zero, List.set_cons_succ]
              refine wpAnyH_take (i := 11) (oi := ?oi_12) (v := undef) ?hi_12 (by kernel_rfl) ?hf_12 ?hr_12 ?hQ_12 (Or.inr ⟨?hw_12, rfl⟩) (by assumption) ?rest_12
              case hi_12 => ((simp only [List.getElem?_toArray, List.getElem?_cons_succ, List.getElem?_cons_zero]); rfl)
              case hf_12 => kernel_rfl
              case hr_12 => kernel_rfl
              case hQ_12 => exact fun _ _ _ h => h
              case hw_12 => rfl
              try simp only [Act.put, List.setIfInBounds_toArray, List.set_cons_zero, List.set_cons_succ]
              refine wpAnyH_take (i := 12) (oi := ?oi_13) (v := undef) ?hi_13 (by kernel_rfl) ?hf_13 ?hr_13 ?hQ_13 (Or.inr ⟨?hw_13, rfl⟩) (by assumption) ?rest_13
              case hi_13 => ((simp only [List.getElem?_toArray, List.getElem?_cons_succ, List.getElem?_cons_zero]); rfl)
              case hf_13 => kernel_rfl
              case hr_13 => kernel_rfl
              case hQ_13 => exact fun _ _ _ h => h
              case hw_13 => rfl
              try simp only [Act.put, List.setIfInBounds_toArray, List.set_cons_zero, List.set_cons_succ]
              refine wpAnyH_take (i := 13) (oi := ?oi_14) (v := undef) ?hi_14 (by kernel_rfl) ?hf_14 ?hr_14 ?hQ_14 (Or.inr ⟨?hw_14, rfl⟩) (by assumption) ?rest_14
              case hi_14 => ((simp only [List.getElem?_toArray, List.getElem?_cons_succ, List.getElem?_cons_zero]); rfl)
              case hf_14 => kernel_rfl
              case hr_14 => kernel_rfl
              case hQ_14 => exact fun _ _ _ h => h
              case hw_14 => rfl
              try simp only [Act.put, List.setIfInBounds_toArray, List.set_cons_zero, List.set_cons_succ]
              refine wpAnyH_take (i := 14) (oi := ?oi_15) (v := undef) ?hi_15 (by kernel_rfl) ?hf_15 ?hr_15 ?hQ_15 (Or.inr ⟨?hw_15, rfl⟩) (by assumption) ?rest_15
              case hi_15 => ((simp only [List.getElem?_toArray, List.getElem?_cons_succ, List.getElem?_cons_zero]); rfl)
              case hf_15 => kernel_rfl
              case hr_15 => kernel_rfl
              case hQ_15 => exact fun _ _ _ h => h
              case hw_15 => rfl
              try simp only [Act.put, List.setIfInBounds_toArray, List.set_cons_zero, List.set_cons_succ]
              refine wpAnyH_take (i := 15) (oi := ?oi_16) (v := undef) ?hi_16 (by kernel_rfl) ?hf_16 ?hr_16 ?hQ_16 (Or.inr ⟨?hw_16, rfl⟩) (by assumption) ?rest_16
              case hi_16 => ((simp only [List.getElem?_toArray, List.getElem?_cons_succ, List.getElem?_cons_zero]); rfl)
              case hf_16 => kernel_rfl
              case hr_16 => kernel_rfl
              case hQ_16 => exact fun _ _ _ h => h
              case hw_16 => rfl
              try simp only [Act.put, List.setIfInBounds_toArray, List.set_cons_zero, List.set_cons_succ]
              refine wpAnyH_take (i := 16) (oi := ?oi_17) (v := undef) ?hi_17 (by kernel_rfl) ?hf_17 ?hr_17 ?hQ_17 (Or.inr ⟨?hw_17, rfl⟩) (by assumption) ?rest_17
              case hi_17 => ((simp only [List.getElem?_toArray, List.getElem?_cons_succ, List.getElem?_cons_zero]); rfl)
              case hf_17 => kernel_rfl
              case hr_17 => kernel_rfl
              case hQ_17 => exact fun _ _ _ h => h
              case hw_17 => rfl
              try simp only [Act.put, List.setIfInBounds_toArray, List.set_cons_zero, List.set_cons_succ]
              refine wpAnyH_take (i := 17) (oi := ?oi_18) (v := undef) ?hi_18 (by kernel_rfl) ?hf_18 ?hr_18 ?hQ_18 (Or.inr ⟨?hw_18, rfl⟩) (by assumption) ?rest_18
              case hi_18 => ((simp only [List.getElem?_toArray, List.getElem?_cons_succ, List.getElem?_cons_zero]); rfl)
              case hf_18 => kernel_rfl
              case hr_18 => kernel_rfl
              case hQ_18 => exact fun _ _ _ h => h
              case hw_18 => rfl
              try simp only [Act.put, List.setIfInBounds_toArray, List.set_cons_zero, List.set_cons_succ]
              refine wpAnyH_take (i := 18) (oi := ?oi_19) (v := undef) ?hi_19 (by kernel_rfl) ?hf_19 ?hr_19 ?hQ_19 (Or.inr ⟨?hw_19, rfl⟩) (by assumption) ?rest_19
              case hi_19 => ((simp only [List.getElem?_toArray, List.getElem?_cons_succ, List.getElem?_cons_zero]); rfl)
              case hf_19 => kernel_rfl
              case hr_19 => kernel_rfl
              case hQ_19 => exact fun _ _ _ h => h
              case hw_19 => rfl
              try simp only [Act.put, List.setIfInBounds_toArray, List.set_cons_zero, List.set_cons_succ]
              refine wpAnyH_take (i := 19) (oi := ?oi_20) (v := undef) ?hi_20 (by kernel_rfl) ?hf_20 ?hr_20 ?hQ_20 (Or.inr ⟨?hw_20, rfl⟩) (by assumption) ?rest_20
              case hi_20 => ((simp only [List.getElem?_toArray, List.getElem?_cons_succ, List.getElem?_cons_zero]); rfl)
              case hf_20 => kernel_rfl
              case hr_20 => kernel_rfl
              case hQ_20 => exact fun _ _ _ h => h
              case hw_20 => rfl
              try simp only [Act.put, List.setIfInBounds_toArray, List.set_cons_zero, List.set_cons_succ]
              refine wpAnyH_take (i := 20) (oi := ?oi_21) (v := undef) ?hi_21 (by kernel_rfl) ?hf_21 ?hr_21 ?hQ_21 (Or.inr ⟨?hw_21, rfl⟩) (by assumption) ?rest_21
              case hi_21 => ((simp only [List.getElem?_toArray, List.getElem?_cons_succ, List.getElem?_cons_zero]); rfl)
              case hf_21 => kernel_rfl
              case hr_21 => kernel_rfl
              case hQ_21 => exact fun _ _ _ h => h
              case hw_21 => rfl
              try simp only [Act.put, List.setIfInBounds_toArray, List.set_cons_zero, List.set_cons_succ]
              refine wpAnyH_take (i := 21) (oi := ?oi_22) (v := undef) ?hi_22 (by kernel_rfl) ?hf_22 ?hr_22 ?hQ_22 (Or.inr ⟨?hw_22, rfl⟩) (by assumption) ?rest_22
              case hi_22 => ((simp only [List.getElem?_toArray, List.getElem?_cons_succ, List.getElem?_cons_zero]); rfl)
              case hf_22 => kernel_rfl
              case hr_22 => kernel_rfl
              case hQ_22 => exact fun _ _ _ h => h
              case hw_22 => rfl
              try simp only [Act.put, List.setIfInBounds_toArray, List.set_cons_zero, List.set_cons_succ]
              refine wpAnyH_take (i := 22) (oi := ?oi_23) (v := undef) ?hi_23 (by kernel_rfl) ?hf_23 ?hr_23 ?hQ_23 (Or.inr ⟨?hw_23, rfl⟩) (by assumption) ?rest_23
              case hi_23 => ((simp only [List.getElem?_toArray, List.getElem?_cons_succ, List.getElem?_cons_zero]); rfl)
              case hf_23 => kernel_rfl
              case hr_23 => kernel_rfl
              case hQ_23 => exact fun _ _ _ h => h
              case hw_23 => rfl
              try simp only [Act.put, List.setIfInBounds_toArray, List.set_cons_zero, List.set_cons_succ]
              refine wpAnyH_take (i := 23) (oi := ?oi_24) (v := undef) ?hi_24 (by kernel_rfl) ?hf_24 ?hr_24 ?hQ_24 (Or.inr ⟨?hw_24, rfl⟩) (by assumption) ?rest_24
              case hi_24 => ((simp only [List.getElem?_toArray, List.getElem?_cons_succ, List.getElem?_cons_zero]); rfl)
              case hf_24 => kernel_rfl
              case hr_24 => kernel_rfl
              case hQ_24 => exact fun _ _ _ h => h
              case hw_24 => rfl
              try simp only [Act.put, List.setIfInBounds_toArray, List.set_cons_zero, List.set_cons_succ]
              refine wpAnyH_take (i := 24) (oi := ?oi_25) (v := undef) ?hi_25 (by kernel_rfl) ?hf_25 ?hr_25 ?hQ_25 (Or.inr ⟨?hw_25, rfl⟩) (by assumption) ?rest_25
              case hi_25 => ((simp only [List.getElem?_toArray, List.getElem?_cons_succ, List.getElem?_cons_zero]); rfl)
              case hf_25 => kernel_rfl
              case hr_25 => kernel_rfl
              case hQ_25 => exact fun _ _ _ h => h
              case hw_25 => rfl
              try simp only [Act.put, List.setIfInBounds_toArray, List.set_cons_zero, List.set_cons_succ]
              refine wpAnyH_take (i := 25) (oi := ?oi_26) (v := ?v_26) ?hi_26 (by kernel_rfl) ?hf_26 ?hr_26 ?hQ_26 (Or.inl ⟨?hw_26, ?hy_26⟩) (by assumption) ?rest_26
              case hi_26 => ((simp only [List.getElem?_toArray, List.getElem?_cons_succ, List.getElem?_cons_zero]); rfl)
              case hf_26 => kernel_rfl
              case hr_26 => kernel_rfl
              case hQ_26 => exact fun _ _ _ h => h
              case hw_26 => rfl
              case hy_26 => ((intro w hSw; (try dsimp only at hSw); go_simp); all_goals (with_reducible rfl))
              try simp only [Act.put, List.setIfInBounds_toArray, List.set_cons_zero, List.set_cons_succ]
              refine wpAnyH_done (by kernel_rfl) ?_ _
              have hbel := hHeld
              clear hHeld
              go_wp2
              go_roundw
              case rel => exact ⟨k + 1, by omega, by push_cast; rfl, belStep HBW.out hbel⟩
              case measure => simp [intOf] <;> omega
            · have hne1 : ((k : Int) != (A : Int)) = true := bne_iff_ne.2 (by omega)
              have hne2 : ¬ (k : Int) = (A : Int) := by omega
              rcases Bool.eq_false_or_eq_true (mayE x) with hm | hm
              rotate_left 1
              · rw [hm] at CM
                clear hm
                go_upto_region 20 with fail
                clear hbel
                refine wp_region_held_drew (S := (fun u => Below W3.heap.size W3 u)) (by kernel_rfl) (by exact (show Below W3.heap.size W3 _ from by repeat (first | assumption | exact Below.refl _ _ | refine belDrew ?_ | refine belAlloc ?_ _ | refine belStep ?_ (by assumption)))) (fun hHeld => ?_)
                refine wpAnyH_take (i := 0) (oi := ?oi_27) (v := ?v_27) ?hi_27 (by kernel_rfl) ?hf_27 ?hr_27 ?hQ_27 (Or.inl ⟨?hw_27, ?hy_27⟩) (by assumption) ?rest_27
                case hi_27 => ((simp only [List.getElem?_toArray, List.getElem?_cons_succ, List.getElem?_cons_zero]); rfl)
                case hf_27 => kernel_rfl
                case hr_27 => kernel_rfl
                case hQ_27 => exact fun _ _ _ h => h
                case hw_27 => rfl
                case hy_27 => ((intro w hSw; (try dsimp only at hSw); go_simp); all_goals (with_reducible rfl))
                try simp only [Act.put, List.setIfInBounds_toArray, List.set_cons_zero, List.set_cons_succ]
                refine wpAnyH_take (i := 1) (oi := ?oi_28) (v := ?v_28) ?hi_28 (by kernel_rfl) ?hf_28 ?hr_28 ?hQ_28 (Or.inl ⟨?hw_28, ?hy_28⟩) (by assumption) ?rest_28
                case hi_28 => ((simp only [List.getElem?_toArray, List.getElem?_cons_succ, List.getElem?_cons_zero]); rfl)
                case hf_28 => kernel_rfl
                case hr_28 => kernel_rfl
                case hQ_28 => exact fun _ _ _ h => h
                case hw_28 => rfl
                case hy_28 => ((intro w hSw; (try dsimp only at hSw); go_simp); all_goals (with_reducible rfl))
                try simp only [Act.put, List.setIfInBounds_toArray, List.set_cons_zero, List.set_cons_succ]
                refine wpAnyH_take (i := 2) (oi := ?oi_29) (v := ?v_29) ?hi_29 (by kernel_rfl) ?hf_29 ?hr_29 ?hQ_29 (Or.inl ⟨?hw_29, ?hy_29⟩) (by assumption) ?rest_29
                case hi_29 => ((simp only [List.getElem?_toArray, List.getElem?_cons_succ, List.getElem?_cons_zero]); rfl)
                case hf_29 => kernel_rfl
                case hr_29 => kernel_rfl
                case hQ_29 => exact fun _ _ _ h => h
                case hw_29 => rfl
                case hy_29 => ((intro w hSw; (try dsimp only at hSw); go_simp); all_goals (with_reducible rfl))
                try simp only [Act.put, List.setIfInBounds_toArray, List.set_cons_zero, List.set_cons_succ]
                refine wpAnyH_take (i := 3) (oi := ?oi_30) (v := ?v_30) ?hi_30 (by kernel_rfl) ?hf_30 ?hr_30 ?hQ_30 (Or.inl ⟨?hw_30, ?hy_30⟩) (by assumption) ?rest_30
                case hi_30 => ((simp only [List.getElem?_toArray, List.getElem?_cons_succ, List.getElem?_cons_zero]); rfl)
                case hf_30 => kernel_rfl
                case hr_30 => kernel_rfl
                case hQ_30 => exact fun _ _ _ h => h
                case hw_30 => rfl
                case hy_30 => ((intro w hSw; (try dsimp only at hSw); go_simp); all_goals (with_reducible rfl))
                try simp only [Act.put, List.setIfInBounds_toArray, List.set_cons_zero, List.set_cons_succ]
                refine wpAnyH_take (i := 4) (oi := ?oi_31) (v := ?v_31) ?hi_31 (by kernel_rfl) ?hf_31 ?hr_31 ?hQ_31 (Or.inl ⟨?hw_31, ?hy_31⟩) (by assumption) ?rest_31
                case hi_31 => ((simp only [List.getElem?_toArray, List.getElem?_cons_succ, List.getElem?_cons_zero]); rfl)
                case hf_31 => kernel_rfl
                case hr_31 => kernel_rfl
                case hQ_31 => exact fun _ _ _ h => h
                case hw_31 => rfl
                case hy_31 => ((intro w hSw; (try dsimp only at hSw); go_simp); all_goals (with_reducible rfl))
                try simp only [Act.put, List.setIfInBounds_toArray, List.set_cons_zero, List.set_cons_succ]
                refine wpAnyH_take (i := 5) (oi := ?oi_32) (v := ?v_32) ?hi_32 (by kernel_rfl) ?hf_32 ?hr_32 ?hQ_32 (Or.inl ⟨?hw_32, ?hy_32⟩) (by assumption) ?rest_32
                case hi_32 => ((simp only [List.getElem?_toArray, List.getElem?_cons_succ, List.getElem?_cons_zero]); rfl)
                case hf_32 => kernel_rfl
                case hr_32 => kernel_rfl
                case hQ_32 => exact fun _ _ _ h => h
                case hw_32 => rfl
                case hy_32 => ((intro w hSw; (try dsimp only at hSw); go_simp); all_goals (with_reducible rfl))
                try simp only [Act.put, List.setIfInBounds_toArray, List.set_cons_zero, List.set_cons_succ]
                refine wpAnyH_take (i := 6) (oi := ?oi_33) (v := ?v_33) ?hi_33 (by kernel_rfl) ?hf_33 ?hr_33 ?hQ_33 (Or.inl ⟨?hw_33, ?hy_33⟩) (by assumption) ?rest_33
                case hi_33 => ((simp only [List.getElem?_toArray, List.getElem?_cons_succ, List.getElem?_cons_zero]); rfl)
                case hf_33 => kernel_rfl
                case hr_33 => kernel_rfl
                case hQ_33 => exact fun _ _ _ h => h
                case hw_33 => rfl
                case hy_33 => ((intro w hSw; (try dsimp only at hSw); go_simp); all_goals (with_reducible rfl))
                try simp only [Act.put, List.setIfInBounds_toArray, List.set_cons_zero, List.set_cons_succ]
                refine wpAnyH_take (i := 7) (oi := ?oi_34) (v := ?v_34) ?hi_34 (by kernel_rfl) ?hf_34 ?hr_34 ?hQ_34 (Or.inl ⟨?hw_34, ?hy_34⟩) (by assumption) ?rest_34
                case hi_34 => ((simp only [List.getElem?_toArray, List.getElem?_cons_succ, List.getElem?_cons_zero]); rfl)
                case hf_34 => kernel_rfl
                case hr_34 => kernel_rfl
                case hQ_34 => exact fun _ _ _ h => h
                case hw_34 => rfl
                case hy_34 => ((intro w hSw; (try dsimp only at hSw); go_simp); all_goals (with_reducible rfl))
                try simp only [Act.put, List.setIfInBounds_toArray, List.set_cons_zero, List.set_cons_succ]
                refine wpAnyH_ready (rs := [8]) (by kernel_rfl) (by simp) ?_
                refine AllReadyH.cons (o := ?o1_35) ?hi_35 (fun K hK => ?rest_35) AllReadyH.nil
                case hi_35 => ((simp only [List.getElem?_toArray, List.getElem?_cons_succ, List.getElem?_cons_zero]); rfl)
                go_simp
                (first | (go_at_call 43; (with_reducible refine (CM.out _).mono ?_); rintro e wq ⟨rfl, hbq⟩))
                try go_simp
                refine hK.out _ _ (by exact (show Below W3.heap.size W3 _ from by repeat (first | assumption | exact Below.refl _ _ | refine belDrew ?_ | refine belAlloc ?_ _ | refine belStep ?_ (by assumption)))) (fun hHeld => ?_)
                clear hK K
                try simp only [Act.put, List.setIfInBounds_toArray, List.set_cons_zero, List.set_cons_succ]
                refine wpAnyH_take (i := 9) (oi := ?oi_36) (v := ?v_36) ?hi_36 (by kernel_rfl) ?hf_36 ?hr_36 ?hQ_36 (Or.inl ⟨?hw_36, ?hy_36⟩) (by assumption) ?rest_36
                case hi_36 => ((simp only [List.getElem?_toArray, List.getElem?_cons_succ, List.getElem?_cons_zero]); rfl)
                case hf_36 => kernel_rfl
                case hr_36 => kernel_rfl
                case hQ_36 => exact fun _ _ _ h => h
                case hw_36 => rfl
                case hy_36 => ((intro w hSw; (try dsimp only at hSw); go_simp); all_goals (with_reducible rfl))
                try simp only [Act.put, List.setIfInBounds_toArray, List.set_cons_zero, List.set_cons_succ]
                refine wpAnyH_take (i := 10) (oi := ?oi_37) (v := ?v_37) ?hi_37 (by kernel_rfl) ?hf_37 ?hr_37 ?hQ_37 (Or.inl ⟨?hw_37, ?hy_37⟩) (by assumption) ?rest_37
                case hi_37 => ((simp only [List.getElem?_toArray, List.getElem?_cons_succ, List.getElem?_cons_zero]); rfl)
                case hf_37 => kernel_rfl
                case hr_37 => kernel_rfl
                case hQ_37 => exact fun _ _ _ h => h
                case hw_37 => rfl
                case hy_37 => ((intro w hSw; (try dsimp only at hSw); go_simp); all_goals (with_reducible rfl))
                try simp only [Act.put, List.setIfInBounds_toArray, List.set_cons_zero, List.set_cons_succ]
                refine wpAnyH_take (i := 11) (oi := ?oi_38) (v := undef) ?hi_38 (by kernel_rfl) ?hf_38 ?hr_38 ?hQ_38 (Or.inr ⟨?hw_38, rfl⟩) (by assumption) ?rest_38
                case hi_38 => ((simp only [List.getElem?_toArray, List.getElem?_cons_succ, List.getElem?_cons_zero]); rfl)
                case hf_38 => kernel_rfl
                case hr_38 => kernel_rfl
                case hQ_38 => exact fun _ _ _ h => h
                case hw_38 => rfl
                try simp only [Act.put, List.setIfInBounds_toArray, List.set_cons_zero, List.set_cons_succ]
                refine wpAnyH_take (i := 12) (oi := ?oi_39) (v := undef) ?hi_39 (by kernel_rfl) ?hf_39 ?hr_39 ?hQ_39 (Or.inr ⟨?hw_39, rfl⟩) (by assumption) ?rest_39
                case hi_39 => ((simp only [List.getElem?_toArray, List.getElem?_cons_succ, List.getElem?_cons_zero]); rfl)
                case hf_39 => kernel_rfl
                case hr_39 => kernel_rfl
                case hQ_39 => exact fun _ _ _ h => h
                case hw_39 => rfl
                try simp only [Act.put, List.setIfInBounds_toArray, List.set_cons_zero, List.set_cons_succ]
                refine wpAnyH_take (i := 13) (oi := ?oi_40) (v := undef) ?hi_40 (by kernel_rfl) ?hf_40 ?hr_40 ?hQ_40 (Or.inr ⟨?hw_40, rfl⟩) (by assumption) ?rest_40
                case hi_40 => ((simp only [List.getElem?_toArray, List.getElem?_cons_succ, List.getElem?_cons_zero]); rfl)
                case hf_40 => kernel_rfl
                case hr_40 => kernel_rfl
                case hQ_40 => exact fun _ _ _ h => h
                case hw_40 => rfl
                try simp only [Act.put, List.setIfInBounds_toArray, List.set_cons_zero, List.set_cons_succ]
                refine wpAnyH_take (i := 14) (oi := ?oi_41) (v := undef) ?hi_41 (by kernel_rfl) ?hf_41 ?hr_41 ?hQ_41 (Or.inr ⟨?hw_41, rfl⟩) (by assumption) ?rest_41
                case hi_41 => ((simp only [List.getElem?_toArray, List.getElem?_cons_succ, List.getElem?_cons_zero]); rfl)
                case hf_41 => kernel_rfl
                case hr_41 => kernel_rfl
                case hQ_41 => exact fun _ _ _ h => h
                case hw_41 => rfl
                try simp only [Act.put, List.setIfInBounds_toArray, List.set_cons_zero, List.set_cons_succ]
                refine wpAnyH_take (i := 15) (oi := ?oi_42) (v := undef) ?hi_42 (by kernel_rfl) ?hf_42 ?hr_42 ?hQ_42 (Or.inr ⟨?hw_42, rfl⟩) (by assumption) ?rest_42
                case hi_42 => ((simp only [List.getElem?_toArray, List.getElem?_cons_succ, List.getElem?_cons_zero]); rfl)
                case hf_42 => kernel_rfl
                case hr_42 => kernel_rfl
                case hQ_42 => exact fun _ _ _ h => h
                case hw_42 => rfl
                try simp only [Act.put, List.setIfInBounds_toArray, List.set_cons_zero, List.set_cons_succ]
                refine wpAnyH_take (i := 16) (oi := ?oi_43) (v := undef) ?hi_43 (by kernel_rfl) ?hf_43 ?hr_43 ?hQ_43 (Or.inr ⟨?hw_43, rfl⟩) (by assumption) ?rest_43
                case hi_43 => ((simp only [List.getElem?_toArray, List.getElem?_cons_succ, List.getElem?_cons_zero]); rfl)
                case hf_43 => kernel_rfl
                case hr_43 => kernel_rfl
                case hQ_43 => exact fun _ _ _ h => h
                case hw_43 => rfl
                try simp only [Act.put, List.setIfInBounds_toArray, List.set_cons_zero, List.set_cons_succ]
                refine wpAnyH_take (i := 17) (oi := ?oi_44) (v := undef) ?hi_44 (by kernel_rfl) ?hf_44 ?hr_44 ?hQ_44 (Or.inr ⟨?hw_44, rfl⟩) (by assumption) ?rest_44
                case hi_44 => ((simp only [List.getElem?_toArray, List.getElem?_cons_succ, List.getElem?_cons_zero]); rfl)
                case hf_44 => kernel_rfl
                case hr_44 => kernel_rfl
                case hQ_44 => exact fun _ _ _ h => h
                case hw_44 => rfl
                try simp only [Act.put, List.setIfInBounds_toArray, List.set_cons_zero, List.set_cons_succ]
                refine wpAnyH_take (i := 18) (oi := ?oi_45) (v := undef) ?hi_45 (by kernel_rfl) ?hf_45 ?hr_45 ?hQ_45 (Or.inr ⟨?hw_45, rfl⟩) (by assumption) ?rest_45
                case hi_45 => ((simp only [List.getElem?_toArray, List.getElem?_cons_succ, List.getElem?_cons_zero]); rfl)
                case hf_45 => kernel_rfl
                case hr_45 => kernel_rfl
                case hQ_45 => exact fun _ _ _ h => h
                case hw_45 => rfl
                try simp only [Act.put, List.setIfInBounds_toArray, List.set_cons_zero, List.set_cons_succ]
                refine wpAnyH_take (i := 19) (oi := ?oi_46) (v := undef) ?hi_46 (by kernel_rfl) ?hf_46 ?hr_46 ?hQ_46 (Or.inr ⟨?hw_46, rfl⟩) (by assumption) ?rest_46
                case hi_46 => ((simp only [List.getElem?_toArray, List.getElem?_cons_succ, List.getElem?_cons_zero]); rfl)
                case hf_46 => kernel_rfl
                case hr_46 => kernel_rfl
                case hQ_46 => exact fun _ _ _ h => h
                case hw_46 => rfl
                try simp only [Act.put, List.setIfInBounds_toArray, List.set_cons_zero, List.set_cons_succ]
                refine wpAnyH_take (i := 20) (oi := ?oi_47) (v := undef) ?hi_47 (by kernel_rfl) ?hf_47 ?hr_47 ?hQ_47 (Or.inr ⟨?hw_47, rfl⟩) (by assumption) ?rest_47
                case hi_47 => ((simp only [List.getElem?_toArray, List.getElem?_cons_succ, List.getElem?_cons_zero]); rfl)
                case hf_47 => kernel_rfl
                case hr_47 => kernel_rfl
                case hQ_47 => exact fun _ _ _ h => h
                case hw_47 => rfl
                try simp only [Act.put, List.setIfInBounds_toArray, List.set_cons_zero, List.set_cons_succ]
                refine wpAnyH_take (i := 21) (oi := ?oi_48) (v := undef) ?hi_48 (by kernel_rfl) ?hf_48 ?hr_48 ?hQ_48 (Or.inr ⟨?hw_48, rfl⟩) (by assumption) ?rest_48
                case hi_48 => ((simp only [List.getElem?_toArray, List.getElem?_cons_succ, List.getElem?_cons_zero]); rfl)
                case hf_48 => kernel_rfl
                case hr_48 => kernel_rfl
                case hQ_48 => exact fun _ _ _ h => h
                case hw_48 => rfl
                try simp only [Act.put, List.setIfInBounds_toArray, List.set_cons_zero, List.set_cons_succ]
                refine wpAnyH_take (i := 22) (oi := ?oi_49) (v := undef) ?hi_49 (by kernel_rfl) ?hf_49 ?hr_49 ?hQ_49 (Or.inr ⟨?hw_49, rfl⟩) (by assumption) ?rest_49
                case hi_49 => ((simp only [List.getElem?_toArray, List.getElem?_cons_succ, List.getElem?_cons_zero]); rfl)
                case hf_49 => kernel_rfl
                case hr_49 => kernel_rfl
                case hQ_49 => exact fun _ _ _ h => h
                case hw_49 => rfl
                try simp only [Act.put, List.setIfInBounds_toArray, List.set_cons_zero, List.set_cons_succ]
                refine wpAnyH_take (i := 23) (oi := ?oi_50) (v := undef) ?hi_50 (by kernel_rfl) ?hf_50 ?hr_50 ?hQ_50 (Or.inr ⟨?hw_50, rfl⟩) (by assumption) ?rest_50
                case hi_50 => ((simp only [List.getElem?_toArray, List.getElem?_cons_succ, List.getElem?_cons_zero]); rfl)
                case hf_50 => kernel_rfl
                case hr_50 => kernel_rfl
                case hQ_50 => exact fun _ _ _ h => h
                case hw_50 => rfl
                try simp only [Act.put, List.setIfInBounds_toArray, List.set_cons_zero, List.set_cons_succ]
                refine wpAnyH_take (i := 24) (oi := ?oi_51) (v := undef) ?hi_51 (by kernel_rfl) ?hf_51 ?hr_51 ?hQ_51 (Or.inr ⟨?hw_51, rfl⟩) (by assumption) ?rest_51
                case hi_51 => ((simp only [List.getElem?_toArray, List.getElem?_cons_succ, List.getElem?_cons_zero]); rfl)
                case hf_51 => kernel_rfl
                case hr_51 => kernel_rfl
                case hQ_51 => exact fun _ _ _ h => h
                case hw_51 => rfl
                try simp only [Act.put, List.setIfInBounds_toArray, List.set_cons_zero, List.set_cons_succ]
                refine wpAnyH_take (i := 25) (oi := ?oi_52) (v := ?v_52) ?hi_52 (by kernel_rfl) ?hf_52 ?hr_52 ?hQ_52 (Or.inl ⟨?hw_52, ?hy_52⟩) (by assumption) ?rest_52
                case hi_52 => ((simp only [List.getElem?_toArray, List.getElem?_cons_succ, List.getElem?_cons_zero]); rfl)
                case hf_52 => kernel_rfl
                case hr_52 => kernel_rfl
                case hQ_52 => exact fun _ _ _ h => h
                case hw_52 => rfl
                case hy_52 => ((intro w hSw; (try dsimp only at hSw); go_simp); all_goals (with_reducible rfl))
                try simp only [Act.put, List.setIfInBounds_toArray, List.set_cons_zero, List.set_cons_succ]
                refine wpAnyH_done (by kernel_rfl) ?_ _
                have hbel := hHeld
                clear hHeld
                go_wp2
                go_roundw
                case rel => exact ⟨k + 1, by omega, by push_cast; rfl, belStep HBW.out hbel⟩
                case measure => simp [intOf] <;> omega
              · have hal := HALL.out k x HX.out hkA hm
                have CA := Lib.hid (fun u (hu : Below W3.heap.size W3 u) => rk_Ahead g g z.pod x.pod S.t S.a S.b S.c b1 S.use.length n1 S.use u hg rfl (HTO.out z (List.mem_of_getElem? HA.out)).1 (HT.out.right z (List.mem_of_getElem? HA.out)).1 (HTO.out x (List.mem_of_getElem? HX.out)).1 (HT.out.right x (List.mem_of_getElem? HX.out)).1 HUO.out rfl (HX1.out u (belStep HBW.out hu)))
                rw [hm] at CM
                rw [hal] at CA
                clear hm hal
                go_upto_region 20 with fail
                clear hbel
                refine wp_region_held_drew (S := (fun u => Below W3.heap.size W3 u)) (by kernel_rfl) (by exact (show Below W3.heap.size W3 _ from by repeat (first | assumption | exact Below.refl _ _ | refine belDrew ?_ | refine belAlloc ?_ _ | refine belStep ?_ (by assumption)))) (fun hHeld => ?_)
                refine wpAnyH_take (i := 0) (oi := ?oi_53) (v := ?v_53) ?hi_53 (by kernel_rfl) ?hf_53 ?hr_53 ?hQ_53 (Or.inl ⟨?hw_53, ?hy_53⟩) (by assumption) ?rest_53
                case hi_53 => ((simp only [List.getElem?_toArray, List.getElem?_cons_succ, List.getElem?_cons_zero]); rfl)
                case hf_53 => kernel_rfl
                case hr_53 => kernel_rfl
                case hQ_53 => exact fun _ _ _ h => h
                case hw_53 => rfl
                case hy_53 => ((intro w hSw; (try dsimp only at hSw); go_simp); all_goals (with_reducible rfl))
                try simp only [Act.put, List.setIfInBounds_toArray, List.set_cons_zero, List.set_cons_succ]
                refine wpAnyH_take (i := 1) (oi := ?oi_54) (v := ?v_54) ?hi_54 (by kernel_rfl) ?hf_54 ?hr_54 ?hQ_54 (Or.inl ⟨?hw_54, ?hy_54⟩) (by assumption) ?rest_54
                case hi_54 => ((simp only [List.getElem?_toArray, List.getElem?_cons_succ, List.getElem?_cons_zero]); rfl)
                case hf_54 => kernel_rfl
                case hr_54 => kernel_rfl
                case hQ_54 => exact fun _ _ _ h => h
                case hw_54 => rfl
                case hy_54 => ((intro w hSw; (try dsimp only at hSw); go_simp); all_goals (with_reducible rfl))
                try simp only [Act.put, List.setIfInBounds_toArray, List.set_cons_zero, List.set_cons_succ]
                refine wpAnyH_take (i := 2) (oi := ?oi_55) (v := ?v_55) ?hi_55 (by kernel_rfl) ?hf_55 ?hr_55 ?hQ_55 (Or.inl ⟨?hw_55, ?hy_55⟩) (by assumption) ?rest_55
                case hi_55 => ((simp only [List.getElem?_toArray, List.getElem?_cons_succ, List.getElem?_cons_zero]); rfl)
                case hf_55 => kernel_rfl
                case hr_55 => kernel_rfl
                case hQ_55 => exact fun _ _ _ h => h
                case hw_55 => rfl
                case hy_55 => ((intro w hSw; (try dsimp only at hSw); go_simp); all_goals (with_reducible rfl))
                try simp only [Act.put, List.setIfInBounds_toArray, List.set_cons_zero, List.set_cons_succ]
                refine wpAnyH_take (i := 3) (oi := ?oi_56) (v := ?v_56) ?hi_56 (by kernel_rfl) ?hf_56 ?hr_56 ?hQ_56 (Or.inl ⟨?hw_56, ?hy_56⟩) (by assumption) ?rest_56
                case hi_56 => ((simp only [List.getElem?_toArray, List.getElem?_cons_succ, List.getElem?_cons_zero]); rfl)
                case hf_56 => kernel_rfl
                case hr_56 => kernel_rfl
                case hQ_56 => exact fun _ _ _ h => h
                case hw_56 => rfl
                case hy_56 => ((intro w hSw; (try dsimp only at hSw); go_simp); all_goals (with_reducible rfl))
                try simp only [Act.put, List.setIfInBounds_toArray, List.set_cons_zero, List.set_cons_succ]
                refine wpAnyH_take (i := 4) (oi := ?oi_57) (v := ?v_57) ?hi_57 (by kernel_rfl) ?hf_57 ?hr_57 ?hQ_57 (Or.inl ⟨?hw_57, ?hy_57⟩) (by assumption) ?rest_57
                case hi_57 => ((simp only [List.getElem?_toArray, List.getElem?_cons_succ, List.getElem?_cons_zero]); rfl)
                case hf_57 => kernel_rfl
                case hr_57 => kernel_rfl
                case hQ_57 => exact fun _ _ _ h => h
                case hw_57 => rfl
                case hy_57 => ((intro w hSw; (try dsimp only at hSw); go_simp); all_goals (with_reducible rfl))
                try simp only [Act.put, List.setIfInBounds_toArray, List.set_cons_zero, List.set_cons_succ]
                refine wpAnyH_take (i := 5) (oi := ?oi_58) (v := ?v_58) ?hi_58 (by kernel_rfl) ?hf_58 ?hr_58 ?hQ_58 (Or.inl ⟨?hw_58, ?hy_58⟩) (by assumption) ?rest_58
                case hi_58 => ((simp only [List.getElem?_toArray, List.getElem?_cons_succ, List.getElem?_cons_zero]); rfl)
                case hf_58 => kernel_rfl
                case hr_58 => kernel_rfl
                case hQ_58 => exact fun _ _ _ h => h
                case hw_58 => rfl
                case hy_58 => ((intro w hSw; (try dsimp only at hSw); go_simp); all_goals (with_reducible rfl))
                try simp only [Act.put, List.setIfInBounds_toArray, List.set_cons_zero, List.set_cons_succ]
                refine wpAnyH_take (i := 6) (oi := ?oi_59) (v := ?v_59) ?hi_59 (by kernel_rfl) ?hf_59 ?hr_59 ?hQ_59 (Or.inl ⟨?hw_59, ?hy_59⟩) (by assumption) ?rest_59
                case hi_59 => ((simp only [List.getElem?_toArray, List.getElem?_cons_succ, List.getElem?_cons_zero]); rfl)
                case hf_59 => kernel_rfl
                case hr_59 => kernel_rfl
                case hQ_59 => exact fun _ _ _ h => h
                case hw_59 => rfl
                case hy_59 => ((intro w hSw; (try dsimp only at hSw); go_simp); all_goals (with_reducible rfl))
                try simp only [Act.put, List.setIfInBounds_toArray, List.set_cons_zero, List.set_cons_succ]
                refine wpAnyH_take (i := 7) (oi := ?oi_60) (v := ?v_60) ?hi_60 (by kernel_rfl) ?hf_60 ?hr_60 ?hQ_60 (Or.inl ⟨?hw_60, ?hy_60⟩) (by assumption) ?rest_60
                case hi_60 => ((simp only [List.getElem?_toArray, List.getElem?_cons_succ, List.getElem?_cons_zero]); rfl)
                case hf_60 => kernel_rfl
                case hr_60 => kernel_rfl
                case hQ_60 => exact fun _ _ _ h => h
                case hw_60 => rfl
                case hy_60 => ((intro w hSw; (try dsimp only at hSw); go_simp); all_goals (with_reducible rfl))
                try simp only [Act.put, List.setIfInBounds_toArray, List.set_cons_zero, List.set_cons_succ]
                refine wpAnyH_ready (rs := [8]) (by kernel_rfl) (by simp) ?_
                refine AllReadyH.cons (o := ?o1_61) ?hi_61 (fun K hK => ?rest_61) AllReadyH.nil
                case hi_61 => ((simp only [List.getElem?_toArray, List.getElem?_cons_succ, List.getElem?_cons_zero]); rfl)
                go_simp
                (first | (go_at_call 43; (with_reducible refine (CM.out _).mono ?_); rintro e wq ⟨rfl, hbq⟩) | (go_at_call 41; (with_reducible refine (CA.out _ hHeld).mono ?_); rintro e wq ⟨rfl, hbq⟩))
                try go_simp
                refine hK.out _ _ (by exact (show Below W3.heap.size W3 _ from by repeat (first | assumption | exact Below.refl _ _ | refine belDrew ?_ | refine belAlloc ?_ _ | refine belStep ?_ (by assumption)))) (fun hHeld => ?_)
                clear hK K
                try simp only [Act.put, List.setIfInBounds_toArray, List.set_cons_zero, List.set_cons_succ]
                refine wpAnyH_take (i := 9) (oi := ?oi_62) (v := ?v_62) ?hi_62 (by kernel_rfl) ?hf_62 ?hr_62 ?hQ_62 (Or.inl ⟨?hw_62, ?hy_62⟩) (by assumption) ?rest_62
                case hi_62 => ((simp only [List.getElem?_toArray, List.getElem?_cons_succ, List.getElem?_cons_zero]); rfl)
                case hf_62 => kernel_rfl
                case hr_62 => kernel_rfl
                case hQ_62 => exact fun _ _ _ h => h
                case hw_62 => rfl
                case hy_62 => ((intro w hSw; (try dsimp only at hSw); go_simp); all_goals (with_reducible rfl))
                try simp only [Act.put, List.setIfInBounds_toArray, List.set_cons_zero, List.set_cons_succ]
                refine wpAnyH_take (i := 10) (oi := ?oi_63) (v := ?v_63) ?hi_63 (by kernel_rfl) ?hf_63 ?hr_63 ?hQ_63 (Or.inl ⟨?hw_63, ?hy_63⟩) (by assumption) ?rest_63
                case hi_63 => ((simp only [List.getElem?_toArray, List.getElem?_cons_succ, List.getElem?_cons_zero]); rfl)
                case hf_63 => kernel_rfl
                case hr_63 => kernel_rfl
                case hQ_63 => exact fun _ _ _ h => h
                case hw_63 => rfl
                case hy_63 => ((intro w hSw; (try dsimp only at hSw); go_simp); all_goals (with_reducible rfl))
                try simp only [Act.put, List.setIfInBounds_toArray, List.set_cons_zero, List.set_cons_succ]
                refine wpAnyH_take (i := 11) (oi := ?oi_64) (v := ?v_64) ?hi_64 (by kernel_rfl) ?hf_64 ?hr_64 ?hQ_64 (Or.inl ⟨?hw_64, ?hy_64⟩) (by assumption) ?rest_64
                case hi_64 => ((simp only [List.getElem?_toArray, List.getElem?_cons_succ, List.getElem?_cons_zero]); rfl)
                case hf_64 => kernel_rfl
                case hr_64 => kernel_rfl
                case hQ_64 => exact fun _ _ _ h => h
                case hw_64 => rfl
                case hy_64 => ((intro w hSw; (try dsimp only at hSw); go_simp); all_goals (with_reducible rfl))
                try simp only [Act.put, List.setIfInBounds_toArray, List.set_cons_zero, List.set_cons_succ]
                refine wpAnyH_take (i := 12) (oi := ?oi_65) (v := ?v_65) ?hi_65 (by kernel_rfl) ?hf_65 ?hr_65 ?hQ_65 (Or.inl ⟨?hw_65, ?hy_65⟩) (by assumption) ?rest_65
                case hi_65 => ((simp only [List.getElem?_toArray, List.getElem?_cons_succ, List.getElem?_cons_zero]); rfl)
                case hf_65 => kernel_rfl
                case hr_65 => kernel_rfl
                case hQ_65 => exact fun _ _ _ h => h
                case hw_65 => rfl
                case hy_65 => ((intro w hSw; (try dsimp only at hSw); go_simp); all_goals (with_reducible rfl))
                try simp only [Act.put, List.setIfInBounds_toArray, List.set_cons_zero, List.set_cons_succ]
                refine wpAnyH_take (i := 13) (oi := ?oi_66) (v := ?v_66) ?hi_66 (by kernel_rfl) ?hf_66 ?hr_66 ?hQ_66 (Or.inl ⟨?hw_66, ?hy_66⟩) (by assumption) ?rest_66
                case hi_66 => ((simp only [List.getElem?_toArray, List.getElem?_cons_succ, List.getElem?_cons_zero]); rfl)
                case hf_66 => kernel_rfl
                case hr_66 => kernel_rfl
                case hQ_66 => exact fun _ _ _ h => h
                case hw_66 => rfl
                case hy_66 => ((intro w hSw; (try dsimp only at hSw); go_simp); all_goals (with_reducible rfl))
                try simp only [Act.put, List.setIfInBounds_toArray, List.set_cons_zero, List.set_cons_succ]
                refine wpAnyH_take (i := 14) (oi := ?oi_67) (v := ?v_67) ?hi_67 (by kernel_rfl) ?hf_67 ?hr_67 ?hQ_67 (Or.inl ⟨?hw_67, ?hy_67⟩) (by assumption) ?rest_67
                case hi_67 => ((simp only [List.getElem?_toArray, List.getElem?_cons_succ, List.getElem?_cons_zero]); rfl)
                case hf_67 => kernel_rfl
                case hr_67 => kernel_rfl
                case hQ_67 => exact fun _ _ _ h => h
                case hw_67 => rfl
                case hy_67 => ((intro w hSw; (try dsimp only at hSw); go_simp); all_goals (with_reducible rfl))
                try simp only [Act.put, List.setIfInBounds_toArray, List.set_cons_zero, List.set_cons_succ]
                refine wpAnyH_take (i := 15) (oi := ?oi_68) (v := ?v_68) ?hi_68 (by kernel_rfl) ?hf_68 ?hr_68 ?hQ_68 (Or.inl ⟨?hw_68, ?hy_68⟩) (by assumption) ?rest_68
                case hi_68 => ((simp only [List.getElem?_toArray, List.getElem?_cons_succ, List.getElem?_cons_zero]); rfl)
                case hf_68 => kernel_rfl
                case hr_68 => kernel_rfl
                case hQ_68 => exact fun _ _ _ h => h
                case hw_68 => rfl
                case hy_68 => ((intro w hSw; (try dsimp only at hSw); go_simp); all_goals (with_reducible rfl))
                try simp only [Act.put, List.setIfInBounds_toArray, List.set_cons_zero, List.set_cons_succ]
                refine wpAnyH_take (i := 16) (oi := ?oi_69) (v := ?v_69) ?hi_69 (by kernel_rfl) ?hf_69 ?hr_69 ?hQ_69 (Or.inl ⟨?hw_69, ?hy_69⟩) (by assumption) ?rest_69
                case hi_69 => ((simp only [List.getElem?_toArray, List.getElem?_cons_succ, List.getElem?_cons_zero]); rfl)
                case hf_69 => kernel_rfl
                case hr_69 => kernel_rfl
                case hQ_69 => exact fun _ _ _ h => h
                case hw_69 => rfl
                case hy_69 => ((intro w hSw; (try dsimp only at hSw); go_simp); all_goals (with_reducible rfl))
                try simp only [Act.put, List.setIfInBounds_toArray, List.set_cons_zero, List.set_cons_succ]
                refine wpAnyH_take (i := 17) (oi := ?oi_70) (v := ?v_70) ?hi_70 (by kernel_rfl) ?hf_70 ?hr_70 ?hQ_70 (Or.inl ⟨?hw_70, ?hy_70⟩) (by assumption) ?rest_70
                case hi_70 => ((simp only [List.getElem?_toArray, List.getElem?_cons_succ, List.getElem?_cons_zero]); rfl)
                case hf_70 => kernel_rfl
                case hr_70 => kernel_rfl
                case hQ_70 => exact fun _ _ _ h => h
                case hw_70 => rfl
                case hy_70 => ((intro w hSw; (try dsimp only at hSw); go_simp); all_goals (with_reducible rfl))
                try simp only [Act.put, List.setIfInBounds_toArray, List.set_cons_zero, List.set_cons_succ]
                refine wpAnyH_take (i := 18) (oi := ?oi_71) (v := ?v_71) ?hi_71 (by kernel_rfl) ?hf_71 ?hr_71 ?hQ_71 (Or.inl ⟨?hw_71, ?hy_71⟩) (by assumption) ?rest_71
                case hi_71 => ((simp only [List.getElem?_toArray, List.getElem?_cons_succ, List.getElem?_cons_zero]); rfl)
                case hf_71 => kernel_rfl
                case hr_71 => kernel_rfl
                case hQ_71 => exact fun _ _ _ h => h
                case hw_71 => rfl
                case hy_71 => ((intro w hSw; (try dsimp only at hSw); go_simp); all_goals (with_reducible rfl))
                try simp only [Act.put, List.setIfInBounds_toArray, List.set_cons_zero, List.set_cons_succ]
                refine wpAnyH_take (i := 19) (oi := ?oi_72) (v := ?v_72) ?hi_72 (by kernel_rfl) ?hf_72 ?hr_72 ?hQ_72 (Or.inl ⟨?hw_72, ?hy_72⟩) (by assumption) ?rest_72
                case hi_72 => ((simp only [List.getElem?_toArray, List.getElem?_cons_succ, List.getElem?_cons_zero]); rfl)
                case hf_72 => kernel_rfl
                case hr_72 => kernel_rfl
                case hQ_72 => exact fun _ _ _ h => h
                case hw_72 => rfl
                case hy_72 => ((intro w hSw; (try dsimp only at hSw); go_simp); all_goals (with_reducible rfl))
                try simp only [Act.put, List.setIfInBounds_toArray, List.set_cons_zero, List.set_cons_succ]
                refine wpAnyH_take (i := 20) (oi := ?oi_73) (v := ?v_73) ?hi_73 (by kernel_rfl) ?hf_73 ?hr_73 ?hQ_73 (Or.inl ⟨?hw_73, ?hy_73⟩) (by assumption) ?rest_73
                case hi_73 => ((simp only [List.getElem?_toArray, List.getElem?_cons_succ, List.getElem?_cons_zero]); rfl)
                case hf_73 => kernel_rfl
                case hr_73 => kernel_rfl
                case hQ_73 => exact fun _ _ _ h => h
                case hw_73 => rfl
                case hy_73 => ((intro w hSw; (try dsimp only at hSw); go_simp); all_goals (with_reducible rfl))
                try simp only [Act.put, List.setIfInBounds_toArray, List.set_cons_zero, List.set_cons_succ]
                refine wpAnyH_take (i := 21) (oi := ?oi_74) (v := ?v_74) ?hi_74 (by kernel_rfl) ?hf_74 ?hr_74 ?hQ_74 (Or.inl ⟨?hw_74, ?hy_74⟩) (by assumption) ?rest_74
                case hi_74 => ((simp only [List.getElem?_toArray, List.getElem?_cons_succ, List.getElem?_cons_zero]); rfl)
                case hf_74 => kernel_rfl
                case hr_74 => kernel_rfl
                case hQ_74 => exact fun _ _ _ h => h
                case hw_74 => rfl
                case hy_74 => ((intro w hSw; (try dsimp only at hSw); go_simp); all_goals (with_reducible rfl))
                try simp only [Act.put, List.setIfInBounds_toArray, List.set_cons_zero, List.set_cons_succ]
                refine wpAnyH_take (i := 22) (oi := ?oi_75) (v := ?v_75) ?hi_75 (by kernel_rfl) ?hf_75 ?hr_75 ?hQ_75 (Or.inl ⟨?hw_75, ?hy_75⟩) (by assumption) ?rest_75
                case hi_75 => ((simp only [List.getElem?_toArray, List.getElem?_cons_succ, List.getElem?_cons_zero]); rfl)
                case hf_75 => kernel_rfl
                case hr_75 => kernel_rfl
                case hQ_75 => exact fun _ _ _ h => h
                case hw_75 => rfl
                case hy_75 => ((intro w hSw; (try dsimp only at hSw); go_simp); all_goals (with_reducible rfl))
                try simp only [Act.put, List.setIfInBounds_toArray, List.set_cons_zero, List.set_cons_succ]
                refine wpAnyH_ready (rs := [23]) (by kernel_rfl) (by simp) ?_
                refine AllReadyH.cons (o := ?o1_76) ?hi_76 (fun K hK => ?rest_76) AllReadyH.nil
                case hi_76 => ((simp only [List.getElem?_toArray, List.getElem?_cons_succ, List.getElem?_cons_zero]); rfl)
                go_simp
                (first | (go_at_call 43; (with_reducible refine (CM.out _).mono ?_); rintro e wq ⟨rfl, hbq⟩) | (go_at_call 41; (with_reducible refine (CA.out _ hHeld).mono ?_); rintro e wq ⟨rfl, hbq⟩))
                try go_simp
                refine hK.out _ _ (by exact (show Below W3.heap.size W3 _ from by repeat (first | assumption | exact Below.refl _ _ | refine belDrew ?_ | refine belAlloc ?_ _ | refine belStep ?_ (by assumption)))) (fun hHeld => ?_)
                clear hK K
                try simp only [Act.put, List.setIfInBounds_toArray, List.set_cons_zero, List.set_cons_succ]
                refine wpAnyH_take (i := 24) (oi := ?oi_77) (v := ?v_77) ?hi_77 (by kernel_rfl) ?hf_77 ?hr_77 ?hQ_77 (Or.inl ⟨?hw_77, ?hy_77⟩) (by assumption) ?rest_77
                case hi_77 => ((simp only [List.getElem?_toArray, List.getElem?_cons_succ, List.getElem?_cons_zero]); rfl)
                case hf_77 => kernel_rfl
                case hr_77 => kernel_rfl
                case hQ_77 => exact fun _ _ _ h => h
                case hw_77 => rfl
                case hy_77 => ((intro w hSw; (try dsimp only at hSw); go_simp); all_goals (with_reducible rfl))
                try simp only [Act.put, List.setIfInBounds_toArray, List.set_cons_zero, List.set_cons_succ]
                refine wpAnyH_take (i := 25) (oi := ?oi_78) (v := ?v_78) ?hi_78 (by kernel_rfl) ?hf_78 ?hr_78 ?hQ_78 (Or.inl ⟨?hw_78, ?hy_78⟩) (by assumption) ?rest_78
                case hi_78 => ((simp only [List.getElem?_toArray, List.getElem?_cons_succ, List.getElem?_cons_zero]); rfl)
                case hf_78 => kernel_rfl
                case hr_78 => kernel_rfl
                case hQ_78 => exact fun _ _ _ h => h
                case hw_78 => rfl
                case hy_78 => ((intro w hSw; (try dsimp only at hSw); go_simp); all_goals (with_reducible rfl))
                try simp only [Act.put, List.setIfInBounds_toArray, List.set_cons_zero, List.set_cons_succ]
                refine wpAnyH_done (by kernel_rfl) ?_ _
                have hbel := hHeld
                clear hHeld
                go_wp2
                go_roundw
                case rel => exact ⟨k + 1, by omega, by push_cast; rfl, belStep HBW.out hbel⟩
                case measure => simp [intOf] <;> omega
          · obtain rfl : k = T.length := by omega
            have hd : decide ((T.length : Int) < (T.length : Int)) = false := decide_eq_false (by omega)
            have hki : ¬ (T.length : Int) < (T.length : Int) := by omega
            go_wp2
            go_ret
            exact ⟨rfl, belStep hw hbel⟩

set_option maxRecDepth 100000 in
theorem lifted (os : Os) (started : os.Started) (H : Type) (enc : TypeId × Value → H) :
    ReturnsInHanded {} Try.checked os 13 .any (Rows.rankFirstSpec.pre6 enc Try.prog Try.f13 Rows.rankFirstRow.domain false) (Rows.rankFirstSpec.post enc Try.prog Try.f13 false true false false) := by
  refine returnsInHanded_of_change (C := Try.checked) own started (by kernel_rfl) Try.func13
    (ChangeSpec.witness6 (enc := enc) (C := Try.checked) false ⟨#[], #[.int .u8 0, .slice none 0 0, .agg #[.int .i64 0, .float .f64 0, .float .f64 0, .float .f64 0, .slice none 0 0]], []⟩ 8 (by kernel_rfl) (by kernel_rfl) (by kernel_rfl) (by kernel_rfl)) ?_
  intro W base args ds gs before hval0 hW hcnd _
  have hval : ∀ (j : Nat) t v, Try.f13.params[j]? = some t → args[j]? = some v → Value.okWide Try.prog W .any base t v := hval0
  have hW' := hW
  obtain ⟨p, q, hA0, hV, rfl, hfz, hnd⟩ := hW
  have hA : DataW.TrodAll enc Try.prog W 0 (fun _ => true) true Try.f13.params.toList args.toList ds p := hA0
  rw [Try.params13] at hA hval
  obtain ⟨v0, vs0, d0, ds0, p0, q0, hargs, rfl, rfl, h0, r0⟩ := trodAll_cons hA
  obtain ⟨v1, vs1, d1, ds1, p1, q1, rfl, rfl, rfl, h1, r1⟩ := trodAll_cons r0
  obtain ⟨v2, vs2, d2, ds2, p2, q2, rfl, rfl, rfl, h2, r2⟩ := trodAll_cons r1
  obtain ⟨rfl, rfl, rfl⟩ := trodAll_nil r2
  obtain rfl : args = #[v0, v1, v2] := by cases args; simp_all
  obtain ⟨rfl, rfl⟩ := trodVars_none hV
  have k0 := h0
  have lt0 : ∀ x ∈ p0, x.block < W.heap.size := by obtain ⟨m, hm⟩ := k0; exact DataW.trod_lt m _ _ _ hm
  have o0 : Value.okWide Try.prog W .any base 5 v0 := hval 0 5 v0 rfl rfl
  obtain ⟨a0, rfl, rfl, rfl, w0⟩ := open_int Try.underlying5 o0 h0
  have k1 := h1
  have lt1 : ∀ x ∈ p1, x.block < W.heap.size := by obtain ⟨m, hm⟩ := k1; exact DataW.trod_lt m _ _ _ hm
  have o1 : Value.okWide Try.prog W .any base 71 v1 := hval 1 71 v1 rfl rfl
  obtain ⟨ta1, tlen1, tcap1, T1, rfl, f1, g1, i1⟩ := open_ents o1 h1
  have k2 := h2
  have lt2 : ∀ x ∈ p2, x.block < W.heap.size := by obtain ⟨m, hm⟩ := k2; exact DataW.trod_lt m _ _ _ hm
  have o2 : Value.okWide Try.prog W .any base 26 v2 := hval 2 26 v2 rfl rfl
  obtain ⟨x2, a2, len2, cap2, L2, rfl, fa2, fb2, fc2, fd2⟩ := open_raw o2 h2
  clear hA0 hval0
  refine (walk a0 ta1 tlen1 tcap1 T1 x2 a2 len2 cap2 L2 W (in8_of_wf w0) f1 g1 i1 fa2 fb2 fc2 fd2).mono fun e W' ⟨he, bel⟩ => ?_
  subst he
  exact ⟨_, rfl, _, _, _, [], _, [], hW', trodAll_mk1 (shut_bool Try.underlying4 _), (trodAll_cons_mk (Below.trod laidOut (by kernel_rfl) (of_decide_eq_true (by kernel_rfl)) k0 bel lt0) (trodAll_cons_mk (Below.trod laidOut (by kernel_rfl) (of_decide_eq_true (by kernel_rfl)) k1 bel lt1) (trodAll_cons_mk (Below.trod laidOut (by kernel_rfl) (of_decide_eq_true (by kernel_rfl)) k2 bel lt2) trodAll_mk0))), rfl, bel.frame _, fun h => by cases h⟩

theorem over : Rows.rankFirstRow.holds Try.pinned (OpenSpec.ofChange Rows.rankFirstSpec) :=
  OpenClaim.holds_of_wide 13 Try.f13 rfl rfl rfl rfl rfl rfl rfl ⟨rfl, rfl, rfl, rfl, rfl⟩ rfl rfl rfl rfl rfl (by kernel_rfl) Try.func13 (by kernel_rfl)
    (of_decide_eq_true (by kernel_rfl)) (by unfold Func.isWrapper; first | (rw [if_pos (by decide +kernel)]; kernel_rfl) | (rw [if_neg (by decide +kernel)]; exact ⟨rfl, rfl⟩))
    (fun os started H enc _ => lifted os started H enc)

/-- The statement. -/
theorem proved : Rows.RankFirstSaid := over
#print axioms proved

end Go.Proofs.Ytcgpmihjodolmaa.rankFirst
