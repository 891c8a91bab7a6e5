
/- RankTable holds for all its arguments. No conditions. -/
import Derived.Test.YtcgpmihjodolmaaAwake20
import Derived.Test.YtcgpmihjodolmaaRkLM
namespace Go.Proofs.Ytcgpmihjodolmaa.rankTable
open Go.ChangeShapes Go.WideShapes Go.ChangeAt Go.RowKit
open Go.ChangeMaps (open_string shut_string)
set_option linter.unusedVariables false
set_option linter.unusedSimpArgs false
theorem sig_any (n : Int) (w : World) (hn : 0 ≤ n ∧ n ≤ 255) : Calls Try.prog 38 #[.int .u8 n] w fun e w' => (∃ g : Nat, g < 3 ∧ e = .returned (.int .i64 (g : Int))) ∧ w = w' := by
  obtain ⟨h0, h1⟩ := hn
  have hne : ¬ ((3 : Int) = 0) := by omega
  obtain ⟨g, hg⟩ : ∃ g : Nat, n % 3 = (g : Int) := ⟨(n % 3).toNat, by omega⟩
  have hg3 : g < 3 := by omega
  go_enter Try.func38, Try.ntmps38
  go_wp2
  go_ret
  exact ⟨⟨g, hg3, rfl⟩, rfl⟩
theorem readF_bd (n : Nat) : 0 ≤ readF n ∧ readF n ≤ 9223372036854775807 := by
  unfold readF
  split
  · omega
  · split
    · omega
    · rename_i h
      have := whole_lt (frung n) (by omega)
      omega
theorem readL_ok (L : List UsgV) : ∀ u ∈ readL L, UseOK u := by
  intro u hu
  unfold readL sortU at hu
  obtain ⟨v, _, rfl⟩ := List.mem_map.1 (sortBy_mem.1 hu)
  exact ⟨readF_bd _, readF_bd _, readF_bd _⟩
theorem rread2 {r : RawV} {a : Option Addr} {len cap : Nat} {L : List UsgV} {w : World} {S : SmpV} (hl : L.length = len) (hr : r.ok) (hok : ∀ x ∈ L, x.ok) (hR : Row w a len cap 4 (L.flatMap UsgV.cells)) (hq : rightR r L = true) (hS : readOK r L = S) :
    Calls Try.prog 24 #[.agg #[.int .i64 r.t, .float .f64 r.x, .float .f64 r.y, .float .f64 r.z, .slice a len cap]] w fun e w' => (∃ b n, e = .returned (.agg #[.int .i64 S.t, .int .i64 S.a, .int .i64 S.b, .int .i64 S.c, .slice b S.use.length n]) ∧ OwnR w' w.heap.size 51 4 (.slice b S.use.length n) S.use.length (S.use.flatMap UseV.cells)) ∧ Below w.heap.size w w' := hS ▸ sref_Read r a len cap L w hl hr hok hR hq
theorem info_ent : (Try.prog.info? 66).map (fun i => (i.zero, i.size, i.bytes)) = some (some (.agg #[.string ⟨#[]⟩, .int .i64 0, .bool false, .int .i64 0, .int .i64 0, .int .i64 0, .int .i64 0, .int .i64 0, .int .i64 0, .string ⟨#[]⟩, .int .i64 0, .int .i64 0]), 12, 112) := by kernel_rfl
theorem ent_one (x : EntV) : ∀ u ∈ x.cells, u.oneCell' = true := by
  intro u hp
  simp [EntV.cells] at hp
  rcases hp with rfl | rfl | rfl | rfl | rfl | rfl | rfl | rfl | rfl | rfl | rfl | rfl <;> rfl
set_option maxRecDepth 100000 in
set_option maxHeartbeats 16000000 in
theorem walk (n : Int) (ta : Option Addr) (tlen tcap : Nat) (T : List EntV) (r : RawV) (a : Option Addr) (len cap : Nat) (L : List UsgV) (w : World) (hn : 0 ≤ n ∧ n ≤ 255) (htl : T.length = tlen) (htok : ∀ x ∈ T, x.ok) (hTR : Row w ta tlen tcap 12 (T.flatMap EntV.cells)) (hr : r.ok) (hl : L.length = len) (hok : ∀ x ∈ L, x.ok) (hR : Row w a len cap 4 (L.flatMap UsgV.cells)) :
    Calls Try.prog 14 #[.int .u8 n, .slice ta tlen tcap, .agg #[.int .i64 r.t, .float .f64 r.x, .float .f64 r.y, .float .f64 r.z, .slice a len cap]] w fun e w' => e = .returned (.bool true) ∧ Below w.heap.size w w' := by
  have hw : Below w.heap.size w w := Below.refl _ _
  have hbel := hw
  have hbd_t : tlen ≤ tcap ∧ tcap ≤ 9223372036854775807 := by obtain ⟨_, h1, h2, _⟩ := hTR; unfold maxLen at h2; exact ⟨h1, h2⟩
  obtain ⟨hbd1_t, hbd2_t⟩ := hbd_t
  have hbd_a : len ≤ cap ∧ cap ≤ 9223372036854775807 := by obtain ⟨_, h1, h2, _⟩ := hR; unfold maxLen at h2; exact ⟨h1, h2⟩
  obtain ⟨hbd1_a, hbd2_a⟩ := hbd_a
  have HTR := Lib.hid hTR
  have HTO := Lib.hid htok
  have HR := Lib.hid hR
  have HOK := Lib.hid hok
  have HRO := Lib.hid hr
  have HN := Lib.hid hn
  clear hR hok hr hn hTR htok
  subst hl htl
  have CFW := Lib.hid (fun u (hu : Below w.heap.size w u) => sref_Few r a L.length cap L u rfl (HR.out.later hu))
  have CRR := Lib.hid (fun u (hu : Below w.heap.size w u) => sref_Right r a L.length cap L u rfl HRO.out HOK.out (HR.out.later hu))
  have CFT := Lib.hid (fun v (hv : Below w.heap.size w v) => rref_Fit ta T.length tcap T v rfl HTO.out (HTR.out.later hv))
  obtain ⟨rr, hrr⟩ : ∃ b, rightR r L = b := ⟨_, rfl⟩
  have HRR := Lib.hid hrr
  rw [hrr] at CRR
  clear hrr
  have CSG := Lib.hid (fun u => sig_any n u HN.out)
  rcases rr with _ | _
  · go_enter Try.func14, Try.ntmps14
    go_upto_region 1 with fail
    have rw0 : (w.alloc (.cells #[.int .i64 r.t, .float .f64 r.x, .float .f64 r.y, .float .f64 r.z, .slice a L.length cap] 26)).cell? ⟨w.heap.size, 0, none⟩ = some (.int .i64 r.t) := by first | (simp; done) | (rw [World.cell?_alloc_at _ _ _ _ (by simp)]; rfl) | (rw [World.cell?_alloc_past _ _ _ (by simp <;> omega), World.cell?_alloc_at _ _ _ _ (by simp)]; rfl) | (rw [World.cell?_alloc_past _ _ _ (by simp <;> omega), World.cell?_alloc_past _ _ _ (by simp <;> omega), World.cell?_alloc_at _ _ _ _ (by simp)]; rfl)
    have rw1 : (w.alloc (.cells #[.int .i64 r.t, .float .f64 r.x, .float .f64 r.y, .float .f64 r.z, .slice a L.length cap] 26)).cell? ⟨w.heap.size, 1, none⟩ = some (.float .f64 r.x) := by first | (simp; done) | (rw [World.cell?_alloc_at _ _ _ _ (by simp)]; rfl) | (rw [World.cell?_alloc_past _ _ _ (by simp <;> omega), World.cell?_alloc_at _ _ _ _ (by simp)]; rfl) | (rw [World.cell?_alloc_past _ _ _ (by simp <;> omega), World.cell?_alloc_past _ _ _ (by simp <;> omega), World.cell?_alloc_at _ _ _ _ (by simp)]; rfl)
    have rw2 : (w.alloc (.cells #[.int .i64 r.t, .float .f64 r.x, .float .f64 r.y, .float .f64 r.z, .slice a L.length cap] 26)).cell? ⟨w.heap.size, 2, none⟩ = some (.float .f64 r.y) := by first | (simp; done) | (rw [World.cell?_alloc_at _ _ _ _ (by simp)]; rfl) | (rw [World.cell?_alloc_past _ _ _ (by simp <;> omega), World.cell?_alloc_at _ _ _ _ (by simp)]; rfl) | (rw [World.cell?_alloc_past _ _ _ (by simp <;> omega), World.cell?_alloc_past _ _ _ (by simp <;> omega), World.cell?_alloc_at _ _ _ _ (by simp)]; rfl)
    have rw3 : (w.alloc (.cells #[.int .i64 r.t, .float .f64 r.x, .float .f64 r.y, .float .f64 r.z, .slice a L.length cap] 26)).cell? ⟨w.heap.size, 3, none⟩ = some (.float .f64 r.z) := by first | (simp; done) | (rw [World.cell?_alloc_at _ _ _ _ (by simp)]; rfl) | (rw [World.cell?_alloc_past _ _ _ (by simp <;> omega), World.cell?_alloc_at _ _ _ _ (by simp)]; rfl) | (rw [World.cell?_alloc_past _ _ _ (by simp <;> omega), World.cell?_alloc_past _ _ _ (by simp <;> omega), World.cell?_alloc_at _ _ _ _ (by simp)]; rfl)
    have rw4 : (w.alloc (.cells #[.int .i64 r.t, .float .f64 r.x, .float .f64 r.y, .float .f64 r.z, .slice a L.length cap] 26)).cell? ⟨w.heap.size, 4, none⟩ = some (.slice a L.length cap) := by first | (simp; done) | (rw [World.cell?_alloc_at _ _ _ _ (by simp)]; rfl) | (rw [World.cell?_alloc_past _ _ _ (by simp <;> omega), World.cell?_alloc_at _ _ _ _ (by simp)]; rfl) | (rw [World.cell?_alloc_past _ _ _ (by simp <;> omega), World.cell?_alloc_past _ _ _ (by simp <;> omega), World.cell?_alloc_at _ _ _ _ (by simp)]; rfl)
    have hb2 := (by repeat (first | exact hbel | refine belAlloc ?_ _ | refine belDrew ?_ | refine belSet ?_ _ _ (by simp)) : Below w.heap.size w (w.alloc (.cells #[.int .i64 r.t, .float .f64 r.x, .float .f64 r.y, .float .f64 r.z, .slice a L.length cap] 26)))
    replace hw := belStep hw hb2
    clear hb2 hbel
    generalize w.alloc (.cells #[.int .i64 r.t, .float .f64 r.x, .float .f64 r.y, .float .f64 r.z, .slice a L.length cap] 26) = W1 at *
    replace rw0 := keep rw0
    replace rw1 := keep rw1
    replace rw2 := keep rw2
    replace rw3 := keep rw3
    replace rw4 := keep rw4
    have hbel : Below W1.heap.size W1 W1 := Below.refl _ _
    skip
    go_wp2_with (first | (go_at_call 35; (with_reducible refine (awake20 _).mono ?_); rintro e w1 ⟨rfl, hb1⟩; replace hbel := belStep hbel hb1; clear hb1) | (go_at_call 45; (with_reducible refine (CFT.out _ (belStep hw hbel)).mono ?_); rintro e w3 ⟨⟨b, rfl, hq⟩, hb3⟩; replace hbel := belStep hbel hb3; clear hb3; have HT := Lib.hid hq; clear hq; rcases b with _ | _) | (go_at_call 22; (with_reducible refine (CRR.out _ (belStep hw hbel)).mono ?_); rintro e w1 ⟨rfl, hb1⟩; replace hbel := belStep hbel hb1; clear hb1) | (go_at_call 19; (with_reducible refine (CFW.out _ (belStep hw hbel)).mono ?_); rintro e u2 ⟨⟨fb, rfl, hq⟩, hb2⟩; replace hbel := belStep hbel hb2; clear hb2; have HFW := Lib.hid hq; clear hq; rcases fb with _ | _))
    all_goals
      go_ret
      exact ⟨rfl, belStep hw hbel⟩
  obtain ⟨S, hS⟩ : ∃ S, readOK r L = S := ⟨_, rfl⟩
  have HUO := Lib.hid (show ∀ u ∈ S.use, UseOK u by rw [← hS]; exact readL_ok L)
  have CRE := Lib.hid (fun u (hu : Below w.heap.size w u) => rread2 rfl HRO.out HOK.out (HR.out.later hu) HRR.out hS)
  clear hS
  go_enter Try.func14, Try.ntmps14
  go_upto_region 1 with fail
  have rw0 : (w.alloc (.cells #[.int .i64 r.t, .float .f64 r.x, .float .f64 r.y, .float .f64 r.z, .slice a L.length cap] 26)).cell? ⟨w.heap.size, 0, none⟩ = some (.int .i64 r.t) := by first | (simp; done) | (rw [World.cell?_alloc_at _ _ _ _ (by simp)]; rfl) | (rw [World.cell?_alloc_past _ _ _ (by simp <;> omega), World.cell?_alloc_at _ _ _ _ (by simp)]; rfl) | (rw [World.cell?_alloc_past _ _ _ (by simp <;> omega), World.cell?_alloc_past _ _ _ (by simp <;> omega), World.cell?_alloc_at _ _ _ _ (by simp)]; rfl)
  have rw1 : (w.alloc (.cells #[.int .i64 r.t, .float .f64 r.x, .float .f64 r.y, .float .f64 r.z, .slice a L.length cap] 26)).cell? ⟨w.heap.size, 1, none⟩ = some (.float .f64 r.x) := by first | (simp; done) | (rw [World.cell?_alloc_at _ _ _ _ (by simp)]; rfl) | (rw [World.cell?_alloc_past _ _ _ (by simp <;> omega), World.cell?_alloc_at _ _ _ _ (by simp)]; rfl) | (rw [World.cell?_alloc_past _ _ _ (by simp <;> omega), World.cell?_alloc_past _ _ _ (by simp <;> omega), World.cell?_alloc_at _ _ _ _ (by simp)]; rfl)
  have rw2 : (w.alloc (.cells #[.int .i64 r.t, .float .f64 r.x, .float .f64 r.y, .float .f64 r.z, .slice a L.length cap] 26)).cell? ⟨w.heap.size, 2, none⟩ = some (.float .f64 r.y) := by first | (simp; done) | (rw [World.cell?_alloc_at _ _ _ _ (by simp)]; rfl) | (rw [World.cell?_alloc_past _ _ _ (by simp <;> omega), World.cell?_alloc_at _ _ _ _ (by simp)]; rfl) | (rw [World.cell?_alloc_past _ _ _ (by simp <;> omega), World.cell?_alloc_past _ _ _ (by simp <;> omega), World.cell?_alloc_at _ _ _ _ (by simp)]; rfl)
  have rw3 : (w.alloc (.cells #[.int .i64 r.t, .float .f64 r.x, .float .f64 r.y, .float .f64 r.z, .slice a L.length cap] 26)).cell? ⟨w.heap.size, 3, none⟩ = some (.float .f64 r.z) := by first | (simp; done) | (rw [World.cell?_alloc_at _ _ _ _ (by simp)]; rfl) | (rw [World.cell?_alloc_past _ _ _ (by simp <;> omega), World.cell?_alloc_at _ _ _ _ (by simp)]; rfl) | (rw [World.cell?_alloc_past _ _ _ (by simp <;> omega), World.cell?_alloc_past _ _ _ (by simp <;> omega), World.cell?_alloc_at _ _ _ _ (by simp)]; rfl)
  have rw4 : (w.alloc (.cells #[.int .i64 r.t, .float .f64 r.x, .float .f64 r.y, .float .f64 r.z, .slice a L.length cap] 26)).cell? ⟨w.heap.size, 4, none⟩ = some (.slice a L.length cap) := by first | (simp; done) | (rw [World.cell?_alloc_at _ _ _ _ (by simp)]; rfl) | (rw [World.cell?_alloc_past _ _ _ (by simp <;> omega), World.cell?_alloc_at _ _ _ _ (by simp)]; rfl) | (rw [World.cell?_alloc_past _ _ _ (by simp <;> omega), World.cell?_alloc_past _ _ _ (by simp <;> omega), World.cell?_alloc_at _ _ _ _ (by simp)]; rfl)
  have hb2 := (by repeat (first | exact hbel | refine belAlloc ?_ _ | refine belDrew ?_ | refine belSet ?_ _ _ (by simp)) : Below w.heap.size w (w.alloc (.cells #[.int .i64 r.t, .float .f64 r.x, .float .f64 r.y, .float .f64 r.z, .slice a L.length cap] 26)))
  replace hw := belStep hw hb2
  clear hb2 hbel
  generalize w.alloc (.cells #[.int .i64 r.t, .float .f64 r.x, .float .f64 r.y, .float .f64 r.z, .slice a L.length cap] 26) = W1 at *
  replace rw0 := keep rw0
  replace rw1 := keep rw1
  replace rw2 := keep rw2
  replace rw3 := keep rw3
  replace rw4 := keep rw4
  have hbel : Below W1.heap.size W1 W1 := Below.refl _ _
  skip
  go_upto_region 3 with (first | (go_at_call 35; (with_reducible refine (awake20 _).mono ?_); rintro e w1 ⟨rfl, hb1⟩; replace hbel := belStep hbel hb1; clear hb1) | (go_at_call 45; (with_reducible refine (CFT.out _ (belStep hw hbel)).mono ?_); rintro e w3 ⟨⟨b, rfl, hq⟩, hb3⟩; replace hbel := belStep hbel hb3; clear hb3; have HT := Lib.hid hq; clear hq; rcases b with _ | _) | (go_at_call 22; (with_reducible refine (CRR.out _ (belStep hw hbel)).mono ?_); rintro e w1 ⟨rfl, hb1⟩; replace hbel := belStep hbel hb1; clear hb1) | (go_at_call 19; (with_reducible refine (CFW.out _ (belStep hw hbel)).mono ?_); rintro e u2 ⟨⟨fb, rfl, hq⟩, hb2⟩; replace hbel := belStep hbel hb2; clear hb2; have HFW := Lib.hid hq; clear hq; rcases fb with _ | _))
  · go_ret
    exact ⟨rfl, belStep hw hbel⟩
  · go_ret
    exact ⟨rfl, belStep hw hbel⟩
  clear CFW HFW CRR CFT
  replace HT := Lib.hid (HT.out (by trivial))
  have hT64 : T.length ≤ 64 := HT.out.len
  go_upto_region 4 with (go_at_call 38; (with_reducible refine (CSG.out _).mono ?_); rintro e wg ⟨⟨g, hg, rfl⟩, rfl⟩)
  go_upto_region 5 with (go_at_call 24; (with_reducible refine (CRE.out _ (belStep hw hbel)).mono ?_); rintro e u1 ⟨⟨b1, n1, rfl, ho1⟩, hb1⟩; replace hbel := belStep hbel hb1)
  have HX1 := Lib.hid ((row_of_ownL ho1).later (belAlloc (Below.refl u1.heap.size u1) (.cells #[.int .i64 S.t, .int .i64 S.a, .int .i64 S.b, .int .i64 S.c, .slice b1 S.use.length n1] 32)))
  clear ho1 hb1
  have ss0 : (u1.alloc (.cells #[.int .i64 S.t, .int .i64 S.a, .int .i64 S.b, .int .i64 S.c, .slice b1 S.use.length n1] 32)).cell? ⟨u1.heap.size, 0, none⟩ = some (.int .i64 S.t) := by first | (simp; done) | (rw [World.cell?_alloc_at _ _ _ _ (by simp)]; rfl) | (rw [World.cell?_alloc_past _ _ _ (by simp <;> omega), World.cell?_alloc_at _ _ _ _ (by simp)]; rfl) | (rw [World.cell?_alloc_past _ _ _ (by simp <;> omega), World.cell?_alloc_past _ _ _ (by simp <;> omega), World.cell?_alloc_at _ _ _ _ (by simp)]; rfl)
  have ss1 : (u1.alloc (.cells #[.int .i64 S.t, .int .i64 S.a, .int .i64 S.b, .int .i64 S.c, .slice b1 S.use.length n1] 32)).cell? ⟨u1.heap.size, 1, none⟩ = some (.int .i64 S.a) := by first | (simp; done) | (rw [World.cell?_alloc_at _ _ _ _ (by simp)]; rfl) | (rw [World.cell?_alloc_past _ _ _ (by simp <;> omega), World.cell?_alloc_at _ _ _ _ (by simp)]; rfl) | (rw [World.cell?_alloc_past _ _ _ (by simp <;> omega), World.cell?_alloc_past _ _ _ (by simp <;> omega), World.cell?_alloc_at _ _ _ _ (by simp)]; rfl)
  have ss2 : (u1.alloc (.cells #[.int .i64 S.t, .int .i64 S.a, .int .i64 S.b, .int .i64 S.c, .slice b1 S.use.length n1] 32)).cell? ⟨u1.heap.size, 2, none⟩ = some (.int .i64 S.b) := by first | (simp; done) | (rw [World.cell?_alloc_at _ _ _ _ (by simp)]; rfl) | (rw [World.cell?_alloc_past _ _ _ (by simp <;> omega), World.cell?_alloc_at _ _ _ _ (by simp)]; rfl) | (rw [World.cell?_alloc_past _ _ _ (by simp <;> omega), World.cell?_alloc_past _ _ _ (by simp <;> omega), World.cell?_alloc_at _ _ _ _ (by simp)]; rfl)
  have ss3 : (u1.alloc (.cells #[.int .i64 S.t, .int .i64 S.a, .int .i64 S.b, .int .i64 S.c, .slice b1 S.use.length n1] 32)).cell? ⟨u1.heap.size, 3, none⟩ = some (.int .i64 S.c) := by first | (simp; done) | (rw [World.cell?_alloc_at _ _ _ _ (by simp)]; rfl) | (rw [World.cell?_alloc_past _ _ _ (by simp <;> omega), World.cell?_alloc_at _ _ _ _ (by simp)]; rfl) | (rw [World.cell?_alloc_past _ _ _ (by simp <;> omega), World.cell?_alloc_past _ _ _ (by simp <;> omega), World.cell?_alloc_at _ _ _ _ (by simp)]; rfl)
  have ss4 : (u1.alloc (.cells #[.int .i64 S.t, .int .i64 S.a, .int .i64 S.b, .int .i64 S.c, .slice b1 S.use.length n1] 32)).cell? ⟨u1.heap.size, 4, none⟩ = some (.slice b1 S.use.length n1) := by first | (simp; done) | (rw [World.cell?_alloc_at _ _ _ _ (by simp)]; rfl) | (rw [World.cell?_alloc_past _ _ _ (by simp <;> omega), World.cell?_alloc_at _ _ _ _ (by simp)]; rfl) | (rw [World.cell?_alloc_past _ _ _ (by simp <;> omega), World.cell?_alloc_past _ _ _ (by simp <;> omega), World.cell?_alloc_at _ _ _ _ (by simp)]; rfl)
  have hb2 := (by repeat (first | exact hbel | refine belAlloc ?_ _ | refine belDrew ?_ | refine belSet ?_ _ _ (by simp)) : Below W1.heap.size W1 (u1.alloc (.cells #[.int .i64 S.t, .int .i64 S.a, .int .i64 S.b, .int .i64 S.c, .slice b1 S.use.length n1] 32)))
  replace rw0 := keepOnP rw0 hb2
  replace rw1 := keepOnP rw1 hb2
  replace rw2 := keepOnP rw2 hb2
  replace rw3 := keepOnP rw3 hb2
  replace rw4 := keepOnP rw4 hb2
  replace hw := belStep hw hb2
  clear hb2 hbel
  generalize u1.alloc (.cells #[.int .i64 S.t, .int .i64 S.a, .int .i64 S.b, .int .i64 S.c, .slice b1 S.use.length n1] 32) = W2 at *
  replace ss0 := keep ss0
  replace ss1 := keep ss1
  replace ss2 := keep ss2
  replace ss3 := keep ss3
  replace ss4 := keep ss4
  generalize u1.heap.size = M1 at *
  have hbel : Below W2.heap.size W2 W2 := Below.refl _ _
  clear u1
  replace HX1 := Lib.hid (fun u (hu : Below W2.heap.size W2 u) => HX1.out.later hu)
  have HTL := Lib.hid (fun u (hu : Below W2.heap.size W2 u) => HTR.out.later (belStep hw hu))
  clear CSG CRE
  have HB := Lib.hid hbel
  clear hbel
  have hlt0 : (0 : Int) ≤ (T.length : Int) := by omega
  go_wp2
  go_loopw [9, 10, 11] (fun v y i wr => ∃ m : Nat, m ≤ T.length ∧ i = .int .i64 ((m : Int) - 1) ∧ OwnR wr W2.heap.size 66 12 v ((T.drop m).reverse).length (((T.drop m).reverse).flatMap EntV.cells) ∧ OwnR wr W2.heap.size 66 12 y ((T.drop m).reverse.filter mayE).length (((T.drop m).reverse.filter mayE).flatMap EntV.cells) ∧ Sep v y ∧ Below W2.heap.size W2 wr) (fun _ _ i _ => (intOf i + 1).toNat)
  case atStart => exact ⟨T.length, Nat.le_refl _, rfl, by rw [List.drop_length]; exact OwnR.nil _ _ _ _, by rw [List.drop_length]; exact OwnR.nil _ _ _ _, Sep.nilL _, HB.out⟩
  case round =>
    obtain ⟨m, hm, rfl, hv, hy, hsep, hbel⟩ := hrel
    clear HB
    rcases m with _ | k
    · have h10 : ((0 : Nat) : Int) - 1 = -1 := rfl
      rw [h10]
      clear h10
      rw [List.drop_zero] at hv hy
      obtain ⟨va, vc, ve, hvr⟩ := rowR_of_own hv
      obtain ⟨ya, yc, ye, hyr⟩ := rowR_of_own hy
      subst ve ye
      clear hv hy hsep hlt0
      obtain ⟨zl, hzl⟩ : ∃ n, (T.filter mayE).length = n := ⟨_, rfl⟩
      have hl2 : (T.reverse.filter mayE).length = zl := by rw [← hzl]; exact ((List.reverse_perm T).filter mayE).length_eq
      rw [List.length_reverse] at hvr
      rw [hl2] at hyr
      (try simp only [List.length_reverse, hl2])
      obtain ⟨Q, hQ⟩ : ∃ Q, T.reverse = Q := ⟨_, rfl⟩
      obtain ⟨Z, hZ⟩ : ∃ Q, T.reverse.filter mayE = Q := ⟨_, rfl⟩
      have HQT := Lib.hid (hQ ▸ tab_rev HT.out)
      have HZT := Lib.hid (hZ ▸ tab_some HT.out)
      have HQO := Lib.hid (show ∀ x ∈ Q, x.ok by rw [← hQ]; intro x hx; exact HTO.out x (by simpa using hx))
      have HZO := Lib.hid (show ∀ x ∈ Z, x.ok by rw [← hZ]; intro x hx; exact HTO.out x (by simpa using (List.mem_filter.1 hx).1))
      have hoq := hQ ▸ order_rev (g := g) (U := S.use) HT.out
      have hoz := hZ ▸ order_some (g := g) (U := S.use) HT.out
      have hcn := order_cnt g T S.use
      rw [hzl] at hcn
      have hQl : Q.length = T.length := by rw [← hQ]; exact List.length_reverse
      have hZl : Z.length = zl := by rw [← hZ]; exact hl2
      clear hl2 hzl
      rw [hQ] at hvr
      rw [hZ] at hyr
      obtain ⟨G, hG⟩ : ∃ G, orderF g T S.use = G := ⟨_, rfl⟩
      rw [hG] at hoq hoz hcn
      have hZG : zl = G.length := hcn.symm
      clear hcn hQ hZ
      subst hZG
      have hG64 : G.length ≤ 64 := by have := order_len g T S.use; rw [hG] at this; omega
      have HVR := Lib.hid hvr
      have HYR := Lib.hid hyr
      clear hvr hyr
      have HBL := Lib.hid hbel
      replace ss0 := keepOnP ss0 hbel
      replace ss1 := keepOnP ss1 hbel
      replace ss2 := keepOnP ss2 hbel
      replace ss3 := keepOnP ss3 hbel
      replace ss4 := keepOnP ss4 hbel
      replace hw := belStep hw hbel
      clear hbel
      generalize wr = W3 at *
      have hbel : Below W3.heap.size W3 W3 := Below.refl _ _
      have CO := Lib.hid (show ∀ u : World, Below W3.heap.size W3 u → Calls Try.prog 46 #[.int .i64 g, .slice ta T.length tcap, .agg #[.int .i64 S.t, .int .i64 S.a, .int .i64 S.b, .int .i64 S.c, .slice b1 S.use.length n1]] u fun e w' => TextsP u G e w' ∧ Below u.heap.size u w' from fun u hu => by have h := rk_Order g g ta T.length tcap T S.t S.a S.b S.c b1 S.use.length n1 S.use u hg rfl HT.out HTO.out rfl (HTL.out u (belStep HBL.out hu)) HUO.out rfl (HX1.out u (belStep HBL.out hu)); rw [hG] at h; exact h)
      have CQ := Lib.hid (show ∀ u : World, Below W3.heap.size W3 u → Calls Try.prog 46 #[.int .i64 g, .slice va T.length vc, .agg #[.int .i64 S.t, .int .i64 S.a, .int .i64 S.b, .int .i64 S.c, .slice b1 S.use.length n1]] u fun e w' => TextsP u G e w' ∧ Below u.heap.size u w' from fun u hu => by have h := rk_Order g g va T.length vc Q S.t S.a S.b S.c b1 S.use.length n1 S.use u hg rfl HQT.out HQO.out hQl (HVR.out.later hu) HUO.out rfl (HX1.out u (belStep HBL.out hu)); rw [hoq] at h; exact h)
      have CZ := Lib.hid (show ∀ u : World, Below W3.heap.size W3 u → Calls Try.prog 46 #[.int .i64 g, .slice ya G.length yc, .agg #[.int .i64 S.t, .int .i64 S.a, .int .i64 S.b, .int .i64 S.c, .slice b1 S.use.length n1]] u fun e w' => TextsP u G e w' ∧ Below u.heap.size u w' from fun u hu => by have h := rk_Order g g ya G.length yc Z S.t S.a S.b S.c b1 S.use.length n1 S.use u hg rfl HZT.out HZO.out hZl (HYR.out.later hu) HUO.out rfl (HX1.out u (belStep HBL.out hu)); rw [hoz] at h; exact h)
      clear hoq hoz hG
      have HQl := Lib.hid hQl
      have HZl := Lib.hid hZl
      clear hQl hZl
      go_upto_region 14 with (go_at_call 46; (with_reducible refine (CO.out _ hbel).mono ?_); rintro e u5 ⟨⟨b5, n5, rfl, ho5⟩, hb5⟩; replace hbel := belStep hbel hb5)
      have HO5 := Lib.hid (row_of_ownL ho5)
      clear ho5 hb5 CO
      have hgg : ((G.length : Int) == (G.length : Int)) = true := beq_self_eq_true _
      have hgn : (G.length == G.length) = true := beq_self_eq_true _
      have HB35 := Lib.hid hbel
      replace ss0 := keepOnP ss0 hbel
      replace ss1 := keepOnP ss1 hbel
      replace ss2 := keepOnP ss2 hbel
      replace ss3 := keepOnP ss3 hbel
      replace ss4 := keepOnP ss4 hbel
      replace hw := belStep hw hbel
      clear hbel
      generalize u5 = W5 at *
      have hbel : Below W5.heap.size W5 W5 := Below.refl _ _
      have CS := Lib.hid (show ∀ (a2 : Option Addr) (n2 : Nat) (u : World), Below W5.heap.size W5 u → Row u a2 G.length n2 1 (G.map Value.string) → Calls Try.prog 49 #[.slice b5 G.length n5, .slice a2 G.length n2] u fun e w' => e = .returned (.bool true) ∧ Below u.heap.size u w' from fun a2 n2 u hu h2 => by have h := sames_any b5 a2 G.length G.length n5 n2 G G u rfl rfl (HO5.out.later hu) h2; rw [same_refl] at h; exact h)
      go_wp2_with (first | (go_at_call 46; (with_reducible refine (CQ.out _ (belStep HB35.out hbel)).mono ?_); rintro e u6 ⟨⟨b6, n6, rfl, ho6⟩, hb6⟩; replace hbel := belStep hbel hb6) | (go_at_call 46; (with_reducible refine (CZ.out _ (belStep HB35.out hbel)).mono ?_); rintro e u7 ⟨⟨b7, n7, rfl, ho7⟩, hb7⟩; replace hbel := belStep hbel hb7) | (go_at_call 49; (with_reducible refine (CS.out b6 n6 _ hbel (row_of_ownL ho6)).mono ?_); rintro e w9 ⟨rfl, hb9⟩; replace hbel := belStep hbel hb9; clear hb9) | (go_at_call 49; (with_reducible refine (CS.out b7 n7 _ hbel (row_of_ownL ho7)).mono ?_); rintro e w9 ⟨rfl, hb9⟩; replace hbel := belStep hbel hb9; clear hb9))
      go_ret
      exact ⟨rfl, belStep hw hbel⟩
    · have hk1 : (((k + 1 : Nat) : Int) - 1) = (k : Int) := by omega
      rw [hk1]
      clear hk1
      have hlt : k < T.length := by omega
      obtain ⟨x, hx⟩ : ∃ x, T[k]? = some x := ⟨T[k], List.getElem?_eq_getElem hlt⟩
      obtain ⟨bc, oc, ec, _, hcc⟩ := (HTL.out _ (Below.refl _ _)).elem EntV.cells_len (by omega) hx
      subst ec
      have c0 := keep (hcc 0 _ rfl)
      have c1 := keep (hcc 1 _ rfl)
      have c2 := keep (hcc 2 _ rfl)
      have c3 := keep (hcc 3 _ rfl)
      have c4 := keep (hcc 4 _ rfl)
      have c5 := keep (hcc 5 _ rfl)
      have c6 := keep (hcc 6 _ rfl)
      have c7 := keep (hcc 7 _ rfl)
      have c8 := keep (hcc 8 _ rfl)
      have c9 := keep (hcc 9 _ rfl)
      have c10 := keep (hcc 10 _ rfl)
      have c11 := keep (hcc 11 _ rfl)
      rw [Nat.add_zero] at c0
      have hki : (k : Int) < (T.length : Int) := by omega
      have hk0 : (0 : Int) ≤ (k : Int) := by omega
      have HDR := Lib.hid (show (T.drop k).reverse = (T.drop (k + 1)).reverse ++ [x] by rw [List.drop_eq_getElem_cons hlt, List.reverse_cons, (List.getElem?_eq_some_iff.1 hx).2])
      clear hx hcc
      have CM := Lib.hid (fun u => rk_May x u)
      obtain ⟨mb, hmb⟩ : ∃ b, mayE x = b := ⟨_, rfl⟩
      rw [hmb] at CM
      have hNl : ((T.drop (k + 1)).reverse).length ≤ 64 := by rw [List.length_reverse, List.length_drop]; omega
      obtain ⟨N, hN⟩ : ∃ N, (T.drop (k + 1)).reverse = N := ⟨_, rfl⟩
      rw [hN] at hv hy HDR hNl
      have hFl : (N.filter mayE).length ≤ 64 := Nat.le_trans (List.length_filter_le _ _) hNl
      have HMB := Lib.hid hmb
      clear hN hmb
      have HSEP := Lib.hid hsep
      have HV := Lib.hid (OwnR.alloc hv (.cells #[.string x.pod.id, .int .i64 x.pod.prio, .bool x.pod.crit, .int .i64 x.pod.r0, .int .i64 x.pod.r1, .int .i64 x.pod.r2, .int .i64 x.pod.l0, .int .i64 x.pod.l1, .int .i64 x.pod.l2, .string x.pod.img, .int .i64 x.pod.size, .int .i64 x.phase] 66))
      have HY := Lib.hid (OwnR.alloc hy (.cells #[.string x.pod.id, .int .i64 x.pod.prio, .bool x.pod.crit, .int .i64 x.pod.r0, .int .i64 x.pod.r1, .int .i64 x.pod.r2, .int .i64 x.pod.l0, .int .i64 x.pod.l1, .int .i64 x.pod.l2, .string x.pod.img, .int .i64 x.pod.size, .int .i64 x.phase] 66))
      have HRX := Lib.hid (row_new wr [.string x.pod.id, .int .i64 x.pod.prio, .bool x.pod.crit, .int .i64 x.pod.r0, .int .i64 x.pod.r1, .int .i64 x.pod.r2, .int .i64 x.pod.l0, .int .i64 x.pod.l1, .int .i64 x.pod.l2, .string x.pod.img, .int .i64 x.pod.size, .int .i64 x.phase] 66 1 12 rfl (by unfold maxLen; omega))
      clear hv hy hsep
      have hbw := hbel
      rcases mb with _ | _
      all_goals
        go_upto_region 11 with (at_builtin; refine wpList_app_sep rfl _ _ 71 rfl W2.heap.size 66 _ 12 112 Try.underlying71 info_ent rfl (by decide) _ _ _ rfl HV.out _ 1 1 [.string x.pod.id, .int .i64 x.pod.prio, .bool x.pod.crit, .int .i64 x.pod.r0, .int .i64 x.pod.r1, .int .i64 x.pod.r2, .int .i64 x.pod.l0, .int .i64 x.pod.l1, .int .i64 x.pod.l2, .string x.pod.img, .int .i64 x.pod.size, .int .i64 x.phase] rfl HRX.out (ent_one x) ?c1 ?c2 ?c3 ?_)
        case c1 => simp only [maxLen]; omega
        case c2 => omega
        case c3 => have h2 := hbw.size; simp; omega
        intro v' w6 ho6 hb6 hg6 hm6
        have HV6 := Lib.hid (own_snocG (enc := EntV.cells) (x := x) ho6)
        have HY6 := Lib.hid (OwnR.sep HY.out hg6 HSEP.out)
        have HS6 := Lib.hid (hm6.sep HY.out HSEP.out)
        have HB6 := Lib.hid ((belAlloc hbw (.cells #[.string x.pod.id, .int .i64 x.pod.prio, .bool x.pod.crit, .int .i64 x.pod.r0, .int .i64 x.pod.r1, .int .i64 x.pod.r2, .int .i64 x.pod.l0, .int .i64 x.pod.l1, .int .i64 x.pod.l2, .string x.pod.img, .int .i64 x.pod.size, .int .i64 x.phase] 66)).trans hb6)
        replace hbel := HB6.out
        clear ho6 hb6 hg6 hm6 hbw HV HY HRX
        go_upto_region 12 with (go_at_call 43; (with_reducible refine (CM.out _).mono ?_); rintro e w7 ⟨rfl, hb7⟩; replace hbel := belStep hbel hb7)
      · have HF := Lib.hid (show (N ++ [x]).filter mayE = N.filter mayE by rw [List.filter_append, List.filter_cons_of_neg (by rw [HMB.out]; simp)]; simp)
        have HV7 := Lib.hid (OwnR.later HV6.out hb7)
        have HY7 := Lib.hid (OwnR.later HY6.out hb7)
        clear hb7
        go_wp2
        go_roundw
        case rel => exact ⟨k, by omega, rfl, by rw [HDR.out]; exact HV7.out, by rw [HDR.out, HF.out]; exact HY7.out, HS6.out, hbel⟩
        case measure => simp [intOf] <;> omega
      · have HF := Lib.hid (show (N ++ [x]).filter mayE = N.filter mayE ++ [x] by rw [List.filter_append, List.filter_cons_of_pos (by rw [HMB.out])]; rfl)
        have HV7 := Lib.hid (OwnR.alloc (OwnR.later HV6.out hb7) (.cells #[.string x.pod.id, .int .i64 x.pod.prio, .bool x.pod.crit, .int .i64 x.pod.r0, .int .i64 x.pod.r1, .int .i64 x.pod.r2, .int .i64 x.pod.l0, .int .i64 x.pod.l1, .int .i64 x.pod.l2, .string x.pod.img, .int .i64 x.pod.size, .int .i64 x.phase] 66))
        have HY7 := Lib.hid (OwnR.alloc (OwnR.later HY6.out hb7) (.cells #[.string x.pod.id, .int .i64 x.pod.prio, .bool x.pod.crit, .int .i64 x.pod.r0, .int .i64 x.pod.r1, .int .i64 x.pod.r2, .int .i64 x.pod.l0, .int .i64 x.pod.l1, .int .i64 x.pod.l2, .string x.pod.img, .int .i64 x.pod.size, .int .i64 x.phase] 66))
        have HRX := Lib.hid (row_new w7 [.string x.pod.id, .int .i64 x.pod.prio, .bool x.pod.crit, .int .i64 x.pod.r0, .int .i64 x.pod.r1, .int .i64 x.pod.r2, .int .i64 x.pod.l0, .int .i64 x.pod.l1, .int .i64 x.pod.l2, .string x.pod.img, .int .i64 x.pod.size, .int .i64 x.phase] 66 1 12 rfl (by unfold maxLen; omega))
        have hbw := hbel
        clear hb7
        go_wp2_with (at_builtin; refine wpList_app_sep rfl _ _ 71 rfl W2.heap.size 66 _ 12 112 Try.underlying71 info_ent rfl (by decide) _ _ _ rfl HY7.out _ 1 1 [.string x.pod.id, .int .i64 x.pod.prio, .bool x.pod.crit, .int .i64 x.pod.r0, .int .i64 x.pod.r1, .int .i64 x.pod.r2, .int .i64 x.pod.l0, .int .i64 x.pod.l1, .int .i64 x.pod.l2, .string x.pod.img, .int .i64 x.pod.size, .int .i64 x.phase] rfl HRX.out (ent_one x) ?d1 ?d2 ?d3 ?_)
        case d1 => simp only [maxLen]; omega
        case d2 => omega
        case d3 => have h2 := hbw.size; simp; omega
        intro y' w8 ho8 hb8 hg8 hm8
        have HY8 := Lib.hid (own_snocG (enc := EntV.cells) (x := x) ho8)
        have HV8 := Lib.hid (OwnR.sep HV7.out hg8 HS6.out.symm)
        have HS8 := Lib.hid (hm8.sep HV7.out HS6.out.symm).symm
        have HB8 := Lib.hid ((belAlloc hbw (.cells #[.string x.pod.id, .int .i64 x.pod.prio, .bool x.pod.crit, .int .i64 x.pod.r0, .int .i64 x.pod.r1, .int .i64 x.pod.r2, .int .i64 x.pod.l0, .int .i64 x.pod.l1, .int .i64 x.pod.l2, .string x.pod.img, .int .i64 x.pod.size, .int .i64 x.phase] 66)).trans hb8)
        clear ho8 hb8 hg8 hm8 hbw hbel HV7 HY7 HRX
        go_wp2
        go_roundw
        case rel => exact ⟨k, by omega, rfl, by rw [HDR.out]; exact HV8.out, by rw [HDR.out, HF.out]; exact HY8.out, HS8.out, HB8.out⟩
        case measure => simp [intOf] <;> omega

set_option maxRecDepth 100000 in
theorem lifted (os : Os) (started : os.Started) (H : Type) (enc : TypeId × Value → H) :
    ReturnsInHanded {} Try.checked os 14 .any (Rows.rankTableSpec.pre6 enc Try.prog Try.f14 Rows.rankTableRow.domain false) (Rows.rankTableSpec.post enc Try.prog Try.f14 false true false false) := by
  refine returnsInHanded_of_change (C := Try.checked) own started (by kernel_rfl) Try.func14
    (ChangeSpec.witness6 (enc := enc) (C := Try.checked) false ⟨#[], #[.int .u8 0, .slice none 0 0, .agg #[.int .i64 0, .float .f64 0, .float .f64 0, .float .f64 0, .slice none 0 0]], []⟩ 8 (by kernel_rfl) (by kernel_rfl) (by kernel_rfl) (by kernel_rfl)) ?_
  intro W base args ds gs before hval0 hW hcnd _
  have hval : ∀ (j : Nat) t v, Try.f14.params[j]? = some t → args[j]? = some v → Value.okWide Try.prog W .any base t v := hval0
  have hW' := hW
  obtain ⟨p, q, hA0, hV, rfl, hfz, hnd⟩ := hW
  have hA : DataW.TrodAll enc Try.prog W 0 (fun _ => true) true Try.f14.params.toList args.toList ds p := hA0
  rw [Try.params14] at hA hval
  obtain ⟨v0, vs0, d0, ds0, p0, q0, hargs, rfl, rfl, h0, r0⟩ := trodAll_cons hA
  obtain ⟨v1, vs1, d1, ds1, p1, q1, rfl, rfl, rfl, h1, r1⟩ := trodAll_cons r0
  obtain ⟨v2, vs2, d2, ds2, p2, q2, rfl, rfl, rfl, h2, r2⟩ := trodAll_cons r1
  obtain ⟨rfl, rfl, rfl⟩ := trodAll_nil r2
  obtain rfl : args = #[v0, v1, v2] := by cases args; simp_all
  obtain ⟨rfl, rfl⟩ := trodVars_none hV
  have k0 := h0
  have lt0 : ∀ x ∈ p0, x.block < W.heap.size := by obtain ⟨m, hm⟩ := k0; exact DataW.trod_lt m _ _ _ hm
  have o0 : Value.okWide Try.prog W .any base 5 v0 := hval 0 5 v0 rfl rfl
  obtain ⟨a0, rfl, rfl, rfl, w0⟩ := open_int Try.underlying5 o0 h0
  have k1 := h1
  have lt1 : ∀ x ∈ p1, x.block < W.heap.size := by obtain ⟨m, hm⟩ := k1; exact DataW.trod_lt m _ _ _ hm
  have o1 : Value.okWide Try.prog W .any base 71 v1 := hval 1 71 v1 rfl rfl
  obtain ⟨ta1, tlen1, tcap1, T1, rfl, f1, g1, i1⟩ := open_ents o1 h1
  have k2 := h2
  have lt2 : ∀ x ∈ p2, x.block < W.heap.size := by obtain ⟨m, hm⟩ := k2; exact DataW.trod_lt m _ _ _ hm
  have o2 : Value.okWide Try.prog W .any base 26 v2 := hval 2 26 v2 rfl rfl
  obtain ⟨x2, a2, len2, cap2, L2, rfl, fa2, fb2, fc2, fd2⟩ := open_raw o2 h2
  clear hA0 hval0
  refine (walk a0 ta1 tlen1 tcap1 T1 x2 a2 len2 cap2 L2 W (in8_of_wf w0) f1 g1 i1 fa2 fb2 fc2 fd2).mono fun e W' ⟨he, bel⟩ => ?_
  subst he
  exact ⟨_, rfl, _, _, _, [], _, [], hW', trodAll_mk1 (shut_bool Try.underlying4 _), (trodAll_cons_mk (Below.trod laidOut (by kernel_rfl) (of_decide_eq_true (by kernel_rfl)) k0 bel lt0) (trodAll_cons_mk (Below.trod laidOut (by kernel_rfl) (of_decide_eq_true (by kernel_rfl)) k1 bel lt1) (trodAll_cons_mk (Below.trod laidOut (by kernel_rfl) (of_decide_eq_true (by kernel_rfl)) k2 bel lt2) trodAll_mk0))), rfl, bel.frame _, fun h => by cases h⟩

theorem over : Rows.rankTableRow.holds Try.pinned (OpenSpec.ofChange Rows.rankTableSpec) :=
  OpenClaim.holds_of_wide 14 Try.f14 rfl rfl rfl rfl rfl rfl rfl ⟨rfl, rfl, rfl, rfl, rfl⟩ rfl rfl rfl rfl rfl (by kernel_rfl) Try.func14 (by kernel_rfl)
    (of_decide_eq_true (by kernel_rfl)) (by unfold Func.isWrapper; first | (rw [if_pos (by decide +kernel)]; kernel_rfl) | (rw [if_neg (by decide +kernel)]; exact ⟨rfl, rfl⟩))
    (fun os started H enc _ => lifted os started H enc)

/-- The statement. -/
theorem proved : Rows.RankTableSaid := over
#print axioms proved

end Go.Proofs.Ytcgpmihjodolmaa.rankTable
