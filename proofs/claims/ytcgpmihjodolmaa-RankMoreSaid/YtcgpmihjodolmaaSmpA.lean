
/- bilgeref17.Read: contract. -/
import Derived.Test.YtcgpmihjodolmaaSmpIns
namespace Go.Proofs.Ytcgpmihjodolmaa
open Go.RowKit
set_option linter.unusedVariables false
set_option linter.unusedSimpArgs false
theorem rread_ret (W : World) (R : Nat) (tm : Array Value) (t a b c : Int) (s : Value) (Q : Ending → World → Prop) (h2 : tm.getD 2 undef = .pointer (some ⟨R, 0, none⟩)) (hb : Blk W R [.int .i64 t, .int .i64 a, .int .i64 b, .int .i64 c, s] 32) (hR : Q (.returned (.agg #[.int .i64 t, .int .i64 a, .int .i64 b, .int .i64 c, s])) W) :
    bodyPost Try.prog Try.f24 Q Exit.ret { tmps := tm, defers := [] } W := by
  have z0 := hb.cell (j := 0) rfl
  have z1 := hb.cell (j := 1) rfl
  have z2 := hb.cell (j := 2) rfl
  have z3 := hb.cell (j := 3) rfl
  have z4 := hb.cell (j := 4) rfl
  refine bodyPost_ret (v := .agg #[.int .i64 t, .int .i64 a, .int .i64 b, .int .i64 c, s]) ?_ rfl hR
  simp only [Array.getD_eq_getD_getElem?] at h2
  simp [results, Try.results24, go_sem, h2, z0, z1, z2, z3, z4]
set_option maxRecDepth 100000 in
set_option maxHeartbeats 16000000 in
theorem sref_Read (r : RawV) (a : Option Addr) (len cap : Nat) (L : List UsgV) (w : World) (hl : L.length = len) (hr : r.ok) (hok : ∀ x ∈ L, x.ok) (hR : Row w a len cap 4 (L.flatMap UsgV.cells)) (hq : rightR r L = true) :
    Calls Try.prog 24 #[.agg #[.int .i64 r.t, .float .f64 r.x, .float .f64 r.y, .float .f64 r.z, .slice a len cap]] w fun e w' => SmpQ w (readOK r L) e w' ∧ Below w.heap.size w w' := by
  have hw : Below w.heap.size w w := Below.refl _ _
  have hbel := hw
  have hbd_a : len ≤ cap ∧ cap ≤ 9223372036854775807 := by obtain ⟨_, h1, h2, _⟩ := hR; unfold maxLen at h2; exact ⟨h1, h2⟩
  obtain ⟨hbd1_a, hbd2_a⟩ := hbd_a
  have HR := Lib.hid hR
  have HOK := Lib.hid hok
  obtain ⟨hr0, hr1, hr2, hr3⟩ := hr
  have hq2 := right_eq r L
  rw [hq, eq_comm] at hq2
  simp only [Bool.and_eq_true, decide_eq_true_eq, Bool.not_eq_true'] at hq2
  obtain ⟨h128, htw, hav, hau⟩ := hq2
  have HDI := Lib.hid (dist_of htw)
  have HAU := Lib.hid hau
  have hav2 : notNaN r.x = true ∧ notNaN r.y = true ∧ notNaN r.z = true := by simpa [all3] using hav
  have CW := Lib.hid (fun u => by have h := sref_Whole r.x r.y r.z u hr1 hr2 hr3; rw [wF_ok hav2.1, wF_ok hav2.2.1, wF_ok hav2.2.2] at h; exact h)
  clear hR hok hq htw hav hau hav2 hr0 hr1 hr2 hr3
  subst hl
  go_enter Try.func24, Try.ntmps24
  go_upto_region 1 with fail
  have rw0 : ((w.alloc (.cells #[.int .i64 r.t, .float .f64 r.x, .float .f64 r.y, .float .f64 r.z, .slice a L.length cap] 26)).alloc (.cells #[.int .i64 0, .int .i64 0, .int .i64 0, .int .i64 0, .slice none 0 0] 32)).cell? ⟨w.heap.size, 0, none⟩ = some (.int .i64 r.t) := by first | (simp; done) | (rw [World.cell?_alloc_at _ _ _ _ (by simp)]; rfl) | (rw [World.cell?_alloc_past _ _ _ (by simp <;> omega), World.cell?_alloc_at _ _ _ _ (by simp)]; rfl) | (rw [World.cell?_alloc_past _ _ _ (by simp <;> omega), World.cell?_alloc_past _ _ _ (by simp <;> omega), World.cell?_alloc_at _ _ _ _ (by simp)]; rfl)
  have rw1 : ((w.alloc (.cells #[.int .i64 r.t, .float .f64 r.x, .float .f64 r.y, .float .f64 r.z, .slice a L.length cap] 26)).alloc (.cells #[.int .i64 0, .int .i64 0, .int .i64 0, .int .i64 0, .slice none 0 0] 32)).cell? ⟨w.heap.size, 1, none⟩ = some (.float .f64 r.x) := by first | (simp; done) | (rw [World.cell?_alloc_at _ _ _ _ (by simp)]; rfl) | (rw [World.cell?_alloc_past _ _ _ (by simp <;> omega), World.cell?_alloc_at _ _ _ _ (by simp)]; rfl) | (rw [World.cell?_alloc_past _ _ _ (by simp <;> omega), World.cell?_alloc_past _ _ _ (by simp <;> omega), World.cell?_alloc_at _ _ _ _ (by simp)]; rfl)
  have rw2 : ((w.alloc (.cells #[.int .i64 r.t, .float .f64 r.x, .float .f64 r.y, .float .f64 r.z, .slice a L.length cap] 26)).alloc (.cells #[.int .i64 0, .int .i64 0, .int .i64 0, .int .i64 0, .slice none 0 0] 32)).cell? ⟨w.heap.size, 2, none⟩ = some (.float .f64 r.y) := by first | (simp; done) | (rw [World.cell?_alloc_at _ _ _ _ (by simp)]; rfl) | (rw [World.cell?_alloc_past _ _ _ (by simp <;> omega), World.cell?_alloc_at _ _ _ _ (by simp)]; rfl) | (rw [World.cell?_alloc_past _ _ _ (by simp <;> omega), World.cell?_alloc_past _ _ _ (by simp <;> omega), World.cell?_alloc_at _ _ _ _ (by simp)]; rfl)
  have rw3 : ((w.alloc (.cells #[.int .i64 r.t, .float .f64 r.x, .float .f64 r.y, .float .f64 r.z, .slice a L.length cap] 26)).alloc (.cells #[.int .i64 0, .int .i64 0, .int .i64 0, .int .i64 0, .slice none 0 0] 32)).cell? ⟨w.heap.size, 3, none⟩ = some (.float .f64 r.z) := by first | (simp; done) | (rw [World.cell?_alloc_at _ _ _ _ (by simp)]; rfl) | (rw [World.cell?_alloc_past _ _ _ (by simp <;> omega), World.cell?_alloc_at _ _ _ _ (by simp)]; rfl) | (rw [World.cell?_alloc_past _ _ _ (by simp <;> omega), World.cell?_alloc_past _ _ _ (by simp <;> omega), World.cell?_alloc_at _ _ _ _ (by simp)]; rfl)
  have rw4 : ((w.alloc (.cells #[.int .i64 r.t, .float .f64 r.x, .float .f64 r.y, .float .f64 r.z, .slice a L.length cap] 26)).alloc (.cells #[.int .i64 0, .int .i64 0, .int .i64 0, .int .i64 0, .slice none 0 0] 32)).cell? ⟨w.heap.size, 4, none⟩ = some (.slice a L.length cap) := by first | (simp; done) | (rw [World.cell?_alloc_at _ _ _ _ (by simp)]; rfl) | (rw [World.cell?_alloc_past _ _ _ (by simp <;> omega), World.cell?_alloc_at _ _ _ _ (by simp)]; rfl) | (rw [World.cell?_alloc_past _ _ _ (by simp <;> omega), World.cell?_alloc_past _ _ _ (by simp <;> omega), World.cell?_alloc_at _ _ _ _ (by simp)]; rfl)
  have rr0 : ((w.alloc (.cells #[.int .i64 r.t, .float .f64 r.x, .float .f64 r.y, .float .f64 r.z, .slice a L.length cap] 26)).alloc (.cells #[.int .i64 0, .int .i64 0, .int .i64 0, .int .i64 0, .slice none 0 0] 32)).cell? ⟨w.heap.size + 1, 0, none⟩ = some (.int .i64 0) := by first | (simp; done) | (rw [World.cell?_alloc_at _ _ _ _ (by simp)]; rfl) | (rw [World.cell?_alloc_past _ _ _ (by simp <;> omega), World.cell?_alloc_at _ _ _ _ (by simp)]; rfl) | (rw [World.cell?_alloc_past _ _ _ (by simp <;> omega), World.cell?_alloc_past _ _ _ (by simp <;> omega), World.cell?_alloc_at _ _ _ _ (by simp)]; rfl)
  have rr1 : ((w.alloc (.cells #[.int .i64 r.t, .float .f64 r.x, .float .f64 r.y, .float .f64 r.z, .slice a L.length cap] 26)).alloc (.cells #[.int .i64 0, .int .i64 0, .int .i64 0, .int .i64 0, .slice none 0 0] 32)).cell? ⟨w.heap.size + 1, 1, none⟩ = some (.int .i64 0) := by first | (simp; done) | (rw [World.cell?_alloc_at _ _ _ _ (by simp)]; rfl) | (rw [World.cell?_alloc_past _ _ _ (by simp <;> omega), World.cell?_alloc_at _ _ _ _ (by simp)]; rfl) | (rw [World.cell?_alloc_past _ _ _ (by simp <;> omega), World.cell?_alloc_past _ _ _ (by simp <;> omega), World.cell?_alloc_at _ _ _ _ (by simp)]; rfl)
  have rr2 : ((w.alloc (.cells #[.int .i64 r.t, .float .f64 r.x, .float .f64 r.y, .float .f64 r.z, .slice a L.length cap] 26)).alloc (.cells #[.int .i64 0, .int .i64 0, .int .i64 0, .int .i64 0, .slice none 0 0] 32)).cell? ⟨w.heap.size + 1, 2, none⟩ = some (.int .i64 0) := by first | (simp; done) | (rw [World.cell?_alloc_at _ _ _ _ (by simp)]; rfl) | (rw [World.cell?_alloc_past _ _ _ (by simp <;> omega), World.cell?_alloc_at _ _ _ _ (by simp)]; rfl) | (rw [World.cell?_alloc_past _ _ _ (by simp <;> omega), World.cell?_alloc_past _ _ _ (by simp <;> omega), World.cell?_alloc_at _ _ _ _ (by simp)]; rfl)
  have rr3 : ((w.alloc (.cells #[.int .i64 r.t, .float .f64 r.x, .float .f64 r.y, .float .f64 r.z, .slice a L.length cap] 26)).alloc (.cells #[.int .i64 0, .int .i64 0, .int .i64 0, .int .i64 0, .slice none 0 0] 32)).cell? ⟨w.heap.size + 1, 3, none⟩ = some (.int .i64 0) := by first | (simp; done) | (rw [World.cell?_alloc_at _ _ _ _ (by simp)]; rfl) | (rw [World.cell?_alloc_past _ _ _ (by simp <;> omega), World.cell?_alloc_at _ _ _ _ (by simp)]; rfl) | (rw [World.cell?_alloc_past _ _ _ (by simp <;> omega), World.cell?_alloc_past _ _ _ (by simp <;> omega), World.cell?_alloc_at _ _ _ _ (by simp)]; rfl)
  have rr4 : ((w.alloc (.cells #[.int .i64 r.t, .float .f64 r.x, .float .f64 r.y, .float .f64 r.z, .slice a L.length cap] 26)).alloc (.cells #[.int .i64 0, .int .i64 0, .int .i64 0, .int .i64 0, .slice none 0 0] 32)).cell? ⟨w.heap.size + 1, 4, none⟩ = some (.slice none 0 0) := by first | (simp; done) | (rw [World.cell?_alloc_at _ _ _ _ (by simp)]; rfl) | (rw [World.cell?_alloc_past _ _ _ (by simp <;> omega), World.cell?_alloc_at _ _ _ _ (by simp)]; rfl) | (rw [World.cell?_alloc_past _ _ _ (by simp <;> omega), World.cell?_alloc_past _ _ _ (by simp <;> omega), World.cell?_alloc_at _ _ _ _ (by simp)]; rfl)
  have hb2 := (by repeat (first | exact hbel | refine belAlloc ?_ _ | refine belDrew ?_ | refine belSet ?_ _ _ (by simp)) : Below w.heap.size w ((w.alloc (.cells #[.int .i64 r.t, .float .f64 r.x, .float .f64 r.y, .float .f64 r.z, .slice a L.length cap] 26)).alloc (.cells #[.int .i64 0, .int .i64 0, .int .i64 0, .int .i64 0, .slice none 0 0] 32)))
  replace hw := belStep hw hb2
  have rwB : Blk ((w.alloc (.cells #[.int .i64 r.t, .float .f64 r.x, .float .f64 r.y, .float .f64 r.z, .slice a L.length cap] 26)).alloc (.cells #[.int .i64 0, .int .i64 0, .int .i64 0, .int .i64 0, .slice none 0 0] 32)) (w.heap.size) [.int .i64 r.t, .float .f64 r.x, .float .f64 r.y, .float .f64 r.z, .slice a L.length cap] 26 := (Blk.at (by simp) : Blk (w.alloc (.cells #[.int .i64 r.t, .float .f64 r.x, .float .f64 r.y, .float .f64 r.z, .slice a L.length cap] 26)) (w.heap.size) [.int .i64 r.t, .float .f64 r.x, .float .f64 r.y, .float .f64 r.z, .slice a L.length cap] 26).later (by repeat (first | exact Below.refl _ _ | refine belAlloc ?_ _))
  have rwF := Blk.keepF rwB
  replace rwB := Blk.keepB rwB
  have rrB : Blk ((w.alloc (.cells #[.int .i64 r.t, .float .f64 r.x, .float .f64 r.y, .float .f64 r.z, .slice a L.length cap] 26)).alloc (.cells #[.int .i64 0, .int .i64 0, .int .i64 0, .int .i64 0, .slice none 0 0] 32)) (w.heap.size + 1) [.int .i64 0, .int .i64 0, .int .i64 0, .int .i64 0, .slice none 0 0] 32 := (Blk.at (by simp) : Blk ((w.alloc (.cells #[.int .i64 r.t, .float .f64 r.x, .float .f64 r.y, .float .f64 r.z, .slice a L.length cap] 26)).alloc (.cells #[.int .i64 0, .int .i64 0, .int .i64 0, .int .i64 0, .slice none 0 0] 32)) (w.heap.size + 1) [.int .i64 0, .int .i64 0, .int .i64 0, .int .i64 0, .slice none 0 0] 32).later (by repeat (first | exact Below.refl _ _ | refine belAlloc ?_ _))
  have rrF := Blk.keepF rrB
  replace rrB := Blk.keepB rrB
  clear hb2 hbel
  generalize (w.alloc (.cells #[.int .i64 r.t, .float .f64 r.x, .float .f64 r.y, .float .f64 r.z, .slice a L.length cap] 26)).alloc (.cells #[.int .i64 0, .int .i64 0, .int .i64 0, .int .i64 0, .slice none 0 0] 32) = W1 at *
  replace rw0 := keep rw0
  replace rw1 := keep rw1
  replace rw2 := keep rw2
  replace rw3 := keep rw3
  replace rw4 := keep rw4
  replace rr0 := keep rr0
  replace rr1 := keep rr1
  replace rr2 := keep rr2
  replace rr3 := keep rr3
  replace rr4 := keep rr4
  have hbel : Below W1.heap.size W1 W1 := Below.refl _ _
  skip
  have hz1 : w.heap.size + 1 < W1.heap.size := (rrB _ hbel).lt
  have HRL := Lib.hid (fun u (hu : Below W1.heap.size W1 u) => HR.out.later (belStep hw hu))
  refine wp_region_held_drew (S := fun u => Below W1.heap.size W1 u) (by kernel_rfl) (by exact (show Below W1.heap.size W1 _ by repeat (first | assumption | exact Below.refl _ _ | refine belDrew ?_ | refine belAlloc ?_ _ | refine belStep ?_ (by assumption)))) (fun hHeld => ?_)
  refine wpAnyH_take (i := 0) (oi := ?oi_k16) (v := ?v_k16) ?hi_k16 (by kernel_rfl) ?hf_k16 ?hr_k16 ?hQ_k16 (Or.inl ⟨?hw_k16, ?hy_k16⟩) (by assumption) ?rest_k16
  case hi_k16 => ((simp only [List.getElem?_toArray, List.getElem?_cons_succ, List.getElem?_cons_zero]); rfl)
  case hf_k16 => kernel_rfl
  case hr_k16 => kernel_rfl
  case hQ_k16 => exact fun _ _ _ h => h
  case hw_k16 => rfl
  case hy_k16 => ((intro w hSw; (try dsimp only at hSw); go_simp); all_goals (with_reducible rfl))
  try simp only [Act.put, List.setIfInBounds_toArray, List.set_cons_zero, List.set_cons_succ]
  refine wpAnyH_take (i := 1) (oi := ?oi_k17) (v := ?v_k17) ?hi_k17 (by kernel_rfl) ?hf_k17 ?hr_k17 ?hQ_k17 (Or.inl ⟨?hw_k17, ?hy_k17⟩) (by assumption) ?rest_k17
  case hi_k17 => ((simp only [List.getElem?_toArray, List.getElem?_cons_succ, List.getElem?_cons_zero]); rfl)
  case hf_k17 => kernel_rfl
  case hr_k17 => kernel_rfl
  case hQ_k17 => exact fun _ _ _ h => h
  case hw_k17 => rfl
  case hy_k17 => ((intro w hSw; (try dsimp only at hSw); go_simp); all_goals (with_reducible rfl))
  try simp only [Act.put, List.setIfInBounds_toArray, List.set_cons_zero, List.set_cons_succ]
  refine wpAnyH_take (i := 2) (oi := ?oi_k18) (v := ?v_k18) ?hi_k18 (by kernel_rfl) ?hf_k18 ?hr_k18 ?hQ_k18 (Or.inl ⟨?hw_k18, ?hy_k18⟩) (by assumption) ?rest_k18
  case hi_k18 => ((simp only [List.getElem?_toArray, List.getElem?_cons_succ, List.getElem?_cons_zero]); rfl)
  case hf_k18 => kernel_rfl
  case hr_k18 => kernel_rfl
  case hQ_k18 => exact fun _ _ _ h => h
  case hw_k18 => rfl
  case hy_k18 => ((intro w hSw; (try dsimp only at hSw); go_simp); all_goals (with_reducible rfl))
  try simp only [Act.put, List.setIfInBounds_toArray, List.set_cons_zero, List.set_cons_succ]
  refine wpAnyH_take (i := 3) (oi := ?oi_k19) (v := ?v_k19) ?hi_k19 (by kernel_rfl) ?hf_k19 ?hr_k19 ?hQ_k19 (Or.inl ⟨?hw_k19, ?hy_k19⟩) (by assumption) ?rest_k19
  case hi_k19 => ((simp only [List.getElem?_toArray, List.getElem?_cons_succ, List.getElem?_cons_zero]); rfl)
  case hf_k19 => kernel_rfl
  case hr_k19 => kernel_rfl
  case hQ_k19 => exact fun _ _ _ h => h
  case hw_k19 => rfl
  case hy_k19 => ((intro w hSw; (try dsimp only at hSw); go_simp); all_goals (with_reducible rfl))
  try simp only [Act.put, List.setIfInBounds_toArray, List.set_cons_zero, List.set_cons_succ]
  refine krip (fun u u' => Below u.heap.size u u') [13, 14, 3] [[], [], [], [], [], [4], [], [4, 5, 6]] [[], [], [], [], [13], [14], [3], []] [4, 5, 6] (krF [(4, fun t u => t 13 = .agg #[.int .i64 (readF r.x), .int .i64 (readF r.y), .int .i64 (readF r.z)]), (5, fun t u => t 14 = .agg #[.int .i64 r.t, .int .i64 (readF r.x), .int .i64 (readF r.y), .int .i64 (readF r.z), .slice none 0 0]), (6, fun t u => ∃ P : Nat, t 3 = .pointer (some ⟨P, 0, none⟩) ∧ Blk u P [.int .i64 0, .int .i64 0, .int .i64 0, .int .i64 0, .slice none 0 0] 32 ∧ W1.heap.size ≤ P)]) 1 #[true, true, true, true, true, true, true, false] (by kernel_rfl) (by kernel_rfl) (by kernel_rfl) (by assumption) (AllL.cons ?s_4_q20 (AllL.cons ?s_5_q20 (AllL.cons ?s_6_q20 AllL.nil))) (AllL.cons ?o_4_q20 (AllL.cons ?o_5_q20 (AllL.cons ?o_6_q20 AllL.nil))) ?e_q20
  case s_4_q20 => exact fun t u u' hle h => h
  case s_5_q20 => exact fun t u u' hle h => h
  case s_6_q20 => exact fun t u u' hle ⟨P, e, hb, hp⟩ => ⟨P, e, hb.later hle, hp⟩
  case o_4_q20 =>
    refine KrOp.of (o := ?oo_4_q20) ?hi_4_q20 (fun t u hHeld hF K hK => ?rr_4_q20)
    case hi_4_q20 => ((simp only [List.getElem?_toArray, List.getElem?_cons_succ, List.getElem?_cons_zero]); rfl)
    case rr_4_q20 =>
      clear hF
      simp only [setl, List.foldl_cons, List.foldl_nil, Act.put, List.setIfInBounds_toArray, List.set_cons_zero, List.set_cons_succ] at hK ⊢
      go_simp
      (go_at_call 34; (with_reducible refine (CW.out _).mono ?_); rintro e wq ⟨rfl, hbq⟩)
      try go_simp
      refine hK.out _ _ (by exact (by repeat (first | assumption | exact Below.refl _ _ | refine belDrew ?_ | refine belAlloc ?_ _ | refine belStep ?_ (by assumption)))) (by exact (show Below W1.heap.size W1 _ by repeat (first | assumption | exact Below.refl _ _ | refine belDrew ?_ | refine belAlloc ?_ _ | refine belStep ?_ (by assumption)))) ?_
      exact rfl
  case o_5_q20 =>
    refine KrOp.of (o := ?oo_5_q20) ?hi_5_q20 (fun t u hHeld hF K hK => ?rr_5_q20)
    case hi_5_q20 => ((simp only [List.getElem?_toArray, List.getElem?_cons_succ, List.getElem?_cons_zero]); rfl)
    case rr_5_q20 =>
      have h4 : t 13 = .agg #[.int .i64 (readF r.x), .int .i64 (readF r.y), .int .i64 (readF r.z)] := hF 4 rfl rfl
      clear hF
      simp only [setl, List.foldl_cons, List.foldl_nil, Act.put, List.setIfInBounds_toArray, List.set_cons_zero, List.set_cons_succ] at hK ⊢
      generalize t 13 = x13 at *
      subst h4
      go_simp
      refine hK.out _ _ (by exact (by repeat (first | assumption | exact Below.refl _ _ | refine belDrew ?_ | refine belAlloc ?_ _ | refine belStep ?_ (by assumption)))) (by exact (show Below W1.heap.size W1 _ by repeat (first | assumption | exact Below.refl _ _ | refine belDrew ?_ | refine belAlloc ?_ _ | refine belStep ?_ (by assumption)))) ?_
      exact rfl
  case o_6_q20 =>
    refine KrOp.of (o := ?oo_6_q20) ?hi_6_q20 (fun t u hHeld hF K hK => ?rr_6_q20)
    case hi_6_q20 => ((simp only [List.getElem?_toArray, List.getElem?_cons_succ, List.getElem?_cons_zero]); rfl)
    case rr_6_q20 =>
      clear hF
      simp only [setl, List.foldl_cons, List.foldl_nil, Act.put, List.setIfInBounds_toArray, List.set_cons_zero, List.set_cons_succ] at hK ⊢
      go_simp
      refine hK.out _ _ (by exact (by repeat (first | assumption | exact Below.refl _ _ | refine belDrew ?_ | refine belAlloc ?_ _ | refine belStep ?_ (by assumption)))) (by exact (show Below W1.heap.size W1 _ by repeat (first | assumption | exact Below.refl _ _ | refine belDrew ?_ | refine belAlloc ?_ _ | refine belStep ?_ (by assumption)))) ?_
      exact ⟨_, rfl, Blk.new _ [.int .i64 0, .int .i64 0, .int .i64 0, .int .i64 0, .slice none 0 0] 32, (Below.size hHeld)⟩
  case e_q20 =>
    intro t u hHeld hF
    have h4 : t 13 = .agg #[.int .i64 (readF r.x), .int .i64 (readF r.y), .int .i64 (readF r.z)] := hF 4 rfl
    have h5 : t 14 = .agg #[.int .i64 r.t, .int .i64 (readF r.x), .int .i64 (readF r.y), .int .i64 (readF r.z), .slice none 0 0] := hF 5 rfl
    have h6 : ∃ P : Nat, t 3 = .pointer (some ⟨P, 0, none⟩) ∧ Blk u P [.int .i64 0, .int .i64 0, .int .i64 0, .int .i64 0, .slice none 0 0] 32 ∧ W1.heap.size ≤ P := hF 6 rfl
    clear hF
    simp only [setl, List.foldl_cons, List.foldl_nil, Act.put, List.setIfInBounds_toArray, List.set_cons_zero, List.set_cons_succ]
    generalize t 13 = x13 at *
    generalize t 14 = x14 at *
    generalize t 3 = x3 at *
    obtain ⟨S, rfl, hP, hPW⟩ := h6
    subst h5
    subst h4
    have y0 := hP.cell (j := 0) rfl
    have y1 := hP.cell (j := 1) rfl
    have y2 := hP.cell (j := 2) rfl
    have y3 := hP.cell (j := 3) rfl
    have y4 := hP.cell (j := 4) rfl
    have yf := hP.frozen
    refine wpAnyH_ready (rs := [7]) (by kernel_rfl) (by simp) ?_
    refine AllReadyH.cons (o := ?o1_k1) ?hi_k1 (fun K hK => ?rest_k1) AllReadyH.nil
    case hi_k1 => ((simp only [List.getElem?_toArray, List.getElem?_cons_succ, List.getElem?_cons_zero]); rfl)
    go_simp
    have hbN := (belSet (belSet (belSet (belSet (belSet hHeld ⟨S, 0, none⟩ (.int .i64 r.t) hPW) ⟨S, 1, none⟩ (.int .i64 (readF r.x)) hPW) ⟨S, 2, none⟩ (.int .i64 (readF r.y)) hPW) ⟨S, 3, none⟩ (.int .i64 (readF r.z)) hPW) ⟨S, 4, none⟩ (.slice none 0 0) hPW)
    have hRN := (((((hP.set 0 (.int .i64 r.t)).set 1 (.int .i64 (readF r.x))).set 2 (.int .i64 (readF r.y))).set 3 (.int .i64 (readF r.z))).set 4 (.slice none 0 0))
    generalize (((((u.setCell ⟨S, 0, none⟩ (.int .i64 r.t)).setCell ⟨S, 1, none⟩ (.int .i64 (readF r.x))).setCell ⟨S, 2, none⟩ (.int .i64 (readF r.y))).setCell ⟨S, 3, none⟩ (.int .i64 (readF r.z))).setCell ⟨S, 4, none⟩ (.slice none 0 0)) = W2 at hbN hRN ⊢
    refine hK.out _ _ (by exact (show Below W1.heap.size W1 _ by repeat (first | assumption | exact Below.refl _ _ | refine belDrew ?_ | refine belAlloc ?_ _ | refine belStep ?_ (by assumption)))) (fun hHeld => ?_)
    clear hK K
    try simp only [Act.put, List.setIfInBounds_toArray, List.set_cons_zero, List.set_cons_succ]
    refine wpAnyH_done (by kernel_rfl) ?_ _
    clear hHeld hP yf y0 y1 y2 y3 y4
    clear hbel
    have HSW := Lib.hid hPW
    clear hPW
    have HB2 := Lib.hid hbN
    have hRN2 : Blk W2 S [.int .i64 r.t, .int .i64 (readF r.x), .int .i64 (readF r.y), .int .i64 (readF r.z), .slice none ([] : List UseV).length 0] 32 := hRN
    have hSW := hRN.lt
    clear hbN hRN
    go_wp2
    go_loopw [4] (fun i wr => ∃ (k : Nat) (b : Option Addr) (n : Nat), k ≤ L.length ∧ i = .int .i64 k ∧ Blk wr S [.int .i64 r.t, .int .i64 (readF r.x), .int .i64 (readF r.y), .int .i64 (readF r.z), .slice b k n] 32 ∧ OwnR wr W2.heap.size 51 4 (.slice b k n) k ((readL (L.take k)).flatMap UseV.cells) ∧ Below W1.heap.size W1 wr ∧ W2.heap.size ≤ wr.heap.size) (fun i _ => L.length - (intOf i).toNat)
    case atStart => exact ⟨0, none, 0, Nat.zero_le _, rfl, hRN2, by rw [show readL (L.take 0) = [] by rw [List.take_zero]; exact sortBy_nil]; exact OwnR.nil _ _ _ _, HB2.out, Nat.le_refl _⟩
    case round =>
      obtain ⟨k, b, n, hk, rfl, hB, hS, hb2, hsz⟩ := hrel
      clear hRN2
      have yS := hB.cell (j := 4) rfl
      by_cases hlt : k < L.length
      · obtain ⟨x, hx⟩ : ∃ x, L[k]? = some x := ⟨L[k], List.getElem?_eq_getElem hlt⟩
        obtain ⟨bc, oc, ec, _, hcc⟩ := (HRL.out _ hb2).elem UsgV.cells_len (by omega) hx
        subst ec
        have c0 := keep (hcc 0 _ rfl)
        have c1 := keep (hcc 1 _ rfl)
        have c2 := keep (hcc 2 _ rfl)
        have c3 := keep (hcc 3 _ rfl)
        rw [Nat.add_zero] at c0
        have hd : decide ((k : Int) < (L.length : Int)) = true := decide_eq_true (by omega)
        have HX := Lib.hid hx
        have hxo := HOK.out x (List.mem_of_getElem? hx)
        obtain ⟨hx1, hx2, hx3, hx4⟩ := hxo
        have hxu := List.all_eq_true.1 HAU.out x (List.mem_of_getElem? hx)
        have hav2 : notNaN x.a = true ∧ notNaN x.b = true ∧ notNaN x.c = true := by have h := hxu; unfold okU at h; have h2 := (Bool.and_eq_true _ _ ▸ h).1; simpa [all3] using h2
        have CX := Lib.hid (fun u => by have h := sref_Whole x.a x.b x.c u hx2 hx3 hx4; rw [wF_ok hav2.1, wF_ok hav2.2.1, wF_ok hav2.2.2] at h; exact h)
        clear hxu hav2 hx1 hx2 hx3 hx4 hx hcc
        have HBW := Lib.hid hb2
        have hbel := hb2
        clear hb2
        replace rw0 := keepOnP rw0 hbel
        replace rw1 := keepOnP rw1 hbel
        replace rw2 := keepOnP rw2 hbel
        replace rw3 := keepOnP rw3 hbel
        replace rw4 := keepOnP rw4 hbel
        replace rr0 := keepOnP rr0 hbel
        replace rr1 := keepOnP rr1 hbel
        replace rr2 := keepOnP rr2 hbel
        replace rr3 := keepOnP rr3 hbel
        replace rr4 := keepOnP rr4 hbel
        replace rrF := keepOnP rrF hbel
        replace rrB := keepOnP rrB hbel
        replace hw := belStep hw hbel
        clear hbel
        generalize wr = W3 at *
        have hbel : Below W3.heap.size W3 W3 := Below.refl _ _
        have HB3 := Lib.hid hB
        have HS3 := Lib.hid hS
        have hk0 : (0 : Int) ≤ (k : Int) := by omega
        have yS2 := keep yS
        clear hB hS yS
        go_upto_region 5 with fail
        refine wp_region_held_drew (S := fun u => Below W3.heap.size W3 u) (by kernel_rfl) (by exact (show Below W3.heap.size W3 _ by repeat (first | assumption | exact Below.refl _ _ | refine belDrew ?_ | refine belAlloc ?_ _ | refine belStep ?_ (by assumption)))) (fun hHeld => ?_)
        refine wpAnyH_take (i := 0) (oi := ?oi_k3) (v := ?v_k3) ?hi_k3 (by kernel_rfl) ?hf_k3 ?hr_k3 ?hQ_k3 (Or.inl ⟨?hw_k3, ?hy_k3⟩) (by assumption) ?rest_k3
        case hi_k3 => ((simp only [List.getElem?_toArray, List.getElem?_cons_succ, List.getElem?_cons_zero]); rfl)
        case hf_k3 => kernel_rfl
        case hr_k3 => kernel_rfl
        case hQ_k3 => exact fun _ _ _ h => h
        case hw_k3 => rfl
        case hy_k3 => ((intro w hSw; (try dsimp only at hSw); go_simp); all_goals (with_reducible rfl))
        try simp only [Act.put, List.setIfInBounds_toArray, List.set_cons_zero, List.set_cons_succ]
        refine wpAnyH_take (i := 1) (oi := ?oi_k4) (v := ?v_k4) ?hi_k4 (by kernel_rfl) ?hf_k4 ?hr_k4 ?hQ_k4 (Or.inl ⟨?hw_k4, ?hy_k4⟩) (by assumption) ?rest_k4
        case hi_k4 => ((simp only [List.getElem?_toArray, List.getElem?_cons_succ, List.getElem?_cons_zero]); rfl)
        case hf_k4 => kernel_rfl
        case hr_k4 => kernel_rfl
        case hQ_k4 => exact fun _ _ _ h => h
        case hw_k4 => rfl
        case hy_k4 => ((intro w hSw; (try dsimp only at hSw); go_simp); all_goals (with_reducible rfl))
        try simp only [Act.put, List.setIfInBounds_toArray, List.set_cons_zero, List.set_cons_succ]
        refine wpAnyH_take (i := 2) (oi := ?oi_k5) (v := ?v_k5) ?hi_k5 (by kernel_rfl) ?hf_k5 ?hr_k5 ?hQ_k5 (Or.inl ⟨?hw_k5, ?hy_k5⟩) (by assumption) ?rest_k5
        case hi_k5 => ((simp only [List.getElem?_toArray, List.getElem?_cons_succ, List.getElem?_cons_zero]); rfl)
        case hf_k5 => kernel_rfl
        case hr_k5 => kernel_rfl
        case hQ_k5 => exact fun _ _ _ h => h
        case hw_k5 => rfl
        case hy_k5 => ((intro w hSw; (try dsimp only at hSw); go_simp); all_goals (with_reducible rfl))
        try simp only [Act.put, List.setIfInBounds_toArray, List.set_cons_zero, List.set_cons_succ]
        refine wpAnyH_take (i := 3) (oi := ?oi_k6) (v := ?v_k6) ?hi_k6 (by kernel_rfl) ?hf_k6 ?hr_k6 ?hQ_k6 (Or.inl ⟨?hw_k6, ?hy_k6⟩) (by assumption) ?rest_k6
        case hi_k6 => ((simp only [List.getElem?_toArray, List.getElem?_cons_succ, List.getElem?_cons_zero]); rfl)
        case hf_k6 => kernel_rfl
        case hr_k6 => kernel_rfl
        case hQ_k6 => exact fun _ _ _ h => h
        case hw_k6 => rfl
        case hy_k6 => ((intro w hSw; (try dsimp only at hSw); go_simp); all_goals (with_reducible rfl))
        try simp only [Act.put, List.setIfInBounds_toArray, List.set_cons_zero, List.set_cons_succ]
        refine wpAnyH_take (i := 4) (oi := ?oi_k7) (v := ?v_k7) ?hi_k7 (by kernel_rfl) ?hf_k7 ?hr_k7 ?hQ_k7 (Or.inl ⟨?hw_k7, ?hy_k7⟩) (by assumption) ?rest_k7
        case hi_k7 => ((simp only [List.getElem?_toArray, List.getElem?_cons_succ, List.getElem?_cons_zero]); rfl)
        case hf_k7 => kernel_rfl
        case hr_k7 => kernel_rfl
        case hQ_k7 => exact fun _ _ _ h => h
        case hw_k7 => rfl
        case hy_k7 => ((intro w hSw; (try dsimp only at hSw); go_simp); all_goals (with_reducible rfl))
        try simp only [Act.put, List.setIfInBounds_toArray, List.set_cons_zero, List.set_cons_succ]
        refine wpAnyH_take (i := 5) (oi := ?oi_k8) (v := ?v_k8) ?hi_k8 (by kernel_rfl) ?hf_k8 ?hr_k8 ?hQ_k8 (Or.inl ⟨?hw_k8, ?hy_k8⟩) (by assumption) ?rest_k8
        case hi_k8 => ((simp only [List.getElem?_toArray, List.getElem?_cons_succ, List.getElem?_cons_zero]); rfl)
        case hf_k8 => kernel_rfl
        case hr_k8 => kernel_rfl
        case hQ_k8 => exact fun _ _ _ h => h
        case hw_k8 => rfl
        case hy_k8 => ((intro w hSw; (try dsimp only at hSw); go_simp); all_goals (with_reducible rfl))
        try simp only [Act.put, List.setIfInBounds_toArray, List.set_cons_zero, List.set_cons_succ]
        refine wpAnyH_take (i := 6) (oi := ?oi_k9) (v := ?v_k9) ?hi_k9 (by kernel_rfl) ?hf_k9 ?hr_k9 ?hQ_k9 (Or.inl ⟨?hw_k9, ?hy_k9⟩) (by assumption) ?rest_k9
        case hi_k9 => ((simp only [List.getElem?_toArray, List.getElem?_cons_succ, List.getElem?_cons_zero]); rfl)
        case hf_k9 => kernel_rfl
        case hr_k9 => kernel_rfl
        case hQ_k9 => exact fun _ _ _ h => h
        case hw_k9 => rfl
        case hy_k9 => ((intro w hSw; (try dsimp only at hSw); go_simp); all_goals (with_reducible rfl))
        try simp only [Act.put, List.setIfInBounds_toArray, List.set_cons_zero, List.set_cons_succ]
        refine wpAnyH_take (i := 7) (oi := ?oi_k10) (v := ?v_k10) ?hi_k10 (by kernel_rfl) ?hf_k10 ?hr_k10 ?hQ_k10 (Or.inl ⟨?hw_k10, ?hy_k10⟩) (by assumption) ?rest_k10
        case hi_k10 => ((simp only [List.getElem?_toArray, List.getElem?_cons_succ, List.getElem?_cons_zero]); rfl)
        case hf_k10 => kernel_rfl
        case hr_k10 => kernel_rfl
        case hQ_k10 => exact fun _ _ _ h => h
        case hw_k10 => rfl
        case hy_k10 => ((intro w hSw; (try dsimp only at hSw); go_simp); all_goals (with_reducible rfl))
        try simp only [Act.put, List.setIfInBounds_toArray, List.set_cons_zero, List.set_cons_succ]
        refine wpAnyH_take (i := 8) (oi := ?oi_k11) (v := ?v_k11) ?hi_k11 (by kernel_rfl) ?hf_k11 ?hr_k11 ?hQ_k11 (Or.inl ⟨?hw_k11, ?hy_k11⟩) (by assumption) ?rest_k11
        case hi_k11 => ((simp only [List.getElem?_toArray, List.getElem?_cons_succ, List.getElem?_cons_zero]); rfl)
        case hf_k11 => kernel_rfl
        case hr_k11 => kernel_rfl
        case hQ_k11 => exact fun _ _ _ h => h
        case hw_k11 => rfl
        case hy_k11 => ((intro w hSw; (try dsimp only at hSw); go_simp); all_goals (with_reducible rfl))
        try simp only [Act.put, List.setIfInBounds_toArray, List.set_cons_zero, List.set_cons_succ]
        refine wpAnyH_take (i := 9) (oi := ?oi_k12) (v := ?v_k12) ?hi_k12 (by kernel_rfl) ?hf_k12 ?hr_k12 ?hQ_k12 (Or.inl ⟨?hw_k12, ?hy_k12⟩) (by assumption) ?rest_k12
        case hi_k12 => ((simp only [List.getElem?_toArray, List.getElem?_cons_succ, List.getElem?_cons_zero]); rfl)
        case hf_k12 => kernel_rfl
        case hr_k12 => kernel_rfl
        case hQ_k12 => exact fun _ _ _ h => h
        case hw_k12 => rfl
        case hy_k12 => ((intro w hSw; (try dsimp only at hSw); go_simp); all_goals (with_reducible rfl))
        try simp only [Act.put, List.setIfInBounds_toArray, List.set_cons_zero, List.set_cons_succ]
        refine wpAnyH_take (i := 10) (oi := ?oi_k13) (v := ?v_k13) ?hi_k13 (by kernel_rfl) ?hf_k13 ?hr_k13 ?hQ_k13 (Or.inl ⟨?hw_k13, ?hy_k13⟩) (by assumption) ?rest_k13
        case hi_k13 => ((simp only [List.getElem?_toArray, List.getElem?_cons_succ, List.getElem?_cons_zero]); rfl)
        case hf_k13 => kernel_rfl
        case hr_k13 => kernel_rfl
        case hQ_k13 => exact fun _ _ _ h => h
        case hw_k13 => rfl
        case hy_k13 => ((intro w hSw; (try dsimp only at hSw); go_simp); all_goals (with_reducible rfl))
        try simp only [Act.put, List.setIfInBounds_toArray, List.set_cons_zero, List.set_cons_succ]
        refine wpAnyH_take (i := 11) (oi := ?oi_k14) (v := ?v_k14) ?hi_k14 (by kernel_rfl) ?hf_k14 ?hr_k14 ?hQ_k14 (Or.inl ⟨?hw_k14, ?hy_k14⟩) (by assumption) ?rest_k14
        case hi_k14 => ((simp only [List.getElem?_toArray, List.getElem?_cons_succ, List.getElem?_cons_zero]); rfl)
        case hf_k14 => kernel_rfl
        case hr_k14 => kernel_rfl
        case hQ_k14 => exact fun _ _ _ h => h
        case hw_k14 => rfl
        case hy_k14 => ((intro w hSw; (try dsimp only at hSw); go_simp); all_goals (with_reducible rfl))
        try simp only [Act.put, List.setIfInBounds_toArray, List.set_cons_zero, List.set_cons_succ]
        refine krip (fun u u' => Below u.heap.size u u') [34, 35, 5] [[], [], [], [], [], [], [], [], [], [], [], [], [], [12], [], [12, 13, 14]] [[], [], [], [], [], [], [], [], [], [], [], [], [34], [35], [5], []] [12, 13, 14] (krF [(12, fun t u => t 34 = .agg #[.int .i64 (readF x.a), .int .i64 (readF x.b), .int .i64 (readF x.c)]), (13, fun t u => t 35 = .agg #[.string x.id, .int .i64 (readF x.a), .int .i64 (readF x.b), .int .i64 (readF x.c)]), (14, fun t u => ∃ P : Nat, t 5 = .pointer (some ⟨P, 0, none⟩) ∧ Blk u P [.string ⟨#[]⟩, .int .i64 0, .int .i64 0, .int .i64 0] 51 ∧ W3.heap.size ≤ P)]) 1 #[true, true, true, true, true, true, true, true, true, true, true, true, true, true, true, false] (by kernel_rfl) (by kernel_rfl) (by kernel_rfl) (by assumption) (AllL.cons ?s_12_q15 (AllL.cons ?s_13_q15 (AllL.cons ?s_14_q15 AllL.nil))) (AllL.cons ?o_12_q15 (AllL.cons ?o_13_q15 (AllL.cons ?o_14_q15 AllL.nil))) ?e_q15
        case s_12_q15 => exact fun t u u' hle h => h
        case s_13_q15 => exact fun t u u' hle h => h
        case s_14_q15 => exact fun t u u' hle ⟨P, e, hb, hp⟩ => ⟨P, e, hb.later hle, hp⟩
        case o_12_q15 =>
          refine KrOp.of (o := ?oo_12_q15) ?hi_12_q15 (fun t u hHeld hF K hK => ?rr_12_q15)
          case hi_12_q15 => ((simp only [List.getElem?_toArray, List.getElem?_cons_succ, List.getElem?_cons_zero]); rfl)
          case rr_12_q15 =>
            clear hF
            simp only [setl, List.foldl_cons, List.foldl_nil, Act.put, List.setIfInBounds_toArray, List.set_cons_zero, List.set_cons_succ] at hK ⊢
            go_simp
            (go_at_call 34; (with_reducible refine (CX.out _).mono ?_); rintro e wq ⟨rfl, hbq⟩)
            try go_simp
            refine hK.out _ _ (by exact (by repeat (first | assumption | exact Below.refl _ _ | refine belDrew ?_ | refine belAlloc ?_ _ | refine belStep ?_ (by assumption)))) (by exact (show Below W3.heap.size W3 _ by repeat (first | assumption | exact Below.refl _ _ | refine belDrew ?_ | refine belAlloc ?_ _ | refine belStep ?_ (by assumption)))) ?_
            exact rfl
        case o_13_q15 =>
          refine KrOp.of (o := ?oo_13_q15) ?hi_13_q15 (fun t u hHeld hF K hK => ?rr_13_q15)
          case hi_13_q15 => ((simp only [List.getElem?_toArray, List.getElem?_cons_succ, List.getElem?_cons_zero]); rfl)
          case rr_13_q15 =>
            have h12 : t 34 = .agg #[.int .i64 (readF x.a), .int .i64 (readF x.b), .int .i64 (readF x.c)] := hF 12 rfl rfl
            clear hF
            simp only [setl, List.foldl_cons, List.foldl_nil, Act.put, List.setIfInBounds_toArray, List.set_cons_zero, List.set_cons_succ] at hK ⊢
            generalize t 34 = x34 at *
            subst h12
            go_simp
            refine hK.out _ _ (by exact (by repeat (first | assumption | exact Below.refl _ _ | refine belDrew ?_ | refine belAlloc ?_ _ | refine belStep ?_ (by assumption)))) (by exact (show Below W3.heap.size W3 _ by repeat (first | assumption | exact Below.refl _ _ | refine belDrew ?_ | refine belAlloc ?_ _ | refine belStep ?_ (by assumption)))) ?_
            exact rfl
        case o_14_q15 =>
          refine KrOp.of (o := ?oo_14_q15) ?hi_14_q15 (fun t u hHeld hF K hK => ?rr_14_q15)
          case hi_14_q15 => ((simp only [List.getElem?_toArray, List.getElem?_cons_succ, List.getElem?_cons_zero]); rfl)
          case rr_14_q15 =>
            clear hF
            simp only [setl, List.foldl_cons, List.foldl_nil, Act.put, List.setIfInBounds_toArray, List.set_cons_zero, List.set_cons_succ] at hK ⊢
            go_simp
            refine hK.out _ _ (by exact (by repeat (first | assumption | exact Below.refl _ _ | refine belDrew ?_ | refine belAlloc ?_ _ | refine belStep ?_ (by assumption)))) (by exact (show Below W3.heap.size W3 _ by repeat (first | assumption | exact Below.refl _ _ | refine belDrew ?_ | refine belAlloc ?_ _ | refine belStep ?_ (by assumption)))) ?_
            exact ⟨_, rfl, Blk.new _ [.string ⟨#[]⟩, .int .i64 0, .int .i64 0, .int .i64 0] 51, (Below.size hHeld)⟩
        case e_q15 =>
          intro t u hHeld hF
          have h12 : t 34 = .agg #[.int .i64 (readF x.a), .int .i64 (readF x.b), .int .i64 (readF x.c)] := hF 12 rfl
          have h13 : t 35 = .agg #[.string x.id, .int .i64 (readF x.a), .int .i64 (readF x.b), .int .i64 (readF x.c)] := hF 13 rfl
          have h14 : ∃ P : Nat, t 5 = .pointer (some ⟨P, 0, none⟩) ∧ Blk u P [.string ⟨#[]⟩, .int .i64 0, .int .i64 0, .int .i64 0] 51 ∧ W3.heap.size ≤ P := hF 14 rfl
          clear hF
          simp only [setl, List.foldl_cons, List.foldl_nil, Act.put, List.setIfInBounds_toArray, List.set_cons_zero, List.set_cons_succ]
          generalize t 34 = x34 at *
          generalize t 35 = x35 at *
          generalize t 5 = x5 at *
          obtain ⟨U, rfl, hP, hPW⟩ := h14
          subst h13
          subst h12
          have y0 := hP.cell (j := 0) rfl
          have y1 := hP.cell (j := 1) rfl
          have y2 := hP.cell (j := 2) rfl
          have y3 := hP.cell (j := 3) rfl
          have yf := hP.frozen
          refine wpAnyH_ready (rs := [15]) (by kernel_rfl) (by simp) ?_
          refine AllReadyH.cons (o := ?o1_k2) ?hi_k2 (fun K hK => ?rest_k2) AllReadyH.nil
          case hi_k2 => ((simp only [List.getElem?_toArray, List.getElem?_cons_succ, List.getElem?_cons_zero]); rfl)
          go_simp
          have hbN := (belSet (belSet (belSet (belSet hHeld ⟨U, 0, none⟩ (.string x.id) hPW) ⟨U, 1, none⟩ (.int .i64 (readF x.a)) hPW) ⟨U, 2, none⟩ (.int .i64 (readF x.b)) hPW) ⟨U, 3, none⟩ (.int .i64 (readF x.c)) hPW)
          have hRN := ((((hP.set 0 (.string x.id)).set 1 (.int .i64 (readF x.a))).set 2 (.int .i64 (readF x.b))).set 3 (.int .i64 (readF x.c)))
          generalize ((((u.setCell ⟨U, 0, none⟩ (.string x.id)).setCell ⟨U, 1, none⟩ (.int .i64 (readF x.a))).setCell ⟨U, 2, none⟩ (.int .i64 (readF x.b))).setCell ⟨U, 3, none⟩ (.int .i64 (readF x.c))) = W4 at hbN hRN ⊢
          refine hK.out _ _ (by exact (show Below W3.heap.size W3 _ by repeat (first | assumption | exact Below.refl _ _ | refine belDrew ?_ | refine belAlloc ?_ _ | refine belStep ?_ (by assumption)))) (fun hHeld => ?_)
          clear hK K
          try simp only [Act.put, List.setIfInBounds_toArray, List.set_cons_zero, List.set_cons_succ]
          refine wpAnyH_done (by kernel_rfl) ?_ _
          clear hHeld hP yf y0 y1 y2 y3
          clear hbel
          have HB4 := Lib.hid hbN
          have HU4 := Lib.hid hRN
          have HBS5 := Lib.hid (HB3.out.later hbN)
          have HSL := Lib.hid HBS5.out.lt
          have HW25 := Lib.hid (Nat.le_trans hsz hbN.size)
          have HB45 := Lib.hid hbN
          have HS4 := Lib.hid (OwnR.later HS3.out hbN)
          obtain ⟨aM, cM, eM, hM⟩ := rowR_of_own HS4.out
          simp only [Value.slice.injEq, true_and] at eM
          obtain ⟨rfl, rfl⟩ := eM
          obtain ⟨M, hMM⟩ : ∃ M, readL (L.take k) = M := ⟨_, rfl⟩
          have hMl : M.length = k := by rw [← hMM, readL_len, List.length_take]; omega
          have HMM := Lib.hid hMM
          have HML := Lib.hid hMl
          rw [hMM] at hM
          have HM := Lib.hid hM
          have hbM : k ≤ n := by obtain ⟨_, h1, _⟩ := hM; exact h1
          have hbM2 : n ≤ 9223372036854775807 := by obtain ⟨_, _, h1, _⟩ := hM; unfold maxLen at h1; exact h1
          clear hM hMM hMl
          have hbel := hbN
          clear hbN hRN
          replace rw0 := keepOnP rw0 hbel
          replace rw1 := keepOnP rw1 hbel
          replace rw2 := keepOnP rw2 hbel
          replace rw3 := keepOnP rw3 hbel
          replace rw4 := keepOnP rw4 hbel
          replace rr0 := keepOnP rr0 hbel
          replace rr1 := keepOnP rr1 hbel
          replace rr2 := keepOnP rr2 hbel
          replace rr3 := keepOnP rr3 hbel
          replace rr4 := keepOnP rr4 hbel
          replace rrF := keepOnP rrF hbel
          replace rrB := keepOnP rrB hbel
          replace yS2 := keepOnP yS2 hbel
          replace hw := belStep hw hbel
          clear hbel
          generalize W4 = W5 at *
          have hbel : Below W5.heap.size W5 W5 := Below.refl _ _
          have HU5 := Lib.hid HU4.out
          have ux0 := keep (HU5.out.cell (j := 0) rfl)
          have ux1 := keep (HU5.out.cell (j := 1) rfl)
          have ux2 := keep (HU5.out.cell (j := 2) rfl)
          have ux3 := keep (HU5.out.cell (j := 3) rfl)
          go_wp2
          have HBL := Lib.hid hbel
          clear hbel
          go_loopw [6, 7, 8] (fun ov dv i wr => ∃ (j : Nat) (O : List UseV) (d : Bool), j ≤ k ∧ i = .int .i64 j ∧ dv = .bool d ∧ Hid (insSt ltU (⟨x.id, readF x.a, readF x.b, readF x.c⟩ : UseV) (M.take j) = (O, d)) ∧ OwnR wr W5.heap.size 51 4 ov O.length (O.flatMap UseV.cells) ∧ Below W5.heap.size W5 wr) (fun _ _ i _ => k - (intOf i).toNat)
          case atStart => exact ⟨0, [], false, Nat.zero_le _, rfl, rfl, Lib.hid (insSt_nil _), OwnR.nil _ _ _ _, HBL.out⟩
          case round =>
            obtain ⟨j, O, d, hj, rfl, rfl, HI, hO, hb5⟩ := hrel
            have hbel := hb5
            have hOl : O.length ≤ 200 := by have := insSt_len HI.out; rw [List.length_take] at this; omega
            by_cases hjl : j < k
            · have hjM : j < M.length := by rw [HML.out]; exact hjl
              obtain ⟨y, hy⟩ : ∃ y, M[j]? = some y := ⟨M[j], List.getElem?_eq_getElem hjM⟩
              obtain ⟨be, oe, ee, _, hce⟩ := HM.out.elem UseV.cells_len (by omega) hy
              subst ee
              have e0 := keep (hce 0 _ rfl)
              have e1 := keep (hce 1 _ rfl)
              have e2 := keep (hce 2 _ rfl)
              have e3 := keep (hce 3 _ rfl)
              rw [Nat.add_zero] at e0
              have HN := Lib.hid (takeG_next hy)
              have hd2 : decide ((j : Int) < (k : Int)) = true := decide_eq_true (by omega)
              have hj0 : (0 : Int) ≤ (j : Int) := by omega
              have GT := gt_cases ⟨x.id, readF x.a, readF x.b, readF x.c⟩ y
              have HGT := Lib.hid GT
              clear GT hy hce
              have HE := Lib.hid (show _ ∧ _ ∧ _ ∧ _ ∧ _ from ⟨yS2, e0, e1, e2, e3⟩)
              have HBW5 := Lib.hid hb5
              have HW := Lib.hid hw
              clear hbel
              have hbel := hb5
              clear hb5
              replace yS2 := keepOnP yS2 hbel
              replace ux0 := keepOnP ux0 hbel
              replace ux1 := keepOnP ux1 hbel
              replace ux2 := keepOnP ux2 hbel
              replace ux3 := keepOnP ux3 hbel
              replace e0 := keepOnP e0 hbel
              replace e1 := keepOnP e1 hbel
              replace e2 := keepOnP e2 hbel
              replace e3 := keepOnP e3 hbel
              replace hw := belStep hw hbel
              clear hbel
              generalize wr = W6 at *
              have hbel : Below W6.heap.size W6 W6 := Below.refl _ _
              have HO6 := Lib.hid (fun u (hu : Below W6.heap.size W6 u) => OwnR.later hO hu)
              clear hO
              cases d with
              | true =>
                go_wp2
                have kk := fun d os => belStep hbel (below_regrown _ d os)
                refine wp_region_quiet_below (by kernel_rfl) (by kernel_rfl) ?_
                repeat ((with_reducible refine wpQuiet_step (fun K hK => ?_)); go_simp; (try (rw [if_neg]; rotate_left; · decide)); first | ((with_reducible refine hK _ ?_); clear hK K) | (apply Exists.intro; refine ⟨fun _ => ?_, hK _ ?_⟩; (fail); clear hK K))
                refine wpQuiet_nil (fun w1 hw1 => ?_)
                replace hbel := belStep hbel (bel_of_class hw1)
                clear hw1 kk
                go_upto_region 14 with fail
                have HS8 := Lib.hid (OwnR.alloc (HO6.out _ hbel) (.cells #[.string y.id, .int .i64 y.a, .int .i64 y.b, .int .i64 y.c] 51))
                have HR8 := Lib.hid (row_new w1 [.string y.id, .int .i64 y.a, .int .i64 y.b, .int .i64 y.c] 51 1 4 rfl (by unfold maxLen; omega))
                go_wp2_with (first | (at_builtin; refine wpList_app_row rfl _ _ 30 rfl W5.heap.size 51 _ 4 40 Try.underlying30 info_use rfl (by decide) _ _ _ rfl HS8.out _ 1 1 [.string y.id, .int .i64 y.a, .int .i64 y.b, .int .i64 y.c] rfl HR8.out (use_one y) ?c1 ?c2 ?c3 ?_))
                case c1 => simp only [maxLen]; omega
                case c2 => omega
                case c3 => have h2 := (belStep HBW5.out hbel).size; simp; omega
                intro v8 w8 ho8 hb8 _
                have HO8 := Lib.hid (own_snocG (enc := UseV.cells) (N := O) (x := y) ho8)
                have HB8 := Lib.hid ((belAlloc (belStep HBW5.out hbel) (.cells #[.string y.id, .int .i64 y.a, .int .i64 y.b, .int .i64 y.c] 51)).trans hb8)
                clear ho8 hb8 HS8 HR8
                go_wp2
                go_roundw
                case rel => exact ⟨j + 1, O ++ [y], true, by omega, by push_cast; rfl, rfl, Lib.hid (by rw [HN.out]; exact insSt_done HI.out), HO8.out, HB8.out⟩
                case measure => simp [intOf] <;> omega
              | false =>
                rcases HGT.out with ⟨hg, t1, t2⟩ | ⟨hg, ht⟩
                · have HG := Lib.hid hg
                  clear hg HGT
                  go_wp2
                  have kk := fun d os => belStep hbel (below_regrown _ d os)
                  refine wp_region_quiet_below (by kernel_rfl) (by kernel_rfl) ?_
                  repeat ((with_reducible refine wpQuiet_step (fun K hK => ?_)); go_simp; (try (rw [if_neg]; rotate_left; · decide)); first | ((with_reducible refine hK _ ?_); clear hK K) | (apply Exists.intro; refine ⟨fun _ => ?_, hK _ ?_⟩; (fail); clear hK K))
                  refine wpQuiet_nil (fun w1 hw1 => ?_)
                  replace hbel := belStep hbel (bel_of_class hw1)
                  clear hw1 kk
                  clear t1 t2
                  go_upto_region 12 with fail
                  have HS7 := Lib.hid (OwnR.alloc (HO6.out _ hbel) (.cells #[.string x.id, .int .i64 (readF x.a), .int .i64 (readF x.b), .int .i64 (readF x.c)] 51))
                  have HR7 := Lib.hid (row_new w1 [.string x.id, .int .i64 (readF x.a), .int .i64 (readF x.b), .int .i64 (readF x.c)] 51 1 4 rfl (by unfold maxLen; omega))
                  go_upto_region 14 with (first | (at_builtin; refine wpList_app_row rfl _ _ 30 rfl W5.heap.size 51 _ 4 40 Try.underlying30 info_use rfl (by decide) _ _ _ rfl HS7.out _ 1 1 [.string x.id, .int .i64 (readF x.a), .int .i64 (readF x.b), .int .i64 (readF x.c)] rfl HR7.out (use_one ⟨x.id, readF x.a, readF x.b, readF x.c⟩) ?c1 ?c2 ?c3 ?_))
                  case c1 => simp only [maxLen]; omega
                  case c2 => omega
                  case c3 => have h2 := (belStep HBW5.out hbel).size; simp; omega
                  intro v7 w7 ho7 hb7 _
                  have HO7 := Lib.hid (own_snocG (enc := UseV.cells) (N := O) (x := ⟨x.id, readF x.a, readF x.b, readF x.c⟩) ho7)
                  have HB7 := Lib.hid ((belAlloc (belStep HBW5.out hbel) (.cells #[.string x.id, .int .i64 (readF x.a), .int .i64 (readF x.b), .int .i64 (readF x.c)] 51)).trans hb7)
                  clear ho7 hb7 HS7 HR7
                  obtain ⟨N7, hN7⟩ : ∃ N, O ++ [⟨x.id, readF x.a, readF x.b, readF x.c⟩] = N := ⟨_, rfl⟩
                  have hN7l : N7.length ≤ 201 := by rw [← hN7, List.length_append, List.length_singleton]; omega
                  rw [hN7] at HO7
                  have HN7 := Lib.hid hN7
                  clear hN7
                  clear hbel yS2 e0 e1 e2 e3 ux0 ux1 ux2 ux3
                  obtain ⟨yS2, e0, e1, e2, e3⟩ := HE.out
                  have hbel := HB7.out
                  have HS8 := Lib.hid (OwnR.alloc (HO7.out) (.cells #[.string y.id, .int .i64 y.a, .int .i64 y.b, .int .i64 y.c] 51))
                  have HR8 := Lib.hid (row_new w7 [.string y.id, .int .i64 y.a, .int .i64 y.b, .int .i64 y.c] 51 1 4 rfl (by unfold maxLen; omega))
                  go_wp2_with (first | (at_builtin; refine wpList_app_row rfl _ _ 30 rfl W5.heap.size 51 _ 4 40 Try.underlying30 info_use rfl (by decide) _ _ _ rfl HS8.out _ 1 1 [.string y.id, .int .i64 y.a, .int .i64 y.b, .int .i64 y.c] rfl HR8.out (use_one y) ?c1 ?c2 ?c3 ?_))
                  case c1 => simp only [maxLen]; omega
                  case c2 => omega
                  case c3 => have h2 := (HB7.out).size; simp; omega
                  intro v8 w8 ho8 hb8 _
                  have HO8 := Lib.hid (own_snocG (enc := UseV.cells) (N := N7) (x := y) ho8)
                  have HB8 := Lib.hid ((belAlloc (HB7.out) (.cells #[.string y.id, .int .i64 y.a, .int .i64 y.b, .int .i64 y.c] 51)).trans hb8)
                  clear ho8 hb8 HS8 HR8
                  go_wp2
                  go_roundw
                  case rel => exact ⟨j + 1, N7 ++ [y], true, by omega, by push_cast; rfl, rfl, Lib.hid (by rw [HN.out, ← HN7.out]; exact insSt_in HI.out HG.out), HO8.out, HB8.out⟩
                  case measure => simp [intOf] <;> omega
                · have HG := Lib.hid hg
                  clear hg HGT
                  rcases ht with t1 | ⟨t1, t2⟩
                  all_goals
                    go_wp2
                    have kk := fun d os => belStep hbel (below_regrown _ d os)
                    refine wp_region_quiet_below (by kernel_rfl) (by kernel_rfl) ?_
                    repeat ((with_reducible refine wpQuiet_step (fun K hK => ?_)); go_simp; (try (rw [if_neg]; rotate_left; · decide)); first | ((with_reducible refine hK _ ?_); clear hK K) | (apply Exists.intro; refine ⟨fun _ => ?_, hK _ ?_⟩; (fail); clear hK K))
                    refine wpQuiet_nil (fun w1 hw1 => ?_)
                    replace hbel := belStep hbel (bel_of_class hw1)
                    clear hw1 kk
                    go_upto_region 14 with fail
                    have HS8 := Lib.hid (OwnR.alloc (HO6.out _ hbel) (.cells #[.string y.id, .int .i64 y.a, .int .i64 y.b, .int .i64 y.c] 51))
                    have HR8 := Lib.hid (row_new w1 [.string y.id, .int .i64 y.a, .int .i64 y.b, .int .i64 y.c] 51 1 4 rfl (by unfold maxLen; omega))
                    go_wp2_with (first | (at_builtin; refine wpList_app_row rfl _ _ 30 rfl W5.heap.size 51 _ 4 40 Try.underlying30 info_use rfl (by decide) _ _ _ rfl HS8.out _ 1 1 [.string y.id, .int .i64 y.a, .int .i64 y.b, .int .i64 y.c] rfl HR8.out (use_one y) ?c1 ?c2 ?c3 ?_))
                    case c1 => simp only [maxLen]; omega
                    case c2 => omega
                    case c3 => have h2 := (belStep HBW5.out hbel).size; simp; omega
                    intro v8 w8 ho8 hb8 _
                    have HO8 := Lib.hid (own_snocG (enc := UseV.cells) (N := O) (x := y) ho8)
                    have HB8 := Lib.hid ((belAlloc (belStep HBW5.out hbel) (.cells #[.string y.id, .int .i64 y.a, .int .i64 y.b, .int .i64 y.c] 51)).trans hb8)
                    clear ho8 hb8 HS8 HR8
                    go_wp2
                    go_roundw
                    case rel => exact ⟨j + 1, O ++ [y], false, by omega, by push_cast; rfl, rfl, Lib.hid (by rw [HN.out]; exact insSt_no HI.out HG.out), HO8.out, HB8.out⟩
                    case measure => simp [intOf] <;> omega
            · obtain rfl : j = k := by omega
              have hd2 : decide ((j : Int) < (j : Int)) = false := decide_eq_false (by omega)
              have HW5 := Lib.hid hw
              cases d with
              | true =>
                go_upto_region 17 with fail
                obtain ⟨aO, cO, eO, hrO⟩ := rowR_of_own (hO)
                subst eO
                have hLE : readL (L.take (j + 1)) = O := by rw [← readL_next HDI.out HX.out, HMM.out, show M = M.take j by rw [List.take_of_length_le (by rw [HML.out]; exact Nat.le_refl _)]]; exact insSt_end HI.out
                have hLL : (O).length = j + 1 := by rw [← hLE, readL_len, List.length_take]; omega
                have HLE := Lib.hid hLE
                have HLL := Lib.hid hLL
                have HSB := Lib.hid (Blk.below HBS5.out (hb5) HSL.out)
                have yT := HSB.out.cell (j := 4) rfl
                have yF := HSB.out.frozen
                have HZ1 := Lib.hid (hb5)
                clear hLE hLL hrO
                have HOZ := Lib.hid hO
                clear hO
                go_wp2
                go_roundw
                case rel => exact ⟨j + 1, aO, cO, by omega, by push_cast; rfl, by have h := HSB.out.set 4 (.slice aO (O).length cO); rw [HLL.out] at h ⊢; exact h, by rw [HLE.out]; have h := OwnR.mono (OwnR.setCell (a := ⟨S, 4, none⟩) (HOZ.out) HSL.out (.slice aO (O).length cO)) HW25.out; rw [HLL.out] at h ⊢; exact h, belSet (belStep HBW.out (belStep HB45.out HZ1.out)) ⟨S, 4, none⟩ _ HSW.out, by have := Nat.le_trans HW25.out HZ1.out.size; simpa using this⟩
                case measure => simp [intOf] <;> omega
              | false =>
                go_upto_region 16 with fail
                have hS7 := hO
                have HS7 := Lib.hid (OwnR.alloc (hO) (.cells #[.string x.id, .int .i64 (readF x.a), .int .i64 (readF x.b), .int .i64 (readF x.c)] 51))
                have HR7 := Lib.hid (row_new wr [.string x.id, .int .i64 (readF x.a), .int .i64 (readF x.b), .int .i64 (readF x.c)] 51 1 4 rfl (by unfold maxLen; omega))
                go_upto_region 17 with (first | (at_builtin; refine wpList_app_row rfl _ _ 30 rfl W5.heap.size 51 _ 4 40 Try.underlying30 info_use rfl (by decide) _ _ _ rfl HS7.out _ 1 1 [.string x.id, .int .i64 (readF x.a), .int .i64 (readF x.b), .int .i64 (readF x.c)] rfl HR7.out (use_one ⟨x.id, readF x.a, readF x.b, readF x.c⟩) ?c1 ?c2 ?c3 ?_))
                case c1 => simp only [maxLen]; omega
                case c2 => omega
                case c3 => have h2 := (hb5).size; simp; omega
                intro v7 w7 ho7 hb7 _
                have HO7 := Lib.hid (own_snocG (enc := UseV.cells) (N := O) (x := ⟨x.id, readF x.a, readF x.b, readF x.c⟩) ho7)
                have HB7 := Lib.hid ((belAlloc (hb5) (.cells #[.string x.id, .int .i64 (readF x.a), .int .i64 (readF x.b), .int .i64 (readF x.c)] 51)).trans hb7)
                clear ho7 hb7 HS7 HR7
                obtain ⟨N7, hN7⟩ : ∃ N, O ++ [⟨x.id, readF x.a, readF x.b, readF x.c⟩] = N := ⟨_, rfl⟩
                rw [hN7] at HO7
                have HN7 := Lib.hid hN7
                clear hN7 hS7 hO
                obtain ⟨aO, cO, eO, hrO⟩ := rowR_of_own (HO7.out)
                subst eO
                have hLE : readL (L.take (j + 1)) = N7 := by rw [← readL_next HDI.out HX.out, HMM.out, show M = M.take j by rw [List.take_of_length_le (by rw [HML.out]; exact Nat.le_refl _)]]; rw [← HN7.out]; exact insSt_endn HI.out
                have hLL : (N7).length = j + 1 := by rw [← hLE, readL_len, List.length_take]; omega
                have HLE := Lib.hid hLE
                have HLL := Lib.hid hLL
                have HSB := Lib.hid (Blk.below HBS5.out (HB7.out) HSL.out)
                have yT := HSB.out.cell (j := 4) rfl
                have yF := HSB.out.frozen
                have HZ1 := Lib.hid (HB7.out)
                clear hLE hLL hrO
                go_wp2
                go_roundw
                case rel => exact ⟨j + 1, aO, cO, by omega, by push_cast; rfl, by have h := HSB.out.set 4 (.slice aO (N7).length cO); rw [HLL.out] at h ⊢; exact h, by rw [HLE.out]; have h := OwnR.mono (OwnR.setCell (a := ⟨S, 4, none⟩) (HO7.out) HSL.out (.slice aO (N7).length cO)) HW25.out; rw [HLL.out] at h ⊢; exact h, belSet (belStep HBW.out (belStep HB45.out HZ1.out)) ⟨S, 4, none⟩ _ HSW.out, by have := Nat.le_trans HW25.out HZ1.out.size; simpa using this⟩
                case measure => simp [intOf] <;> omega
      · obtain rfl : k = L.length := by omega
        have hd : decide ((L.length : Int) < (L.length : Int)) = false := decide_eq_false (by omega)
        rw [List.take_length] at hS
        have hbel := hb2
        have yS0 := hB.cell (j := 0) rfl
        have yS1 := hB.cell (j := 1) rfl
        have yS2 := hB.cell (j := 2) rfl
        have yS3 := hB.cell (j := 3) rfl
        have HV := Lib.hid (show (readOK r L).use.length = L.length from readL_len L)
        have HS := Lib.hid hS
        have hw1 : w.heap.size ≤ W2.heap.size := Nat.le_trans hw.size HB2.out.size
        have hz5 : w.heap.size + 1 < W2.heap.size := Nat.lt_of_lt_of_le hz1 HB2.out.size
        clear hS hB hsz
        go_wp2
        refine rread_ret _ _ _ r.t (readF r.x) (readF r.y) (readF r.z) _ _ rfl ((((((rrB _ hbel).set 0 _).set 1 _).set 2 _).set 3 _).set 4 _) ⟨⟨b, n, ?_, ?_⟩, (by repeat (first | exact belStep hw hbel | refine belSet ?_ _ _ (by dsimp only; omega) | refine belAlloc ?_ _))⟩
        · rw [HV.out]; rfl
        · rw [HV.out]; exact OwnR.mono (OwnR.setCell (a := ⟨w.heap.size + 1, 4, none⟩) (OwnR.setCell (a := ⟨w.heap.size + 1, 3, none⟩) (OwnR.setCell (a := ⟨w.heap.size + 1, 2, none⟩) (OwnR.setCell (a := ⟨w.heap.size + 1, 1, none⟩) (OwnR.setCell (a := ⟨w.heap.size + 1, 0, none⟩) (HS.out) hz5 _) hz5 _) hz5 _) hz5 _) hz5 _) hw1
end Go.Proofs.Ytcgpmihjodolmaa
