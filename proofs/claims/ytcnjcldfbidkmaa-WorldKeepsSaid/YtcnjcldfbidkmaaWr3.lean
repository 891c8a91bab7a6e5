
/- The reference of stage 16: Next. -/
import Derived.Test.YtcnjcldfbidkmaaWr2
import Derived.Test.YtcnjcldfbidkmaaUpc
namespace Go.Proofs.Ytcnjcldfbidkmaa
open Go.RowKit Go.Sort
set_option linter.unusedVariables false
set_option linter.unusedSimpArgs false
theorem r16next_ret (W : World) (R : Nat) (tm : Array Value) (r : Int) (oa : Option Addr) (on oc : Nat) (ba : Option Addr) (bn bc : Nat) (ia : Option Addr) (inn ic : Nat) (c : Bool) (Q : Ending → World → Prop) (h0 : tm.getD 2 undef = .bool c) (h1 : tm.getD 3 undef = .pointer (some ⟨R, 0, none⟩)) (hb : Blk W R [.int .i64 r, .slice oa on oc, .slice ba bn bc, .slice ia inn ic] 31) (hR : Q (.returned (.tuple #[.bool c, .agg #[.int .i64 r, .slice oa on oc, .slice ba bn bc, .slice ia inn ic]])) W) :
    bodyPost Try.prog Try.f95 Q Exit.ret { tmps := tm, defers := [] } W := by
  have z0 := hb.cell (j := 0) rfl
  have z1 := hb.cell (j := 1) rfl
  have z2 := hb.cell (j := 2) rfl
  have z3 := hb.cell (j := 3) rfl
  refine bodyPost_ret (v := .tuple #[.bool c, .agg #[.int .i64 r, .slice oa on oc, .slice ba bn bc, .slice ia inn ic]]) ?_ rfl hR
  simp only [Array.getD_eq_getD_getElem?] at h0 h1
  simp [results, Try.results95, go_sem, h0, h1, z0, z1, z2, z3]
theorem row_tailB {u : World} {b o n c : Nat} {x : Value} {cs : List Value} (h : Row u (some ⟨b, o, none⟩) (n + 1) c 1 (x :: cs)) : Row u (some ⟨b, o + 1, none⟩) n (c - 1) 1 cs := by
  obtain ⟨h1, h2, h3, h4, h5⟩ := h
  refine ⟨by simpa using h1, by omega, by omega, (fun q => by cases q), ?_⟩
  rcases h5 with h5 | ⟨b2, o2, e, h5⟩
  · cases h5
  · simp only [Option.some.injEq, Addr.mk.injEq, and_true] at e
    obtain ⟨rfl, rfl⟩ := e
    refine .inr ⟨b, o + 1, rfl, fun i hi => ?_⟩
    rw [show o + 1 + i = o + (i + 1) by omega, h5 (i + 1) (by simpa using hi)]
    simp
theorem row_zero {u : World} {b o : Nat} : Row u (some ⟨b, o, none⟩) 0 0 1 ([] : List Value) := ⟨rfl, Nat.le_refl _, by unfold maxLen; omega, (fun q => by cases q), .inl rfl⟩
set_option maxRecDepth 100000 in
set_option maxHeartbeats 32000000 in
theorem r16_Next (F : List Nat) (v : Value) (m : WorldV) (w : World) (hv : RIs F w v m) (hF : ∀ b ∈ F, b < w.heap.size) (ho : m.outs.length ≤ 100000) :
    Calls Try.prog 95 #[v] w fun e w' => ∃ v', e = .returned (.tuple #[.bool (takeB m.outs), v']) ∧ RIs F w' v' m.took ∧ Below w.heap.size w w' := by
  have HOB := Lib.hid ho
  clear ho
  obtain ⟨r, O, L, I⟩ := m
  obtain ⟨oa, oc, ba, bc, ia, ic, rfl, hO, hL, hI, hN⟩ := hv
  dsimp only at hO hL hI hN ⊢
  have HNF := Lib.hid hN
  have HFF := Lib.hid hF
  clear hN hF
  have hbo : O.length ≤ oc ∧ oc ≤ 9223372036854775807 := by obtain ⟨_, h1, h2, _⟩ := hO; unfold maxLen at h2; exact ⟨h1, h2⟩
  obtain ⟨hbo1, hbo2⟩ := hbo
  have hbb : L.length ≤ bc ∧ bc ≤ 9223372036854775807 := by obtain ⟨_, h1, h2, _⟩ := hL; unfold maxLen at h2; exact ⟨h1, h2⟩
  obtain ⟨hbb1, hbb2⟩ := hbb
  have hbi : I.length ≤ ic ∧ ic ≤ 9223372036854775807 := by obtain ⟨_, h1, h2, _⟩ := hI; unfold maxLen at h2; exact ⟨h1, h2⟩
  obtain ⟨hbi1, hbi2⟩ := hbi
  have HRO := Lib.hid hO
  have HRL := Lib.hid hL
  have HRI := Lib.hid hI
  clear hO hL hI
  have hw : Below w.heap.size w w := Below.refl _ _
  have hbel := hw
  cases O with
  | nil =>
    simp only [List.length_nil] at hbo1 HRO ⊢
    go_enter Try.func95, Try.ntmps95
    go_upto_region 1 with fail
    have pp0 : ((w.alloc (.cells #[.int .i64 r, .slice oa 0 oc, .slice ba L.length bc, .slice ia I.length ic] 31)).alloc (.cells #[.int .i64 0, .slice none 0 0, .slice none 0 0, .slice none 0 0] 31)).cell? ⟨w.heap.size, 0, none⟩ = some (.int .i64 r) := by first | (simp; done) | (rw [World.cell?_alloc_at _ _ _ _ (by simp)]; rfl) | (rw [World.cell?_alloc_past _ _ _ (by simp <;> omega), World.cell?_alloc_at _ _ _ _ (by simp)]; rfl) | (rw [World.cell?_alloc_past _ _ _ (by simp <;> omega), World.cell?_alloc_past _ _ _ (by simp <;> omega), World.cell?_alloc_at _ _ _ _ (by simp)]; rfl)
    have pp1 : ((w.alloc (.cells #[.int .i64 r, .slice oa 0 oc, .slice ba L.length bc, .slice ia I.length ic] 31)).alloc (.cells #[.int .i64 0, .slice none 0 0, .slice none 0 0, .slice none 0 0] 31)).cell? ⟨w.heap.size, 1, none⟩ = some (.slice oa 0 oc) := by first | (simp; done) | (rw [World.cell?_alloc_at _ _ _ _ (by simp)]; rfl) | (rw [World.cell?_alloc_past _ _ _ (by simp <;> omega), World.cell?_alloc_at _ _ _ _ (by simp)]; rfl) | (rw [World.cell?_alloc_past _ _ _ (by simp <;> omega), World.cell?_alloc_past _ _ _ (by simp <;> omega), World.cell?_alloc_at _ _ _ _ (by simp)]; rfl)
    have pp2 : ((w.alloc (.cells #[.int .i64 r, .slice oa 0 oc, .slice ba L.length bc, .slice ia I.length ic] 31)).alloc (.cells #[.int .i64 0, .slice none 0 0, .slice none 0 0, .slice none 0 0] 31)).cell? ⟨w.heap.size, 2, none⟩ = some (.slice ba L.length bc) := by first | (simp; done) | (rw [World.cell?_alloc_at _ _ _ _ (by simp)]; rfl) | (rw [World.cell?_alloc_past _ _ _ (by simp <;> omega), World.cell?_alloc_at _ _ _ _ (by simp)]; rfl) | (rw [World.cell?_alloc_past _ _ _ (by simp <;> omega), World.cell?_alloc_past _ _ _ (by simp <;> omega), World.cell?_alloc_at _ _ _ _ (by simp)]; rfl)
    have pp3 : ((w.alloc (.cells #[.int .i64 r, .slice oa 0 oc, .slice ba L.length bc, .slice ia I.length ic] 31)).alloc (.cells #[.int .i64 0, .slice none 0 0, .slice none 0 0, .slice none 0 0] 31)).cell? ⟨w.heap.size, 3, none⟩ = some (.slice ia I.length ic) := by first | (simp; done) | (rw [World.cell?_alloc_at _ _ _ _ (by simp)]; rfl) | (rw [World.cell?_alloc_past _ _ _ (by simp <;> omega), World.cell?_alloc_at _ _ _ _ (by simp)]; rfl) | (rw [World.cell?_alloc_past _ _ _ (by simp <;> omega), World.cell?_alloc_past _ _ _ (by simp <;> omega), World.cell?_alloc_at _ _ _ _ (by simp)]; rfl)
    have zz0 : ((w.alloc (.cells #[.int .i64 r, .slice oa 0 oc, .slice ba L.length bc, .slice ia I.length ic] 31)).alloc (.cells #[.int .i64 0, .slice none 0 0, .slice none 0 0, .slice none 0 0] 31)).cell? ⟨w.heap.size + 1, 0, none⟩ = some (.int .i64 0) := by first | (simp; done) | (rw [World.cell?_alloc_at _ _ _ _ (by simp)]; rfl) | (rw [World.cell?_alloc_past _ _ _ (by simp <;> omega), World.cell?_alloc_at _ _ _ _ (by simp)]; rfl) | (rw [World.cell?_alloc_past _ _ _ (by simp <;> omega), World.cell?_alloc_past _ _ _ (by simp <;> omega), World.cell?_alloc_at _ _ _ _ (by simp)]; rfl)
    have zz1 : ((w.alloc (.cells #[.int .i64 r, .slice oa 0 oc, .slice ba L.length bc, .slice ia I.length ic] 31)).alloc (.cells #[.int .i64 0, .slice none 0 0, .slice none 0 0, .slice none 0 0] 31)).cell? ⟨w.heap.size + 1, 1, none⟩ = some (.slice none 0 0) := by first | (simp; done) | (rw [World.cell?_alloc_at _ _ _ _ (by simp)]; rfl) | (rw [World.cell?_alloc_past _ _ _ (by simp <;> omega), World.cell?_alloc_at _ _ _ _ (by simp)]; rfl) | (rw [World.cell?_alloc_past _ _ _ (by simp <;> omega), World.cell?_alloc_past _ _ _ (by simp <;> omega), World.cell?_alloc_at _ _ _ _ (by simp)]; rfl)
    have zz2 : ((w.alloc (.cells #[.int .i64 r, .slice oa 0 oc, .slice ba L.length bc, .slice ia I.length ic] 31)).alloc (.cells #[.int .i64 0, .slice none 0 0, .slice none 0 0, .slice none 0 0] 31)).cell? ⟨w.heap.size + 1, 2, none⟩ = some (.slice none 0 0) := by first | (simp; done) | (rw [World.cell?_alloc_at _ _ _ _ (by simp)]; rfl) | (rw [World.cell?_alloc_past _ _ _ (by simp <;> omega), World.cell?_alloc_at _ _ _ _ (by simp)]; rfl) | (rw [World.cell?_alloc_past _ _ _ (by simp <;> omega), World.cell?_alloc_past _ _ _ (by simp <;> omega), World.cell?_alloc_at _ _ _ _ (by simp)]; rfl)
    have zz3 : ((w.alloc (.cells #[.int .i64 r, .slice oa 0 oc, .slice ba L.length bc, .slice ia I.length ic] 31)).alloc (.cells #[.int .i64 0, .slice none 0 0, .slice none 0 0, .slice none 0 0] 31)).cell? ⟨w.heap.size + 1, 3, none⟩ = some (.slice none 0 0) := by first | (simp; done) | (rw [World.cell?_alloc_at _ _ _ _ (by simp)]; rfl) | (rw [World.cell?_alloc_past _ _ _ (by simp <;> omega), World.cell?_alloc_at _ _ _ _ (by simp)]; rfl) | (rw [World.cell?_alloc_past _ _ _ (by simp <;> omega), World.cell?_alloc_past _ _ _ (by simp <;> omega), World.cell?_alloc_at _ _ _ _ (by simp)]; rfl)
    have hb2 := (by repeat (first | exact hbel | refine belAlloc ?_ _ | refine belDrew ?_ | refine belSet ?_ _ _ (by simp)) : Below w.heap.size w ((w.alloc (.cells #[.int .i64 r, .slice oa 0 oc, .slice ba L.length bc, .slice ia I.length ic] 31)).alloc (.cells #[.int .i64 0, .slice none 0 0, .slice none 0 0, .slice none 0 0] 31)))
    replace hw := belStep hw hb2
    have ppB : Blk ((w.alloc (.cells #[.int .i64 r, .slice oa 0 oc, .slice ba L.length bc, .slice ia I.length ic] 31)).alloc (.cells #[.int .i64 0, .slice none 0 0, .slice none 0 0, .slice none 0 0] 31)) (w.heap.size) [.int .i64 r, .slice oa 0 oc, .slice ba L.length bc, .slice ia I.length ic] 31 := (Blk.at (by simp) : Blk (w.alloc (.cells #[.int .i64 r, .slice oa 0 oc, .slice ba L.length bc, .slice ia I.length ic] 31)) (w.heap.size) [.int .i64 r, .slice oa 0 oc, .slice ba L.length bc, .slice ia I.length ic] 31).later (by repeat (first | exact Below.refl _ _ | refine belAlloc ?_ _))
    have ppF := Blk.keepF ppB
    replace ppB := Blk.keepB ppB
    have zzB : Blk ((w.alloc (.cells #[.int .i64 r, .slice oa 0 oc, .slice ba L.length bc, .slice ia I.length ic] 31)).alloc (.cells #[.int .i64 0, .slice none 0 0, .slice none 0 0, .slice none 0 0] 31)) (w.heap.size + 1) [.int .i64 0, .slice none 0 0, .slice none 0 0, .slice none 0 0] 31 := (Blk.at (by simp) : Blk ((w.alloc (.cells #[.int .i64 r, .slice oa 0 oc, .slice ba L.length bc, .slice ia I.length ic] 31)).alloc (.cells #[.int .i64 0, .slice none 0 0, .slice none 0 0, .slice none 0 0] 31)) (w.heap.size + 1) [.int .i64 0, .slice none 0 0, .slice none 0 0, .slice none 0 0] 31).later (by repeat (first | exact Below.refl _ _ | refine belAlloc ?_ _))
    have zzF := Blk.keepF zzB
    replace zzB := Blk.keepB zzB
    clear hb2 hbel
    generalize (w.alloc (.cells #[.int .i64 r, .slice oa 0 oc, .slice ba L.length bc, .slice ia I.length ic] 31)).alloc (.cells #[.int .i64 0, .slice none 0 0, .slice none 0 0, .slice none 0 0] 31) = W1 at *
    replace pp0 := keep pp0
    replace pp1 := keep pp1
    replace pp2 := keep pp2
    replace pp3 := keep pp3
    replace zz0 := keep zz0
    replace zz1 := keep zz1
    replace zz2 := keep zz2
    replace zz3 := keep zz3
    have hbel : Below W1.heap.size W1 W1 := Below.refl _ _
    skip
    have HP := Lib.hid (ppB W1 (Below.refl _ _))
    have HZ := Lib.hid (zzB W1 (Below.refl _ _))
    have HB := Lib.hid hw
    clear hw ppB zzB
    go_upto_region 2 with fail
    refine wp_region_upc (S := fun u => Below W1.heap.size W1 u) [2] (by kernel_rfl) (by exact (show Below W1.heap.size W1 _ by repeat (first | assumption | exact Below.refl _ _ | refine belDrew ?_ | refine belAlloc ?_ _ | refine belStep ?_ (by assumption)))) (fun hHeld => ?_)
    refine UpC.take (i := 0) (oi := ?oi_uc1) (v := ?v_uc1) ?hi_uc1 (by kernel_rfl) ?hf_uc1 ?hr_uc1 (by kernel_rfl) ?hQ_uc1 (Or.inl ⟨?hw_uc1, ?hy_uc1⟩) (by assumption) ?rest_uc1
    case hi_uc1 => ((simp only [List.getElem?_toArray, List.getElem?_cons_succ, List.getElem?_cons_zero]); rfl)
    case hf_uc1 => kernel_rfl
    case hr_uc1 => kernel_rfl
    case hQ_uc1 => exact fun _ _ _ h => h
    case hw_uc1 => rfl
    case hy_uc1 => ((intro w hSw; (try dsimp only at hSw); go_simp); all_goals (with_reducible rfl))
    try simp only [Act.put, List.setIfInBounds_toArray, List.set_cons_zero, List.set_cons_succ]
    refine UpC.take (i := 1) (oi := ?oi_uc2) (v := ?v_uc2) ?hi_uc2 (by kernel_rfl) ?hf_uc2 ?hr_uc2 (by kernel_rfl) ?hQ_uc2 (Or.inl ⟨?hw_uc2, ?hy_uc2⟩) (by assumption) ?rest_uc2
    case hi_uc2 => ((simp only [List.getElem?_toArray, List.getElem?_cons_succ, List.getElem?_cons_zero]); rfl)
    case hf_uc2 => kernel_rfl
    case hr_uc2 => kernel_rfl
    case hQ_uc2 => exact fun _ _ _ h => h
    case hw_uc2 => rfl
    case hy_uc2 => ((intro w hSw; (try dsimp only at hSw); go_simp); all_goals (with_reducible rfl))
    try simp only [Act.put, List.setIfInBounds_toArray, List.set_cons_zero, List.set_cons_succ]
    refine UpC.one (i := 2) (o := ?o_uc3) (by kernel_rfl) ?hi_uc3 (fun K hK => ?rest_uc3)
    case hi_uc3 => ((simp only [List.getElem?_toArray, List.getElem?_cons_succ, List.getElem?_cons_zero]); rfl)
    go_simp
    refine hK.out _ _ (fun q => absurd q (by decide)) (fun _ => ?_)
    clear hK K
    try simp only [Act.put, List.setIfInBounds_toArray, List.set_cons_zero, List.set_cons_succ]
    refine UpC.done (by kernel_rfl) ?_ _
    go_wp2
    have hfb := Lib.hid (belDrew (belSet (belSet (belSet (belSet HB.out ⟨w.heap.size + 1, 0, none⟩ (.int .i64 r) (Nat.le_succ _)) ⟨w.heap.size + 1, 1, none⟩ (.slice oa 0 oc) (Nat.le_succ _)) ⟨w.heap.size + 1, 2, none⟩ (.slice ba L.length bc) (Nat.le_succ _)) ⟨w.heap.size + 1, 3, none⟩ (.slice ia I.length ic) (Nat.le_succ _)))
    refine r16next_ret _ (w.heap.size + 1) _ r oa _ oc ba _ bc ia _ ic true _ rfl rfl ((((HZ.out.set 0 (.int .i64 r)).set 1 (.slice oa 0 oc)).set 2 (.slice ba L.length bc)).set 3 (.slice ia I.length ic)) ⟨_, rfl, ?_, hfb.out⟩
    exact ⟨oa, oc, ba, bc, ia, ic, rfl, HRO.out.later hfb.out, HRL.out.later hfb.out, HRI.out.later hfb.out, HNF.out⟩
  | cons c O =>
    obtain ⟨b, o, e, hc0⟩ := bool_cell HRO.out (k := 0) (s := c) rfl
    subst e
    rw [Nat.add_zero] at hc0
    have c0 := keep hc0
    clear hc0
    obtain ⟨n, hn⟩ : ∃ n, (c :: O).length = n := ⟨_, rfl⟩
    have HN := Lib.hid (show n = O.length + 1 by rw [← hn]; rfl)
    have hn9 : n ≤ 100000 := by rw [← hn]; exact HOB.out
    rw [hn] at hbo1 HRO ⊢
    clear hn
    have hn1 : 1 ≤ n := by have := HN.out; omega
    have hn0 : ((n : Int) == 0) = false := by rw [beq_eq_false_iff_ne]; omega
    have hni : (0 : Int) < (n : Int) := by omega
    have hnb : (n : Int) ≤ 9223372036854775807 := by omega
    go_enter Try.func95, Try.ntmps95
    go_upto_region 1 with fail
    have pp0 : ((w.alloc (.cells #[.int .i64 r, .slice (some ⟨b, o, none⟩) n oc, .slice ba L.length bc, .slice ia I.length ic] 31)).alloc (.cells #[.int .i64 0, .slice none 0 0, .slice none 0 0, .slice none 0 0] 31)).cell? ⟨w.heap.size, 0, none⟩ = some (.int .i64 r) := by first | (simp; done) | (rw [World.cell?_alloc_at _ _ _ _ (by simp)]; rfl) | (rw [World.cell?_alloc_past _ _ _ (by simp <;> omega), World.cell?_alloc_at _ _ _ _ (by simp)]; rfl) | (rw [World.cell?_alloc_past _ _ _ (by simp <;> omega), World.cell?_alloc_past _ _ _ (by simp <;> omega), World.cell?_alloc_at _ _ _ _ (by simp)]; rfl)
    have pp1 : ((w.alloc (.cells #[.int .i64 r, .slice (some ⟨b, o, none⟩) n oc, .slice ba L.length bc, .slice ia I.length ic] 31)).alloc (.cells #[.int .i64 0, .slice none 0 0, .slice none 0 0, .slice none 0 0] 31)).cell? ⟨w.heap.size, 1, none⟩ = some (.slice (some ⟨b, o, none⟩) n oc) := by first | (simp; done) | (rw [World.cell?_alloc_at _ _ _ _ (by simp)]; rfl) | (rw [World.cell?_alloc_past _ _ _ (by simp <;> omega), World.cell?_alloc_at _ _ _ _ (by simp)]; rfl) | (rw [World.cell?_alloc_past _ _ _ (by simp <;> omega), World.cell?_alloc_past _ _ _ (by simp <;> omega), World.cell?_alloc_at _ _ _ _ (by simp)]; rfl)
    have pp2 : ((w.alloc (.cells #[.int .i64 r, .slice (some ⟨b, o, none⟩) n oc, .slice ba L.length bc, .slice ia I.length ic] 31)).alloc (.cells #[.int .i64 0, .slice none 0 0, .slice none 0 0, .slice none 0 0] 31)).cell? ⟨w.heap.size, 2, none⟩ = some (.slice ba L.length bc) := by first | (simp; done) | (rw [World.cell?_alloc_at _ _ _ _ (by simp)]; rfl) | (rw [World.cell?_alloc_past _ _ _ (by simp <;> omega), World.cell?_alloc_at _ _ _ _ (by simp)]; rfl) | (rw [World.cell?_alloc_past _ _ _ (by simp <;> omega), World.cell?_alloc_past _ _ _ (by simp <;> omega), World.cell?_alloc_at _ _ _ _ (by simp)]; rfl)
    have pp3 : ((w.alloc (.cells #[.int .i64 r, .slice (some ⟨b, o, none⟩) n oc, .slice ba L.length bc, .slice ia I.length ic] 31)).alloc (.cells #[.int .i64 0, .slice none 0 0, .slice none 0 0, .slice none 0 0] 31)).cell? ⟨w.heap.size, 3, none⟩ = some (.slice ia I.length ic) := by first | (simp; done) | (rw [World.cell?_alloc_at _ _ _ _ (by simp)]; rfl) | (rw [World.cell?_alloc_past _ _ _ (by simp <;> omega), World.cell?_alloc_at _ _ _ _ (by simp)]; rfl) | (rw [World.cell?_alloc_past _ _ _ (by simp <;> omega), World.cell?_alloc_past _ _ _ (by simp <;> omega), World.cell?_alloc_at _ _ _ _ (by simp)]; rfl)
    have zz0 : ((w.alloc (.cells #[.int .i64 r, .slice (some ⟨b, o, none⟩) n oc, .slice ba L.length bc, .slice ia I.length ic] 31)).alloc (.cells #[.int .i64 0, .slice none 0 0, .slice none 0 0, .slice none 0 0] 31)).cell? ⟨w.heap.size + 1, 0, none⟩ = some (.int .i64 0) := by first | (simp; done) | (rw [World.cell?_alloc_at _ _ _ _ (by simp)]; rfl) | (rw [World.cell?_alloc_past _ _ _ (by simp <;> omega), World.cell?_alloc_at _ _ _ _ (by simp)]; rfl) | (rw [World.cell?_alloc_past _ _ _ (by simp <;> omega), World.cell?_alloc_past _ _ _ (by simp <;> omega), World.cell?_alloc_at _ _ _ _ (by simp)]; rfl)
    have zz1 : ((w.alloc (.cells #[.int .i64 r, .slice (some ⟨b, o, none⟩) n oc, .slice ba L.length bc, .slice ia I.length ic] 31)).alloc (.cells #[.int .i64 0, .slice none 0 0, .slice none 0 0, .slice none 0 0] 31)).cell? ⟨w.heap.size + 1, 1, none⟩ = some (.slice none 0 0) := by first | (simp; done) | (rw [World.cell?_alloc_at _ _ _ _ (by simp)]; rfl) | (rw [World.cell?_alloc_past _ _ _ (by simp <;> omega), World.cell?_alloc_at _ _ _ _ (by simp)]; rfl) | (rw [World.cell?_alloc_past _ _ _ (by simp <;> omega), World.cell?_alloc_past _ _ _ (by simp <;> omega), World.cell?_alloc_at _ _ _ _ (by simp)]; rfl)
    have zz2 : ((w.alloc (.cells #[.int .i64 r, .slice (some ⟨b, o, none⟩) n oc, .slice ba L.length bc, .slice ia I.length ic] 31)).alloc (.cells #[.int .i64 0, .slice none 0 0, .slice none 0 0, .slice none 0 0] 31)).cell? ⟨w.heap.size + 1, 2, none⟩ = some (.slice none 0 0) := by first | (simp; done) | (rw [World.cell?_alloc_at _ _ _ _ (by simp)]; rfl) | (rw [World.cell?_alloc_past _ _ _ (by simp <;> omega), World.cell?_alloc_at _ _ _ _ (by simp)]; rfl) | (rw [World.cell?_alloc_past _ _ _ (by simp <;> omega), World.cell?_alloc_past _ _ _ (by simp <;> omega), World.cell?_alloc_at _ _ _ _ (by simp)]; rfl)
    have zz3 : ((w.alloc (.cells #[.int .i64 r, .slice (some ⟨b, o, none⟩) n oc, .slice ba L.length bc, .slice ia I.length ic] 31)).alloc (.cells #[.int .i64 0, .slice none 0 0, .slice none 0 0, .slice none 0 0] 31)).cell? ⟨w.heap.size + 1, 3, none⟩ = some (.slice none 0 0) := by first | (simp; done) | (rw [World.cell?_alloc_at _ _ _ _ (by simp)]; rfl) | (rw [World.cell?_alloc_past _ _ _ (by simp <;> omega), World.cell?_alloc_at _ _ _ _ (by simp)]; rfl) | (rw [World.cell?_alloc_past _ _ _ (by simp <;> omega), World.cell?_alloc_past _ _ _ (by simp <;> omega), World.cell?_alloc_at _ _ _ _ (by simp)]; rfl)
    have hb2 := (by repeat (first | exact hbel | refine belAlloc ?_ _ | refine belDrew ?_ | refine belSet ?_ _ _ (by simp)) : Below w.heap.size w ((w.alloc (.cells #[.int .i64 r, .slice (some ⟨b, o, none⟩) n oc, .slice ba L.length bc, .slice ia I.length ic] 31)).alloc (.cells #[.int .i64 0, .slice none 0 0, .slice none 0 0, .slice none 0 0] 31)))
    replace c0 := keepOnP c0 hb2
    replace hw := belStep hw hb2
    have ppB : Blk ((w.alloc (.cells #[.int .i64 r, .slice (some ⟨b, o, none⟩) n oc, .slice ba L.length bc, .slice ia I.length ic] 31)).alloc (.cells #[.int .i64 0, .slice none 0 0, .slice none 0 0, .slice none 0 0] 31)) (w.heap.size) [.int .i64 r, .slice (some ⟨b, o, none⟩) n oc, .slice ba L.length bc, .slice ia I.length ic] 31 := (Blk.at (by simp) : Blk (w.alloc (.cells #[.int .i64 r, .slice (some ⟨b, o, none⟩) n oc, .slice ba L.length bc, .slice ia I.length ic] 31)) (w.heap.size) [.int .i64 r, .slice (some ⟨b, o, none⟩) n oc, .slice ba L.length bc, .slice ia I.length ic] 31).later (by repeat (first | exact Below.refl _ _ | refine belAlloc ?_ _))
    have ppF := Blk.keepF ppB
    replace ppB := Blk.keepB ppB
    have zzB : Blk ((w.alloc (.cells #[.int .i64 r, .slice (some ⟨b, o, none⟩) n oc, .slice ba L.length bc, .slice ia I.length ic] 31)).alloc (.cells #[.int .i64 0, .slice none 0 0, .slice none 0 0, .slice none 0 0] 31)) (w.heap.size + 1) [.int .i64 0, .slice none 0 0, .slice none 0 0, .slice none 0 0] 31 := (Blk.at (by simp) : Blk ((w.alloc (.cells #[.int .i64 r, .slice (some ⟨b, o, none⟩) n oc, .slice ba L.length bc, .slice ia I.length ic] 31)).alloc (.cells #[.int .i64 0, .slice none 0 0, .slice none 0 0, .slice none 0 0] 31)) (w.heap.size + 1) [.int .i64 0, .slice none 0 0, .slice none 0 0, .slice none 0 0] 31).later (by repeat (first | exact Below.refl _ _ | refine belAlloc ?_ _))
    have zzF := Blk.keepF zzB
    replace zzB := Blk.keepB zzB
    clear hb2 hbel
    generalize (w.alloc (.cells #[.int .i64 r, .slice (some ⟨b, o, none⟩) n oc, .slice ba L.length bc, .slice ia I.length ic] 31)).alloc (.cells #[.int .i64 0, .slice none 0 0, .slice none 0 0, .slice none 0 0] 31) = W1 at *
    replace pp0 := keep pp0
    replace pp1 := keep pp1
    replace pp2 := keep pp2
    replace pp3 := keep pp3
    replace zz0 := keep zz0
    replace zz1 := keep zz1
    replace zz2 := keep zz2
    replace zz3 := keep zz3
    have hbel : Below W1.heap.size W1 W1 := Below.refl _ _
    skip
    have HP := Lib.hid (ppB W1 (Below.refl _ _))
    have HZ := Lib.hid (zzB W1 (Below.refl _ _))
    have HB := Lib.hid hw
    clear hw ppB zzB
    go_upto_region 4 with fail
    clear c0
    have hlt := HP.out.lt
    have hlt2 := HZ.out.lt
    by_cases hc1 : oc = 1
    · have hnn : n = 1 := by omega
      have HO1 := Lib.hid (show O = [] from List.eq_nil_of_length_eq_zero (by have := HN.out; omega))
      subst hc1 hnn
      obtain ⟨m, hm⟩ : ∃ m, O.length = m := ⟨_, rfl⟩
      have HM := Lib.hid hm
      have hk0 : Below W1.heap.size W1 (W1.alloc (.cells #[] 4)) := belAlloc (Below.refl _ _) _
      have HO0 := Lib.hid (own_empty W1 4 1)
      have HRA := Lib.hid (show Row (W1.alloc (.cells #[] 4)) (some ⟨b, o, none⟩) (0) (0) 1 (O.map Value.bool) from (show Row w (some ⟨b, o, none⟩) 0 0 1 (O.map Value.bool) from by rw [HO1.out]; exact row_zero).later (belStep HB.out hk0))
      have HB0 := Lib.hid hk0
      clear hk0 hm
      go_upto_region 5 with (at_builtin; refine wpList_app_row rfl _ _ 27 rfl W1.heap.size 4 (.bool false) 1 1 Try.underlying27 info_boolI rfl (by decide) _ 0 [] rfl HO0.out _ (0) _ _ rfl HRA.out (bools_oneR _) (by have := HN.out; unfold maxLen; omega) (by omega) (Below.size HB0.out) ?_; intro v5 w5 ho_ hb_ hg_; have ho2_ : OwnR w5 W1.heap.size 4 1 v5 m (O.map Value.bool) := (by have e1 : 0 + (0) = m := (by have := HN.out; have := HM.out; omega); rw [← e1]; exact ho_); replace HB0 := Lib.hid (HB0.out.trans hb_); have HO2 := Lib.hid ho2_; obtain ⟨na, nc, e9, hr9_⟩ := rowR_of_own ho2_; subst e9; have p1 := (HP.out.later HB0.out).cell (j := 1) rfl; have pf := (HP.out.later HB0.out).frozen; clear ho_ ho2_ hb_ hg_ HO0 HRA hr9_)
      clear p1 pf
      have HP6 := Lib.hid ((HP.out.later HB0.out).set 1 (.slice na m nc))
      have HA6 := Lib.hid ((Apart.refl [w.heap.size, w.heap.size + 1] w5).set ⟨w.heap.size, 1, none⟩ (.slice na m nc) (by simp))
      have HB6 := Lib.hid (belSet (belStep HB.out HB0.out) ⟨w.heap.size, 1, none⟩ (.slice na m nc) (Nat.le_refl _))
      have HZ6 := Lib.hid ((HZ.out.later HB0.out).apart ((Apart.refl [w.heap.size] w5).set ⟨w.heap.size, 1, none⟩ (.slice na m nc) (by simp)) (by simp))
      generalize w5.setCell ⟨w.heap.size, 1, none⟩ (.slice na m nc) = W6 at *
      clear hbel pp0 pp1 pp2 pp3 zz0 zz1 zz2 zz3 ppF zzF
      have p0 := keep (HP6.out.cell (j := 0) rfl)
      have p1 := keep (HP6.out.cell (j := 1) rfl)
      have p2 := keep (HP6.out.cell (j := 2) rfl)
      have p3 := keep (HP6.out.cell (j := 3) rfl)
      have z0 := keep (HZ6.out.cell (j := 0) rfl)
      have z1 := keep (HZ6.out.cell (j := 1) rfl)
      have z2 := keep (HZ6.out.cell (j := 2) rfl)
      have z3 := keep (HZ6.out.cell (j := 3) rfl)
      have zf := Blk.keepF HZ6.out
      have hbel : Below W6.heap.size W6 W6 := Below.refl _ _
      refine wp_region_upc (S := fun u => Below W6.heap.size W6 u) [3] (by kernel_rfl) (by exact (show Below W6.heap.size W6 _ by repeat (first | assumption | exact Below.refl _ _ | refine belDrew ?_ | refine belAlloc ?_ _ | refine belStep ?_ (by assumption)))) (fun hHeld => ?_)
      refine UpC.take (i := 0) (oi := ?oi_uc4) (v := ?v_uc4) ?hi_uc4 (by kernel_rfl) ?hf_uc4 ?hr_uc4 (by kernel_rfl) ?hQ_uc4 (Or.inl ⟨?hw_uc4, ?hy_uc4⟩) (by assumption) ?rest_uc4
      case hi_uc4 => ((simp only [List.getElem?_toArray, List.getElem?_cons_succ, List.getElem?_cons_zero]); rfl)
      case hf_uc4 => kernel_rfl
      case hr_uc4 => kernel_rfl
      case hQ_uc4 => exact fun _ _ _ h => h
      case hw_uc4 => rfl
      case hy_uc4 => ((intro w hSw; (try dsimp only at hSw); go_simp); all_goals (with_reducible rfl))
      try simp only [Act.put, List.setIfInBounds_toArray, List.set_cons_zero, List.set_cons_succ]
      refine UpC.take (i := 1) (oi := ?oi_uc5) (v := ?v_uc5) ?hi_uc5 (by kernel_rfl) ?hf_uc5 ?hr_uc5 (by kernel_rfl) ?hQ_uc5 (Or.inl ⟨?hw_uc5, ?hy_uc5⟩) (by assumption) ?rest_uc5
      case hi_uc5 => ((simp only [List.getElem?_toArray, List.getElem?_cons_succ, List.getElem?_cons_zero]); rfl)
      case hf_uc5 => kernel_rfl
      case hr_uc5 => kernel_rfl
      case hQ_uc5 => exact fun _ _ _ h => h
      case hw_uc5 => rfl
      case hy_uc5 => ((intro w hSw; (try dsimp only at hSw); go_simp); all_goals (with_reducible rfl))
      try simp only [Act.put, List.setIfInBounds_toArray, List.set_cons_zero, List.set_cons_succ]
      refine UpC.take (i := 2) (oi := ?oi_uc6) (v := ?v_uc6) ?hi_uc6 (by kernel_rfl) ?hf_uc6 ?hr_uc6 (by kernel_rfl) ?hQ_uc6 (Or.inl ⟨?hw_uc6, ?hy_uc6⟩) (by assumption) ?rest_uc6
      case hi_uc6 => ((simp only [List.getElem?_toArray, List.getElem?_cons_succ, List.getElem?_cons_zero]); rfl)
      case hf_uc6 => kernel_rfl
      case hr_uc6 => kernel_rfl
      case hQ_uc6 => exact fun _ _ _ h => h
      case hw_uc6 => rfl
      case hy_uc6 => ((intro w hSw; (try dsimp only at hSw); go_simp); all_goals (with_reducible rfl))
      try simp only [Act.put, List.setIfInBounds_toArray, List.set_cons_zero, List.set_cons_succ]
      refine UpC.one (i := 3) (o := ?o_uc7) (by kernel_rfl) ?hi_uc7 (fun K hK => ?rest_uc7)
      case hi_uc7 => ((simp only [List.getElem?_toArray, List.getElem?_cons_succ, List.getElem?_cons_zero]); rfl)
      go_simp
      refine hK.out _ _ (fun q => absurd q (by decide)) (fun _ => ?_)
      clear hK K
      try simp only [Act.put, List.setIfInBounds_toArray, List.set_cons_zero, List.set_cons_succ]
      refine UpC.done (by kernel_rfl) ?_ _
      go_wp2
      have hfb := Lib.hid (belDrew (belSet (belSet (belSet (belSet HB6.out ⟨w.heap.size + 1, 0, none⟩ (.int .i64 r) (Nat.le_succ _)) ⟨w.heap.size + 1, 1, none⟩ (.slice na m nc) (Nat.le_succ _)) ⟨w.heap.size + 1, 2, none⟩ (.slice ba L.length bc) (Nat.le_succ _)) ⟨w.heap.size + 1, 3, none⟩ (.slice ia I.length ic) (Nat.le_succ _)))
      have hfa := Lib.hid (show Apart [w.heap.size, w.heap.size + 1] w5 _ from ((((HA6.out.set ⟨w.heap.size + 1, 0, none⟩ (.int .i64 r) (by simp)).set ⟨w.heap.size + 1, 1, none⟩ (.slice na m nc) (by simp)).set ⟨w.heap.size + 1, 2, none⟩ (.slice ba L.length bc) (by simp)).set ⟨w.heap.size + 1, 3, none⟩ (.slice ia I.length ic) (by simp)))
      refine r16next_ret _ (w.heap.size + 1) _ r na m nc ba _ bc ia _ ic c _ rfl rfl ((((HZ6.out.set 0 (.int .i64 r)).set 1 (.slice na m nc)).set 2 (.slice ba L.length bc)).set 3 (.slice ia I.length ic)) ⟨_, rfl, ?_, hfb.out⟩
      refine ⟨na, nc, ba, bc, ia, ic, by rw [show (WorldV.took ⟨r, c :: O, L, I⟩).outs.length = m from HM.out]; rfl, ?_, HRL.out.later hfb.out, HRI.out.later hfb.out, notin_own HO2.out (fun b hb => Nat.lt_of_lt_of_le (HFF.out b hb) HB.out.size), HNF.out.2⟩
      have h9 := own_row (own_apartF HO2.out hfa.out (fun b hb => by simp only [List.mem_cons, List.not_mem_nil, or_false] at hb; omega))
      rw [show (WorldV.took ⟨r, c :: O, L, I⟩).outs.length = m from HM.out]; exact h9
    · have h1c : (1 : Int) ≤ (oc : Int) := by omega
      have h1n : (1 : Int) ≤ (n : Int) := by omega
      obtain ⟨m, hm⟩ : ∃ m, O.length = m := ⟨_, rfl⟩
      have HM := Lib.hid hm
      have hk0 : Below W1.heap.size W1 (W1.alloc (.cells #[] 4)) := belAlloc (Below.refl _ _) _
      have HO0 := Lib.hid (own_empty W1 4 1)
      have HRA := Lib.hid (show Row (W1.alloc (.cells #[] 4)) (some ⟨b, o + 1, none⟩) (n - 1) (oc - 1) 1 (O.map Value.bool) from (show Row w (some ⟨b, o + 1, none⟩) (n - 1) (oc - 1) 1 (O.map Value.bool) from by have h := HRO.out; obtain ⟨q, rfl⟩ : ∃ q, n = q + 1 := ⟨n - 1, by omega⟩; exact row_tailB h).later (belStep HB.out hk0))
      have HB0 := Lib.hid hk0
      clear hk0 hm
      go_upto_region 5 with (at_builtin; refine wpList_app_row rfl _ _ 27 rfl W1.heap.size 4 (.bool false) 1 1 Try.underlying27 info_boolI rfl (by decide) _ 0 [] rfl HO0.out _ (n - 1) _ _ rfl HRA.out (bools_oneR _) (by have := HN.out; unfold maxLen; omega) (by omega) (Below.size HB0.out) ?_; intro v5 w5 ho_ hb_ hg_; have ho2_ : OwnR w5 W1.heap.size 4 1 v5 m (O.map Value.bool) := (by have e1 : 0 + (n - 1) = m := (by have := HN.out; have := HM.out; omega); rw [← e1]; exact ho_); replace HB0 := Lib.hid (HB0.out.trans hb_); have HO2 := Lib.hid ho2_; obtain ⟨na, nc, e9, hr9_⟩ := rowR_of_own ho2_; subst e9; have p1 := (HP.out.later HB0.out).cell (j := 1) rfl; have pf := (HP.out.later HB0.out).frozen; clear ho_ ho2_ hb_ hg_ HO0 HRA hr9_)
      clear p1 pf
      have HP6 := Lib.hid ((HP.out.later HB0.out).set 1 (.slice na m nc))
      have HA6 := Lib.hid ((Apart.refl [w.heap.size, w.heap.size + 1] w5).set ⟨w.heap.size, 1, none⟩ (.slice na m nc) (by simp))
      have HB6 := Lib.hid (belSet (belStep HB.out HB0.out) ⟨w.heap.size, 1, none⟩ (.slice na m nc) (Nat.le_refl _))
      have HZ6 := Lib.hid ((HZ.out.later HB0.out).apart ((Apart.refl [w.heap.size] w5).set ⟨w.heap.size, 1, none⟩ (.slice na m nc) (by simp)) (by simp))
      generalize w5.setCell ⟨w.heap.size, 1, none⟩ (.slice na m nc) = W6 at *
      clear hbel pp0 pp1 pp2 pp3 zz0 zz1 zz2 zz3 ppF zzF
      have p0 := keep (HP6.out.cell (j := 0) rfl)
      have p1 := keep (HP6.out.cell (j := 1) rfl)
      have p2 := keep (HP6.out.cell (j := 2) rfl)
      have p3 := keep (HP6.out.cell (j := 3) rfl)
      have z0 := keep (HZ6.out.cell (j := 0) rfl)
      have z1 := keep (HZ6.out.cell (j := 1) rfl)
      have z2 := keep (HZ6.out.cell (j := 2) rfl)
      have z3 := keep (HZ6.out.cell (j := 3) rfl)
      have zf := Blk.keepF HZ6.out
      have hbel : Below W6.heap.size W6 W6 := Below.refl _ _
      refine wp_region_upc (S := fun u => Below W6.heap.size W6 u) [3] (by kernel_rfl) (by exact (show Below W6.heap.size W6 _ by repeat (first | assumption | exact Below.refl _ _ | refine belDrew ?_ | refine belAlloc ?_ _ | refine belStep ?_ (by assumption)))) (fun hHeld => ?_)
      refine UpC.take (i := 0) (oi := ?oi_uc8) (v := ?v_uc8) ?hi_uc8 (by kernel_rfl) ?hf_uc8 ?hr_uc8 (by kernel_rfl) ?hQ_uc8 (Or.inl ⟨?hw_uc8, ?hy_uc8⟩) (by assumption) ?rest_uc8
      case hi_uc8 => ((simp only [List.getElem?_toArray, List.getElem?_cons_succ, List.getElem?_cons_zero]); rfl)
      case hf_uc8 => kernel_rfl
      case hr_uc8 => kernel_rfl
      case hQ_uc8 => exact fun _ _ _ h => h
      case hw_uc8 => rfl
      case hy_uc8 => ((intro w hSw; (try dsimp only at hSw); go_simp); all_goals (with_reducible rfl))
      try simp only [Act.put, List.setIfInBounds_toArray, List.set_cons_zero, List.set_cons_succ]
      refine UpC.take (i := 1) (oi := ?oi_uc9) (v := ?v_uc9) ?hi_uc9 (by kernel_rfl) ?hf_uc9 ?hr_uc9 (by kernel_rfl) ?hQ_uc9 (Or.inl ⟨?hw_uc9, ?hy_uc9⟩) (by assumption) ?rest_uc9
      case hi_uc9 => ((simp only [List.getElem?_toArray, List.getElem?_cons_succ, List.getElem?_cons_zero]); rfl)
      case hf_uc9 => kernel_rfl
      case hr_uc9 => kernel_rfl
      case hQ_uc9 => exact fun _ _ _ h => h
      case hw_uc9 => rfl
      case hy_uc9 => ((intro w hSw; (try dsimp only at hSw); go_simp); all_goals (with_reducible rfl))
      try simp only [Act.put, List.setIfInBounds_toArray, List.set_cons_zero, List.set_cons_succ]
      refine UpC.take (i := 2) (oi := ?oi_uc10) (v := ?v_uc10) ?hi_uc10 (by kernel_rfl) ?hf_uc10 ?hr_uc10 (by kernel_rfl) ?hQ_uc10 (Or.inl ⟨?hw_uc10, ?hy_uc10⟩) (by assumption) ?rest_uc10
      case hi_uc10 => ((simp only [List.getElem?_toArray, List.getElem?_cons_succ, List.getElem?_cons_zero]); rfl)
      case hf_uc10 => kernel_rfl
      case hr_uc10 => kernel_rfl
      case hQ_uc10 => exact fun _ _ _ h => h
      case hw_uc10 => rfl
      case hy_uc10 => ((intro w hSw; (try dsimp only at hSw); go_simp); all_goals (with_reducible rfl))
      try simp only [Act.put, List.setIfInBounds_toArray, List.set_cons_zero, List.set_cons_succ]
      refine UpC.one (i := 3) (o := ?o_uc11) (by kernel_rfl) ?hi_uc11 (fun K hK => ?rest_uc11)
      case hi_uc11 => ((simp only [List.getElem?_toArray, List.getElem?_cons_succ, List.getElem?_cons_zero]); rfl)
      go_simp
      refine hK.out _ _ (fun q => absurd q (by decide)) (fun _ => ?_)
      clear hK K
      try simp only [Act.put, List.setIfInBounds_toArray, List.set_cons_zero, List.set_cons_succ]
      refine UpC.done (by kernel_rfl) ?_ _
      go_wp2
      have hfb := Lib.hid (belDrew (belSet (belSet (belSet (belSet HB6.out ⟨w.heap.size + 1, 0, none⟩ (.int .i64 r) (Nat.le_succ _)) ⟨w.heap.size + 1, 1, none⟩ (.slice na m nc) (Nat.le_succ _)) ⟨w.heap.size + 1, 2, none⟩ (.slice ba L.length bc) (Nat.le_succ _)) ⟨w.heap.size + 1, 3, none⟩ (.slice ia I.length ic) (Nat.le_succ _)))
      have hfa := Lib.hid (show Apart [w.heap.size, w.heap.size + 1] w5 _ from ((((HA6.out.set ⟨w.heap.size + 1, 0, none⟩ (.int .i64 r) (by simp)).set ⟨w.heap.size + 1, 1, none⟩ (.slice na m nc) (by simp)).set ⟨w.heap.size + 1, 2, none⟩ (.slice ba L.length bc) (by simp)).set ⟨w.heap.size + 1, 3, none⟩ (.slice ia I.length ic) (by simp)))
      refine r16next_ret _ (w.heap.size + 1) _ r na m nc ba _ bc ia _ ic c _ rfl rfl ((((HZ6.out.set 0 (.int .i64 r)).set 1 (.slice na m nc)).set 2 (.slice ba L.length bc)).set 3 (.slice ia I.length ic)) ⟨_, rfl, ?_, hfb.out⟩
      refine ⟨na, nc, ba, bc, ia, ic, by rw [show (WorldV.took ⟨r, c :: O, L, I⟩).outs.length = m from HM.out]; rfl, ?_, HRL.out.later hfb.out, HRI.out.later hfb.out, notin_own HO2.out (fun b hb => Nat.lt_of_lt_of_le (HFF.out b hb) HB.out.size), HNF.out.2⟩
      have h9 := own_row (own_apartF HO2.out hfa.out (fun b hb => by simp only [List.mem_cons, List.not_mem_nil, or_false] at hb; omega))
      rw [show (WorldV.took ⟨r, c :: O, L, I⟩).outs.length = m from HM.out]; exact h9
end Go.Proofs.Ytcnjcldfbidkmaa
