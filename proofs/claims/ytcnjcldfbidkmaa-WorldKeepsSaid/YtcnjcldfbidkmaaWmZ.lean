
/- Stage 16: does: Feed. Stage 16: does: Create. Stage 16: does: Ask. Stage 16: does: Pull. Stage 16: does: Drop. Stage 16: does: Touch. Stage 16: does whole; the law's own runtime as a value. -/
import Derived.Test.YtcnjcldfbidkmaaWm3
namespace Go.Proofs.Ytcnjcldfbidkmaa
open Go.RowKit Go.Sort
set_option linter.unusedVariables false
set_option linter.unusedSimpArgs false
theorem jw_runX {w u x : World} {M : Nat} {X F : List Nat} {m k : WorldV} {v : Value} (h1 : WAt u M M F m) (h2 : RIs (X ++ F) u v k) (h3 : Below w.heap.size w u) (h4 : w.heap.size ≤ M) (hT : WTo u x M M F k) : ∃ G, WAt x M M G k ∧ RIs (X ++ G) x v k ∧ Below w.heap.size w x ∧ w.heap.size ≤ M ∧ Apart F u x ∧ ∀ b ∈ G, b ∈ F ∨ u.heap.size ≤ b := by
  have hbl := hT.below h1 h4 h3.size
  obtain ⟨G, k1, k2, k3⟩ := hT
  have r1 : RIs ((X ++ F) ++ G) u v k := h2.more (fun b hb => by
    rcases List.mem_append.1 hb with q | q
    · exact .inl q
    · exact (k3 b q).imp (fun r => List.mem_append_right X r) id)
  have r2 := r1.apart (k2.weaken (fun b hb => List.mem_append_left G (List.mem_append_right X hb)))
  exact ⟨G, k1, r2.more (fun b hb => .inl (by
    rcases List.mem_append.1 hb with q | q
    · exact List.mem_append_left G (List.mem_append_left F q)
    · exact List.mem_append_right _ q)), h3.trans hbl, h4, k2, k3⟩
theorem does_ret (W : World) (R : Nat) (tm : Array Value) (r : Int) (oa : Option Addr) (on oc : Nat) (ba : Option Addr) (bn bc : Nat) (ia : Option Addr) (inn ic : Nat) (c : Bool) (Q : Ending → World → Prop) (h0 : tm.getD 6 undef = .pointer (some ⟨R, 0, none⟩)) (h1 : tm.getD 7 undef = .bool c) (hb : Blk W R [.int .i64 r, .slice oa on oc, .slice ba bn bc, .slice ia inn ic] 31) (hR : Q (.returned (.tuple #[.agg #[.int .i64 r, .slice oa on oc, .slice ba bn bc, .slice ia inn ic], .bool c])) W) :
    bodyPost Try.prog Try.f19 Q Exit.ret { tmps := tm, defers := [] } W := by
  have z0 := hb.cell (j := 0) rfl
  have z1 := hb.cell (j := 1) rfl
  have z2 := hb.cell (j := 2) rfl
  have z3 := hb.cell (j := 3) rfl
  refine bodyPost_ret (v := .tuple #[.agg #[.int .i64 r, .slice oa on oc, .slice ba bn bc, .slice ia inn ic], .bool c]) ?_ rfl hR
  simp only [Array.getD_eq_getD_getElem?] at h0 h1
  simp [results, Try.results19, go_sem, h0, h1, z0, z1, z2, z3]
set_option maxRecDepth 100000 in
set_option maxHeartbeats 32000000 in
theorem does_0 (w0 : World) (M n : Nat) (m : WorldV) (v : Value) (x : ActW) (w : World) (X F : List Nat) (hXs : ∀ b ∈ X, b < w.heap.size) (hW : WAt w M M F m) (hR : RIs (X ++ F) w v m) (hB0 : Below w0.heap.size w0 w) (hM : w0.heap.size ≤ M) (hg : m.Good n) (hx : x.good w) (hwn : x.wn ≤ 3000) (hop : x.op = 0) :
    Calls Try.prog 19 #[.pointer (some ⟨M, 0, none⟩), v, .agg #[.int .i64 x.op, .slice x.wa x.wn x.wc, .string x.id, .int .i64 x.what, .string x.name, .int .i64 x.size, .int .i64 x.round, .slice x.ua x.un x.uc]] w fun e w' => ∃ v', e = .returned (.tuple #[v', .bool true]) ∧ JX w0 w w' M X F (stepW m x) v' := by
  obtain ⟨⟨_, _, _, _, _, _, hvl, _, _⟩, hRW, _⟩ := hx
  have HVL := Lib.hid hvl
  have HRW := Lib.hid hRW
  have hbw : x.wn ≤ x.wc ∧ x.wc ≤ 9223372036854775807 := by obtain ⟨_, h1, h2, _⟩ := hRW; unfold maxLen at h2; exact ⟨h1, h2⟩
  obtain ⟨hbw1, hbw2⟩ := hbw
  clear hvl hRW
  have HG := Lib.hid hg
  clear hg
  have HXS := Lib.hid hXs
  clear hXs
  have HW := Lib.hid hW
  have HV := Lib.hid hR
  have HB0 := Lib.hid hB0
  have HMM := Lib.hid hM
  have HFL := Lib.hid (fun b hb => (hW.foot_lt b hb).2)
  obtain ⟨oa, oc, ba, bc, ia, ic, rfl, hO, hL, hI, _⟩ := hR
  have hbo : m.outs.length ≤ oc ∧ oc ≤ 9223372036854775807 := by obtain ⟨_, h1, h2, _⟩ := hO; unfold maxLen at h2; exact ⟨h1, h2⟩
  obtain ⟨hbo1, hbo2⟩ := hbo
  have hbb : m.boxes.length ≤ bc ∧ bc ≤ 9223372036854775807 := by obtain ⟨_, h1, h2, _⟩ := hL; unfold maxLen at h2; exact ⟨h1, h2⟩
  obtain ⟨hbb1, hbb2⟩ := hbb
  have hbi : m.images.length ≤ ic ∧ ic ≤ 9223372036854775807 := by obtain ⟨_, h1, h2, _⟩ := hI; unfold maxLen at h2; exact ⟨h1, h2⟩
  obtain ⟨hbi1, hbi2⟩ := hbi
  clear hW hB0 hM hO hL hI
  have d0 : (x.op == (0 : Int)) = true := by rw [hop]; rfl
  have hw : Below w.heap.size w w := Below.refl _ _
  have hbel := hw
  have HE := Lib.hid (show stepW m x = m.fed x.V by unfold stepW; rw [if_pos hop])
  clear hop
  go_enter Try.func19, Try.ntmps19
  go_upto_region 1 with fail
  have pp0 : (((w.alloc (.cells #[.int .i64 m.retries, .slice oa m.outs.length oc, .slice ba m.boxes.length bc, .slice ia m.images.length ic] 31)).alloc (.cells #[.int .i64 x.op, .slice x.wa x.wn x.wc, .string x.id, .int .i64 x.what, .string x.name, .int .i64 x.size, .int .i64 x.round, .slice x.ua x.un x.uc] 36)).alloc (.cells #[.int .i64 0, .slice none 0 0, .slice none 0 0, .slice none 0 0] 31)).cell? ⟨w.heap.size, 0, none⟩ = some (.int .i64 m.retries) := by first | (simp; done) | (rw [World.cell?_alloc_at _ _ _ _ (by simp)]; rfl) | (rw [World.cell?_alloc_past _ _ _ (by simp <;> omega), World.cell?_alloc_at _ _ _ _ (by simp)]; rfl) | (rw [World.cell?_alloc_past _ _ _ (by simp <;> omega), World.cell?_alloc_past _ _ _ (by simp <;> omega), World.cell?_alloc_at _ _ _ _ (by simp)]; rfl)
  have pp1 : (((w.alloc (.cells #[.int .i64 m.retries, .slice oa m.outs.length oc, .slice ba m.boxes.length bc, .slice ia m.images.length ic] 31)).alloc (.cells #[.int .i64 x.op, .slice x.wa x.wn x.wc, .string x.id, .int .i64 x.what, .string x.name, .int .i64 x.size, .int .i64 x.round, .slice x.ua x.un x.uc] 36)).alloc (.cells #[.int .i64 0, .slice none 0 0, .slice none 0 0, .slice none 0 0] 31)).cell? ⟨w.heap.size, 1, none⟩ = some (.slice oa m.outs.length oc) := by first | (simp; done) | (rw [World.cell?_alloc_at _ _ _ _ (by simp)]; rfl) | (rw [World.cell?_alloc_past _ _ _ (by simp <;> omega), World.cell?_alloc_at _ _ _ _ (by simp)]; rfl) | (rw [World.cell?_alloc_past _ _ _ (by simp <;> omega), World.cell?_alloc_past _ _ _ (by simp <;> omega), World.cell?_alloc_at _ _ _ _ (by simp)]; rfl)
  have pp2 : (((w.alloc (.cells #[.int .i64 m.retries, .slice oa m.outs.length oc, .slice ba m.boxes.length bc, .slice ia m.images.length ic] 31)).alloc (.cells #[.int .i64 x.op, .slice x.wa x.wn x.wc, .string x.id, .int .i64 x.what, .string x.name, .int .i64 x.size, .int .i64 x.round, .slice x.ua x.un x.uc] 36)).alloc (.cells #[.int .i64 0, .slice none 0 0, .slice none 0 0, .slice none 0 0] 31)).cell? ⟨w.heap.size, 2, none⟩ = some (.slice ba m.boxes.length bc) := by first | (simp; done) | (rw [World.cell?_alloc_at _ _ _ _ (by simp)]; rfl) | (rw [World.cell?_alloc_past _ _ _ (by simp <;> omega), World.cell?_alloc_at _ _ _ _ (by simp)]; rfl) | (rw [World.cell?_alloc_past _ _ _ (by simp <;> omega), World.cell?_alloc_past _ _ _ (by simp <;> omega), World.cell?_alloc_at _ _ _ _ (by simp)]; rfl)
  have pp3 : (((w.alloc (.cells #[.int .i64 m.retries, .slice oa m.outs.length oc, .slice ba m.boxes.length bc, .slice ia m.images.length ic] 31)).alloc (.cells #[.int .i64 x.op, .slice x.wa x.wn x.wc, .string x.id, .int .i64 x.what, .string x.name, .int .i64 x.size, .int .i64 x.round, .slice x.ua x.un x.uc] 36)).alloc (.cells #[.int .i64 0, .slice none 0 0, .slice none 0 0, .slice none 0 0] 31)).cell? ⟨w.heap.size, 3, none⟩ = some (.slice ia m.images.length ic) := by first | (simp; done) | (rw [World.cell?_alloc_at _ _ _ _ (by simp)]; rfl) | (rw [World.cell?_alloc_past _ _ _ (by simp <;> omega), World.cell?_alloc_at _ _ _ _ (by simp)]; rfl) | (rw [World.cell?_alloc_past _ _ _ (by simp <;> omega), World.cell?_alloc_past _ _ _ (by simp <;> omega), World.cell?_alloc_at _ _ _ _ (by simp)]; rfl)
  have aa0 : (((w.alloc (.cells #[.int .i64 m.retries, .slice oa m.outs.length oc, .slice ba m.boxes.length bc, .slice ia m.images.length ic] 31)).alloc (.cells #[.int .i64 x.op, .slice x.wa x.wn x.wc, .string x.id, .int .i64 x.what, .string x.name, .int .i64 x.size, .int .i64 x.round, .slice x.ua x.un x.uc] 36)).alloc (.cells #[.int .i64 0, .slice none 0 0, .slice none 0 0, .slice none 0 0] 31)).cell? ⟨w.heap.size + 1, 0, none⟩ = some (.int .i64 x.op) := by first | (simp; done) | (rw [World.cell?_alloc_at _ _ _ _ (by simp)]; rfl) | (rw [World.cell?_alloc_past _ _ _ (by simp <;> omega), World.cell?_alloc_at _ _ _ _ (by simp)]; rfl) | (rw [World.cell?_alloc_past _ _ _ (by simp <;> omega), World.cell?_alloc_past _ _ _ (by simp <;> omega), World.cell?_alloc_at _ _ _ _ (by simp)]; rfl)
  have aa1 : (((w.alloc (.cells #[.int .i64 m.retries, .slice oa m.outs.length oc, .slice ba m.boxes.length bc, .slice ia m.images.length ic] 31)).alloc (.cells #[.int .i64 x.op, .slice x.wa x.wn x.wc, .string x.id, .int .i64 x.what, .string x.name, .int .i64 x.size, .int .i64 x.round, .slice x.ua x.un x.uc] 36)).alloc (.cells #[.int .i64 0, .slice none 0 0, .slice none 0 0, .slice none 0 0] 31)).cell? ⟨w.heap.size + 1, 1, none⟩ = some (.slice x.wa x.wn x.wc) := by first | (simp; done) | (rw [World.cell?_alloc_at _ _ _ _ (by simp)]; rfl) | (rw [World.cell?_alloc_past _ _ _ (by simp <;> omega), World.cell?_alloc_at _ _ _ _ (by simp)]; rfl) | (rw [World.cell?_alloc_past _ _ _ (by simp <;> omega), World.cell?_alloc_past _ _ _ (by simp <;> omega), World.cell?_alloc_at _ _ _ _ (by simp)]; rfl)
  have aa2 : (((w.alloc (.cells #[.int .i64 m.retries, .slice oa m.outs.length oc, .slice ba m.boxes.length bc, .slice ia m.images.length ic] 31)).alloc (.cells #[.int .i64 x.op, .slice x.wa x.wn x.wc, .string x.id, .int .i64 x.what, .string x.name, .int .i64 x.size, .int .i64 x.round, .slice x.ua x.un x.uc] 36)).alloc (.cells #[.int .i64 0, .slice none 0 0, .slice none 0 0, .slice none 0 0] 31)).cell? ⟨w.heap.size + 1, 2, none⟩ = some (.string x.id) := by first | (simp; done) | (rw [World.cell?_alloc_at _ _ _ _ (by simp)]; rfl) | (rw [World.cell?_alloc_past _ _ _ (by simp <;> omega), World.cell?_alloc_at _ _ _ _ (by simp)]; rfl) | (rw [World.cell?_alloc_past _ _ _ (by simp <;> omega), World.cell?_alloc_past _ _ _ (by simp <;> omega), World.cell?_alloc_at _ _ _ _ (by simp)]; rfl)
  have aa3 : (((w.alloc (.cells #[.int .i64 m.retries, .slice oa m.outs.length oc, .slice ba m.boxes.length bc, .slice ia m.images.length ic] 31)).alloc (.cells #[.int .i64 x.op, .slice x.wa x.wn x.wc, .string x.id, .int .i64 x.what, .string x.name, .int .i64 x.size, .int .i64 x.round, .slice x.ua x.un x.uc] 36)).alloc (.cells #[.int .i64 0, .slice none 0 0, .slice none 0 0, .slice none 0 0] 31)).cell? ⟨w.heap.size + 1, 3, none⟩ = some (.int .i64 x.what) := by first | (simp; done) | (rw [World.cell?_alloc_at _ _ _ _ (by simp)]; rfl) | (rw [World.cell?_alloc_past _ _ _ (by simp <;> omega), World.cell?_alloc_at _ _ _ _ (by simp)]; rfl) | (rw [World.cell?_alloc_past _ _ _ (by simp <;> omega), World.cell?_alloc_past _ _ _ (by simp <;> omega), World.cell?_alloc_at _ _ _ _ (by simp)]; rfl)
  have aa4 : (((w.alloc (.cells #[.int .i64 m.retries, .slice oa m.outs.length oc, .slice ba m.boxes.length bc, .slice ia m.images.length ic] 31)).alloc (.cells #[.int .i64 x.op, .slice x.wa x.wn x.wc, .string x.id, .int .i64 x.what, .string x.name, .int .i64 x.size, .int .i64 x.round, .slice x.ua x.un x.uc] 36)).alloc (.cells #[.int .i64 0, .slice none 0 0, .slice none 0 0, .slice none 0 0] 31)).cell? ⟨w.heap.size + 1, 4, none⟩ = some (.string x.name) := by first | (simp; done) | (rw [World.cell?_alloc_at _ _ _ _ (by simp)]; rfl) | (rw [World.cell?_alloc_past _ _ _ (by simp <;> omega), World.cell?_alloc_at _ _ _ _ (by simp)]; rfl) | (rw [World.cell?_alloc_past _ _ _ (by simp <;> omega), World.cell?_alloc_past _ _ _ (by simp <;> omega), World.cell?_alloc_at _ _ _ _ (by simp)]; rfl)
  have aa5 : (((w.alloc (.cells #[.int .i64 m.retries, .slice oa m.outs.length oc, .slice ba m.boxes.length bc, .slice ia m.images.length ic] 31)).alloc (.cells #[.int .i64 x.op, .slice x.wa x.wn x.wc, .string x.id, .int .i64 x.what, .string x.name, .int .i64 x.size, .int .i64 x.round, .slice x.ua x.un x.uc] 36)).alloc (.cells #[.int .i64 0, .slice none 0 0, .slice none 0 0, .slice none 0 0] 31)).cell? ⟨w.heap.size + 1, 5, none⟩ = some (.int .i64 x.size) := by first | (simp; done) | (rw [World.cell?_alloc_at _ _ _ _ (by simp)]; rfl) | (rw [World.cell?_alloc_past _ _ _ (by simp <;> omega), World.cell?_alloc_at _ _ _ _ (by simp)]; rfl) | (rw [World.cell?_alloc_past _ _ _ (by simp <;> omega), World.cell?_alloc_past _ _ _ (by simp <;> omega), World.cell?_alloc_at _ _ _ _ (by simp)]; rfl)
  have aa6 : (((w.alloc (.cells #[.int .i64 m.retries, .slice oa m.outs.length oc, .slice ba m.boxes.length bc, .slice ia m.images.length ic] 31)).alloc (.cells #[.int .i64 x.op, .slice x.wa x.wn x.wc, .string x.id, .int .i64 x.what, .string x.name, .int .i64 x.size, .int .i64 x.round, .slice x.ua x.un x.uc] 36)).alloc (.cells #[.int .i64 0, .slice none 0 0, .slice none 0 0, .slice none 0 0] 31)).cell? ⟨w.heap.size + 1, 6, none⟩ = some (.int .i64 x.round) := by first | (simp; done) | (rw [World.cell?_alloc_at _ _ _ _ (by simp)]; rfl) | (rw [World.cell?_alloc_past _ _ _ (by simp <;> omega), World.cell?_alloc_at _ _ _ _ (by simp)]; rfl) | (rw [World.cell?_alloc_past _ _ _ (by simp <;> omega), World.cell?_alloc_past _ _ _ (by simp <;> omega), World.cell?_alloc_at _ _ _ _ (by simp)]; rfl)
  have aa7 : (((w.alloc (.cells #[.int .i64 m.retries, .slice oa m.outs.length oc, .slice ba m.boxes.length bc, .slice ia m.images.length ic] 31)).alloc (.cells #[.int .i64 x.op, .slice x.wa x.wn x.wc, .string x.id, .int .i64 x.what, .string x.name, .int .i64 x.size, .int .i64 x.round, .slice x.ua x.un x.uc] 36)).alloc (.cells #[.int .i64 0, .slice none 0 0, .slice none 0 0, .slice none 0 0] 31)).cell? ⟨w.heap.size + 1, 7, none⟩ = some (.slice x.ua x.un x.uc) := by first | (simp; done) | (rw [World.cell?_alloc_at _ _ _ _ (by simp)]; rfl) | (rw [World.cell?_alloc_past _ _ _ (by simp <;> omega), World.cell?_alloc_at _ _ _ _ (by simp)]; rfl) | (rw [World.cell?_alloc_past _ _ _ (by simp <;> omega), World.cell?_alloc_past _ _ _ (by simp <;> omega), World.cell?_alloc_at _ _ _ _ (by simp)]; rfl)
  have zz0 : (((w.alloc (.cells #[.int .i64 m.retries, .slice oa m.outs.length oc, .slice ba m.boxes.length bc, .slice ia m.images.length ic] 31)).alloc (.cells #[.int .i64 x.op, .slice x.wa x.wn x.wc, .string x.id, .int .i64 x.what, .string x.name, .int .i64 x.size, .int .i64 x.round, .slice x.ua x.un x.uc] 36)).alloc (.cells #[.int .i64 0, .slice none 0 0, .slice none 0 0, .slice none 0 0] 31)).cell? ⟨w.heap.size + 2, 0, none⟩ = some (.int .i64 0) := by first | (simp; done) | (rw [World.cell?_alloc_at _ _ _ _ (by simp)]; rfl) | (rw [World.cell?_alloc_past _ _ _ (by simp <;> omega), World.cell?_alloc_at _ _ _ _ (by simp)]; rfl) | (rw [World.cell?_alloc_past _ _ _ (by simp <;> omega), World.cell?_alloc_past _ _ _ (by simp <;> omega), World.cell?_alloc_at _ _ _ _ (by simp)]; rfl)
  have zz1 : (((w.alloc (.cells #[.int .i64 m.retries, .slice oa m.outs.length oc, .slice ba m.boxes.length bc, .slice ia m.images.length ic] 31)).alloc (.cells #[.int .i64 x.op, .slice x.wa x.wn x.wc, .string x.id, .int .i64 x.what, .string x.name, .int .i64 x.size, .int .i64 x.round, .slice x.ua x.un x.uc] 36)).alloc (.cells #[.int .i64 0, .slice none 0 0, .slice none 0 0, .slice none 0 0] 31)).cell? ⟨w.heap.size + 2, 1, none⟩ = some (.slice none 0 0) := by first | (simp; done) | (rw [World.cell?_alloc_at _ _ _ _ (by simp)]; rfl) | (rw [World.cell?_alloc_past _ _ _ (by simp <;> omega), World.cell?_alloc_at _ _ _ _ (by simp)]; rfl) | (rw [World.cell?_alloc_past _ _ _ (by simp <;> omega), World.cell?_alloc_past _ _ _ (by simp <;> omega), World.cell?_alloc_at _ _ _ _ (by simp)]; rfl)
  have zz2 : (((w.alloc (.cells #[.int .i64 m.retries, .slice oa m.outs.length oc, .slice ba m.boxes.length bc, .slice ia m.images.length ic] 31)).alloc (.cells #[.int .i64 x.op, .slice x.wa x.wn x.wc, .string x.id, .int .i64 x.what, .string x.name, .int .i64 x.size, .int .i64 x.round, .slice x.ua x.un x.uc] 36)).alloc (.cells #[.int .i64 0, .slice none 0 0, .slice none 0 0, .slice none 0 0] 31)).cell? ⟨w.heap.size + 2, 2, none⟩ = some (.slice none 0 0) := by first | (simp; done) | (rw [World.cell?_alloc_at _ _ _ _ (by simp)]; rfl) | (rw [World.cell?_alloc_past _ _ _ (by simp <;> omega), World.cell?_alloc_at _ _ _ _ (by simp)]; rfl) | (rw [World.cell?_alloc_past _ _ _ (by simp <;> omega), World.cell?_alloc_past _ _ _ (by simp <;> omega), World.cell?_alloc_at _ _ _ _ (by simp)]; rfl)
  have zz3 : (((w.alloc (.cells #[.int .i64 m.retries, .slice oa m.outs.length oc, .slice ba m.boxes.length bc, .slice ia m.images.length ic] 31)).alloc (.cells #[.int .i64 x.op, .slice x.wa x.wn x.wc, .string x.id, .int .i64 x.what, .string x.name, .int .i64 x.size, .int .i64 x.round, .slice x.ua x.un x.uc] 36)).alloc (.cells #[.int .i64 0, .slice none 0 0, .slice none 0 0, .slice none 0 0] 31)).cell? ⟨w.heap.size + 2, 3, none⟩ = some (.slice none 0 0) := by first | (simp; done) | (rw [World.cell?_alloc_at _ _ _ _ (by simp)]; rfl) | (rw [World.cell?_alloc_past _ _ _ (by simp <;> omega), World.cell?_alloc_at _ _ _ _ (by simp)]; rfl) | (rw [World.cell?_alloc_past _ _ _ (by simp <;> omega), World.cell?_alloc_past _ _ _ (by simp <;> omega), World.cell?_alloc_at _ _ _ _ (by simp)]; rfl)
  have hb2 := (by repeat (first | exact hbel | refine belAlloc ?_ _ | refine belDrew ?_ | refine belSet ?_ _ _ (by simp)) : Below w.heap.size w (((w.alloc (.cells #[.int .i64 m.retries, .slice oa m.outs.length oc, .slice ba m.boxes.length bc, .slice ia m.images.length ic] 31)).alloc (.cells #[.int .i64 x.op, .slice x.wa x.wn x.wc, .string x.id, .int .i64 x.what, .string x.name, .int .i64 x.size, .int .i64 x.round, .slice x.ua x.un x.uc] 36)).alloc (.cells #[.int .i64 0, .slice none 0 0, .slice none 0 0, .slice none 0 0] 31)))
  replace hw := belStep hw hb2
  have ppB : Blk (((w.alloc (.cells #[.int .i64 m.retries, .slice oa m.outs.length oc, .slice ba m.boxes.length bc, .slice ia m.images.length ic] 31)).alloc (.cells #[.int .i64 x.op, .slice x.wa x.wn x.wc, .string x.id, .int .i64 x.what, .string x.name, .int .i64 x.size, .int .i64 x.round, .slice x.ua x.un x.uc] 36)).alloc (.cells #[.int .i64 0, .slice none 0 0, .slice none 0 0, .slice none 0 0] 31)) (w.heap.size) [.int .i64 m.retries, .slice oa m.outs.length oc, .slice ba m.boxes.length bc, .slice ia m.images.length ic] 31 := (Blk.at (by simp) : Blk (w.alloc (.cells #[.int .i64 m.retries, .slice oa m.outs.length oc, .slice ba m.boxes.length bc, .slice ia m.images.length ic] 31)) (w.heap.size) [.int .i64 m.retries, .slice oa m.outs.length oc, .slice ba m.boxes.length bc, .slice ia m.images.length ic] 31).later (by repeat (first | exact Below.refl _ _ | refine belAlloc ?_ _))
  have ppF := Blk.keepF ppB
  replace ppB := Blk.keepB ppB
  have aaB : Blk (((w.alloc (.cells #[.int .i64 m.retries, .slice oa m.outs.length oc, .slice ba m.boxes.length bc, .slice ia m.images.length ic] 31)).alloc (.cells #[.int .i64 x.op, .slice x.wa x.wn x.wc, .string x.id, .int .i64 x.what, .string x.name, .int .i64 x.size, .int .i64 x.round, .slice x.ua x.un x.uc] 36)).alloc (.cells #[.int .i64 0, .slice none 0 0, .slice none 0 0, .slice none 0 0] 31)) (w.heap.size + 1) [.int .i64 x.op, .slice x.wa x.wn x.wc, .string x.id, .int .i64 x.what, .string x.name, .int .i64 x.size, .int .i64 x.round, .slice x.ua x.un x.uc] 36 := (Blk.at (by simp) : Blk ((w.alloc (.cells #[.int .i64 m.retries, .slice oa m.outs.length oc, .slice ba m.boxes.length bc, .slice ia m.images.length ic] 31)).alloc (.cells #[.int .i64 x.op, .slice x.wa x.wn x.wc, .string x.id, .int .i64 x.what, .string x.name, .int .i64 x.size, .int .i64 x.round, .slice x.ua x.un x.uc] 36)) (w.heap.size + 1) [.int .i64 x.op, .slice x.wa x.wn x.wc, .string x.id, .int .i64 x.what, .string x.name, .int .i64 x.size, .int .i64 x.round, .slice x.ua x.un x.uc] 36).later (by repeat (first | exact Below.refl _ _ | refine belAlloc ?_ _))
  have aaF := Blk.keepF aaB
  replace aaB := Blk.keepB aaB
  have zzB : Blk (((w.alloc (.cells #[.int .i64 m.retries, .slice oa m.outs.length oc, .slice ba m.boxes.length bc, .slice ia m.images.length ic] 31)).alloc (.cells #[.int .i64 x.op, .slice x.wa x.wn x.wc, .string x.id, .int .i64 x.what, .string x.name, .int .i64 x.size, .int .i64 x.round, .slice x.ua x.un x.uc] 36)).alloc (.cells #[.int .i64 0, .slice none 0 0, .slice none 0 0, .slice none 0 0] 31)) (w.heap.size + 2) [.int .i64 0, .slice none 0 0, .slice none 0 0, .slice none 0 0] 31 := (Blk.at (by simp) : Blk (((w.alloc (.cells #[.int .i64 m.retries, .slice oa m.outs.length oc, .slice ba m.boxes.length bc, .slice ia m.images.length ic] 31)).alloc (.cells #[.int .i64 x.op, .slice x.wa x.wn x.wc, .string x.id, .int .i64 x.what, .string x.name, .int .i64 x.size, .int .i64 x.round, .slice x.ua x.un x.uc] 36)).alloc (.cells #[.int .i64 0, .slice none 0 0, .slice none 0 0, .slice none 0 0] 31)) (w.heap.size + 2) [.int .i64 0, .slice none 0 0, .slice none 0 0, .slice none 0 0] 31).later (by repeat (first | exact Below.refl _ _ | refine belAlloc ?_ _))
  have zzF := Blk.keepF zzB
  replace zzB := Blk.keepB zzB
  clear hb2 hbel
  generalize ((w.alloc (.cells #[.int .i64 m.retries, .slice oa m.outs.length oc, .slice ba m.boxes.length bc, .slice ia m.images.length ic] 31)).alloc (.cells #[.int .i64 x.op, .slice x.wa x.wn x.wc, .string x.id, .int .i64 x.what, .string x.name, .int .i64 x.size, .int .i64 x.round, .slice x.ua x.un x.uc] 36)).alloc (.cells #[.int .i64 0, .slice none 0 0, .slice none 0 0, .slice none 0 0] 31) = W1 at *
  replace pp0 := keep pp0
  replace pp1 := keep pp1
  replace pp2 := keep pp2
  replace pp3 := keep pp3
  replace aa0 := keep aa0
  replace aa1 := keep aa1
  replace aa2 := keep aa2
  replace aa3 := keep aa3
  replace aa4 := keep aa4
  replace aa5 := keep aa5
  replace aa6 := keep aa6
  replace aa7 := keep aa7
  replace zz0 := keep zz0
  replace zz1 := keep zz1
  replace zz2 := keep zz2
  replace zz3 := keep zz3
  have hbel : Below W1.heap.size W1 W1 := Below.refl _ _
  skip
  have HP := Lib.hid (ppB W1 (Below.refl _ _))
  have HA := Lib.hid (aaB W1 (Below.refl _ _))
  have HZ := Lib.hid (zzB W1 (Below.refl _ _))
  have HB := Lib.hid hw
  clear hw ppB aaB zzB
  obtain ⟨c, hc⟩ : ∃ c, feedE m x.V = c := ⟨_, rfl⟩
  obtain ⟨K, hK⟩ : ∃ k, m.fed x.V = k := ⟨_, rfl⟩
  have CR := Lib.hid (fun G v u (h : RIs G u v m) (hG : ∀ b ∈ G, b < u.heap.size) (hu : Below w.heap.size w u) => r16_Feed x.wa x.wn x.wc x.V G v m u h hG HVL.out (HRW.out.later hu) HG.out.outs (by omega))
  have CW := Lib.hid (fun u (h : WAt u M M F m) (hu : Below w.heap.size w u) => wd_Feed M M F m x.wa x.wn x.wc x.V u h HVL.out (HRW.out.later hu) HG.out.outs (by omega))
  rw [hc, hK] at CR CW
  rw [hK] at HE
  clear hc hK
  have hz2 : w.heap.size ≤ w.heap.size + 1 + 1 := by omega
  have hw0 : w0.heap.size ≤ w.heap.size + 1 + 1 := by have := HB0.out.size; omega
  have hlt := HZ.out.lt
  have HV1 := Lib.hid (show RIs (((w.heap.size + 1 + 1) :: X) ++ F) W1 _ m from ((HV.out.more (G := ((w.heap.size + 1 + 1) :: X) ++ F) (fun b hb => by rcases List.mem_append.1 hb with q | q; rcases List.mem_cons.1 q with q | q; subst q; exact .inr (by omega); exact .inl (List.mem_append_left F q); exact .inl (List.mem_append_right X q))).later HB.out))
  have HF1 := Lib.hid (show ∀ b ∈ ((w.heap.size + 1 + 1) :: X) ++ F, b < W1.heap.size from fun b hb => by rcases List.mem_append.1 hb with q | q; rcases List.mem_cons.1 q with q | q; subst q; exact hlt; exact Nat.lt_of_lt_of_le (HXS.out b q) HB.out.size; exact Nat.lt_of_lt_of_le (HFL.out b q) HB.out.size)
  go_upto_region 3 with (go_at_call 58; (with_reducible refine (CR.out _ _ _ HV1.out HF1.out HB.out).mono ?_); rintro e w4 ⟨v4, rfl, hR4, hb4⟩; have HV4 := Lib.hid hR4; obtain ⟨oa1, oc1, ba1, bc1, ia1, ic1, rfl, hO1, hL1, hI1, hN1⟩ := hR4; have hbo1 := hO1.2; have hbb1 := hL1.2; have hbi1 := hI1.2; have HRI1 := Lib.hid hI1; clear hO1 hL1 hI1 hN1; have HB4 := Lib.hid hb4; clear hb4)
  have k4 : Below w4.heap.size w4 (w4.alloc (.cells #[.int .i64 K.retries, .slice oa1 K.outs.length oc1, .slice ba1 K.boxes.length bc1, .slice ia1 K.images.length ic1] 31)) := belAlloc (Below.refl _ _) _
  have HX8 := Lib.hid (Blk.new w4 [.int .i64 K.retries, .slice oa1 K.outs.length oc1, .slice ba1 K.boxes.length bc1, .slice ia1 K.images.length ic1] 31)
  have HV8 := Lib.hid (HV4.out.later k4)
  have HB8 := Lib.hid (belStep HB4.out k4)
  have hxw : w.heap.size ≤ w4.heap.size := Nat.le_trans HB.out.size HB4.out.size
  have hbel8 : Below w.heap.size w (w4.alloc (.cells #[.int .i64 K.retries, .slice oa1 K.outs.length oc1, .slice ba1 K.boxes.length bc1, .slice ia1 K.images.length ic1] 31)) := belStep HB.out (belStep HB4.out k4)
  clear hbel pp0 pp1 pp2 pp3 aa0 aa1 aa2 aa3 aa4 aa5 aa6 aa7 zz0 zz1 zz2 zz3 ppF aaF zzF k4
  generalize w4.alloc (.cells #[.int .i64 K.retries, .slice oa1 K.outs.length oc1, .slice ba1 K.boxes.length bc1, .slice ia1 K.images.length ic1] 31) = W8 at *
  generalize w4.heap.size = xb at *
  have HA8 := Lib.hid (HA.out.later HB8.out)
  have HZ8 := Lib.hid (HZ.out.later HB8.out)
  have HW8 := Lib.hid (HW.out.later hbel8)
  have HB9 := Lib.hid (belStep HB0.out hbel8)
  clear CR HV1 HF1 HV4
  refine wp_region_upc (S := fun u => Blk u xb [.int .i64 K.retries, .slice oa1 K.outs.length oc1, .slice ba1 K.boxes.length bc1, .slice ia1 K.images.length ic1] 31 ∧ Blk u (w.heap.size + 1) [.int .i64 x.op, .slice x.wa x.wn x.wc, .string x.id, .int .i64 x.what, .string x.name, .int .i64 x.size, .int .i64 x.round, .slice x.ua x.un x.uc] 36) [9] (by kernel_rfl) (by exact ⟨HX8.out, HA8.out⟩) (fun hHeld => ?_)
  refine UpC.take (i := 0) (oi := ?oi_uc1) (v := ?v_uc1) ?hi_uc1 (by kernel_rfl) ?hf_uc1 ?hr_uc1 (by kernel_rfl) ?hQ_uc1 (Or.inl ⟨?hw_uc1, ?hy_uc1⟩) (by assumption) ?rest_uc1
  case hi_uc1 => ((simp only [List.getElem?_toArray, List.getElem?_cons_succ, List.getElem?_cons_zero]); rfl)
  case hf_uc1 => kernel_rfl
  case hr_uc1 => kernel_rfl
  case hQ_uc1 => exact fun _ _ _ h => h
  case hw_uc1 => rfl
  case hy_uc1 => ((intro w hSw; (try dsimp only at hSw); (have x0 := hSw.1.cell (j := 0) rfl; have x1 := hSw.1.cell (j := 1) rfl; have x2 := hSw.1.cell (j := 2) rfl; have x3 := hSw.1.cell (j := 3) rfl; have a1 := hSw.2.cell (j := 1) rfl); go_simp); all_goals (with_reducible rfl))
  try simp only [Act.put, List.setIfInBounds_toArray, List.set_cons_zero, List.set_cons_succ]
  refine UpC.take (i := 1) (oi := ?oi_uc2) (v := ?v_uc2) ?hi_uc2 (by kernel_rfl) ?hf_uc2 ?hr_uc2 (by kernel_rfl) ?hQ_uc2 (Or.inl ⟨?hw_uc2, ?hy_uc2⟩) (by assumption) ?rest_uc2
  case hi_uc2 => ((simp only [List.getElem?_toArray, List.getElem?_cons_succ, List.getElem?_cons_zero]); rfl)
  case hf_uc2 => kernel_rfl
  case hr_uc2 => kernel_rfl
  case hQ_uc2 => exact fun _ _ _ h => h
  case hw_uc2 => rfl
  case hy_uc2 => ((intro w hSw; (try dsimp only at hSw); go_simp); all_goals (with_reducible rfl))
  try simp only [Act.put, List.setIfInBounds_toArray, List.set_cons_zero, List.set_cons_succ]
  refine UpC.take (i := 2) (oi := ?oi_uc3) (v := ?v_uc3) ?hi_uc3 (by kernel_rfl) ?hf_uc3 ?hr_uc3 (by kernel_rfl) ?hQ_uc3 (Or.inl ⟨?hw_uc3, ?hy_uc3⟩) (by assumption) ?rest_uc3
  case hi_uc3 => ((simp only [List.getElem?_toArray, List.getElem?_cons_succ, List.getElem?_cons_zero]); rfl)
  case hf_uc3 => kernel_rfl
  case hr_uc3 => kernel_rfl
  case hQ_uc3 => exact fun _ _ _ h => h
  case hw_uc3 => rfl
  case hy_uc3 => ((intro w hSw; (try dsimp only at hSw); go_simp); all_goals (with_reducible rfl))
  try simp only [Act.put, List.setIfInBounds_toArray, List.set_cons_zero, List.set_cons_succ]
  refine UpC.take (i := 3) (oi := ?oi_uc4) (v := ?v_uc4) ?hi_uc4 (by kernel_rfl) ?hf_uc4 ?hr_uc4 (by kernel_rfl) ?hQ_uc4 (Or.inl ⟨?hw_uc4, ?hy_uc4⟩) (by assumption) ?rest_uc4
  case hi_uc4 => ((simp only [List.getElem?_toArray, List.getElem?_cons_succ, List.getElem?_cons_zero]); rfl)
  case hf_uc4 => kernel_rfl
  case hr_uc4 => kernel_rfl
  case hQ_uc4 => exact fun _ _ _ h => h
  case hw_uc4 => rfl
  case hy_uc4 => ((intro w hSw; (try dsimp only at hSw); go_simp); all_goals (with_reducible rfl))
  try simp only [Act.put, List.setIfInBounds_toArray, List.set_cons_zero, List.set_cons_succ]
  refine UpC.take (i := 4) (oi := ?oi_uc5) (v := ?v_uc5) ?hi_uc5 (by kernel_rfl) ?hf_uc5 ?hr_uc5 (by kernel_rfl) ?hQ_uc5 (Or.inl ⟨?hw_uc5, ?hy_uc5⟩) (by assumption) ?rest_uc5
  case hi_uc5 => ((simp only [List.getElem?_toArray, List.getElem?_cons_succ, List.getElem?_cons_zero]); rfl)
  case hf_uc5 => kernel_rfl
  case hr_uc5 => kernel_rfl
  case hQ_uc5 => exact fun _ _ _ h => h
  case hw_uc5 => rfl
  case hy_uc5 => ((intro w hSw; (try dsimp only at hSw); go_simp); all_goals (with_reducible rfl))
  try simp only [Act.put, List.setIfInBounds_toArray, List.set_cons_zero, List.set_cons_succ]
  refine UpC.take (i := 5) (oi := ?oi_uc6) (v := ?v_uc6) ?hi_uc6 (by kernel_rfl) ?hf_uc6 ?hr_uc6 (by kernel_rfl) ?hQ_uc6 (Or.inl ⟨?hw_uc6, ?hy_uc6⟩) (by assumption) ?rest_uc6
  case hi_uc6 => ((simp only [List.getElem?_toArray, List.getElem?_cons_succ, List.getElem?_cons_zero]); rfl)
  case hf_uc6 => kernel_rfl
  case hr_uc6 => kernel_rfl
  case hQ_uc6 => exact fun _ _ _ h => h
  case hw_uc6 => rfl
  case hy_uc6 => ((intro w hSw; (try dsimp only at hSw); (have x0 := hSw.1.cell (j := 0) rfl; have x1 := hSw.1.cell (j := 1) rfl; have x2 := hSw.1.cell (j := 2) rfl; have x3 := hSw.1.cell (j := 3) rfl; have a1 := hSw.2.cell (j := 1) rfl); go_simp); all_goals (with_reducible rfl))
  try simp only [Act.put, List.setIfInBounds_toArray, List.set_cons_zero, List.set_cons_succ]
  refine UpC.pure (i := 7) (oi := ?oi_uc7) (v := ?v_uc7) ?hi_uc7 (by kernel_rfl) ?hf_uc7 ?hr_uc7 ?hQ_uc7 (Or.inl ⟨?hw_uc7, ?hy_uc7⟩) ?rest_uc7
  case hi_uc7 => ((simp only [List.getElem?_toArray, List.getElem?_cons_succ, List.getElem?_cons_zero]); rfl)
  case hf_uc7 => kernel_rfl
  case hr_uc7 => kernel_rfl
  case hQ_uc7 => exact fun _ _ _ h => h
  case hw_uc7 => rfl
  case hy_uc7 => ((intro w hSw; (try dsimp only at hSw); go_simp); all_goals (with_reducible rfl))
  try simp only [Act.put, List.setIfInBounds_toArray, List.set_cons_zero, List.set_cons_succ]
  refine UpC.one (i := 6) (o := ?o_uc8) (by kernel_rfl) ?hi_uc8 (fun K hK => ?rest_uc8)
  case hi_uc8 => ((simp only [List.getElem?_toArray, List.getElem?_cons_succ, List.getElem?_cons_zero]); rfl)
  go_simp
  (go_at_call 25; (with_reducible refine (CW.out _ (HW8.out.later (belDrew (Below.refl _ _))) (belDrew hbel8)).mono ?_); rintro e wq ⟨rfl, hT⟩; have hj := jw_runX (HW8.out.later (belDrew (Below.refl _ _))) (HV8.out.later (belDrew (Below.refl _ _))) (belDrew HB9.out) HMM.out hT; obtain ⟨G, g1, g2, g3, g4, g5, g6⟩ := hj; have HG1 := Lib.hid g1; have HG2 := Lib.hid g2; have HG3 := Lib.hid g3; have HG6 := Lib.hid g6; have HG5 := Lib.hid ((Apart.of_below (F := F) (belDrew hbel8)).trans g5); have HG7 := Lib.hid (show ∀ b ∈ G, b ∈ F ∨ w.heap.size ≤ b from fun b hb => (g6 b hb).imp id (fun r => Nat.le_trans ((belDrew hbel8)).size r)); have HXq := Lib.hid ((HX8.out.later (belDrew (Below.refl _ _))).apart g5 (fun q => absurd (HFL.out _ q) (by omega))); have HAq := Lib.hid ((HA8.out.later (belDrew (Below.refl _ _))).apart g5 (fun q => absurd (HFL.out _ q) (by omega))); have HZq := Lib.hid ((HZ8.out.later (belDrew (Below.refl _ _))).apart g5 (fun q => absurd (HFL.out _ q) (by omega))); clear hT g1 g2 g3 g4 g5 g6)
  try go_simp
  refine hK.out _ _ (fun _ _ => by exact ⟨HXq.out, HAq.out⟩) (fun hHeld0 => ?_)
  replace hHeld := hHeld0 (by decide) hHeld
  clear hK K hHeld0
  try simp only [Act.put, List.setIfInBounds_toArray, List.set_cons_zero, List.set_cons_succ]
  refine UpC.pure (i := 8) (oi := ?oi_uc9) (v := ?v_uc9) ?hi_uc9 (by kernel_rfl) ?hf_uc9 ?hr_uc9 ?hQ_uc9 (Or.inl ⟨?hw_uc9, ?hy_uc9⟩) ?rest_uc9
  case hi_uc9 => ((simp only [List.getElem?_toArray, List.getElem?_cons_succ, List.getElem?_cons_zero]); rfl)
  case hf_uc9 => kernel_rfl
  case hr_uc9 => kernel_rfl
  case hQ_uc9 => exact fun _ _ _ h => h
  case hw_uc9 => rfl
  case hy_uc9 => ((intro w hSw; (try dsimp only at hSw); go_simp); all_goals (with_reducible rfl))
  try simp only [Act.put, List.setIfInBounds_toArray, List.set_cons_zero, List.set_cons_succ]
  generalize wq = WQ at *
  have z0 := HZq.out.cell (j := 0) rfl
  have z1 := HZq.out.cell (j := 1) rfl
  have z2 := HZq.out.cell (j := 2) rfl
  have z3 := HZq.out.cell (j := 3) rfl
  have zf := HZq.out.frozen
  refine UpC.one (i := 9) (o := ?o_uc10) (by kernel_rfl) ?hi_uc10 (fun K hK => ?rest_uc10)
  case hi_uc10 => ((simp only [List.getElem?_toArray, List.getElem?_cons_succ, List.getElem?_cons_zero]); rfl)
  go_simp
  refine hK.out _ _ (fun q => absurd q (by decide)) (fun _ => ?_)
  clear hK K
  try simp only [Act.put, List.setIfInBounds_toArray, List.set_cons_zero, List.set_cons_succ]
  refine UpC.one (i := 10) (o := ?o_uc11) (by kernel_rfl) ?hi_uc11 (fun K hK => ?rest_uc11)
  case hi_uc11 => ((simp only [List.getElem?_toArray, List.getElem?_cons_succ, List.getElem?_cons_zero]); rfl)
  go_simp
  refine hK.out _ _ (fun _ h => h) (fun _ => ?_)
  clear hK K
  try simp only [Act.put, List.setIfInBounds_toArray, List.set_cons_zero, List.set_cons_succ]
  refine UpC.done (by kernel_rfl) ?_ _
  go_wp2
  have hfa := Lib.hid (((((Apart.refl (((w.heap.size + 1 + 1) :: X) ++ G) WQ).set ⟨w.heap.size + 1 + 1, 0, none⟩ (.int .i64 K.retries) (by simp)).set ⟨w.heap.size + 1 + 1, 1, none⟩ (.slice oa1 K.outs.length oc1) (by simp)).set ⟨w.heap.size + 1 + 1, 2, none⟩ (.slice ba1 K.boxes.length bc1) (by simp)).set ⟨w.heap.size + 1 + 1, 3, none⟩ (.slice ia1 K.images.length ic1) (by simp))
  have hnz : w.heap.size + 1 + 1 ∉ G := fun q => (HG6.out _ q).elim (fun r => absurd (HFL.out _ r) (by omega)) (fun r => by have h7 := (HZ8.out.later (belDrew (Below.refl _ _))).lt; omega)
  refine does_ret _ (w.heap.size + 1 + 1) _ _ oa1 _ oc1 ba1 _ bc1 ia1 _ ic1 true _ rfl rfl ((((HZq.out.set 0 (.int .i64 K.retries)).set 1 (.slice oa1 K.outs.length oc1)).set 2 (.slice ba1 K.boxes.length bc1)).set 3 (.slice ia1 K.images.length ic1)) ⟨_, rfl, ?_⟩
  rw [HE.out]
  have h9 := HG2.out.apart hfa.out
  refine ⟨G, HG1.out.same (fun b hb => ?_), h9.more (fun b hb => .inl (List.mem_cons_of_mem _ hb)), ?_, HMM.out, ?_, HG7.out⟩
  · exact (show Apart [w.heap.size + 1 + 1] WQ _ from (((((Apart.refl [w.heap.size + 1 + 1] WQ).set ⟨w.heap.size + 1 + 1, 0, none⟩ (.int .i64 K.retries) (by simp)).set ⟨w.heap.size + 1 + 1, 1, none⟩ (.slice oa1 K.outs.length oc1) (by simp)).set ⟨w.heap.size + 1 + 1, 2, none⟩ (.slice ba1 K.boxes.length bc1) (by simp)).set ⟨w.heap.size + 1 + 1, 3, none⟩ (.slice ia1 K.images.length ic1) (by simp))).block b (HG1.out.foot_lt b hb).2 (fun q => by simp only [List.mem_singleton] at q; subst q; exact hnz hb)
  · exact (belSet (belSet (belSet (belSet HG3.out ⟨w.heap.size + 1 + 1, 0, none⟩ (.int .i64 K.retries) hw0) ⟨w.heap.size + 1 + 1, 1, none⟩ (.slice oa1 K.outs.length oc1) hw0) ⟨w.heap.size + 1 + 1, 2, none⟩ (.slice ba1 K.boxes.length bc1) hw0) ⟨w.heap.size + 1 + 1, 3, none⟩ (.slice ia1 K.images.length ic1) hw0)
  · exact ((((HG5.out.setNew ⟨w.heap.size + 1 + 1, 0, none⟩ (.int .i64 K.retries) hz2).setNew ⟨w.heap.size + 1 + 1, 1, none⟩ (.slice oa1 K.outs.length oc1) hz2).setNew ⟨w.heap.size + 1 + 1, 2, none⟩ (.slice ba1 K.boxes.length bc1) hz2).setNew ⟨w.heap.size + 1 + 1, 3, none⟩ (.slice ia1 K.images.length ic1) hz2)
end Go.Proofs.Ytcnjcldfbidkmaa
namespace Go.Proofs.Ytcnjcldfbidkmaa
open Go.RowKit Go.Sort
set_option linter.unusedVariables false
set_option linter.unusedSimpArgs false
set_option maxRecDepth 100000 in
set_option maxHeartbeats 32000000 in
theorem does_1 (w0 : World) (M n : Nat) (m : WorldV) (v : Value) (x : ActW) (w : World) (X F : List Nat) (hXs : ∀ b ∈ X, b < w.heap.size) (hW : WAt w M M F m) (hR : RIs (X ++ F) w v m) (hB0 : Below w0.heap.size w0 w) (hM : w0.heap.size ≤ M) (hg : m.Good n) (hn : n ≤ 100000) (hop : x.op = 1) :
    Calls Try.prog 19 #[.pointer (some ⟨M, 0, none⟩), v, .agg #[.int .i64 x.op, .slice x.wa x.wn x.wc, .string x.id, .int .i64 x.what, .string x.name, .int .i64 x.size, .int .i64 x.round, .slice x.ua x.un x.uc]] w fun e w' => ∃ v', e = .returned (.tuple #[v', .bool true]) ∧ JX w0 w w' M X F (stepW m x) v' := by
  have HG := Lib.hid hg
  clear hg
  have HXS := Lib.hid hXs
  clear hXs
  have HW := Lib.hid hW
  have HV := Lib.hid hR
  have HB0 := Lib.hid hB0
  have HMM := Lib.hid hM
  have HFL := Lib.hid (fun b hb => (hW.foot_lt b hb).2)
  obtain ⟨oa, oc, ba, bc, ia, ic, rfl, hO, hL, hI, _⟩ := hR
  have hbo : m.outs.length ≤ oc ∧ oc ≤ 9223372036854775807 := by obtain ⟨_, h1, h2, _⟩ := hO; unfold maxLen at h2; exact ⟨h1, h2⟩
  obtain ⟨hbo1, hbo2⟩ := hbo
  have hbb : m.boxes.length ≤ bc ∧ bc ≤ 9223372036854775807 := by obtain ⟨_, h1, h2, _⟩ := hL; unfold maxLen at h2; exact ⟨h1, h2⟩
  obtain ⟨hbb1, hbb2⟩ := hbb
  have hbi : m.images.length ≤ ic ∧ ic ≤ 9223372036854775807 := by obtain ⟨_, h1, h2, _⟩ := hI; unfold maxLen at h2; exact ⟨h1, h2⟩
  obtain ⟨hbi1, hbi2⟩ := hbi
  clear hW hB0 hM hO hL hI
  have d0 : (x.op == (0 : Int)) = false := by rw [hop]; rfl
  have d1 : (x.op == (1 : Int)) = true := by rw [hop]; rfl
  have hw : Below w.heap.size w w := Below.refl _ _
  have hbel := hw
  have HE := Lib.hid (show stepW m x = { m with boxes := createC m.boxes x.id x.round } by unfold stepW; rw [if_neg (by omega), if_pos hop])
  clear hop
  go_enter Try.func19, Try.ntmps19
  go_upto_region 1 with fail
  have pp0 : (((w.alloc (.cells #[.int .i64 m.retries, .slice oa m.outs.length oc, .slice ba m.boxes.length bc, .slice ia m.images.length ic] 31)).alloc (.cells #[.int .i64 x.op, .slice x.wa x.wn x.wc, .string x.id, .int .i64 x.what, .string x.name, .int .i64 x.size, .int .i64 x.round, .slice x.ua x.un x.uc] 36)).alloc (.cells #[.int .i64 0, .slice none 0 0, .slice none 0 0, .slice none 0 0] 31)).cell? ⟨w.heap.size, 0, none⟩ = some (.int .i64 m.retries) := by first | (simp; done) | (rw [World.cell?_alloc_at _ _ _ _ (by simp)]; rfl) | (rw [World.cell?_alloc_past _ _ _ (by simp <;> omega), World.cell?_alloc_at _ _ _ _ (by simp)]; rfl) | (rw [World.cell?_alloc_past _ _ _ (by simp <;> omega), World.cell?_alloc_past _ _ _ (by simp <;> omega), World.cell?_alloc_at _ _ _ _ (by simp)]; rfl)
  have pp1 : (((w.alloc (.cells #[.int .i64 m.retries, .slice oa m.outs.length oc, .slice ba m.boxes.length bc, .slice ia m.images.length ic] 31)).alloc (.cells #[.int .i64 x.op, .slice x.wa x.wn x.wc, .string x.id, .int .i64 x.what, .string x.name, .int .i64 x.size, .int .i64 x.round, .slice x.ua x.un x.uc] 36)).alloc (.cells #[.int .i64 0, .slice none 0 0, .slice none 0 0, .slice none 0 0] 31)).cell? ⟨w.heap.size, 1, none⟩ = some (.slice oa m.outs.length oc) := by first | (simp; done) | (rw [World.cell?_alloc_at _ _ _ _ (by simp)]; rfl) | (rw [World.cell?_alloc_past _ _ _ (by simp <;> omega), World.cell?_alloc_at _ _ _ _ (by simp)]; rfl) | (rw [World.cell?_alloc_past _ _ _ (by simp <;> omega), World.cell?_alloc_past _ _ _ (by simp <;> omega), World.cell?_alloc_at _ _ _ _ (by simp)]; rfl)
  have pp2 : (((w.alloc (.cells #[.int .i64 m.retries, .slice oa m.outs.length oc, .slice ba m.boxes.length bc, .slice ia m.images.length ic] 31)).alloc (.cells #[.int .i64 x.op, .slice x.wa x.wn x.wc, .string x.id, .int .i64 x.what, .string x.name, .int .i64 x.size, .int .i64 x.round, .slice x.ua x.un x.uc] 36)).alloc (.cells #[.int .i64 0, .slice none 0 0, .slice none 0 0, .slice none 0 0] 31)).cell? ⟨w.heap.size, 2, none⟩ = some (.slice ba m.boxes.length bc) := by first | (simp; done) | (rw [World.cell?_alloc_at _ _ _ _ (by simp)]; rfl) | (rw [World.cell?_alloc_past _ _ _ (by simp <;> omega), World.cell?_alloc_at _ _ _ _ (by simp)]; rfl) | (rw [World.cell?_alloc_past _ _ _ (by simp <;> omega), World.cell?_alloc_past _ _ _ (by simp <;> omega), World.cell?_alloc_at _ _ _ _ (by simp)]; rfl)
  have pp3 : (((w.alloc (.cells #[.int .i64 m.retries, .slice oa m.outs.length oc, .slice ba m.boxes.length bc, .slice ia m.images.length ic] 31)).alloc (.cells #[.int .i64 x.op, .slice x.wa x.wn x.wc, .string x.id, .int .i64 x.what, .string x.name, .int .i64 x.size, .int .i64 x.round, .slice x.ua x.un x.uc] 36)).alloc (.cells #[.int .i64 0, .slice none 0 0, .slice none 0 0, .slice none 0 0] 31)).cell? ⟨w.heap.size, 3, none⟩ = some (.slice ia m.images.length ic) := by first | (simp; done) | (rw [World.cell?_alloc_at _ _ _ _ (by simp)]; rfl) | (rw [World.cell?_alloc_past _ _ _ (by simp <;> omega), World.cell?_alloc_at _ _ _ _ (by simp)]; rfl) | (rw [World.cell?_alloc_past _ _ _ (by simp <;> omega), World.cell?_alloc_past _ _ _ (by simp <;> omega), World.cell?_alloc_at _ _ _ _ (by simp)]; rfl)
  have aa0 : (((w.alloc (.cells #[.int .i64 m.retries, .slice oa m.outs.length oc, .slice ba m.boxes.length bc, .slice ia m.images.length ic] 31)).alloc (.cells #[.int .i64 x.op, .slice x.wa x.wn x.wc, .string x.id, .int .i64 x.what, .string x.name, .int .i64 x.size, .int .i64 x.round, .slice x.ua x.un x.uc] 36)).alloc (.cells #[.int .i64 0, .slice none 0 0, .slice none 0 0, .slice none 0 0] 31)).cell? ⟨w.heap.size + 1, 0, none⟩ = some (.int .i64 x.op) := by first | (simp; done) | (rw [World.cell?_alloc_at _ _ _ _ (by simp)]; rfl) | (rw [World.cell?_alloc_past _ _ _ (by simp <;> omega), World.cell?_alloc_at _ _ _ _ (by simp)]; rfl) | (rw [World.cell?_alloc_past _ _ _ (by simp <;> omega), World.cell?_alloc_past _ _ _ (by simp <;> omega), World.cell?_alloc_at _ _ _ _ (by simp)]; rfl)
  have aa1 : (((w.alloc (.cells #[.int .i64 m.retries, .slice oa m.outs.length oc, .slice ba m.boxes.length bc, .slice ia m.images.length ic] 31)).alloc (.cells #[.int .i64 x.op, .slice x.wa x.wn x.wc, .string x.id, .int .i64 x.what, .string x.name, .int .i64 x.size, .int .i64 x.round, .slice x.ua x.un x.uc] 36)).alloc (.cells #[.int .i64 0, .slice none 0 0, .slice none 0 0, .slice none 0 0] 31)).cell? ⟨w.heap.size + 1, 1, none⟩ = some (.slice x.wa x.wn x.wc) := by first | (simp; done) | (rw [World.cell?_alloc_at _ _ _ _ (by simp)]; rfl) | (rw [World.cell?_alloc_past _ _ _ (by simp <;> omega), World.cell?_alloc_at _ _ _ _ (by simp)]; rfl) | (rw [World.cell?_alloc_past _ _ _ (by simp <;> omega), World.cell?_alloc_past _ _ _ (by simp <;> omega), World.cell?_alloc_at _ _ _ _ (by simp)]; rfl)
  have aa2 : (((w.alloc (.cells #[.int .i64 m.retries, .slice oa m.outs.length oc, .slice ba m.boxes.length bc, .slice ia m.images.length ic] 31)).alloc (.cells #[.int .i64 x.op, .slice x.wa x.wn x.wc, .string x.id, .int .i64 x.what, .string x.name, .int .i64 x.size, .int .i64 x.round, .slice x.ua x.un x.uc] 36)).alloc (.cells #[.int .i64 0, .slice none 0 0, .slice none 0 0, .slice none 0 0] 31)).cell? ⟨w.heap.size + 1, 2, none⟩ = some (.string x.id) := by first | (simp; done) | (rw [World.cell?_alloc_at _ _ _ _ (by simp)]; rfl) | (rw [World.cell?_alloc_past _ _ _ (by simp <;> omega), World.cell?_alloc_at _ _ _ _ (by simp)]; rfl) | (rw [World.cell?_alloc_past _ _ _ (by simp <;> omega), World.cell?_alloc_past _ _ _ (by simp <;> omega), World.cell?_alloc_at _ _ _ _ (by simp)]; rfl)
  have aa3 : (((w.alloc (.cells #[.int .i64 m.retries, .slice oa m.outs.length oc, .slice ba m.boxes.length bc, .slice ia m.images.length ic] 31)).alloc (.cells #[.int .i64 x.op, .slice x.wa x.wn x.wc, .string x.id, .int .i64 x.what, .string x.name, .int .i64 x.size, .int .i64 x.round, .slice x.ua x.un x.uc] 36)).alloc (.cells #[.int .i64 0, .slice none 0 0, .slice none 0 0, .slice none 0 0] 31)).cell? ⟨w.heap.size + 1, 3, none⟩ = some (.int .i64 x.what) := by first | (simp; done) | (rw [World.cell?_alloc_at _ _ _ _ (by simp)]; rfl) | (rw [World.cell?_alloc_past _ _ _ (by simp <;> omega), World.cell?_alloc_at _ _ _ _ (by simp)]; rfl) | (rw [World.cell?_alloc_past _ _ _ (by simp <;> omega), World.cell?_alloc_past _ _ _ (by simp <;> omega), World.cell?_alloc_at _ _ _ _ (by simp)]; rfl)
  have aa4 : (((w.alloc (.cells #[.int .i64 m.retries, .slice oa m.outs.length oc, .slice ba m.boxes.length bc, .slice ia m.images.length ic] 31)).alloc (.cells #[.int .i64 x.op, .slice x.wa x.wn x.wc, .string x.id, .int .i64 x.what, .string x.name, .int .i64 x.size, .int .i64 x.round, .slice x.ua x.un x.uc] 36)).alloc (.cells #[.int .i64 0, .slice none 0 0, .slice none 0 0, .slice none 0 0] 31)).cell? ⟨w.heap.size + 1, 4, none⟩ = some (.string x.name) := by first | (simp; done) | (rw [World.cell?_alloc_at _ _ _ _ (by simp)]; rfl) | (rw [World.cell?_alloc_past _ _ _ (by simp <;> omega), World.cell?_alloc_at _ _ _ _ (by simp)]; rfl) | (rw [World.cell?_alloc_past _ _ _ (by simp <;> omega), World.cell?_alloc_past _ _ _ (by simp <;> omega), World.cell?_alloc_at _ _ _ _ (by simp)]; rfl)
  have aa5 : (((w.alloc (.cells #[.int .i64 m.retries, .slice oa m.outs.length oc, .slice ba m.boxes.length bc, .slice ia m.images.length ic] 31)).alloc (.cells #[.int .i64 x.op, .slice x.wa x.wn x.wc, .string x.id, .int .i64 x.what, .string x.name, .int .i64 x.size, .int .i64 x.round, .slice x.ua x.un x.uc] 36)).alloc (.cells #[.int .i64 0, .slice none 0 0, .slice none 0 0, .slice none 0 0] 31)).cell? ⟨w.heap.size + 1, 5, none⟩ = some (.int .i64 x.size) := by first | (simp; done) | (rw [World.cell?_alloc_at _ _ _ _ (by simp)]; rfl) | (rw [World.cell?_alloc_past _ _ _ (by simp <;> omega), World.cell?_alloc_at _ _ _ _ (by simp)]; rfl) | (rw [World.cell?_alloc_past _ _ _ (by simp <;> omega), World.cell?_alloc_past _ _ _ (by simp <;> omega), World.cell?_alloc_at _ _ _ _ (by simp)]; rfl)
  have aa6 : (((w.alloc (.cells #[.int .i64 m.retries, .slice oa m.outs.length oc, .slice ba m.boxes.length bc, .slice ia m.images.length ic] 31)).alloc (.cells #[.int .i64 x.op, .slice x.wa x.wn x.wc, .string x.id, .int .i64 x.what, .string x.name, .int .i64 x.size, .int .i64 x.round, .slice x.ua x.un x.uc] 36)).alloc (.cells #[.int .i64 0, .slice none 0 0, .slice none 0 0, .slice none 0 0] 31)).cell? ⟨w.heap.size + 1, 6, none⟩ = some (.int .i64 x.round) := by first | (simp; done) | (rw [World.cell?_alloc_at _ _ _ _ (by simp)]; rfl) | (rw [World.cell?_alloc_past _ _ _ (by simp <;> omega), World.cell?_alloc_at _ _ _ _ (by simp)]; rfl) | (rw [World.cell?_alloc_past _ _ _ (by simp <;> omega), World.cell?_alloc_past _ _ _ (by simp <;> omega), World.cell?_alloc_at _ _ _ _ (by simp)]; rfl)
  have aa7 : (((w.alloc (.cells #[.int .i64 m.retries, .slice oa m.outs.length oc, .slice ba m.boxes.length bc, .slice ia m.images.length ic] 31)).alloc (.cells #[.int .i64 x.op, .slice x.wa x.wn x.wc, .string x.id, .int .i64 x.what, .string x.name, .int .i64 x.size, .int .i64 x.round, .slice x.ua x.un x.uc] 36)).alloc (.cells #[.int .i64 0, .slice none 0 0, .slice none 0 0, .slice none 0 0] 31)).cell? ⟨w.heap.size + 1, 7, none⟩ = some (.slice x.ua x.un x.uc) := by first | (simp; done) | (rw [World.cell?_alloc_at _ _ _ _ (by simp)]; rfl) | (rw [World.cell?_alloc_past _ _ _ (by simp <;> omega), World.cell?_alloc_at _ _ _ _ (by simp)]; rfl) | (rw [World.cell?_alloc_past _ _ _ (by simp <;> omega), World.cell?_alloc_past _ _ _ (by simp <;> omega), World.cell?_alloc_at _ _ _ _ (by simp)]; rfl)
  have zz0 : (((w.alloc (.cells #[.int .i64 m.retries, .slice oa m.outs.length oc, .slice ba m.boxes.length bc, .slice ia m.images.length ic] 31)).alloc (.cells #[.int .i64 x.op, .slice x.wa x.wn x.wc, .string x.id, .int .i64 x.what, .string x.name, .int .i64 x.size, .int .i64 x.round, .slice x.ua x.un x.uc] 36)).alloc (.cells #[.int .i64 0, .slice none 0 0, .slice none 0 0, .slice none 0 0] 31)).cell? ⟨w.heap.size + 2, 0, none⟩ = some (.int .i64 0) := by first | (simp; done) | (rw [World.cell?_alloc_at _ _ _ _ (by simp)]; rfl) | (rw [World.cell?_alloc_past _ _ _ (by simp <;> omega), World.cell?_alloc_at _ _ _ _ (by simp)]; rfl) | (rw [World.cell?_alloc_past _ _ _ (by simp <;> omega), World.cell?_alloc_past _ _ _ (by simp <;> omega), World.cell?_alloc_at _ _ _ _ (by simp)]; rfl)
  have zz1 : (((w.alloc (.cells #[.int .i64 m.retries, .slice oa m.outs.length oc, .slice ba m.boxes.length bc, .slice ia m.images.length ic] 31)).alloc (.cells #[.int .i64 x.op, .slice x.wa x.wn x.wc, .string x.id, .int .i64 x.what, .string x.name, .int .i64 x.size, .int .i64 x.round, .slice x.ua x.un x.uc] 36)).alloc (.cells #[.int .i64 0, .slice none 0 0, .slice none 0 0, .slice none 0 0] 31)).cell? ⟨w.heap.size + 2, 1, none⟩ = some (.slice none 0 0) := by first | (simp; done) | (rw [World.cell?_alloc_at _ _ _ _ (by simp)]; rfl) | (rw [World.cell?_alloc_past _ _ _ (by simp <;> omega), World.cell?_alloc_at _ _ _ _ (by simp)]; rfl) | (rw [World.cell?_alloc_past _ _ _ (by simp <;> omega), World.cell?_alloc_past _ _ _ (by simp <;> omega), World.cell?_alloc_at _ _ _ _ (by simp)]; rfl)
  have zz2 : (((w.alloc (.cells #[.int .i64 m.retries, .slice oa m.outs.length oc, .slice ba m.boxes.length bc, .slice ia m.images.length ic] 31)).alloc (.cells #[.int .i64 x.op, .slice x.wa x.wn x.wc, .string x.id, .int .i64 x.what, .string x.name, .int .i64 x.size, .int .i64 x.round, .slice x.ua x.un x.uc] 36)).alloc (.cells #[.int .i64 0, .slice none 0 0, .slice none 0 0, .slice none 0 0] 31)).cell? ⟨w.heap.size + 2, 2, none⟩ = some (.slice none 0 0) := by first | (simp; done) | (rw [World.cell?_alloc_at _ _ _ _ (by simp)]; rfl) | (rw [World.cell?_alloc_past _ _ _ (by simp <;> omega), World.cell?_alloc_at _ _ _ _ (by simp)]; rfl) | (rw [World.cell?_alloc_past _ _ _ (by simp <;> omega), World.cell?_alloc_past _ _ _ (by simp <;> omega), World.cell?_alloc_at _ _ _ _ (by simp)]; rfl)
  have zz3 : (((w.alloc (.cells #[.int .i64 m.retries, .slice oa m.outs.length oc, .slice ba m.boxes.length bc, .slice ia m.images.length ic] 31)).alloc (.cells #[.int .i64 x.op, .slice x.wa x.wn x.wc, .string x.id, .int .i64 x.what, .string x.name, .int .i64 x.size, .int .i64 x.round, .slice x.ua x.un x.uc] 36)).alloc (.cells #[.int .i64 0, .slice none 0 0, .slice none 0 0, .slice none 0 0] 31)).cell? ⟨w.heap.size + 2, 3, none⟩ = some (.slice none 0 0) := by first | (simp; done) | (rw [World.cell?_alloc_at _ _ _ _ (by simp)]; rfl) | (rw [World.cell?_alloc_past _ _ _ (by simp <;> omega), World.cell?_alloc_at _ _ _ _ (by simp)]; rfl) | (rw [World.cell?_alloc_past _ _ _ (by simp <;> omega), World.cell?_alloc_past _ _ _ (by simp <;> omega), World.cell?_alloc_at _ _ _ _ (by simp)]; rfl)
  have hb2 := (by repeat (first | exact hbel | refine belAlloc ?_ _ | refine belDrew ?_ | refine belSet ?_ _ _ (by simp)) : Below w.heap.size w (((w.alloc (.cells #[.int .i64 m.retries, .slice oa m.outs.length oc, .slice ba m.boxes.length bc, .slice ia m.images.length ic] 31)).alloc (.cells #[.int .i64 x.op, .slice x.wa x.wn x.wc, .string x.id, .int .i64 x.what, .string x.name, .int .i64 x.size, .int .i64 x.round, .slice x.ua x.un x.uc] 36)).alloc (.cells #[.int .i64 0, .slice none 0 0, .slice none 0 0, .slice none 0 0] 31)))
  replace hw := belStep hw hb2
  have ppB : Blk (((w.alloc (.cells #[.int .i64 m.retries, .slice oa m.outs.length oc, .slice ba m.boxes.length bc, .slice ia m.images.length ic] 31)).alloc (.cells #[.int .i64 x.op, .slice x.wa x.wn x.wc, .string x.id, .int .i64 x.what, .string x.name, .int .i64 x.size, .int .i64 x.round, .slice x.ua x.un x.uc] 36)).alloc (.cells #[.int .i64 0, .slice none 0 0, .slice none 0 0, .slice none 0 0] 31)) (w.heap.size) [.int .i64 m.retries, .slice oa m.outs.length oc, .slice ba m.boxes.length bc, .slice ia m.images.length ic] 31 := (Blk.at (by simp) : Blk (w.alloc (.cells #[.int .i64 m.retries, .slice oa m.outs.length oc, .slice ba m.boxes.length bc, .slice ia m.images.length ic] 31)) (w.heap.size) [.int .i64 m.retries, .slice oa m.outs.length oc, .slice ba m.boxes.length bc, .slice ia m.images.length ic] 31).later (by repeat (first | exact Below.refl _ _ | refine belAlloc ?_ _))
  have ppF := Blk.keepF ppB
  replace ppB := Blk.keepB ppB
  have aaB : Blk (((w.alloc (.cells #[.int .i64 m.retries, .slice oa m.outs.length oc, .slice ba m.boxes.length bc, .slice ia m.images.length ic] 31)).alloc (.cells #[.int .i64 x.op, .slice x.wa x.wn x.wc, .string x.id, .int .i64 x.what, .string x.name, .int .i64 x.size, .int .i64 x.round, .slice x.ua x.un x.uc] 36)).alloc (.cells #[.int .i64 0, .slice none 0 0, .slice none 0 0, .slice none 0 0] 31)) (w.heap.size + 1) [.int .i64 x.op, .slice x.wa x.wn x.wc, .string x.id, .int .i64 x.what, .string x.name, .int .i64 x.size, .int .i64 x.round, .slice x.ua x.un x.uc] 36 := (Blk.at (by simp) : Blk ((w.alloc (.cells #[.int .i64 m.retries, .slice oa m.outs.length oc, .slice ba m.boxes.length bc, .slice ia m.images.length ic] 31)).alloc (.cells #[.int .i64 x.op, .slice x.wa x.wn x.wc, .string x.id, .int .i64 x.what, .string x.name, .int .i64 x.size, .int .i64 x.round, .slice x.ua x.un x.uc] 36)) (w.heap.size + 1) [.int .i64 x.op, .slice x.wa x.wn x.wc, .string x.id, .int .i64 x.what, .string x.name, .int .i64 x.size, .int .i64 x.round, .slice x.ua x.un x.uc] 36).later (by repeat (first | exact Below.refl _ _ | refine belAlloc ?_ _))
  have aaF := Blk.keepF aaB
  replace aaB := Blk.keepB aaB
  have zzB : Blk (((w.alloc (.cells #[.int .i64 m.retries, .slice oa m.outs.length oc, .slice ba m.boxes.length bc, .slice ia m.images.length ic] 31)).alloc (.cells #[.int .i64 x.op, .slice x.wa x.wn x.wc, .string x.id, .int .i64 x.what, .string x.name, .int .i64 x.size, .int .i64 x.round, .slice x.ua x.un x.uc] 36)).alloc (.cells #[.int .i64 0, .slice none 0 0, .slice none 0 0, .slice none 0 0] 31)) (w.heap.size + 2) [.int .i64 0, .slice none 0 0, .slice none 0 0, .slice none 0 0] 31 := (Blk.at (by simp) : Blk (((w.alloc (.cells #[.int .i64 m.retries, .slice oa m.outs.length oc, .slice ba m.boxes.length bc, .slice ia m.images.length ic] 31)).alloc (.cells #[.int .i64 x.op, .slice x.wa x.wn x.wc, .string x.id, .int .i64 x.what, .string x.name, .int .i64 x.size, .int .i64 x.round, .slice x.ua x.un x.uc] 36)).alloc (.cells #[.int .i64 0, .slice none 0 0, .slice none 0 0, .slice none 0 0] 31)) (w.heap.size + 2) [.int .i64 0, .slice none 0 0, .slice none 0 0, .slice none 0 0] 31).later (by repeat (first | exact Below.refl _ _ | refine belAlloc ?_ _))
  have zzF := Blk.keepF zzB
  replace zzB := Blk.keepB zzB
  clear hb2 hbel
  generalize ((w.alloc (.cells #[.int .i64 m.retries, .slice oa m.outs.length oc, .slice ba m.boxes.length bc, .slice ia m.images.length ic] 31)).alloc (.cells #[.int .i64 x.op, .slice x.wa x.wn x.wc, .string x.id, .int .i64 x.what, .string x.name, .int .i64 x.size, .int .i64 x.round, .slice x.ua x.un x.uc] 36)).alloc (.cells #[.int .i64 0, .slice none 0 0, .slice none 0 0, .slice none 0 0] 31) = W1 at *
  replace pp0 := keep pp0
  replace pp1 := keep pp1
  replace pp2 := keep pp2
  replace pp3 := keep pp3
  replace aa0 := keep aa0
  replace aa1 := keep aa1
  replace aa2 := keep aa2
  replace aa3 := keep aa3
  replace aa4 := keep aa4
  replace aa5 := keep aa5
  replace aa6 := keep aa6
  replace aa7 := keep aa7
  replace zz0 := keep zz0
  replace zz1 := keep zz1
  replace zz2 := keep zz2
  replace zz3 := keep zz3
  have hbel : Below W1.heap.size W1 W1 := Below.refl _ _
  skip
  have HP := Lib.hid (ppB W1 (Below.refl _ _))
  have HA := Lib.hid (aaB W1 (Below.refl _ _))
  have HZ := Lib.hid (zzB W1 (Below.refl _ _))
  have HB := Lib.hid hw
  clear hw ppB aaB zzB
  obtain ⟨c, hc⟩ : ∃ c, createE m.boxes x.id = c := ⟨_, rfl⟩
  obtain ⟨K, hK⟩ : ∃ k, ({ m with boxes := createC m.boxes x.id x.round } : WorldV) = k := ⟨_, rfl⟩
  have CR := Lib.hid (fun G v u (h : RIs G u v m) (hG : ∀ b ∈ G, b < u.heap.size) => r16_Create x.id x.round G v m u h hG HG.out.rises (Nat.le_trans HG.out.len hn))
  have CW := Lib.hid (fun u (h : WAt u M M F m) => wd_Create M M F m x.id x.round u h HG.out.rises (Nat.le_trans HG.out.len hn))
  rw [hc, hK] at CR CW
  rw [hK] at HE
  clear hc hK
  have hz2 : w.heap.size ≤ w.heap.size + 1 + 1 := by omega
  have hw0 : w0.heap.size ≤ w.heap.size + 1 + 1 := by have := HB0.out.size; omega
  have hlt := HZ.out.lt
  have HV1 := Lib.hid (show RIs (((w.heap.size + 1 + 1) :: X) ++ F) W1 _ m from ((HV.out.more (G := ((w.heap.size + 1 + 1) :: X) ++ F) (fun b hb => by rcases List.mem_append.1 hb with q | q; rcases List.mem_cons.1 q with q | q; subst q; exact .inr (by omega); exact .inl (List.mem_append_left F q); exact .inl (List.mem_append_right X q))).later HB.out))
  have HF1 := Lib.hid (show ∀ b ∈ ((w.heap.size + 1 + 1) :: X) ++ F, b < W1.heap.size from fun b hb => by rcases List.mem_append.1 hb with q | q; rcases List.mem_cons.1 q with q | q; subst q; exact hlt; exact Nat.lt_of_lt_of_le (HXS.out b q) HB.out.size; exact Nat.lt_of_lt_of_le (HFL.out b q) HB.out.size)
  go_upto_region 6 with (go_at_call 59; (with_reducible refine (CR.out _ _ _ HV1.out HF1.out).mono ?_); rintro e w4 ⟨v4, rfl, hR4, hb4⟩; have HV4 := Lib.hid hR4; obtain ⟨oa1, oc1, ba1, bc1, ia1, ic1, rfl, hO1, hL1, hI1, hN1⟩ := hR4; have hbo1 := hO1.2; have hbb1 := hL1.2; have hbi1 := hI1.2; have HRI1 := Lib.hid hI1; clear hO1 hL1 hI1 hN1; have HB4 := Lib.hid hb4; clear hb4)
  have k4 : Below w4.heap.size w4 (w4.alloc (.cells #[.int .i64 K.retries, .slice oa1 K.outs.length oc1, .slice ba1 K.boxes.length bc1, .slice ia1 K.images.length ic1] 31)) := belAlloc (Below.refl _ _) _
  have HX8 := Lib.hid (Blk.new w4 [.int .i64 K.retries, .slice oa1 K.outs.length oc1, .slice ba1 K.boxes.length bc1, .slice ia1 K.images.length ic1] 31)
  have HV8 := Lib.hid (HV4.out.later k4)
  have HB8 := Lib.hid (belStep HB4.out k4)
  have hxw : w.heap.size ≤ w4.heap.size := Nat.le_trans HB.out.size HB4.out.size
  have hbel8 : Below w.heap.size w (w4.alloc (.cells #[.int .i64 K.retries, .slice oa1 K.outs.length oc1, .slice ba1 K.boxes.length bc1, .slice ia1 K.images.length ic1] 31)) := belStep HB.out (belStep HB4.out k4)
  clear hbel pp0 pp1 pp2 pp3 aa0 aa1 aa2 aa3 aa4 aa5 aa6 aa7 zz0 zz1 zz2 zz3 ppF aaF zzF k4
  generalize w4.alloc (.cells #[.int .i64 K.retries, .slice oa1 K.outs.length oc1, .slice ba1 K.boxes.length bc1, .slice ia1 K.images.length ic1] 31) = W8 at *
  generalize w4.heap.size = xb at *
  have HA8 := Lib.hid (HA.out.later HB8.out)
  have HZ8 := Lib.hid (HZ.out.later HB8.out)
  have HW8 := Lib.hid (HW.out.later hbel8)
  have HB9 := Lib.hid (belStep HB0.out hbel8)
  clear CR HV1 HF1 HV4
  refine wp_region_upc (S := fun u => Blk u xb [.int .i64 K.retries, .slice oa1 K.outs.length oc1, .slice ba1 K.boxes.length bc1, .slice ia1 K.images.length ic1] 31 ∧ Blk u (w.heap.size + 1) [.int .i64 x.op, .slice x.wa x.wn x.wc, .string x.id, .int .i64 x.what, .string x.name, .int .i64 x.size, .int .i64 x.round, .slice x.ua x.un x.uc] 36) [9] (by kernel_rfl) (by exact ⟨HX8.out, HA8.out⟩) (fun hHeld => ?_)
  refine UpC.take (i := 0) (oi := ?oi_uc12) (v := ?v_uc12) ?hi_uc12 (by kernel_rfl) ?hf_uc12 ?hr_uc12 (by kernel_rfl) ?hQ_uc12 (Or.inl ⟨?hw_uc12, ?hy_uc12⟩) (by assumption) ?rest_uc12
  case hi_uc12 => ((simp only [List.getElem?_toArray, List.getElem?_cons_succ, List.getElem?_cons_zero]); rfl)
  case hf_uc12 => kernel_rfl
  case hr_uc12 => kernel_rfl
  case hQ_uc12 => exact fun _ _ _ h => h
  case hw_uc12 => rfl
  case hy_uc12 => ((intro w hSw; (try dsimp only at hSw); (have x0 := hSw.1.cell (j := 0) rfl; have x1 := hSw.1.cell (j := 1) rfl; have x2 := hSw.1.cell (j := 2) rfl; have x3 := hSw.1.cell (j := 3) rfl; have a1 := hSw.2.cell (j := 2) rfl; have a2 := hSw.2.cell (j := 6) rfl); go_simp); all_goals (with_reducible rfl))
  try simp only [Act.put, List.setIfInBounds_toArray, List.set_cons_zero, List.set_cons_succ]
  refine UpC.take (i := 1) (oi := ?oi_uc13) (v := ?v_uc13) ?hi_uc13 (by kernel_rfl) ?hf_uc13 ?hr_uc13 (by kernel_rfl) ?hQ_uc13 (Or.inl ⟨?hw_uc13, ?hy_uc13⟩) (by assumption) ?rest_uc13
  case hi_uc13 => ((simp only [List.getElem?_toArray, List.getElem?_cons_succ, List.getElem?_cons_zero]); rfl)
  case hf_uc13 => kernel_rfl
  case hr_uc13 => kernel_rfl
  case hQ_uc13 => exact fun _ _ _ h => h
  case hw_uc13 => rfl
  case hy_uc13 => ((intro w hSw; (try dsimp only at hSw); go_simp); all_goals (with_reducible rfl))
  try simp only [Act.put, List.setIfInBounds_toArray, List.set_cons_zero, List.set_cons_succ]
  refine UpC.take (i := 2) (oi := ?oi_uc14) (v := ?v_uc14) ?hi_uc14 (by kernel_rfl) ?hf_uc14 ?hr_uc14 (by kernel_rfl) ?hQ_uc14 (Or.inl ⟨?hw_uc14, ?hy_uc14⟩) (by assumption) ?rest_uc14
  case hi_uc14 => ((simp only [List.getElem?_toArray, List.getElem?_cons_succ, List.getElem?_cons_zero]); rfl)
  case hf_uc14 => kernel_rfl
  case hr_uc14 => kernel_rfl
  case hQ_uc14 => exact fun _ _ _ h => h
  case hw_uc14 => rfl
  case hy_uc14 => ((intro w hSw; (try dsimp only at hSw); go_simp); all_goals (with_reducible rfl))
  try simp only [Act.put, List.setIfInBounds_toArray, List.set_cons_zero, List.set_cons_succ]
  refine UpC.take (i := 3) (oi := ?oi_uc15) (v := ?v_uc15) ?hi_uc15 (by kernel_rfl) ?hf_uc15 ?hr_uc15 (by kernel_rfl) ?hQ_uc15 (Or.inl ⟨?hw_uc15, ?hy_uc15⟩) (by assumption) ?rest_uc15
  case hi_uc15 => ((simp only [List.getElem?_toArray, List.getElem?_cons_succ, List.getElem?_cons_zero]); rfl)
  case hf_uc15 => kernel_rfl
  case hr_uc15 => kernel_rfl
  case hQ_uc15 => exact fun _ _ _ h => h
  case hw_uc15 => rfl
  case hy_uc15 => ((intro w hSw; (try dsimp only at hSw); (have x0 := hSw.1.cell (j := 0) rfl; have x1 := hSw.1.cell (j := 1) rfl; have x2 := hSw.1.cell (j := 2) rfl; have x3 := hSw.1.cell (j := 3) rfl; have a1 := hSw.2.cell (j := 2) rfl; have a2 := hSw.2.cell (j := 6) rfl); go_simp); all_goals (with_reducible rfl))
  try simp only [Act.put, List.setIfInBounds_toArray, List.set_cons_zero, List.set_cons_succ]
  refine UpC.take (i := 4) (oi := ?oi_uc16) (v := ?v_uc16) ?hi_uc16 (by kernel_rfl) ?hf_uc16 ?hr_uc16 (by kernel_rfl) ?hQ_uc16 (Or.inl ⟨?hw_uc16, ?hy_uc16⟩) (by assumption) ?rest_uc16
  case hi_uc16 => ((simp only [List.getElem?_toArray, List.getElem?_cons_succ, List.getElem?_cons_zero]); rfl)
  case hf_uc16 => kernel_rfl
  case hr_uc16 => kernel_rfl
  case hQ_uc16 => exact fun _ _ _ h => h
  case hw_uc16 => rfl
  case hy_uc16 => ((intro w hSw; (try dsimp only at hSw); go_simp); all_goals (with_reducible rfl))
  try simp only [Act.put, List.setIfInBounds_toArray, List.set_cons_zero, List.set_cons_succ]
  refine UpC.take (i := 5) (oi := ?oi_uc17) (v := ?v_uc17) ?hi_uc17 (by kernel_rfl) ?hf_uc17 ?hr_uc17 (by kernel_rfl) ?hQ_uc17 (Or.inl ⟨?hw_uc17, ?hy_uc17⟩) (by assumption) ?rest_uc17
  case hi_uc17 => ((simp only [List.getElem?_toArray, List.getElem?_cons_succ, List.getElem?_cons_zero]); rfl)
  case hf_uc17 => kernel_rfl
  case hr_uc17 => kernel_rfl
  case hQ_uc17 => exact fun _ _ _ h => h
  case hw_uc17 => rfl
  case hy_uc17 => ((intro w hSw; (try dsimp only at hSw); (have x0 := hSw.1.cell (j := 0) rfl; have x1 := hSw.1.cell (j := 1) rfl; have x2 := hSw.1.cell (j := 2) rfl; have x3 := hSw.1.cell (j := 3) rfl; have a1 := hSw.2.cell (j := 2) rfl; have a2 := hSw.2.cell (j := 6) rfl); go_simp); all_goals (with_reducible rfl))
  try simp only [Act.put, List.setIfInBounds_toArray, List.set_cons_zero, List.set_cons_succ]
  refine UpC.pure (i := 7) (oi := ?oi_uc18) (v := ?v_uc18) ?hi_uc18 (by kernel_rfl) ?hf_uc18 ?hr_uc18 ?hQ_uc18 (Or.inl ⟨?hw_uc18, ?hy_uc18⟩) ?rest_uc18
  case hi_uc18 => ((simp only [List.getElem?_toArray, List.getElem?_cons_succ, List.getElem?_cons_zero]); rfl)
  case hf_uc18 => kernel_rfl
  case hr_uc18 => kernel_rfl
  case hQ_uc18 => exact fun _ _ _ h => h
  case hw_uc18 => rfl
  case hy_uc18 => ((intro w hSw; (try dsimp only at hSw); go_simp); all_goals (with_reducible rfl))
  try simp only [Act.put, List.setIfInBounds_toArray, List.set_cons_zero, List.set_cons_succ]
  refine UpC.one (i := 6) (o := ?o_uc19) (by kernel_rfl) ?hi_uc19 (fun K hK => ?rest_uc19)
  case hi_uc19 => ((simp only [List.getElem?_toArray, List.getElem?_cons_succ, List.getElem?_cons_zero]); rfl)
  go_simp
  (go_at_call 55; (with_reducible refine (CW.out _ (HW8.out.later (belDrew (Below.refl _ _)))).mono ?_); rintro e wq ⟨rfl, hT⟩; have hj := jw_runX (HW8.out.later (belDrew (Below.refl _ _))) (HV8.out.later (belDrew (Below.refl _ _))) (belDrew HB9.out) HMM.out hT; obtain ⟨G, g1, g2, g3, g4, g5, g6⟩ := hj; have HG1 := Lib.hid g1; have HG2 := Lib.hid g2; have HG3 := Lib.hid g3; have HG6 := Lib.hid g6; have HG5 := Lib.hid ((Apart.of_below (F := F) (belDrew hbel8)).trans g5); have HG7 := Lib.hid (show ∀ b ∈ G, b ∈ F ∨ w.heap.size ≤ b from fun b hb => (g6 b hb).imp id (fun r => Nat.le_trans ((belDrew hbel8)).size r)); have HXq := Lib.hid ((HX8.out.later (belDrew (Below.refl _ _))).apart g5 (fun q => absurd (HFL.out _ q) (by omega))); have HAq := Lib.hid ((HA8.out.later (belDrew (Below.refl _ _))).apart g5 (fun q => absurd (HFL.out _ q) (by omega))); have HZq := Lib.hid ((HZ8.out.later (belDrew (Below.refl _ _))).apart g5 (fun q => absurd (HFL.out _ q) (by omega))); clear hT g1 g2 g3 g4 g5 g6)
  try go_simp
  refine hK.out _ _ (fun _ _ => by exact ⟨HXq.out, HAq.out⟩) (fun hHeld0 => ?_)
  replace hHeld := hHeld0 (by decide) hHeld
  clear hK K hHeld0
  try simp only [Act.put, List.setIfInBounds_toArray, List.set_cons_zero, List.set_cons_succ]
  refine UpC.pure (i := 8) (oi := ?oi_uc20) (v := ?v_uc20) ?hi_uc20 (by kernel_rfl) ?hf_uc20 ?hr_uc20 ?hQ_uc20 (Or.inl ⟨?hw_uc20, ?hy_uc20⟩) ?rest_uc20
  case hi_uc20 => ((simp only [List.getElem?_toArray, List.getElem?_cons_succ, List.getElem?_cons_zero]); rfl)
  case hf_uc20 => kernel_rfl
  case hr_uc20 => kernel_rfl
  case hQ_uc20 => exact fun _ _ _ h => h
  case hw_uc20 => rfl
  case hy_uc20 => ((intro w hSw; (try dsimp only at hSw); go_simp); all_goals (with_reducible rfl))
  try simp only [Act.put, List.setIfInBounds_toArray, List.set_cons_zero, List.set_cons_succ]
  generalize wq = WQ at *
  have z0 := HZq.out.cell (j := 0) rfl
  have z1 := HZq.out.cell (j := 1) rfl
  have z2 := HZq.out.cell (j := 2) rfl
  have z3 := HZq.out.cell (j := 3) rfl
  have zf := HZq.out.frozen
  refine UpC.one (i := 9) (o := ?o_uc21) (by kernel_rfl) ?hi_uc21 (fun K hK => ?rest_uc21)
  case hi_uc21 => ((simp only [List.getElem?_toArray, List.getElem?_cons_succ, List.getElem?_cons_zero]); rfl)
  go_simp
  refine hK.out _ _ (fun q => absurd q (by decide)) (fun _ => ?_)
  clear hK K
  try simp only [Act.put, List.setIfInBounds_toArray, List.set_cons_zero, List.set_cons_succ]
  refine UpC.one (i := 10) (o := ?o_uc22) (by kernel_rfl) ?hi_uc22 (fun K hK => ?rest_uc22)
  case hi_uc22 => ((simp only [List.getElem?_toArray, List.getElem?_cons_succ, List.getElem?_cons_zero]); rfl)
  go_simp
  refine hK.out _ _ (fun _ h => h) (fun _ => ?_)
  clear hK K
  try simp only [Act.put, List.setIfInBounds_toArray, List.set_cons_zero, List.set_cons_succ]
  refine UpC.done (by kernel_rfl) ?_ _
  go_wp2
  have hfa := Lib.hid (((((Apart.refl (((w.heap.size + 1 + 1) :: X) ++ G) WQ).set ⟨w.heap.size + 1 + 1, 0, none⟩ (.int .i64 K.retries) (by simp)).set ⟨w.heap.size + 1 + 1, 1, none⟩ (.slice oa1 K.outs.length oc1) (by simp)).set ⟨w.heap.size + 1 + 1, 2, none⟩ (.slice ba1 K.boxes.length bc1) (by simp)).set ⟨w.heap.size + 1 + 1, 3, none⟩ (.slice ia1 K.images.length ic1) (by simp))
  have hnz : w.heap.size + 1 + 1 ∉ G := fun q => (HG6.out _ q).elim (fun r => absurd (HFL.out _ r) (by omega)) (fun r => by have h7 := (HZ8.out.later (belDrew (Below.refl _ _))).lt; omega)
  refine does_ret _ (w.heap.size + 1 + 1) _ _ oa1 _ oc1 ba1 _ bc1 ia1 _ ic1 true _ rfl rfl ((((HZq.out.set 0 (.int .i64 K.retries)).set 1 (.slice oa1 K.outs.length oc1)).set 2 (.slice ba1 K.boxes.length bc1)).set 3 (.slice ia1 K.images.length ic1)) ⟨_, rfl, ?_⟩
  rw [HE.out]
  have h9 := HG2.out.apart hfa.out
  refine ⟨G, HG1.out.same (fun b hb => ?_), h9.more (fun b hb => .inl (List.mem_cons_of_mem _ hb)), ?_, HMM.out, ?_, HG7.out⟩
  · exact (show Apart [w.heap.size + 1 + 1] WQ _ from (((((Apart.refl [w.heap.size + 1 + 1] WQ).set ⟨w.heap.size + 1 + 1, 0, none⟩ (.int .i64 K.retries) (by simp)).set ⟨w.heap.size + 1 + 1, 1, none⟩ (.slice oa1 K.outs.length oc1) (by simp)).set ⟨w.heap.size + 1 + 1, 2, none⟩ (.slice ba1 K.boxes.length bc1) (by simp)).set ⟨w.heap.size + 1 + 1, 3, none⟩ (.slice ia1 K.images.length ic1) (by simp))).block b (HG1.out.foot_lt b hb).2 (fun q => by simp only [List.mem_singleton] at q; subst q; exact hnz hb)
  · exact (belSet (belSet (belSet (belSet HG3.out ⟨w.heap.size + 1 + 1, 0, none⟩ (.int .i64 K.retries) hw0) ⟨w.heap.size + 1 + 1, 1, none⟩ (.slice oa1 K.outs.length oc1) hw0) ⟨w.heap.size + 1 + 1, 2, none⟩ (.slice ba1 K.boxes.length bc1) hw0) ⟨w.heap.size + 1 + 1, 3, none⟩ (.slice ia1 K.images.length ic1) hw0)
  · exact ((((HG5.out.setNew ⟨w.heap.size + 1 + 1, 0, none⟩ (.int .i64 K.retries) hz2).setNew ⟨w.heap.size + 1 + 1, 1, none⟩ (.slice oa1 K.outs.length oc1) hz2).setNew ⟨w.heap.size + 1 + 1, 2, none⟩ (.slice ba1 K.boxes.length bc1) hz2).setNew ⟨w.heap.size + 1 + 1, 3, none⟩ (.slice ia1 K.images.length ic1) hz2)
end Go.Proofs.Ytcnjcldfbidkmaa
namespace Go.Proofs.Ytcnjcldfbidkmaa
open Go.RowKit Go.Sort
set_option linter.unusedVariables false
set_option linter.unusedSimpArgs false
set_option maxRecDepth 100000 in
set_option maxHeartbeats 32000000 in
theorem does_2 (w0 : World) (M n : Nat) (m : WorldV) (v : Value) (x : ActW) (w : World) (X F : List Nat) (hXs : ∀ b ∈ X, b < w.heap.size) (hW : WAt w M M F m) (hR : RIs (X ++ F) w v m) (hB0 : Below w0.heap.size w0 w) (hM : w0.heap.size ≤ M) (hg : m.Good n) (hn : n ≤ 100000) (hwh : InI x.what) (hop : x.op = 2) :
    Calls Try.prog 19 #[.pointer (some ⟨M, 0, none⟩), v, .agg #[.int .i64 x.op, .slice x.wa x.wn x.wc, .string x.id, .int .i64 x.what, .string x.name, .int .i64 x.size, .int .i64 x.round, .slice x.ua x.un x.uc]] w fun e w' => ∃ v', e = .returned (.tuple #[v', .bool true]) ∧ JX w0 w w' M X F (stepW m x) v' := by
  have HG := Lib.hid hg
  clear hg
  have HXS := Lib.hid hXs
  clear hXs
  have HW := Lib.hid hW
  have HV := Lib.hid hR
  have HB0 := Lib.hid hB0
  have HMM := Lib.hid hM
  have HFL := Lib.hid (fun b hb => (hW.foot_lt b hb).2)
  obtain ⟨oa, oc, ba, bc, ia, ic, rfl, hO, hL, hI, _⟩ := hR
  have hbo : m.outs.length ≤ oc ∧ oc ≤ 9223372036854775807 := by obtain ⟨_, h1, h2, _⟩ := hO; unfold maxLen at h2; exact ⟨h1, h2⟩
  obtain ⟨hbo1, hbo2⟩ := hbo
  have hbb : m.boxes.length ≤ bc ∧ bc ≤ 9223372036854775807 := by obtain ⟨_, h1, h2, _⟩ := hL; unfold maxLen at h2; exact ⟨h1, h2⟩
  obtain ⟨hbb1, hbb2⟩ := hbb
  have hbi : m.images.length ≤ ic ∧ ic ≤ 9223372036854775807 := by obtain ⟨_, h1, h2, _⟩ := hI; unfold maxLen at h2; exact ⟨h1, h2⟩
  obtain ⟨hbi1, hbi2⟩ := hbi
  clear hW hB0 hM hO hL hI
  have d0 : (x.op == (0 : Int)) = false := by rw [hop]; rfl
  have d1 : (x.op == (1 : Int)) = false := by rw [hop]; rfl
  have d2 : (x.op == (2 : Int)) = true := by rw [hop]; rfl
  have hw : Below w.heap.size w w := Below.refl _ _
  have hbel := hw
  have HE := Lib.hid (show stepW m x = askW m x.id x.what x.round by unfold stepW; rw [if_neg (by omega), if_neg (by omega), if_pos hop])
  clear hop
  go_enter Try.func19, Try.ntmps19
  go_upto_region 1 with fail
  have pp0 : (((w.alloc (.cells #[.int .i64 m.retries, .slice oa m.outs.length oc, .slice ba m.boxes.length bc, .slice ia m.images.length ic] 31)).alloc (.cells #[.int .i64 x.op, .slice x.wa x.wn x.wc, .string x.id, .int .i64 x.what, .string x.name, .int .i64 x.size, .int .i64 x.round, .slice x.ua x.un x.uc] 36)).alloc (.cells #[.int .i64 0, .slice none 0 0, .slice none 0 0, .slice none 0 0] 31)).cell? ⟨w.heap.size, 0, none⟩ = some (.int .i64 m.retries) := by first | (simp; done) | (rw [World.cell?_alloc_at _ _ _ _ (by simp)]; rfl) | (rw [World.cell?_alloc_past _ _ _ (by simp <;> omega), World.cell?_alloc_at _ _ _ _ (by simp)]; rfl) | (rw [World.cell?_alloc_past _ _ _ (by simp <;> omega), World.cell?_alloc_past _ _ _ (by simp <;> omega), World.cell?_alloc_at _ _ _ _ (by simp)]; rfl)
  have pp1 : (((w.alloc (.cells #[.int .i64 m.retries, .slice oa m.outs.length oc, .slice ba m.boxes.length bc, .slice ia m.images.length ic] 31)).alloc (.cells #[.int .i64 x.op, .slice x.wa x.wn x.wc, .string x.id, .int .i64 x.what, .string x.name, .int .i64 x.size, .int .i64 x.round, .slice x.ua x.un x.uc] 36)).alloc (.cells #[.int .i64 0, .slice none 0 0, .slice none 0 0, .slice none 0 0] 31)).cell? ⟨w.heap.size, 1, none⟩ = some (.slice oa m.outs.length oc) := by first | (simp; done) | (rw [World.cell?_alloc_at _ _ _ _ (by simp)]; rfl) | (rw [World.cell?_alloc_past _ _ _ (by simp <;> omega), World.cell?_alloc_at _ _ _ _ (by simp)]; rfl) | (rw [World.cell?_alloc_past _ _ _ (by simp <;> omega), World.cell?_alloc_past _ _ _ (by simp <;> omega), World.cell?_alloc_at _ _ _ _ (by simp)]; rfl)
  have pp2 : (((w.alloc (.cells #[.int .i64 m.retries, .slice oa m.outs.length oc, .slice ba m.boxes.length bc, .slice ia m.images.length ic] 31)).alloc (.cells #[.int .i64 x.op, .slice x.wa x.wn x.wc, .string x.id, .int .i64 x.what, .string x.name, .int .i64 x.size, .int .i64 x.round, .slice x.ua x.un x.uc] 36)).alloc (.cells #[.int .i64 0, .slice none 0 0, .slice none 0 0, .slice none 0 0] 31)).cell? ⟨w.heap.size, 2, none⟩ = some (.slice ba m.boxes.length bc) := by first | (simp; done) | (rw [World.cell?_alloc_at _ _ _ _ (by simp)]; rfl) | (rw [World.cell?_alloc_past _ _ _ (by simp <;> omega), World.cell?_alloc_at _ _ _ _ (by simp)]; rfl) | (rw [World.cell?_alloc_past _ _ _ (by simp <;> omega), World.cell?_alloc_past _ _ _ (by simp <;> omega), World.cell?_alloc_at _ _ _ _ (by simp)]; rfl)
  have pp3 : (((w.alloc (.cells #[.int .i64 m.retries, .slice oa m.outs.length oc, .slice ba m.boxes.length bc, .slice ia m.images.length ic] 31)).alloc (.cells #[.int .i64 x.op, .slice x.wa x.wn x.wc, .string x.id, .int .i64 x.what, .string x.name, .int .i64 x.size, .int .i64 x.round, .slice x.ua x.un x.uc] 36)).alloc (.cells #[.int .i64 0, .slice none 0 0, .slice none 0 0, .slice none 0 0] 31)).cell? ⟨w.heap.size, 3, none⟩ = some (.slice ia m.images.length ic) := by first | (simp; done) | (rw [World.cell?_alloc_at _ _ _ _ (by simp)]; rfl) | (rw [World.cell?_alloc_past _ _ _ (by simp <;> omega), World.cell?_alloc_at _ _ _ _ (by simp)]; rfl) | (rw [World.cell?_alloc_past _ _ _ (by simp <;> omega), World.cell?_alloc_past _ _ _ (by simp <;> omega), World.cell?_alloc_at _ _ _ _ (by simp)]; rfl)
  have aa0 : (((w.alloc (.cells #[.int .i64 m.retries, .slice oa m.outs.length oc, .slice ba m.boxes.length bc, .slice ia m.images.length ic] 31)).alloc (.cells #[.int .i64 x.op, .slice x.wa x.wn x.wc, .string x.id, .int .i64 x.what, .string x.name, .int .i64 x.size, .int .i64 x.round, .slice x.ua x.un x.uc] 36)).alloc (.cells #[.int .i64 0, .slice none 0 0, .slice none 0 0, .slice none 0 0] 31)).cell? ⟨w.heap.size + 1, 0, none⟩ = some (.int .i64 x.op) := by first | (simp; done) | (rw [World.cell?_alloc_at _ _ _ _ (by simp)]; rfl) | (rw [World.cell?_alloc_past _ _ _ (by simp <;> omega), World.cell?_alloc_at _ _ _ _ (by simp)]; rfl) | (rw [World.cell?_alloc_past _ _ _ (by simp <;> omega), World.cell?_alloc_past _ _ _ (by simp <;> omega), World.cell?_alloc_at _ _ _ _ (by simp)]; rfl)
  have aa1 : (((w.alloc (.cells #[.int .i64 m.retries, .slice oa m.outs.length oc, .slice ba m.boxes.length bc, .slice ia m.images.length ic] 31)).alloc (.cells #[.int .i64 x.op, .slice x.wa x.wn x.wc, .string x.id, .int .i64 x.what, .string x.name, .int .i64 x.size, .int .i64 x.round, .slice x.ua x.un x.uc] 36)).alloc (.cells #[.int .i64 0, .slice none 0 0, .slice none 0 0, .slice none 0 0] 31)).cell? ⟨w.heap.size + 1, 1, none⟩ = some (.slice x.wa x.wn x.wc) := by first | (simp; done) | (rw [World.cell?_alloc_at _ _ _ _ (by simp)]; rfl) | (rw [World.cell?_alloc_past _ _ _ (by simp <;> omega), World.cell?_alloc_at _ _ _ _ (by simp)]; rfl) | (rw [World.cell?_alloc_past _ _ _ (by simp <;> omega), World.cell?_alloc_past _ _ _ (by simp <;> omega), World.cell?_alloc_at _ _ _ _ (by simp)]; rfl)
  have aa2 : (((w.alloc (.cells #[.int .i64 m.retries, .slice oa m.outs.length oc, .slice ba m.boxes.length bc, .slice ia m.images.length ic] 31)).alloc (.cells #[.int .i64 x.op, .slice x.wa x.wn x.wc, .string x.id, .int .i64 x.what, .string x.name, .int .i64 x.size, .int .i64 x.round, .slice x.ua x.un x.uc] 36)).alloc (.cells #[.int .i64 0, .slice none 0 0, .slice none 0 0, .slice none 0 0] 31)).cell? ⟨w.heap.size + 1, 2, none⟩ = some (.string x.id) := by first | (simp; done) | (rw [World.cell?_alloc_at _ _ _ _ (by simp)]; rfl) | (rw [World.cell?_alloc_past _ _ _ (by simp <;> omega), World.cell?_alloc_at _ _ _ _ (by simp)]; rfl) | (rw [World.cell?_alloc_past _ _ _ (by simp <;> omega), World.cell?_alloc_past _ _ _ (by simp <;> omega), World.cell?_alloc_at _ _ _ _ (by simp)]; rfl)
  have aa3 : (((w.alloc (.cells #[.int .i64 m.retries, .slice oa m.outs.length oc, .slice ba m.boxes.length bc, .slice ia m.images.length ic] 31)).alloc (.cells #[.int .i64 x.op, .slice x.wa x.wn x.wc, .string x.id, .int .i64 x.what, .string x.name, .int .i64 x.size, .int .i64 x.round, .slice x.ua x.un x.uc] 36)).alloc (.cells #[.int .i64 0, .slice none 0 0, .slice none 0 0, .slice none 0 0] 31)).cell? ⟨w.heap.size + 1, 3, none⟩ = some (.int .i64 x.what) := by first | (simp; done) | (rw [World.cell?_alloc_at _ _ _ _ (by simp)]; rfl) | (rw [World.cell?_alloc_past _ _ _ (by simp <;> omega), World.cell?_alloc_at _ _ _ _ (by simp)]; rfl) | (rw [World.cell?_alloc_past _ _ _ (by simp <;> omega), World.cell?_alloc_past _ _ _ (by simp <;> omega), World.cell?_alloc_at _ _ _ _ (by simp)]; rfl)
  have aa4 : (((w.alloc (.cells #[.int .i64 m.retries, .slice oa m.outs.length oc, .slice ba m.boxes.length bc, .slice ia m.images.length ic] 31)).alloc (.cells #[.int .i64 x.op, .slice x.wa x.wn x.wc, .string x.id, .int .i64 x.what, .string x.name, .int .i64 x.size, .int .i64 x.round, .slice x.ua x.un x.uc] 36)).alloc (.cells #[.int .i64 0, .slice none 0 0, .slice none 0 0, .slice none 0 0] 31)).cell? ⟨w.heap.size + 1, 4, none⟩ = some (.string x.name) := by first | (simp; done) | (rw [World.cell?_alloc_at _ _ _ _ (by simp)]; rfl) | (rw [World.cell?_alloc_past _ _ _ (by simp <;> omega), World.cell?_alloc_at _ _ _ _ (by simp)]; rfl) | (rw [World.cell?_alloc_past _ _ _ (by simp <;> omega), World.cell?_alloc_past _ _ _ (by simp <;> omega), World.cell?_alloc_at _ _ _ _ (by simp)]; rfl)
  have aa5 : (((w.alloc (.cells #[.int .i64 m.retries, .slice oa m.outs.length oc, .slice ba m.boxes.length bc, .slice ia m.images.length ic] 31)).alloc (.cells #[.int .i64 x.op, .slice x.wa x.wn x.wc, .string x.id, .int .i64 x.what, .string x.name, .int .i64 x.size, .int .i64 x.round, .slice x.ua x.un x.uc] 36)).alloc (.cells #[.int .i64 0, .slice none 0 0, .slice none 0 0, .slice none 0 0] 31)).cell? ⟨w.heap.size + 1, 5, none⟩ = some (.int .i64 x.size) := by first | (simp; done) | (rw [World.cell?_alloc_at _ _ _ _ (by simp)]; rfl) | (rw [World.cell?_alloc_past _ _ _ (by simp <;> omega), World.cell?_alloc_at _ _ _ _ (by simp)]; rfl) | (rw [World.cell?_alloc_past _ _ _ (by simp <;> omega), World.cell?_alloc_past _ _ _ (by simp <;> omega), World.cell?_alloc_at _ _ _ _ (by simp)]; rfl)
  have aa6 : (((w.alloc (.cells #[.int .i64 m.retries, .slice oa m.outs.length oc, .slice ba m.boxes.length bc, .slice ia m.images.length ic] 31)).alloc (.cells #[.int .i64 x.op, .slice x.wa x.wn x.wc, .string x.id, .int .i64 x.what, .string x.name, .int .i64 x.size, .int .i64 x.round, .slice x.ua x.un x.uc] 36)).alloc (.cells #[.int .i64 0, .slice none 0 0, .slice none 0 0, .slice none 0 0] 31)).cell? ⟨w.heap.size + 1, 6, none⟩ = some (.int .i64 x.round) := by first | (simp; done) | (rw [World.cell?_alloc_at _ _ _ _ (by simp)]; rfl) | (rw [World.cell?_alloc_past _ _ _ (by simp <;> omega), World.cell?_alloc_at _ _ _ _ (by simp)]; rfl) | (rw [World.cell?_alloc_past _ _ _ (by simp <;> omega), World.cell?_alloc_past _ _ _ (by simp <;> omega), World.cell?_alloc_at _ _ _ _ (by simp)]; rfl)
  have aa7 : (((w.alloc (.cells #[.int .i64 m.retries, .slice oa m.outs.length oc, .slice ba m.boxes.length bc, .slice ia m.images.length ic] 31)).alloc (.cells #[.int .i64 x.op, .slice x.wa x.wn x.wc, .string x.id, .int .i64 x.what, .string x.name, .int .i64 x.size, .int .i64 x.round, .slice x.ua x.un x.uc] 36)).alloc (.cells #[.int .i64 0, .slice none 0 0, .slice none 0 0, .slice none 0 0] 31)).cell? ⟨w.heap.size + 1, 7, none⟩ = some (.slice x.ua x.un x.uc) := by first | (simp; done) | (rw [World.cell?_alloc_at _ _ _ _ (by simp)]; rfl) | (rw [World.cell?_alloc_past _ _ _ (by simp <;> omega), World.cell?_alloc_at _ _ _ _ (by simp)]; rfl) | (rw [World.cell?_alloc_past _ _ _ (by simp <;> omega), World.cell?_alloc_past _ _ _ (by simp <;> omega), World.cell?_alloc_at _ _ _ _ (by simp)]; rfl)
  have zz0 : (((w.alloc (.cells #[.int .i64 m.retries, .slice oa m.outs.length oc, .slice ba m.boxes.length bc, .slice ia m.images.length ic] 31)).alloc (.cells #[.int .i64 x.op, .slice x.wa x.wn x.wc, .string x.id, .int .i64 x.what, .string x.name, .int .i64 x.size, .int .i64 x.round, .slice x.ua x.un x.uc] 36)).alloc (.cells #[.int .i64 0, .slice none 0 0, .slice none 0 0, .slice none 0 0] 31)).cell? ⟨w.heap.size + 2, 0, none⟩ = some (.int .i64 0) := by first | (simp; done) | (rw [World.cell?_alloc_at _ _ _ _ (by simp)]; rfl) | (rw [World.cell?_alloc_past _ _ _ (by simp <;> omega), World.cell?_alloc_at _ _ _ _ (by simp)]; rfl) | (rw [World.cell?_alloc_past _ _ _ (by simp <;> omega), World.cell?_alloc_past _ _ _ (by simp <;> omega), World.cell?_alloc_at _ _ _ _ (by simp)]; rfl)
  have zz1 : (((w.alloc (.cells #[.int .i64 m.retries, .slice oa m.outs.length oc, .slice ba m.boxes.length bc, .slice ia m.images.length ic] 31)).alloc (.cells #[.int .i64 x.op, .slice x.wa x.wn x.wc, .string x.id, .int .i64 x.what, .string x.name, .int .i64 x.size, .int .i64 x.round, .slice x.ua x.un x.uc] 36)).alloc (.cells #[.int .i64 0, .slice none 0 0, .slice none 0 0, .slice none 0 0] 31)).cell? ⟨w.heap.size + 2, 1, none⟩ = some (.slice none 0 0) := by first | (simp; done) | (rw [World.cell?_alloc_at _ _ _ _ (by simp)]; rfl) | (rw [World.cell?_alloc_past _ _ _ (by simp <;> omega), World.cell?_alloc_at _ _ _ _ (by simp)]; rfl) | (rw [World.cell?_alloc_past _ _ _ (by simp <;> omega), World.cell?_alloc_past _ _ _ (by simp <;> omega), World.cell?_alloc_at _ _ _ _ (by simp)]; rfl)
  have zz2 : (((w.alloc (.cells #[.int .i64 m.retries, .slice oa m.outs.length oc, .slice ba m.boxes.length bc, .slice ia m.images.length ic] 31)).alloc (.cells #[.int .i64 x.op, .slice x.wa x.wn x.wc, .string x.id, .int .i64 x.what, .string x.name, .int .i64 x.size, .int .i64 x.round, .slice x.ua x.un x.uc] 36)).alloc (.cells #[.int .i64 0, .slice none 0 0, .slice none 0 0, .slice none 0 0] 31)).cell? ⟨w.heap.size + 2, 2, none⟩ = some (.slice none 0 0) := by first | (simp; done) | (rw [World.cell?_alloc_at _ _ _ _ (by simp)]; rfl) | (rw [World.cell?_alloc_past _ _ _ (by simp <;> omega), World.cell?_alloc_at _ _ _ _ (by simp)]; rfl) | (rw [World.cell?_alloc_past _ _ _ (by simp <;> omega), World.cell?_alloc_past _ _ _ (by simp <;> omega), World.cell?_alloc_at _ _ _ _ (by simp)]; rfl)
  have zz3 : (((w.alloc (.cells #[.int .i64 m.retries, .slice oa m.outs.length oc, .slice ba m.boxes.length bc, .slice ia m.images.length ic] 31)).alloc (.cells #[.int .i64 x.op, .slice x.wa x.wn x.wc, .string x.id, .int .i64 x.what, .string x.name, .int .i64 x.size, .int .i64 x.round, .slice x.ua x.un x.uc] 36)).alloc (.cells #[.int .i64 0, .slice none 0 0, .slice none 0 0, .slice none 0 0] 31)).cell? ⟨w.heap.size + 2, 3, none⟩ = some (.slice none 0 0) := by first | (simp; done) | (rw [World.cell?_alloc_at _ _ _ _ (by simp)]; rfl) | (rw [World.cell?_alloc_past _ _ _ (by simp <;> omega), World.cell?_alloc_at _ _ _ _ (by simp)]; rfl) | (rw [World.cell?_alloc_past _ _ _ (by simp <;> omega), World.cell?_alloc_past _ _ _ (by simp <;> omega), World.cell?_alloc_at _ _ _ _ (by simp)]; rfl)
  have hb2 := (by repeat (first | exact hbel | refine belAlloc ?_ _ | refine belDrew ?_ | refine belSet ?_ _ _ (by simp)) : Below w.heap.size w (((w.alloc (.cells #[.int .i64 m.retries, .slice oa m.outs.length oc, .slice ba m.boxes.length bc, .slice ia m.images.length ic] 31)).alloc (.cells #[.int .i64 x.op, .slice x.wa x.wn x.wc, .string x.id, .int .i64 x.what, .string x.name, .int .i64 x.size, .int .i64 x.round, .slice x.ua x.un x.uc] 36)).alloc (.cells #[.int .i64 0, .slice none 0 0, .slice none 0 0, .slice none 0 0] 31)))
  replace hw := belStep hw hb2
  have ppB : Blk (((w.alloc (.cells #[.int .i64 m.retries, .slice oa m.outs.length oc, .slice ba m.boxes.length bc, .slice ia m.images.length ic] 31)).alloc (.cells #[.int .i64 x.op, .slice x.wa x.wn x.wc, .string x.id, .int .i64 x.what, .string x.name, .int .i64 x.size, .int .i64 x.round, .slice x.ua x.un x.uc] 36)).alloc (.cells #[.int .i64 0, .slice none 0 0, .slice none 0 0, .slice none 0 0] 31)) (w.heap.size) [.int .i64 m.retries, .slice oa m.outs.length oc, .slice ba m.boxes.length bc, .slice ia m.images.length ic] 31 := (Blk.at (by simp) : Blk (w.alloc (.cells #[.int .i64 m.retries, .slice oa m.outs.length oc, .slice ba m.boxes.length bc, .slice ia m.images.length ic] 31)) (w.heap.size) [.int .i64 m.retries, .slice oa m.outs.length oc, .slice ba m.boxes.length bc, .slice ia m.images.length ic] 31).later (by repeat (first | exact Below.refl _ _ | refine belAlloc ?_ _))
  have ppF := Blk.keepF ppB
  replace ppB := Blk.keepB ppB
  have aaB : Blk (((w.alloc (.cells #[.int .i64 m.retries, .slice oa m.outs.length oc, .slice ba m.boxes.length bc, .slice ia m.images.length ic] 31)).alloc (.cells #[.int .i64 x.op, .slice x.wa x.wn x.wc, .string x.id, .int .i64 x.what, .string x.name, .int .i64 x.size, .int .i64 x.round, .slice x.ua x.un x.uc] 36)).alloc (.cells #[.int .i64 0, .slice none 0 0, .slice none 0 0, .slice none 0 0] 31)) (w.heap.size + 1) [.int .i64 x.op, .slice x.wa x.wn x.wc, .string x.id, .int .i64 x.what, .string x.name, .int .i64 x.size, .int .i64 x.round, .slice x.ua x.un x.uc] 36 := (Blk.at (by simp) : Blk ((w.alloc (.cells #[.int .i64 m.retries, .slice oa m.outs.length oc, .slice ba m.boxes.length bc, .slice ia m.images.length ic] 31)).alloc (.cells #[.int .i64 x.op, .slice x.wa x.wn x.wc, .string x.id, .int .i64 x.what, .string x.name, .int .i64 x.size, .int .i64 x.round, .slice x.ua x.un x.uc] 36)) (w.heap.size + 1) [.int .i64 x.op, .slice x.wa x.wn x.wc, .string x.id, .int .i64 x.what, .string x.name, .int .i64 x.size, .int .i64 x.round, .slice x.ua x.un x.uc] 36).later (by repeat (first | exact Below.refl _ _ | refine belAlloc ?_ _))
  have aaF := Blk.keepF aaB
  replace aaB := Blk.keepB aaB
  have zzB : Blk (((w.alloc (.cells #[.int .i64 m.retries, .slice oa m.outs.length oc, .slice ba m.boxes.length bc, .slice ia m.images.length ic] 31)).alloc (.cells #[.int .i64 x.op, .slice x.wa x.wn x.wc, .string x.id, .int .i64 x.what, .string x.name, .int .i64 x.size, .int .i64 x.round, .slice x.ua x.un x.uc] 36)).alloc (.cells #[.int .i64 0, .slice none 0 0, .slice none 0 0, .slice none 0 0] 31)) (w.heap.size + 2) [.int .i64 0, .slice none 0 0, .slice none 0 0, .slice none 0 0] 31 := (Blk.at (by simp) : Blk (((w.alloc (.cells #[.int .i64 m.retries, .slice oa m.outs.length oc, .slice ba m.boxes.length bc, .slice ia m.images.length ic] 31)).alloc (.cells #[.int .i64 x.op, .slice x.wa x.wn x.wc, .string x.id, .int .i64 x.what, .string x.name, .int .i64 x.size, .int .i64 x.round, .slice x.ua x.un x.uc] 36)).alloc (.cells #[.int .i64 0, .slice none 0 0, .slice none 0 0, .slice none 0 0] 31)) (w.heap.size + 2) [.int .i64 0, .slice none 0 0, .slice none 0 0, .slice none 0 0] 31).later (by repeat (first | exact Below.refl _ _ | refine belAlloc ?_ _))
  have zzF := Blk.keepF zzB
  replace zzB := Blk.keepB zzB
  clear hb2 hbel
  generalize ((w.alloc (.cells #[.int .i64 m.retries, .slice oa m.outs.length oc, .slice ba m.boxes.length bc, .slice ia m.images.length ic] 31)).alloc (.cells #[.int .i64 x.op, .slice x.wa x.wn x.wc, .string x.id, .int .i64 x.what, .string x.name, .int .i64 x.size, .int .i64 x.round, .slice x.ua x.un x.uc] 36)).alloc (.cells #[.int .i64 0, .slice none 0 0, .slice none 0 0, .slice none 0 0] 31) = W1 at *
  replace pp0 := keep pp0
  replace pp1 := keep pp1
  replace pp2 := keep pp2
  replace pp3 := keep pp3
  replace aa0 := keep aa0
  replace aa1 := keep aa1
  replace aa2 := keep aa2
  replace aa3 := keep aa3
  replace aa4 := keep aa4
  replace aa5 := keep aa5
  replace aa6 := keep aa6
  replace aa7 := keep aa7
  replace zz0 := keep zz0
  replace zz1 := keep zz1
  replace zz2 := keep zz2
  replace zz3 := keep zz3
  have hbel : Below W1.heap.size W1 W1 := Below.refl _ _
  skip
  have HP := Lib.hid (ppB W1 (Below.refl _ _))
  have HA := Lib.hid (aaB W1 (Below.refl _ _))
  have HZ := Lib.hid (zzB W1 (Below.refl _ _))
  have HB := Lib.hid hw
  clear hw ppB aaB zzB
  obtain ⟨c, hc⟩ : ∃ c, askC m x.id x.what = c := ⟨_, rfl⟩
  obtain ⟨bb, hbb⟩ : ∃ c, askB m x.id x.what = c := ⟨_, rfl⟩
  obtain ⟨K, hK⟩ : ∃ k, askW m x.id x.what x.round = k := ⟨_, rfl⟩
  have CR := Lib.hid (fun G v u (h : RIs G u v m) (hG : ∀ b ∈ G, b < u.heap.size) => r16_Ask x.id x.what x.round G v m u h hG n HG.out hn)
  have CW := Lib.hid (fun u (h : WAt u M M F m) => wd_Ask M M F m x.id x.what x.round u h HG.out.rises (Nat.le_trans HG.out.len hn) (fun y hy => (HG.out.ok y hy).1) hwh)
  rw [hc, hbb, hK] at CR CW
  rw [hK] at HE
  clear hc hbb hK
  have hz2 : w.heap.size ≤ w.heap.size + 1 + 1 := by omega
  have hw0 : w0.heap.size ≤ w.heap.size + 1 + 1 := by have := HB0.out.size; omega
  have hlt := HZ.out.lt
  have HV1 := Lib.hid (show RIs (((w.heap.size + 1 + 1) :: X) ++ F) W1 _ m from ((HV.out.more (G := ((w.heap.size + 1 + 1) :: X) ++ F) (fun b hb => by rcases List.mem_append.1 hb with q | q; rcases List.mem_cons.1 q with q | q; subst q; exact .inr (by omega); exact .inl (List.mem_append_left F q); exact .inl (List.mem_append_right X q))).later HB.out))
  have HF1 := Lib.hid (show ∀ b ∈ ((w.heap.size + 1 + 1) :: X) ++ F, b < W1.heap.size from fun b hb => by rcases List.mem_append.1 hb with q | q; rcases List.mem_cons.1 q with q | q; subst q; exact hlt; exact Nat.lt_of_lt_of_le (HXS.out b q) HB.out.size; exact Nat.lt_of_lt_of_le (HFL.out b q) HB.out.size)
  go_upto_region 9 with (go_at_call 60; (with_reducible refine (CR.out _ _ _ HV1.out HF1.out).mono ?_); rintro e w4 ⟨v4, rfl, hR4, hb4⟩; have HV4 := Lib.hid hR4; obtain ⟨oa1, oc1, ba1, bc1, ia1, ic1, rfl, hO1, hL1, hI1, hN1⟩ := hR4; have hbo1 := hO1.2; have hbb1 := hL1.2; have hbi1 := hI1.2; have HRI1 := Lib.hid hI1; clear hO1 hL1 hI1 hN1; have HB4 := Lib.hid hb4; clear hb4)
  have k4 : Below w4.heap.size w4 (w4.alloc (.cells #[.int .i64 K.retries, .slice oa1 K.outs.length oc1, .slice ba1 K.boxes.length bc1, .slice ia1 K.images.length ic1] 31)) := belAlloc (Below.refl _ _) _
  have HX8 := Lib.hid (Blk.new w4 [.int .i64 K.retries, .slice oa1 K.outs.length oc1, .slice ba1 K.boxes.length bc1, .slice ia1 K.images.length ic1] 31)
  have HV8 := Lib.hid (HV4.out.later k4)
  have HB8 := Lib.hid (belStep HB4.out k4)
  have hxw : w.heap.size ≤ w4.heap.size := Nat.le_trans HB.out.size HB4.out.size
  have hbel8 : Below w.heap.size w (w4.alloc (.cells #[.int .i64 K.retries, .slice oa1 K.outs.length oc1, .slice ba1 K.boxes.length bc1, .slice ia1 K.images.length ic1] 31)) := belStep HB.out (belStep HB4.out k4)
  clear hbel pp0 pp1 pp2 pp3 aa0 aa1 aa2 aa3 aa4 aa5 aa6 aa7 zz0 zz1 zz2 zz3 ppF aaF zzF k4
  generalize w4.alloc (.cells #[.int .i64 K.retries, .slice oa1 K.outs.length oc1, .slice ba1 K.boxes.length bc1, .slice ia1 K.images.length ic1] 31) = W8 at *
  generalize w4.heap.size = xb at *
  have HA8 := Lib.hid (HA.out.later HB8.out)
  have HZ8 := Lib.hid (HZ.out.later HB8.out)
  have HW8 := Lib.hid (HW.out.later hbel8)
  have HB9 := Lib.hid (belStep HB0.out hbel8)
  clear CR HV1 HF1 HV4
  have a2 := HA8.out.cell (j := 2) rfl
  have a3 := HA8.out.cell (j := 3) rfl
  have a6 := HA8.out.cell (j := 6) rfl
  go_upto_region 10 with (go_at_call 26; (with_reducible refine (CW.out _ HW8.out).mono ?_); rintro e WQ ⟨rfl, hT⟩; have hj := jw_runX HW8.out HV8.out HB9.out HMM.out hT; obtain ⟨G, g1, g2, g3, g4, g5, g6⟩ := hj; have HG1 := Lib.hid g1; have HG2 := Lib.hid g2; have HG3 := Lib.hid g3; have HG6 := Lib.hid g6; have HG5 := Lib.hid ((Apart.of_below (F := F) hbel8).trans g5); have HG7 := Lib.hid (show ∀ b ∈ G, b ∈ F ∨ w.heap.size ≤ b from fun b hb => (g6 b hb).imp id (fun r => Nat.le_trans (hbel8).size r)); have HXq := Lib.hid (HX8.out.apart g5 (fun q => absurd (HFL.out _ q) (by omega))); have HAq := Lib.hid (HA8.out.apart g5 (fun q => absurd (HFL.out _ q) (by omega))); have HZq := Lib.hid (HZ8.out.apart g5 (fun q => absurd (HFL.out _ q) (by omega))); clear hT g1 g2 g3 g4 g5 g6)
  clear a2 a3 a6
  have z0 := HZq.out.cell (j := 0) rfl
  have z1 := HZq.out.cell (j := 1) rfl
  have z2 := HZq.out.cell (j := 2) rfl
  have z3 := HZq.out.cell (j := 3) rfl
  have zf := HZq.out.frozen
  have x0 := HXq.out.cell (j := 0) rfl
  have x1 := HXq.out.cell (j := 1) rfl
  have x2 := HXq.out.cell (j := 2) rfl
  have x3 := HXq.out.cell (j := 3) rfl
  go_wp2
  have hfa := Lib.hid (((((Apart.refl (((w.heap.size + 1 + 1) :: X) ++ G) WQ).set ⟨w.heap.size + 1 + 1, 0, none⟩ (.int .i64 K.retries) (by simp)).set ⟨w.heap.size + 1 + 1, 1, none⟩ (.slice oa1 K.outs.length oc1) (by simp)).set ⟨w.heap.size + 1 + 1, 2, none⟩ (.slice ba1 K.boxes.length bc1) (by simp)).set ⟨w.heap.size + 1 + 1, 3, none⟩ (.slice ia1 K.images.length ic1) (by simp))
  have hnz : w.heap.size + 1 + 1 ∉ G := fun q => (HG6.out _ q).elim (fun r => absurd (HFL.out _ r) (by omega)) (fun r => by have h7 := HZ8.out.lt; omega)
  refine does_ret _ (w.heap.size + 1 + 1) _ _ oa1 _ oc1 ba1 _ bc1 ia1 _ ic1 true _ rfl rfl ((((HZq.out.set 0 (.int .i64 K.retries)).set 1 (.slice oa1 K.outs.length oc1)).set 2 (.slice ba1 K.boxes.length bc1)).set 3 (.slice ia1 K.images.length ic1)) ⟨_, rfl, ?_⟩
  rw [HE.out]
  have h9 := HG2.out.apart hfa.out
  refine ⟨G, HG1.out.same (fun b hb => ?_), h9.more (fun b hb => .inl (List.mem_cons_of_mem _ hb)), ?_, HMM.out, ?_, HG7.out⟩
  · exact (show Apart [w.heap.size + 1 + 1] WQ _ from (((((Apart.refl [w.heap.size + 1 + 1] WQ).set ⟨w.heap.size + 1 + 1, 0, none⟩ (.int .i64 K.retries) (by simp)).set ⟨w.heap.size + 1 + 1, 1, none⟩ (.slice oa1 K.outs.length oc1) (by simp)).set ⟨w.heap.size + 1 + 1, 2, none⟩ (.slice ba1 K.boxes.length bc1) (by simp)).set ⟨w.heap.size + 1 + 1, 3, none⟩ (.slice ia1 K.images.length ic1) (by simp))).block b (HG1.out.foot_lt b hb).2 (fun q => by simp only [List.mem_singleton] at q; subst q; exact hnz hb)
  · exact (belSet (belSet (belSet (belSet HG3.out ⟨w.heap.size + 1 + 1, 0, none⟩ (.int .i64 K.retries) hw0) ⟨w.heap.size + 1 + 1, 1, none⟩ (.slice oa1 K.outs.length oc1) hw0) ⟨w.heap.size + 1 + 1, 2, none⟩ (.slice ba1 K.boxes.length bc1) hw0) ⟨w.heap.size + 1 + 1, 3, none⟩ (.slice ia1 K.images.length ic1) hw0)
  · exact ((((HG5.out.setNew ⟨w.heap.size + 1 + 1, 0, none⟩ (.int .i64 K.retries) hz2).setNew ⟨w.heap.size + 1 + 1, 1, none⟩ (.slice oa1 K.outs.length oc1) hz2).setNew ⟨w.heap.size + 1 + 1, 2, none⟩ (.slice ba1 K.boxes.length bc1) hz2).setNew ⟨w.heap.size + 1 + 1, 3, none⟩ (.slice ia1 K.images.length ic1) hz2)
end Go.Proofs.Ytcnjcldfbidkmaa
namespace Go.Proofs.Ytcnjcldfbidkmaa
open Go.RowKit Go.Sort
set_option linter.unusedVariables false
set_option linter.unusedSimpArgs false
set_option maxRecDepth 100000 in
set_option maxHeartbeats 32000000 in
theorem does_3 (w0 : World) (M n : Nat) (m : WorldV) (v : Value) (x : ActW) (w : World) (X F : List Nat) (hXs : ∀ b ∈ X, b < w.heap.size) (hW : WAt w M M F m) (hR : RIs (X ++ F) w v m) (hB0 : Below w0.heap.size w0 w) (hM : w0.heap.size ≤ M) (hg : m.Good n) (hn : n ≤ 100000) (hop : x.op = 3) :
    Calls Try.prog 19 #[.pointer (some ⟨M, 0, none⟩), v, .agg #[.int .i64 x.op, .slice x.wa x.wn x.wc, .string x.id, .int .i64 x.what, .string x.name, .int .i64 x.size, .int .i64 x.round, .slice x.ua x.un x.uc]] w fun e w' => ∃ v', e = .returned (.tuple #[v', .bool true]) ∧ JX w0 w w' M X F (stepW m x) v' := by
  have HG := Lib.hid hg
  clear hg
  have HXS := Lib.hid hXs
  clear hXs
  have HW := Lib.hid hW
  have HV := Lib.hid hR
  have HB0 := Lib.hid hB0
  have HMM := Lib.hid hM
  have HFL := Lib.hid (fun b hb => (hW.foot_lt b hb).2)
  obtain ⟨oa, oc, ba, bc, ia, ic, rfl, hO, hL, hI, _⟩ := hR
  have hbo : m.outs.length ≤ oc ∧ oc ≤ 9223372036854775807 := by obtain ⟨_, h1, h2, _⟩ := hO; unfold maxLen at h2; exact ⟨h1, h2⟩
  obtain ⟨hbo1, hbo2⟩ := hbo
  have hbb : m.boxes.length ≤ bc ∧ bc ≤ 9223372036854775807 := by obtain ⟨_, h1, h2, _⟩ := hL; unfold maxLen at h2; exact ⟨h1, h2⟩
  obtain ⟨hbb1, hbb2⟩ := hbb
  have hbi : m.images.length ≤ ic ∧ ic ≤ 9223372036854775807 := by obtain ⟨_, h1, h2, _⟩ := hI; unfold maxLen at h2; exact ⟨h1, h2⟩
  obtain ⟨hbi1, hbi2⟩ := hbi
  clear hW hB0 hM hO hL hI
  have d0 : (x.op == (0 : Int)) = false := by rw [hop]; rfl
  have d1 : (x.op == (1 : Int)) = false := by rw [hop]; rfl
  have d2 : (x.op == (2 : Int)) = false := by rw [hop]; rfl
  have d3 : (x.op == (3 : Int)) = true := by rw [hop]; rfl
  have hw : Below w.heap.size w w := Below.refl _ _
  have hbel := hw
  have HE := Lib.hid (show stepW m x = pullW m x.id x.name x.size x.round by unfold stepW; rw [if_neg (by omega), if_neg (by omega), if_neg (by omega), if_pos hop])
  clear hop
  go_enter Try.func19, Try.ntmps19
  go_upto_region 1 with fail
  have pp0 : (((w.alloc (.cells #[.int .i64 m.retries, .slice oa m.outs.length oc, .slice ba m.boxes.length bc, .slice ia m.images.length ic] 31)).alloc (.cells #[.int .i64 x.op, .slice x.wa x.wn x.wc, .string x.id, .int .i64 x.what, .string x.name, .int .i64 x.size, .int .i64 x.round, .slice x.ua x.un x.uc] 36)).alloc (.cells #[.int .i64 0, .slice none 0 0, .slice none 0 0, .slice none 0 0] 31)).cell? ⟨w.heap.size, 0, none⟩ = some (.int .i64 m.retries) := by first | (simp; done) | (rw [World.cell?_alloc_at _ _ _ _ (by simp)]; rfl) | (rw [World.cell?_alloc_past _ _ _ (by simp <;> omega), World.cell?_alloc_at _ _ _ _ (by simp)]; rfl) | (rw [World.cell?_alloc_past _ _ _ (by simp <;> omega), World.cell?_alloc_past _ _ _ (by simp <;> omega), World.cell?_alloc_at _ _ _ _ (by simp)]; rfl)
  have pp1 : (((w.alloc (.cells #[.int .i64 m.retries, .slice oa m.outs.length oc, .slice ba m.boxes.length bc, .slice ia m.images.length ic] 31)).alloc (.cells #[.int .i64 x.op, .slice x.wa x.wn x.wc, .string x.id, .int .i64 x.what, .string x.name, .int .i64 x.size, .int .i64 x.round, .slice x.ua x.un x.uc] 36)).alloc (.cells #[.int .i64 0, .slice none 0 0, .slice none 0 0, .slice none 0 0] 31)).cell? ⟨w.heap.size, 1, none⟩ = some (.slice oa m.outs.length oc) := by first | (simp; done) | (rw [World.cell?_alloc_at _ _ _ _ (by simp)]; rfl) | (rw [World.cell?_alloc_past _ _ _ (by simp <;> omega), World.cell?_alloc_at _ _ _ _ (by simp)]; rfl) | (rw [World.cell?_alloc_past _ _ _ (by simp <;> omega), World.cell?_alloc_past _ _ _ (by simp <;> omega), World.cell?_alloc_at _ _ _ _ (by simp)]; rfl)
  have pp2 : (((w.alloc (.cells #[.int .i64 m.retries, .slice oa m.outs.length oc, .slice ba m.boxes.length bc, .slice ia m.images.length ic] 31)).alloc (.cells #[.int .i64 x.op, .slice x.wa x.wn x.wc, .string x.id, .int .i64 x.what, .string x.name, .int .i64 x.size, .int .i64 x.round, .slice x.ua x.un x.uc] 36)).alloc (.cells #[.int .i64 0, .slice none 0 0, .slice none 0 0, .slice none 0 0] 31)).cell? ⟨w.heap.size, 2, none⟩ = some (.slice ba m.boxes.length bc) := by first | (simp; done) | (rw [World.cell?_alloc_at _ _ _ _ (by simp)]; rfl) | (rw [World.cell?_alloc_past _ _ _ (by simp <;> omega), World.cell?_alloc_at _ _ _ _ (by simp)]; rfl) | (rw [World.cell?_alloc_past _ _ _ (by simp <;> omega), World.cell?_alloc_past _ _ _ (by simp <;> omega), World.cell?_alloc_at _ _ _ _ (by simp)]; rfl)
  have pp3 : (((w.alloc (.cells #[.int .i64 m.retries, .slice oa m.outs.length oc, .slice ba m.boxes.length bc, .slice ia m.images.length ic] 31)).alloc (.cells #[.int .i64 x.op, .slice x.wa x.wn x.wc, .string x.id, .int .i64 x.what, .string x.name, .int .i64 x.size, .int .i64 x.round, .slice x.ua x.un x.uc] 36)).alloc (.cells #[.int .i64 0, .slice none 0 0, .slice none 0 0, .slice none 0 0] 31)).cell? ⟨w.heap.size, 3, none⟩ = some (.slice ia m.images.length ic) := by first | (simp; done) | (rw [World.cell?_alloc_at _ _ _ _ (by simp)]; rfl) | (rw [World.cell?_alloc_past _ _ _ (by simp <;> omega), World.cell?_alloc_at _ _ _ _ (by simp)]; rfl) | (rw [World.cell?_alloc_past _ _ _ (by simp <;> omega), World.cell?_alloc_past _ _ _ (by simp <;> omega), World.cell?_alloc_at _ _ _ _ (by simp)]; rfl)
  have aa0 : (((w.alloc (.cells #[.int .i64 m.retries, .slice oa m.outs.length oc, .slice ba m.boxes.length bc, .slice ia m.images.length ic] 31)).alloc (.cells #[.int .i64 x.op, .slice x.wa x.wn x.wc, .string x.id, .int .i64 x.what, .string x.name, .int .i64 x.size, .int .i64 x.round, .slice x.ua x.un x.uc] 36)).alloc (.cells #[.int .i64 0, .slice none 0 0, .slice none 0 0, .slice none 0 0] 31)).cell? ⟨w.heap.size + 1, 0, none⟩ = some (.int .i64 x.op) := by first | (simp; done) | (rw [World.cell?_alloc_at _ _ _ _ (by simp)]; rfl) | (rw [World.cell?_alloc_past _ _ _ (by simp <;> omega), World.cell?_alloc_at _ _ _ _ (by simp)]; rfl) | (rw [World.cell?_alloc_past _ _ _ (by simp <;> omega), World.cell?_alloc_past _ _ _ (by simp <;> omega), World.cell?_alloc_at _ _ _ _ (by simp)]; rfl)
  have aa1 : (((w.alloc (.cells #[.int .i64 m.retries, .slice oa m.outs.length oc, .slice ba m.boxes.length bc, .slice ia m.images.length ic] 31)).alloc (.cells #[.int .i64 x.op, .slice x.wa x.wn x.wc, .string x.id, .int .i64 x.what, .string x.name, .int .i64 x.size, .int .i64 x.round, .slice x.ua x.un x.uc] 36)).alloc (.cells #[.int .i64 0, .slice none 0 0, .slice none 0 0, .slice none 0 0] 31)).cell? ⟨w.heap.size + 1, 1, none⟩ = some (.slice x.wa x.wn x.wc) := by first | (simp; done) | (rw [World.cell?_alloc_at _ _ _ _ (by simp)]; rfl) | (rw [World.cell?_alloc_past _ _ _ (by simp <;> omega), World.cell?_alloc_at _ _ _ _ (by simp)]; rfl) | (rw [World.cell?_alloc_past _ _ _ (by simp <;> omega), World.cell?_alloc_past _ _ _ (by simp <;> omega), World.cell?_alloc_at _ _ _ _ (by simp)]; rfl)
  have aa2 : (((w.alloc (.cells #[.int .i64 m.retries, .slice oa m.outs.length oc, .slice ba m.boxes.length bc, .slice ia m.images.length ic] 31)).alloc (.cells #[.int .i64 x.op, .slice x.wa x.wn x.wc, .string x.id, .int .i64 x.what, .string x.name, .int .i64 x.size, .int .i64 x.round, .slice x.ua x.un x.uc] 36)).alloc (.cells #[.int .i64 0, .slice none 0 0, .slice none 0 0, .slice none 0 0] 31)).cell? ⟨w.heap.size + 1, 2, none⟩ = some (.string x.id) := by first | (simp; done) | (rw [World.cell?_alloc_at _ _ _ _ (by simp)]; rfl) | (rw [World.cell?_alloc_past _ _ _ (by simp <;> omega), World.cell?_alloc_at _ _ _ _ (by simp)]; rfl) | (rw [World.cell?_alloc_past _ _ _ (by simp <;> omega), World.cell?_alloc_past _ _ _ (by simp <;> omega), World.cell?_alloc_at _ _ _ _ (by simp)]; rfl)
  have aa3 : (((w.alloc (.cells #[.int .i64 m.retries, .slice oa m.outs.length oc, .slice ba m.boxes.length bc, .slice ia m.images.length ic] 31)).alloc (.cells #[.int .i64 x.op, .slice x.wa x.wn x.wc, .string x.id, .int .i64 x.what, .string x.name, .int .i64 x.size, .int .i64 x.round, .slice x.ua x.un x.uc] 36)).alloc (.cells #[.int .i64 0, .slice none 0 0, .slice none 0 0, .slice none 0 0] 31)).cell? ⟨w.heap.size + 1, 3, none⟩ = some (.int .i64 x.what) := by first | (simp; done) | (rw [World.cell?_alloc_at _ _ _ _ (by simp)]; rfl) | (rw [World.cell?_alloc_past _ _ _ (by simp <;> omega), World.cell?_alloc_at _ _ _ _ (by simp)]; rfl) | (rw [World.cell?_alloc_past _ _ _ (by simp <;> omega), World.cell?_alloc_past _ _ _ (by simp <;> omega), World.cell?_alloc_at _ _ _ _ (by simp)]; rfl)
  have aa4 : (((w.alloc (.cells #[.int .i64 m.retries, .slice oa m.outs.length oc, .slice ba m.boxes.length bc, .slice ia m.images.length ic] 31)).alloc (.cells #[.int .i64 x.op, .slice x.wa x.wn x.wc, .string x.id, .int .i64 x.what, .string x.name, .int .i64 x.size, .int .i64 x.round, .slice x.ua x.un x.uc] 36)).alloc (.cells #[.int .i64 0, .slice none 0 0, .slice none 0 0, .slice none 0 0] 31)).cell? ⟨w.heap.size + 1, 4, none⟩ = some (.string x.name) := by first | (simp; done) | (rw [World.cell?_alloc_at _ _ _ _ (by simp)]; rfl) | (rw [World.cell?_alloc_past _ _ _ (by simp <;> omega), World.cell?_alloc_at _ _ _ _ (by simp)]; rfl) | (rw [World.cell?_alloc_past _ _ _ (by simp <;> omega), World.cell?_alloc_past _ _ _ (by simp <;> omega), World.cell?_alloc_at _ _ _ _ (by simp)]; rfl)
  have aa5 : (((w.alloc (.cells #[.int .i64 m.retries, .slice oa m.outs.length oc, .slice ba m.boxes.length bc, .slice ia m.images.length ic] 31)).alloc (.cells #[.int .i64 x.op, .slice x.wa x.wn x.wc, .string x.id, .int .i64 x.what, .string x.name, .int .i64 x.size, .int .i64 x.round, .slice x.ua x.un x.uc] 36)).alloc (.cells #[.int .i64 0, .slice none 0 0, .slice none 0 0, .slice none 0 0] 31)).cell? ⟨w.heap.size + 1, 5, none⟩ = some (.int .i64 x.size) := by first | (simp; done) | (rw [World.cell?_alloc_at _ _ _ _ (by simp)]; rfl) | (rw [World.cell?_alloc_past _ _ _ (by simp <;> omega), World.cell?_alloc_at _ _ _ _ (by simp)]; rfl) | (rw [World.cell?_alloc_past _ _ _ (by simp <;> omega), World.cell?_alloc_past _ _ _ (by simp <;> omega), World.cell?_alloc_at _ _ _ _ (by simp)]; rfl)
  have aa6 : (((w.alloc (.cells #[.int .i64 m.retries, .slice oa m.outs.length oc, .slice ba m.boxes.length bc, .slice ia m.images.length ic] 31)).alloc (.cells #[.int .i64 x.op, .slice x.wa x.wn x.wc, .string x.id, .int .i64 x.what, .string x.name, .int .i64 x.size, .int .i64 x.round, .slice x.ua x.un x.uc] 36)).alloc (.cells #[.int .i64 0, .slice none 0 0, .slice none 0 0, .slice none 0 0] 31)).cell? ⟨w.heap.size + 1, 6, none⟩ = some (.int .i64 x.round) := by first | (simp; done) | (rw [World.cell?_alloc_at _ _ _ _ (by simp)]; rfl) | (rw [World.cell?_alloc_past _ _ _ (by simp <;> omega), World.cell?_alloc_at _ _ _ _ (by simp)]; rfl) | (rw [World.cell?_alloc_past _ _ _ (by simp <;> omega), World.cell?_alloc_past _ _ _ (by simp <;> omega), World.cell?_alloc_at _ _ _ _ (by simp)]; rfl)
  have aa7 : (((w.alloc (.cells #[.int .i64 m.retries, .slice oa m.outs.length oc, .slice ba m.boxes.length bc, .slice ia m.images.length ic] 31)).alloc (.cells #[.int .i64 x.op, .slice x.wa x.wn x.wc, .string x.id, .int .i64 x.what, .string x.name, .int .i64 x.size, .int .i64 x.round, .slice x.ua x.un x.uc] 36)).alloc (.cells #[.int .i64 0, .slice none 0 0, .slice none 0 0, .slice none 0 0] 31)).cell? ⟨w.heap.size + 1, 7, none⟩ = some (.slice x.ua x.un x.uc) := by first | (simp; done) | (rw [World.cell?_alloc_at _ _ _ _ (by simp)]; rfl) | (rw [World.cell?_alloc_past _ _ _ (by simp <;> omega), World.cell?_alloc_at _ _ _ _ (by simp)]; rfl) | (rw [World.cell?_alloc_past _ _ _ (by simp <;> omega), World.cell?_alloc_past _ _ _ (by simp <;> omega), World.cell?_alloc_at _ _ _ _ (by simp)]; rfl)
  have zz0 : (((w.alloc (.cells #[.int .i64 m.retries, .slice oa m.outs.length oc, .slice ba m.boxes.length bc, .slice ia m.images.length ic] 31)).alloc (.cells #[.int .i64 x.op, .slice x.wa x.wn x.wc, .string x.id, .int .i64 x.what, .string x.name, .int .i64 x.size, .int .i64 x.round, .slice x.ua x.un x.uc] 36)).alloc (.cells #[.int .i64 0, .slice none 0 0, .slice none 0 0, .slice none 0 0] 31)).cell? ⟨w.heap.size + 2, 0, none⟩ = some (.int .i64 0) := by first | (simp; done) | (rw [World.cell?_alloc_at _ _ _ _ (by simp)]; rfl) | (rw [World.cell?_alloc_past _ _ _ (by simp <;> omega), World.cell?_alloc_at _ _ _ _ (by simp)]; rfl) | (rw [World.cell?_alloc_past _ _ _ (by simp <;> omega), World.cell?_alloc_past _ _ _ (by simp <;> omega), World.cell?_alloc_at _ _ _ _ (by simp)]; rfl)
  have zz1 : (((w.alloc (.cells #[.int .i64 m.retries, .slice oa m.outs.length oc, .slice ba m.boxes.length bc, .slice ia m.images.length ic] 31)).alloc (.cells #[.int .i64 x.op, .slice x.wa x.wn x.wc, .string x.id, .int .i64 x.what, .string x.name, .int .i64 x.size, .int .i64 x.round, .slice x.ua x.un x.uc] 36)).alloc (.cells #[.int .i64 0, .slice none 0 0, .slice none 0 0, .slice none 0 0] 31)).cell? ⟨w.heap.size + 2, 1, none⟩ = some (.slice none 0 0) := by first | (simp; done) | (rw [World.cell?_alloc_at _ _ _ _ (by simp)]; rfl) | (rw [World.cell?_alloc_past _ _ _ (by simp <;> omega), World.cell?_alloc_at _ _ _ _ (by simp)]; rfl) | (rw [World.cell?_alloc_past _ _ _ (by simp <;> omega), World.cell?_alloc_past _ _ _ (by simp <;> omega), World.cell?_alloc_at _ _ _ _ (by simp)]; rfl)
  have zz2 : (((w.alloc (.cells #[.int .i64 m.retries, .slice oa m.outs.length oc, .slice ba m.boxes.length bc, .slice ia m.images.length ic] 31)).alloc (.cells #[.int .i64 x.op, .slice x.wa x.wn x.wc, .string x.id, .int .i64 x.what, .string x.name, .int .i64 x.size, .int .i64 x.round, .slice x.ua x.un x.uc] 36)).alloc (.cells #[.int .i64 0, .slice none 0 0, .slice none 0 0, .slice none 0 0] 31)).cell? ⟨w.heap.size + 2, 2, none⟩ = some (.slice none 0 0) := by first | (simp; done) | (rw [World.cell?_alloc_at _ _ _ _ (by simp)]; rfl) | (rw [World.cell?_alloc_past _ _ _ (by simp <;> omega), World.cell?_alloc_at _ _ _ _ (by simp)]; rfl) | (rw [World.cell?_alloc_past _ _ _ (by simp <;> omega), World.cell?_alloc_past _ _ _ (by simp <;> omega), World.cell?_alloc_at _ _ _ _ (by simp)]; rfl)
  have zz3 : (((w.alloc (.cells #[.int .i64 m.retries, .slice oa m.outs.length oc, .slice ba m.boxes.length bc, .slice ia m.images.length ic] 31)).alloc (.cells #[.int .i64 x.op, .slice x.wa x.wn x.wc, .string x.id, .int .i64 x.what, .string x.name, .int .i64 x.size, .int .i64 x.round, .slice x.ua x.un x.uc] 36)).alloc (.cells #[.int .i64 0, .slice none 0 0, .slice none 0 0, .slice none 0 0] 31)).cell? ⟨w.heap.size + 2, 3, none⟩ = some (.slice none 0 0) := by first | (simp; done) | (rw [World.cell?_alloc_at _ _ _ _ (by simp)]; rfl) | (rw [World.cell?_alloc_past _ _ _ (by simp <;> omega), World.cell?_alloc_at _ _ _ _ (by simp)]; rfl) | (rw [World.cell?_alloc_past _ _ _ (by simp <;> omega), World.cell?_alloc_past _ _ _ (by simp <;> omega), World.cell?_alloc_at _ _ _ _ (by simp)]; rfl)
  have hb2 := (by repeat (first | exact hbel | refine belAlloc ?_ _ | refine belDrew ?_ | refine belSet ?_ _ _ (by simp)) : Below w.heap.size w (((w.alloc (.cells #[.int .i64 m.retries, .slice oa m.outs.length oc, .slice ba m.boxes.length bc, .slice ia m.images.length ic] 31)).alloc (.cells #[.int .i64 x.op, .slice x.wa x.wn x.wc, .string x.id, .int .i64 x.what, .string x.name, .int .i64 x.size, .int .i64 x.round, .slice x.ua x.un x.uc] 36)).alloc (.cells #[.int .i64 0, .slice none 0 0, .slice none 0 0, .slice none 0 0] 31)))
  replace hw := belStep hw hb2
  have ppB : Blk (((w.alloc (.cells #[.int .i64 m.retries, .slice oa m.outs.length oc, .slice ba m.boxes.length bc, .slice ia m.images.length ic] 31)).alloc (.cells #[.int .i64 x.op, .slice x.wa x.wn x.wc, .string x.id, .int .i64 x.what, .string x.name, .int .i64 x.size, .int .i64 x.round, .slice x.ua x.un x.uc] 36)).alloc (.cells #[.int .i64 0, .slice none 0 0, .slice none 0 0, .slice none 0 0] 31)) (w.heap.size) [.int .i64 m.retries, .slice oa m.outs.length oc, .slice ba m.boxes.length bc, .slice ia m.images.length ic] 31 := (Blk.at (by simp) : Blk (w.alloc (.cells #[.int .i64 m.retries, .slice oa m.outs.length oc, .slice ba m.boxes.length bc, .slice ia m.images.length ic] 31)) (w.heap.size) [.int .i64 m.retries, .slice oa m.outs.length oc, .slice ba m.boxes.length bc, .slice ia m.images.length ic] 31).later (by repeat (first | exact Below.refl _ _ | refine belAlloc ?_ _))
  have ppF := Blk.keepF ppB
  replace ppB := Blk.keepB ppB
  have aaB : Blk (((w.alloc (.cells #[.int .i64 m.retries, .slice oa m.outs.length oc, .slice ba m.boxes.length bc, .slice ia m.images.length ic] 31)).alloc (.cells #[.int .i64 x.op, .slice x.wa x.wn x.wc, .string x.id, .int .i64 x.what, .string x.name, .int .i64 x.size, .int .i64 x.round, .slice x.ua x.un x.uc] 36)).alloc (.cells #[.int .i64 0, .slice none 0 0, .slice none 0 0, .slice none 0 0] 31)) (w.heap.size + 1) [.int .i64 x.op, .slice x.wa x.wn x.wc, .string x.id, .int .i64 x.what, .string x.name, .int .i64 x.size, .int .i64 x.round, .slice x.ua x.un x.uc] 36 := (Blk.at (by simp) : Blk ((w.alloc (.cells #[.int .i64 m.retries, .slice oa m.outs.length oc, .slice ba m.boxes.length bc, .slice ia m.images.length ic] 31)).alloc (.cells #[.int .i64 x.op, .slice x.wa x.wn x.wc, .string x.id, .int .i64 x.what, .string x.name, .int .i64 x.size, .int .i64 x.round, .slice x.ua x.un x.uc] 36)) (w.heap.size + 1) [.int .i64 x.op, .slice x.wa x.wn x.wc, .string x.id, .int .i64 x.what, .string x.name, .int .i64 x.size, .int .i64 x.round, .slice x.ua x.un x.uc] 36).later (by repeat (first | exact Below.refl _ _ | refine belAlloc ?_ _))
  have aaF := Blk.keepF aaB
  replace aaB := Blk.keepB aaB
  have zzB : Blk (((w.alloc (.cells #[.int .i64 m.retries, .slice oa m.outs.length oc, .slice ba m.boxes.length bc, .slice ia m.images.length ic] 31)).alloc (.cells #[.int .i64 x.op, .slice x.wa x.wn x.wc, .string x.id, .int .i64 x.what, .string x.name, .int .i64 x.size, .int .i64 x.round, .slice x.ua x.un x.uc] 36)).alloc (.cells #[.int .i64 0, .slice none 0 0, .slice none 0 0, .slice none 0 0] 31)) (w.heap.size + 2) [.int .i64 0, .slice none 0 0, .slice none 0 0, .slice none 0 0] 31 := (Blk.at (by simp) : Blk (((w.alloc (.cells #[.int .i64 m.retries, .slice oa m.outs.length oc, .slice ba m.boxes.length bc, .slice ia m.images.length ic] 31)).alloc (.cells #[.int .i64 x.op, .slice x.wa x.wn x.wc, .string x.id, .int .i64 x.what, .string x.name, .int .i64 x.size, .int .i64 x.round, .slice x.ua x.un x.uc] 36)).alloc (.cells #[.int .i64 0, .slice none 0 0, .slice none 0 0, .slice none 0 0] 31)) (w.heap.size + 2) [.int .i64 0, .slice none 0 0, .slice none 0 0, .slice none 0 0] 31).later (by repeat (first | exact Below.refl _ _ | refine belAlloc ?_ _))
  have zzF := Blk.keepF zzB
  replace zzB := Blk.keepB zzB
  clear hb2 hbel
  generalize ((w.alloc (.cells #[.int .i64 m.retries, .slice oa m.outs.length oc, .slice ba m.boxes.length bc, .slice ia m.images.length ic] 31)).alloc (.cells #[.int .i64 x.op, .slice x.wa x.wn x.wc, .string x.id, .int .i64 x.what, .string x.name, .int .i64 x.size, .int .i64 x.round, .slice x.ua x.un x.uc] 36)).alloc (.cells #[.int .i64 0, .slice none 0 0, .slice none 0 0, .slice none 0 0] 31) = W1 at *
  replace pp0 := keep pp0
  replace pp1 := keep pp1
  replace pp2 := keep pp2
  replace pp3 := keep pp3
  replace aa0 := keep aa0
  replace aa1 := keep aa1
  replace aa2 := keep aa2
  replace aa3 := keep aa3
  replace aa4 := keep aa4
  replace aa5 := keep aa5
  replace aa6 := keep aa6
  replace aa7 := keep aa7
  replace zz0 := keep zz0
  replace zz1 := keep zz1
  replace zz2 := keep zz2
  replace zz3 := keep zz3
  have hbel : Below W1.heap.size W1 W1 := Below.refl _ _
  skip
  have HP := Lib.hid (ppB W1 (Below.refl _ _))
  have HA := Lib.hid (aaB W1 (Below.refl _ _))
  have HZ := Lib.hid (zzB W1 (Below.refl _ _))
  have HB := Lib.hid hw
  clear hw ppB aaB zzB
  obtain ⟨c, hc⟩ : ∃ c, mayC m.boxes x.id 1 = c := ⟨_, rfl⟩
  obtain ⟨bb, hbb⟩ : ∃ c, pullB m x.id x.name = c := ⟨_, rfl⟩
  obtain ⟨b2, hb2⟩ : ∃ c, pullN m x.id x.name = c := ⟨_, rfl⟩
  obtain ⟨K, hK⟩ : ∃ k, pullW m x.id x.name x.size x.round = k := ⟨_, rfl⟩
  have CR := Lib.hid (fun G v u (h : RIs G u v m) (hG : ∀ b ∈ G, b < u.heap.size) => r16_Pull x.id x.name x.size x.round G v m u h hG n HG.out hn)
  have CW := Lib.hid (fun u (h : WAt u M M F m) => wd_Pull M M F m x.id x.name x.size x.round u h HG.out.rises (Nat.le_trans HG.out.len hn) (fun y hy => (HG.out.ok y hy).1) HG.out.risesI (Nat.le_trans HG.out.lenI hn))
  rw [hc, hbb, hb2, hK] at CR CW
  rw [hK] at HE
  clear hc hbb hb2 hK
  have hz2 : w.heap.size ≤ w.heap.size + 1 + 1 := by omega
  have hw0 : w0.heap.size ≤ w.heap.size + 1 + 1 := by have := HB0.out.size; omega
  have hlt := HZ.out.lt
  have HV1 := Lib.hid (show RIs (((w.heap.size + 1 + 1) :: X) ++ F) W1 _ m from ((HV.out.more (G := ((w.heap.size + 1 + 1) :: X) ++ F) (fun b hb => by rcases List.mem_append.1 hb with q | q; rcases List.mem_cons.1 q with q | q; subst q; exact .inr (by omega); exact .inl (List.mem_append_left F q); exact .inl (List.mem_append_right X q))).later HB.out))
  have HF1 := Lib.hid (show ∀ b ∈ ((w.heap.size + 1 + 1) :: X) ++ F, b < W1.heap.size from fun b hb => by rcases List.mem_append.1 hb with q | q; rcases List.mem_cons.1 q with q | q; subst q; exact hlt; exact Nat.lt_of_lt_of_le (HXS.out b q) HB.out.size; exact Nat.lt_of_lt_of_le (HFL.out b q) HB.out.size)
  go_upto_region 13 with (go_at_call 61; (with_reducible refine (CR.out _ _ _ HV1.out HF1.out).mono ?_); rintro e w4 ⟨v4, rfl, hR4, hb4⟩; have HV4 := Lib.hid hR4; obtain ⟨oa1, oc1, ba1, bc1, ia1, ic1, rfl, hO1, hL1, hI1, hN1⟩ := hR4; have hbo1 := hO1.2; have hbb1 := hL1.2; have hbi1 := hI1.2; have HRI1 := Lib.hid hI1; clear hO1 hL1 hI1 hN1; have HB4 := Lib.hid hb4; clear hb4)
  have k4 : Below w4.heap.size w4 (w4.alloc (.cells #[.int .i64 K.retries, .slice oa1 K.outs.length oc1, .slice ba1 K.boxes.length bc1, .slice ia1 K.images.length ic1] 31)) := belAlloc (Below.refl _ _) _
  have HX8 := Lib.hid (Blk.new w4 [.int .i64 K.retries, .slice oa1 K.outs.length oc1, .slice ba1 K.boxes.length bc1, .slice ia1 K.images.length ic1] 31)
  have HV8 := Lib.hid (HV4.out.later k4)
  have HB8 := Lib.hid (belStep HB4.out k4)
  have hxw : w.heap.size ≤ w4.heap.size := Nat.le_trans HB.out.size HB4.out.size
  have hbel8 : Below w.heap.size w (w4.alloc (.cells #[.int .i64 K.retries, .slice oa1 K.outs.length oc1, .slice ba1 K.boxes.length bc1, .slice ia1 K.images.length ic1] 31)) := belStep HB.out (belStep HB4.out k4)
  clear hbel pp0 pp1 pp2 pp3 aa0 aa1 aa2 aa3 aa4 aa5 aa6 aa7 zz0 zz1 zz2 zz3 ppF aaF zzF k4
  generalize w4.alloc (.cells #[.int .i64 K.retries, .slice oa1 K.outs.length oc1, .slice ba1 K.boxes.length bc1, .slice ia1 K.images.length ic1] 31) = W8 at *
  generalize w4.heap.size = xb at *
  have HA8 := Lib.hid (HA.out.later HB8.out)
  have HZ8 := Lib.hid (HZ.out.later HB8.out)
  have HW8 := Lib.hid (HW.out.later hbel8)
  have HB9 := Lib.hid (belStep HB0.out hbel8)
  clear CR HV1 HF1 HV4
  have a2 := HA8.out.cell (j := 2) rfl
  have a4 := HA8.out.cell (j := 4) rfl
  have a5 := HA8.out.cell (j := 5) rfl
  have a6 := HA8.out.cell (j := 6) rfl
  go_upto_region 14 with (go_at_call 56; (with_reducible refine (CW.out _ HW8.out).mono ?_); rintro e WQ ⟨rfl, hT⟩; have hj := jw_runX HW8.out HV8.out HB9.out HMM.out hT; obtain ⟨G, g1, g2, g3, g4, g5, g6⟩ := hj; have HG1 := Lib.hid g1; have HG2 := Lib.hid g2; have HG3 := Lib.hid g3; have HG6 := Lib.hid g6; have HG5 := Lib.hid ((Apart.of_below (F := F) hbel8).trans g5); have HG7 := Lib.hid (show ∀ b ∈ G, b ∈ F ∨ w.heap.size ≤ b from fun b hb => (g6 b hb).imp id (fun r => Nat.le_trans (hbel8).size r)); have HXq := Lib.hid (HX8.out.apart g5 (fun q => absurd (HFL.out _ q) (by omega))); have HAq := Lib.hid (HA8.out.apart g5 (fun q => absurd (HFL.out _ q) (by omega))); have HZq := Lib.hid (HZ8.out.apart g5 (fun q => absurd (HFL.out _ q) (by omega))); clear hT g1 g2 g3 g4 g5 g6)
  clear a2 a4 a5 a6
  have z0 := HZq.out.cell (j := 0) rfl
  have z1 := HZq.out.cell (j := 1) rfl
  have z2 := HZq.out.cell (j := 2) rfl
  have z3 := HZq.out.cell (j := 3) rfl
  have zf := HZq.out.frozen
  have x0 := HXq.out.cell (j := 0) rfl
  have x1 := HXq.out.cell (j := 1) rfl
  have x2 := HXq.out.cell (j := 2) rfl
  have x3 := HXq.out.cell (j := 3) rfl
  go_wp2
  have hfa := Lib.hid (((((Apart.refl (((w.heap.size + 1 + 1) :: X) ++ G) WQ).set ⟨w.heap.size + 1 + 1, 0, none⟩ (.int .i64 K.retries) (by simp)).set ⟨w.heap.size + 1 + 1, 1, none⟩ (.slice oa1 K.outs.length oc1) (by simp)).set ⟨w.heap.size + 1 + 1, 2, none⟩ (.slice ba1 K.boxes.length bc1) (by simp)).set ⟨w.heap.size + 1 + 1, 3, none⟩ (.slice ia1 K.images.length ic1) (by simp))
  have hnz : w.heap.size + 1 + 1 ∉ G := fun q => (HG6.out _ q).elim (fun r => absurd (HFL.out _ r) (by omega)) (fun r => by have h7 := HZ8.out.lt; omega)
  refine does_ret _ (w.heap.size + 1 + 1) _ _ oa1 _ oc1 ba1 _ bc1 ia1 _ ic1 true _ rfl rfl ((((HZq.out.set 0 (.int .i64 K.retries)).set 1 (.slice oa1 K.outs.length oc1)).set 2 (.slice ba1 K.boxes.length bc1)).set 3 (.slice ia1 K.images.length ic1)) ⟨_, rfl, ?_⟩
  rw [HE.out]
  have h9 := HG2.out.apart hfa.out
  refine ⟨G, HG1.out.same (fun b hb => ?_), h9.more (fun b hb => .inl (List.mem_cons_of_mem _ hb)), ?_, HMM.out, ?_, HG7.out⟩
  · exact (show Apart [w.heap.size + 1 + 1] WQ _ from (((((Apart.refl [w.heap.size + 1 + 1] WQ).set ⟨w.heap.size + 1 + 1, 0, none⟩ (.int .i64 K.retries) (by simp)).set ⟨w.heap.size + 1 + 1, 1, none⟩ (.slice oa1 K.outs.length oc1) (by simp)).set ⟨w.heap.size + 1 + 1, 2, none⟩ (.slice ba1 K.boxes.length bc1) (by simp)).set ⟨w.heap.size + 1 + 1, 3, none⟩ (.slice ia1 K.images.length ic1) (by simp))).block b (HG1.out.foot_lt b hb).2 (fun q => by simp only [List.mem_singleton] at q; subst q; exact hnz hb)
  · exact (belSet (belSet (belSet (belSet HG3.out ⟨w.heap.size + 1 + 1, 0, none⟩ (.int .i64 K.retries) hw0) ⟨w.heap.size + 1 + 1, 1, none⟩ (.slice oa1 K.outs.length oc1) hw0) ⟨w.heap.size + 1 + 1, 2, none⟩ (.slice ba1 K.boxes.length bc1) hw0) ⟨w.heap.size + 1 + 1, 3, none⟩ (.slice ia1 K.images.length ic1) hw0)
  · exact ((((HG5.out.setNew ⟨w.heap.size + 1 + 1, 0, none⟩ (.int .i64 K.retries) hz2).setNew ⟨w.heap.size + 1 + 1, 1, none⟩ (.slice oa1 K.outs.length oc1) hz2).setNew ⟨w.heap.size + 1 + 1, 2, none⟩ (.slice ba1 K.boxes.length bc1) hz2).setNew ⟨w.heap.size + 1 + 1, 3, none⟩ (.slice ia1 K.images.length ic1) hz2)
end Go.Proofs.Ytcnjcldfbidkmaa
namespace Go.Proofs.Ytcnjcldfbidkmaa
open Go.RowKit Go.Sort
set_option linter.unusedVariables false
set_option linter.unusedSimpArgs false
set_option maxRecDepth 100000 in
set_option maxHeartbeats 32000000 in
theorem does_4 (w0 : World) (M n : Nat) (m : WorldV) (v : Value) (x : ActW) (w : World) (X F : List Nat) (hXs : ∀ b ∈ X, b < w.heap.size) (hW : WAt w M M F m) (hR : RIs (X ++ F) w v m) (hB0 : Below w0.heap.size w0 w) (hM : w0.heap.size ≤ M) (hg : m.Good n) (hn : n ≤ 100000) (hop : x.op = 4) :
    Calls Try.prog 19 #[.pointer (some ⟨M, 0, none⟩), v, .agg #[.int .i64 x.op, .slice x.wa x.wn x.wc, .string x.id, .int .i64 x.what, .string x.name, .int .i64 x.size, .int .i64 x.round, .slice x.ua x.un x.uc]] w fun e w' => ∃ v', e = .returned (.tuple #[v', .bool true]) ∧ JX w0 w w' M X F (stepW m x) v' := by
  have HG := Lib.hid hg
  clear hg
  have HXS := Lib.hid hXs
  clear hXs
  have HW := Lib.hid hW
  have HV := Lib.hid hR
  have HB0 := Lib.hid hB0
  have HMM := Lib.hid hM
  have HFL := Lib.hid (fun b hb => (hW.foot_lt b hb).2)
  obtain ⟨oa, oc, ba, bc, ia, ic, rfl, hO, hL, hI, _⟩ := hR
  have hbo : m.outs.length ≤ oc ∧ oc ≤ 9223372036854775807 := by obtain ⟨_, h1, h2, _⟩ := hO; unfold maxLen at h2; exact ⟨h1, h2⟩
  obtain ⟨hbo1, hbo2⟩ := hbo
  have hbb : m.boxes.length ≤ bc ∧ bc ≤ 9223372036854775807 := by obtain ⟨_, h1, h2, _⟩ := hL; unfold maxLen at h2; exact ⟨h1, h2⟩
  obtain ⟨hbb1, hbb2⟩ := hbb
  have hbi : m.images.length ≤ ic ∧ ic ≤ 9223372036854775807 := by obtain ⟨_, h1, h2, _⟩ := hI; unfold maxLen at h2; exact ⟨h1, h2⟩
  obtain ⟨hbi1, hbi2⟩ := hbi
  clear hW hB0 hM hO hL hI
  have d0 : (x.op == (0 : Int)) = false := by rw [hop]; rfl
  have d1 : (x.op == (1 : Int)) = false := by rw [hop]; rfl
  have d2 : (x.op == (2 : Int)) = false := by rw [hop]; rfl
  have d3 : (x.op == (3 : Int)) = false := by rw [hop]; rfl
  have d4 : (x.op == (4 : Int)) = true := by rw [hop]; rfl
  have hw : Below w.heap.size w w := Below.refl _ _
  have hbel := hw
  have HE := Lib.hid (show stepW m x = dropW m x.name by unfold stepW; rw [if_neg (by omega), if_neg (by omega), if_neg (by omega), if_neg (by omega), if_pos hop])
  clear hop
  go_enter Try.func19, Try.ntmps19
  go_upto_region 1 with fail
  have pp0 : (((w.alloc (.cells #[.int .i64 m.retries, .slice oa m.outs.length oc, .slice ba m.boxes.length bc, .slice ia m.images.length ic] 31)).alloc (.cells #[.int .i64 x.op, .slice x.wa x.wn x.wc, .string x.id, .int .i64 x.what, .string x.name, .int .i64 x.size, .int .i64 x.round, .slice x.ua x.un x.uc] 36)).alloc (.cells #[.int .i64 0, .slice none 0 0, .slice none 0 0, .slice none 0 0] 31)).cell? ⟨w.heap.size, 0, none⟩ = some (.int .i64 m.retries) := by first | (simp; done) | (rw [World.cell?_alloc_at _ _ _ _ (by simp)]; rfl) | (rw [World.cell?_alloc_past _ _ _ (by simp <;> omega), World.cell?_alloc_at _ _ _ _ (by simp)]; rfl) | (rw [World.cell?_alloc_past _ _ _ (by simp <;> omega), World.cell?_alloc_past _ _ _ (by simp <;> omega), World.cell?_alloc_at _ _ _ _ (by simp)]; rfl)
  have pp1 : (((w.alloc (.cells #[.int .i64 m.retries, .slice oa m.outs.length oc, .slice ba m.boxes.length bc, .slice ia m.images.length ic] 31)).alloc (.cells #[.int .i64 x.op, .slice x.wa x.wn x.wc, .string x.id, .int .i64 x.what, .string x.name, .int .i64 x.size, .int .i64 x.round, .slice x.ua x.un x.uc] 36)).alloc (.cells #[.int .i64 0, .slice none 0 0, .slice none 0 0, .slice none 0 0] 31)).cell? ⟨w.heap.size, 1, none⟩ = some (.slice oa m.outs.length oc) := by first | (simp; done) | (rw [World.cell?_alloc_at _ _ _ _ (by simp)]; rfl) | (rw [World.cell?_alloc_past _ _ _ (by simp <;> omega), World.cell?_alloc_at _ _ _ _ (by simp)]; rfl) | (rw [World.cell?_alloc_past _ _ _ (by simp <;> omega), World.cell?_alloc_past _ _ _ (by simp <;> omega), World.cell?_alloc_at _ _ _ _ (by simp)]; rfl)
  have pp2 : (((w.alloc (.cells #[.int .i64 m.retries, .slice oa m.outs.length oc, .slice ba m.boxes.length bc, .slice ia m.images.length ic] 31)).alloc (.cells #[.int .i64 x.op, .slice x.wa x.wn x.wc, .string x.id, .int .i64 x.what, .string x.name, .int .i64 x.size, .int .i64 x.round, .slice x.ua x.un x.uc] 36)).alloc (.cells #[.int .i64 0, .slice none 0 0, .slice none 0 0, .slice none 0 0] 31)).cell? ⟨w.heap.size, 2, none⟩ = some (.slice ba m.boxes.length bc) := by first | (simp; done) | (rw [World.cell?_alloc_at _ _ _ _ (by simp)]; rfl) | (rw [World.cell?_alloc_past _ _ _ (by simp <;> omega), World.cell?_alloc_at _ _ _ _ (by simp)]; rfl) | (rw [World.cell?_alloc_past _ _ _ (by simp <;> omega), World.cell?_alloc_past _ _ _ (by simp <;> omega), World.cell?_alloc_at _ _ _ _ (by simp)]; rfl)
  have pp3 : (((w.alloc (.cells #[.int .i64 m.retries, .slice oa m.outs.length oc, .slice ba m.boxes.length bc, .slice ia m.images.length ic] 31)).alloc (.cells #[.int .i64 x.op, .slice x.wa x.wn x.wc, .string x.id, .int .i64 x.what, .string x.name, .int .i64 x.size, .int .i64 x.round, .slice x.ua x.un x.uc] 36)).alloc (.cells #[.int .i64 0, .slice none 0 0, .slice none 0 0, .slice none 0 0] 31)).cell? ⟨w.heap.size, 3, none⟩ = some (.slice ia m.images.length ic) := by first | (simp; done) | (rw [World.cell?_alloc_at _ _ _ _ (by simp)]; rfl) | (rw [World.cell?_alloc_past _ _ _ (by simp <;> omega), World.cell?_alloc_at _ _ _ _ (by simp)]; rfl) | (rw [World.cell?_alloc_past _ _ _ (by simp <;> omega), World.cell?_alloc_past _ _ _ (by simp <;> omega), World.cell?_alloc_at _ _ _ _ (by simp)]; rfl)
  have aa0 : (((w.alloc (.cells #[.int .i64 m.retries, .slice oa m.outs.length oc, .slice ba m.boxes.length bc, .slice ia m.images.length ic] 31)).alloc (.cells #[.int .i64 x.op, .slice x.wa x.wn x.wc, .string x.id, .int .i64 x.what, .string x.name, .int .i64 x.size, .int .i64 x.round, .slice x.ua x.un x.uc] 36)).alloc (.cells #[.int .i64 0, .slice none 0 0, .slice none 0 0, .slice none 0 0] 31)).cell? ⟨w.heap.size + 1, 0, none⟩ = some (.int .i64 x.op) := by first | (simp; done) | (rw [World.cell?_alloc_at _ _ _ _ (by simp)]; rfl) | (rw [World.cell?_alloc_past _ _ _ (by simp <;> omega), World.cell?_alloc_at _ _ _ _ (by simp)]; rfl) | (rw [World.cell?_alloc_past _ _ _ (by simp <;> omega), World.cell?_alloc_past _ _ _ (by simp <;> omega), World.cell?_alloc_at _ _ _ _ (by simp)]; rfl)
  have aa1 : (((w.alloc (.cells #[.int .i64 m.retries, .slice oa m.outs.length oc, .slice ba m.boxes.length bc, .slice ia m.images.length ic] 31)).alloc (.cells #[.int .i64 x.op, .slice x.wa x.wn x.wc, .string x.id, .int .i64 x.what, .string x.name, .int .i64 x.size, .int .i64 x.round, .slice x.ua x.un x.uc] 36)).alloc (.cells #[.int .i64 0, .slice none 0 0, .slice none 0 0, .slice none 0 0] 31)).cell? ⟨w.heap.size + 1, 1, none⟩ = some (.slice x.wa x.wn x.wc) := by first | (simp; done) | (rw [World.cell?_alloc_at _ _ _ _ (by simp)]; rfl) | (rw [World.cell?_alloc_past _ _ _ (by simp <;> omega), World.cell?_alloc_at _ _ _ _ (by simp)]; rfl) | (rw [World.cell?_alloc_past _ _ _ (by simp <;> omega), World.cell?_alloc_past _ _ _ (by simp <;> omega), World.cell?_alloc_at _ _ _ _ (by simp)]; rfl)
  have aa2 : (((w.alloc (.cells #[.int .i64 m.retries, .slice oa m.outs.length oc, .slice ba m.boxes.length bc, .slice ia m.images.length ic] 31)).alloc (.cells #[.int .i64 x.op, .slice x.wa x.wn x.wc, .string x.id, .int .i64 x.what, .string x.name, .int .i64 x.size, .int .i64 x.round, .slice x.ua x.un x.uc] 36)).alloc (.cells #[.int .i64 0, .slice none 0 0, .slice none 0 0, .slice none 0 0] 31)).cell? ⟨w.heap.size + 1, 2, none⟩ = some (.string x.id) := by first | (simp; done) | (rw [World.cell?_alloc_at _ _ _ _ (by simp)]; rfl) | (rw [World.cell?_alloc_past _ _ _ (by simp <;> omega), World.cell?_alloc_at _ _ _ _ (by simp)]; rfl) | (rw [World.cell?_alloc_past _ _ _ (by simp <;> omega), World.cell?_alloc_past _ _ _ (by simp <;> omega), World.cell?_alloc_at _ _ _ _ (by simp)]; rfl)
  have aa3 : (((w.alloc (.cells #[.int .i64 m.retries, .slice oa m.outs.length oc, .slice ba m.boxes.length bc, .slice ia m.images.length ic] 31)).alloc (.cells #[.int .i64 x.op, .slice x.wa x.wn x.wc, .string x.id, .int .i64 x.what, .string x.name, .int .i64 x.size, .int .i64 x.round, .slice x.ua x.un x.uc] 36)).alloc (.cells #[.int .i64 0, .slice none 0 0, .slice none 0 0, .slice none 0 0] 31)).cell? ⟨w.heap.size + 1, 3, none⟩ = some (.int .i64 x.what) := by first | (simp; done) | (rw [World.cell?_alloc_at _ _ _ _ (by simp)]; rfl) | (rw [World.cell?_alloc_past _ _ _ (by simp <;> omega), World.cell?_alloc_at _ _ _ _ (by simp)]; rfl) | (rw [World.cell?_alloc_past _ _ _ (by simp <;> omega), World.cell?_alloc_past _ _ _ (by simp <;> omega), World.cell?_alloc_at _ _ _ _ (by simp)]; rfl)
  have aa4 : (((w.alloc (.cells #[.int .i64 m.retries, .slice oa m.outs.length oc, .slice ba m.boxes.length bc, .slice ia m.images.length ic] 31)).alloc (.cells #[.int .i64 x.op, .slice x.wa x.wn x.wc, .string x.id, .int .i64 x.what, .string x.name, .int .i64 x.size, .int .i64 x.round, .slice x.ua x.un x.uc] 36)).alloc (.cells #[.int .i64 0, .slice none 0 0, .slice none 0 0, .slice none 0 0] 31)).cell? ⟨w.heap.size + 1, 4, none⟩ = some (.string x.name) := by first | (simp; done) | (rw [World.cell?_alloc_at _ _ _ _ (by simp)]; rfl) | (rw [World.cell?_alloc_past _ _ _ (by simp <;> omega), World.cell?_alloc_at _ _ _ _ (by simp)]; rfl) | (rw [World.cell?_alloc_past _ _ _ (by simp <;> omega), World.cell?_alloc_past _ _ _ (by simp <;> omega), World.cell?_alloc_at _ _ _ _ (by simp)]; rfl)
  have aa5 : (((w.alloc (.cells #[.int .i64 m.retries, .slice oa m.outs.length oc, .slice ba m.boxes.length bc, .slice ia m.images.length ic] 31)).alloc (.cells #[.int .i64 x.op, .slice x.wa x.wn x.wc, .string x.id, .int .i64 x.what, .string x.name, .int .i64 x.size, .int .i64 x.round, .slice x.ua x.un x.uc] 36)).alloc (.cells #[.int .i64 0, .slice none 0 0, .slice none 0 0, .slice none 0 0] 31)).cell? ⟨w.heap.size + 1, 5, none⟩ = some (.int .i64 x.size) := by first | (simp; done) | (rw [World.cell?_alloc_at _ _ _ _ (by simp)]; rfl) | (rw [World.cell?_alloc_past _ _ _ (by simp <;> omega), World.cell?_alloc_at _ _ _ _ (by simp)]; rfl) | (rw [World.cell?_alloc_past _ _ _ (by simp <;> omega), World.cell?_alloc_past _ _ _ (by simp <;> omega), World.cell?_alloc_at _ _ _ _ (by simp)]; rfl)
  have aa6 : (((w.alloc (.cells #[.int .i64 m.retries, .slice oa m.outs.length oc, .slice ba m.boxes.length bc, .slice ia m.images.length ic] 31)).alloc (.cells #[.int .i64 x.op, .slice x.wa x.wn x.wc, .string x.id, .int .i64 x.what, .string x.name, .int .i64 x.size, .int .i64 x.round, .slice x.ua x.un x.uc] 36)).alloc (.cells #[.int .i64 0, .slice none 0 0, .slice none 0 0, .slice none 0 0] 31)).cell? ⟨w.heap.size + 1, 6, none⟩ = some (.int .i64 x.round) := by first | (simp; done) | (rw [World.cell?_alloc_at _ _ _ _ (by simp)]; rfl) | (rw [World.cell?_alloc_past _ _ _ (by simp <;> omega), World.cell?_alloc_at _ _ _ _ (by simp)]; rfl) | (rw [World.cell?_alloc_past _ _ _ (by simp <;> omega), World.cell?_alloc_past _ _ _ (by simp <;> omega), World.cell?_alloc_at _ _ _ _ (by simp)]; rfl)
  have aa7 : (((w.alloc (.cells #[.int .i64 m.retries, .slice oa m.outs.length oc, .slice ba m.boxes.length bc, .slice ia m.images.length ic] 31)).alloc (.cells #[.int .i64 x.op, .slice x.wa x.wn x.wc, .string x.id, .int .i64 x.what, .string x.name, .int .i64 x.size, .int .i64 x.round, .slice x.ua x.un x.uc] 36)).alloc (.cells #[.int .i64 0, .slice none 0 0, .slice none 0 0, .slice none 0 0] 31)).cell? ⟨w.heap.size + 1, 7, none⟩ = some (.slice x.ua x.un x.uc) := by first | (simp; done) | (rw [World.cell?_alloc_at _ _ _ _ (by simp)]; rfl) | (rw [World.cell?_alloc_past _ _ _ (by simp <;> omega), World.cell?_alloc_at _ _ _ _ (by simp)]; rfl) | (rw [World.cell?_alloc_past _ _ _ (by simp <;> omega), World.cell?_alloc_past _ _ _ (by simp <;> omega), World.cell?_alloc_at _ _ _ _ (by simp)]; rfl)
  have zz0 : (((w.alloc (.cells #[.int .i64 m.retries, .slice oa m.outs.length oc, .slice ba m.boxes.length bc, .slice ia m.images.length ic] 31)).alloc (.cells #[.int .i64 x.op, .slice x.wa x.wn x.wc, .string x.id, .int .i64 x.what, .string x.name, .int .i64 x.size, .int .i64 x.round, .slice x.ua x.un x.uc] 36)).alloc (.cells #[.int .i64 0, .slice none 0 0, .slice none 0 0, .slice none 0 0] 31)).cell? ⟨w.heap.size + 2, 0, none⟩ = some (.int .i64 0) := by first | (simp; done) | (rw [World.cell?_alloc_at _ _ _ _ (by simp)]; rfl) | (rw [World.cell?_alloc_past _ _ _ (by simp <;> omega), World.cell?_alloc_at _ _ _ _ (by simp)]; rfl) | (rw [World.cell?_alloc_past _ _ _ (by simp <;> omega), World.cell?_alloc_past _ _ _ (by simp <;> omega), World.cell?_alloc_at _ _ _ _ (by simp)]; rfl)
  have zz1 : (((w.alloc (.cells #[.int .i64 m.retries, .slice oa m.outs.length oc, .slice ba m.boxes.length bc, .slice ia m.images.length ic] 31)).alloc (.cells #[.int .i64 x.op, .slice x.wa x.wn x.wc, .string x.id, .int .i64 x.what, .string x.name, .int .i64 x.size, .int .i64 x.round, .slice x.ua x.un x.uc] 36)).alloc (.cells #[.int .i64 0, .slice none 0 0, .slice none 0 0, .slice none 0 0] 31)).cell? ⟨w.heap.size + 2, 1, none⟩ = some (.slice none 0 0) := by first | (simp; done) | (rw [World.cell?_alloc_at _ _ _ _ (by simp)]; rfl) | (rw [World.cell?_alloc_past _ _ _ (by simp <;> omega), World.cell?_alloc_at _ _ _ _ (by simp)]; rfl) | (rw [World.cell?_alloc_past _ _ _ (by simp <;> omega), World.cell?_alloc_past _ _ _ (by simp <;> omega), World.cell?_alloc_at _ _ _ _ (by simp)]; rfl)
  have zz2 : (((w.alloc (.cells #[.int .i64 m.retries, .slice oa m.outs.length oc, .slice ba m.boxes.length bc, .slice ia m.images.length ic] 31)).alloc (.cells #[.int .i64 x.op, .slice x.wa x.wn x.wc, .string x.id, .int .i64 x.what, .string x.name, .int .i64 x.size, .int .i64 x.round, .slice x.ua x.un x.uc] 36)).alloc (.cells #[.int .i64 0, .slice none 0 0, .slice none 0 0, .slice none 0 0] 31)).cell? ⟨w.heap.size + 2, 2, none⟩ = some (.slice none 0 0) := by first | (simp; done) | (rw [World.cell?_alloc_at _ _ _ _ (by simp)]; rfl) | (rw [World.cell?_alloc_past _ _ _ (by simp <;> omega), World.cell?_alloc_at _ _ _ _ (by simp)]; rfl) | (rw [World.cell?_alloc_past _ _ _ (by simp <;> omega), World.cell?_alloc_past _ _ _ (by simp <;> omega), World.cell?_alloc_at _ _ _ _ (by simp)]; rfl)
  have zz3 : (((w.alloc (.cells #[.int .i64 m.retries, .slice oa m.outs.length oc, .slice ba m.boxes.length bc, .slice ia m.images.length ic] 31)).alloc (.cells #[.int .i64 x.op, .slice x.wa x.wn x.wc, .string x.id, .int .i64 x.what, .string x.name, .int .i64 x.size, .int .i64 x.round, .slice x.ua x.un x.uc] 36)).alloc (.cells #[.int .i64 0, .slice none 0 0, .slice none 0 0, .slice none 0 0] 31)).cell? ⟨w.heap.size + 2, 3, none⟩ = some (.slice none 0 0) := by first | (simp; done) | (rw [World.cell?_alloc_at _ _ _ _ (by simp)]; rfl) | (rw [World.cell?_alloc_past _ _ _ (by simp <;> omega), World.cell?_alloc_at _ _ _ _ (by simp)]; rfl) | (rw [World.cell?_alloc_past _ _ _ (by simp <;> omega), World.cell?_alloc_past _ _ _ (by simp <;> omega), World.cell?_alloc_at _ _ _ _ (by simp)]; rfl)
  have hb2 := (by repeat (first | exact hbel | refine belAlloc ?_ _ | refine belDrew ?_ | refine belSet ?_ _ _ (by simp)) : Below w.heap.size w (((w.alloc (.cells #[.int .i64 m.retries, .slice oa m.outs.length oc, .slice ba m.boxes.length bc, .slice ia m.images.length ic] 31)).alloc (.cells #[.int .i64 x.op, .slice x.wa x.wn x.wc, .string x.id, .int .i64 x.what, .string x.name, .int .i64 x.size, .int .i64 x.round, .slice x.ua x.un x.uc] 36)).alloc (.cells #[.int .i64 0, .slice none 0 0, .slice none 0 0, .slice none 0 0] 31)))
  replace hw := belStep hw hb2
  have ppB : Blk (((w.alloc (.cells #[.int .i64 m.retries, .slice oa m.outs.length oc, .slice ba m.boxes.length bc, .slice ia m.images.length ic] 31)).alloc (.cells #[.int .i64 x.op, .slice x.wa x.wn x.wc, .string x.id, .int .i64 x.what, .string x.name, .int .i64 x.size, .int .i64 x.round, .slice x.ua x.un x.uc] 36)).alloc (.cells #[.int .i64 0, .slice none 0 0, .slice none 0 0, .slice none 0 0] 31)) (w.heap.size) [.int .i64 m.retries, .slice oa m.outs.length oc, .slice ba m.boxes.length bc, .slice ia m.images.length ic] 31 := (Blk.at (by simp) : Blk (w.alloc (.cells #[.int .i64 m.retries, .slice oa m.outs.length oc, .slice ba m.boxes.length bc, .slice ia m.images.length ic] 31)) (w.heap.size) [.int .i64 m.retries, .slice oa m.outs.length oc, .slice ba m.boxes.length bc, .slice ia m.images.length ic] 31).later (by repeat (first | exact Below.refl _ _ | refine belAlloc ?_ _))
  have ppF := Blk.keepF ppB
  replace ppB := Blk.keepB ppB
  have aaB : Blk (((w.alloc (.cells #[.int .i64 m.retries, .slice oa m.outs.length oc, .slice ba m.boxes.length bc, .slice ia m.images.length ic] 31)).alloc (.cells #[.int .i64 x.op, .slice x.wa x.wn x.wc, .string x.id, .int .i64 x.what, .string x.name, .int .i64 x.size, .int .i64 x.round, .slice x.ua x.un x.uc] 36)).alloc (.cells #[.int .i64 0, .slice none 0 0, .slice none 0 0, .slice none 0 0] 31)) (w.heap.size + 1) [.int .i64 x.op, .slice x.wa x.wn x.wc, .string x.id, .int .i64 x.what, .string x.name, .int .i64 x.size, .int .i64 x.round, .slice x.ua x.un x.uc] 36 := (Blk.at (by simp) : Blk ((w.alloc (.cells #[.int .i64 m.retries, .slice oa m.outs.length oc, .slice ba m.boxes.length bc, .slice ia m.images.length ic] 31)).alloc (.cells #[.int .i64 x.op, .slice x.wa x.wn x.wc, .string x.id, .int .i64 x.what, .string x.name, .int .i64 x.size, .int .i64 x.round, .slice x.ua x.un x.uc] 36)) (w.heap.size + 1) [.int .i64 x.op, .slice x.wa x.wn x.wc, .string x.id, .int .i64 x.what, .string x.name, .int .i64 x.size, .int .i64 x.round, .slice x.ua x.un x.uc] 36).later (by repeat (first | exact Below.refl _ _ | refine belAlloc ?_ _))
  have aaF := Blk.keepF aaB
  replace aaB := Blk.keepB aaB
  have zzB : Blk (((w.alloc (.cells #[.int .i64 m.retries, .slice oa m.outs.length oc, .slice ba m.boxes.length bc, .slice ia m.images.length ic] 31)).alloc (.cells #[.int .i64 x.op, .slice x.wa x.wn x.wc, .string x.id, .int .i64 x.what, .string x.name, .int .i64 x.size, .int .i64 x.round, .slice x.ua x.un x.uc] 36)).alloc (.cells #[.int .i64 0, .slice none 0 0, .slice none 0 0, .slice none 0 0] 31)) (w.heap.size + 2) [.int .i64 0, .slice none 0 0, .slice none 0 0, .slice none 0 0] 31 := (Blk.at (by simp) : Blk (((w.alloc (.cells #[.int .i64 m.retries, .slice oa m.outs.length oc, .slice ba m.boxes.length bc, .slice ia m.images.length ic] 31)).alloc (.cells #[.int .i64 x.op, .slice x.wa x.wn x.wc, .string x.id, .int .i64 x.what, .string x.name, .int .i64 x.size, .int .i64 x.round, .slice x.ua x.un x.uc] 36)).alloc (.cells #[.int .i64 0, .slice none 0 0, .slice none 0 0, .slice none 0 0] 31)) (w.heap.size + 2) [.int .i64 0, .slice none 0 0, .slice none 0 0, .slice none 0 0] 31).later (by repeat (first | exact Below.refl _ _ | refine belAlloc ?_ _))
  have zzF := Blk.keepF zzB
  replace zzB := Blk.keepB zzB
  clear hb2 hbel
  generalize ((w.alloc (.cells #[.int .i64 m.retries, .slice oa m.outs.length oc, .slice ba m.boxes.length bc, .slice ia m.images.length ic] 31)).alloc (.cells #[.int .i64 x.op, .slice x.wa x.wn x.wc, .string x.id, .int .i64 x.what, .string x.name, .int .i64 x.size, .int .i64 x.round, .slice x.ua x.un x.uc] 36)).alloc (.cells #[.int .i64 0, .slice none 0 0, .slice none 0 0, .slice none 0 0] 31) = W1 at *
  replace pp0 := keep pp0
  replace pp1 := keep pp1
  replace pp2 := keep pp2
  replace pp3 := keep pp3
  replace aa0 := keep aa0
  replace aa1 := keep aa1
  replace aa2 := keep aa2
  replace aa3 := keep aa3
  replace aa4 := keep aa4
  replace aa5 := keep aa5
  replace aa6 := keep aa6
  replace aa7 := keep aa7
  replace zz0 := keep zz0
  replace zz1 := keep zz1
  replace zz2 := keep zz2
  replace zz3 := keep zz3
  have hbel : Below W1.heap.size W1 W1 := Below.refl _ _
  skip
  have HP := Lib.hid (ppB W1 (Below.refl _ _))
  have HA := Lib.hid (aaB W1 (Below.refl _ _))
  have HZ := Lib.hid (zzB W1 (Below.refl _ _))
  have HB := Lib.hid hw
  clear hw ppB aaB zzB
  obtain ⟨c, hc⟩ : ∃ c, dropC m x.name = c := ⟨_, rfl⟩
  obtain ⟨bb, hbb⟩ : ∃ c, dropB m x.name = c := ⟨_, rfl⟩
  obtain ⟨K, hK⟩ : ∃ k, dropW m x.name = k := ⟨_, rfl⟩
  have CR := Lib.hid (fun G v u (h : RIs G u v m) (hG : ∀ b ∈ G, b < u.heap.size) => r16_Drop x.name G v m u h hG n HG.out hn)
  have CW := Lib.hid (fun u (h : WAt u M M F m) => wd_Drop M M F m x.name u h HG.out.risesI (Nat.le_trans HG.out.lenI hn))
  rw [hc, hbb, hK] at CR CW
  rw [hK] at HE
  clear hc hbb hK
  have hz2 : w.heap.size ≤ w.heap.size + 1 + 1 := by omega
  have hw0 : w0.heap.size ≤ w.heap.size + 1 + 1 := by have := HB0.out.size; omega
  have hlt := HZ.out.lt
  have HV1 := Lib.hid (show RIs (((w.heap.size + 1 + 1) :: X) ++ F) W1 _ m from ((HV.out.more (G := ((w.heap.size + 1 + 1) :: X) ++ F) (fun b hb => by rcases List.mem_append.1 hb with q | q; rcases List.mem_cons.1 q with q | q; subst q; exact .inr (by omega); exact .inl (List.mem_append_left F q); exact .inl (List.mem_append_right X q))).later HB.out))
  have HF1 := Lib.hid (show ∀ b ∈ ((w.heap.size + 1 + 1) :: X) ++ F, b < W1.heap.size from fun b hb => by rcases List.mem_append.1 hb with q | q; rcases List.mem_cons.1 q with q | q; subst q; exact hlt; exact Nat.lt_of_lt_of_le (HXS.out b q) HB.out.size; exact Nat.lt_of_lt_of_le (HFL.out b q) HB.out.size)
  go_upto_region 17 with (go_at_call 62; (with_reducible refine (CR.out _ _ _ HV1.out HF1.out).mono ?_); rintro e w4 ⟨v4, rfl, hR4, hb4⟩; have HV4 := Lib.hid hR4; obtain ⟨oa1, oc1, ba1, bc1, ia1, ic1, rfl, hO1, hL1, hI1, hN1⟩ := hR4; have hbo1 := hO1.2; have hbb1 := hL1.2; have hbi1 := hI1.2; have HRI1 := Lib.hid hI1; clear hO1 hL1 hI1 hN1; have HB4 := Lib.hid hb4; clear hb4)
  have k4 : Below w4.heap.size w4 (w4.alloc (.cells #[.int .i64 K.retries, .slice oa1 K.outs.length oc1, .slice ba1 K.boxes.length bc1, .slice ia1 K.images.length ic1] 31)) := belAlloc (Below.refl _ _) _
  have HX8 := Lib.hid (Blk.new w4 [.int .i64 K.retries, .slice oa1 K.outs.length oc1, .slice ba1 K.boxes.length bc1, .slice ia1 K.images.length ic1] 31)
  have HV8 := Lib.hid (HV4.out.later k4)
  have HB8 := Lib.hid (belStep HB4.out k4)
  have hxw : w.heap.size ≤ w4.heap.size := Nat.le_trans HB.out.size HB4.out.size
  have hbel8 : Below w.heap.size w (w4.alloc (.cells #[.int .i64 K.retries, .slice oa1 K.outs.length oc1, .slice ba1 K.boxes.length bc1, .slice ia1 K.images.length ic1] 31)) := belStep HB.out (belStep HB4.out k4)
  clear hbel pp0 pp1 pp2 pp3 aa0 aa1 aa2 aa3 aa4 aa5 aa6 aa7 zz0 zz1 zz2 zz3 ppF aaF zzF k4
  generalize w4.alloc (.cells #[.int .i64 K.retries, .slice oa1 K.outs.length oc1, .slice ba1 K.boxes.length bc1, .slice ia1 K.images.length ic1] 31) = W8 at *
  generalize w4.heap.size = xb at *
  have HA8 := Lib.hid (HA.out.later HB8.out)
  have HZ8 := Lib.hid (HZ.out.later HB8.out)
  have HW8 := Lib.hid (HW.out.later hbel8)
  have HB9 := Lib.hid (belStep HB0.out hbel8)
  clear CR HV1 HF1 HV4
  have a4 := HA8.out.cell (j := 4) rfl
  go_upto_region 18 with (go_at_call 27; (with_reducible refine (CW.out _ HW8.out).mono ?_); rintro e WQ ⟨rfl, hT⟩; have hj := jw_runX HW8.out HV8.out HB9.out HMM.out hT; obtain ⟨G, g1, g2, g3, g4, g5, g6⟩ := hj; have HG1 := Lib.hid g1; have HG2 := Lib.hid g2; have HG3 := Lib.hid g3; have HG6 := Lib.hid g6; have HG5 := Lib.hid ((Apart.of_below (F := F) hbel8).trans g5); have HG7 := Lib.hid (show ∀ b ∈ G, b ∈ F ∨ w.heap.size ≤ b from fun b hb => (g6 b hb).imp id (fun r => Nat.le_trans (hbel8).size r)); have HXq := Lib.hid (HX8.out.apart g5 (fun q => absurd (HFL.out _ q) (by omega))); have HAq := Lib.hid (HA8.out.apart g5 (fun q => absurd (HFL.out _ q) (by omega))); have HZq := Lib.hid (HZ8.out.apart g5 (fun q => absurd (HFL.out _ q) (by omega))); clear hT g1 g2 g3 g4 g5 g6)
  clear a4
  have z0 := HZq.out.cell (j := 0) rfl
  have z1 := HZq.out.cell (j := 1) rfl
  have z2 := HZq.out.cell (j := 2) rfl
  have z3 := HZq.out.cell (j := 3) rfl
  have zf := HZq.out.frozen
  have x0 := HXq.out.cell (j := 0) rfl
  have x1 := HXq.out.cell (j := 1) rfl
  have x2 := HXq.out.cell (j := 2) rfl
  have x3 := HXq.out.cell (j := 3) rfl
  go_wp2
  have hfa := Lib.hid (((((Apart.refl (((w.heap.size + 1 + 1) :: X) ++ G) WQ).set ⟨w.heap.size + 1 + 1, 0, none⟩ (.int .i64 K.retries) (by simp)).set ⟨w.heap.size + 1 + 1, 1, none⟩ (.slice oa1 K.outs.length oc1) (by simp)).set ⟨w.heap.size + 1 + 1, 2, none⟩ (.slice ba1 K.boxes.length bc1) (by simp)).set ⟨w.heap.size + 1 + 1, 3, none⟩ (.slice ia1 K.images.length ic1) (by simp))
  have hnz : w.heap.size + 1 + 1 ∉ G := fun q => (HG6.out _ q).elim (fun r => absurd (HFL.out _ r) (by omega)) (fun r => by have h7 := HZ8.out.lt; omega)
  refine does_ret _ (w.heap.size + 1 + 1) _ _ oa1 _ oc1 ba1 _ bc1 ia1 _ ic1 true _ rfl rfl ((((HZq.out.set 0 (.int .i64 K.retries)).set 1 (.slice oa1 K.outs.length oc1)).set 2 (.slice ba1 K.boxes.length bc1)).set 3 (.slice ia1 K.images.length ic1)) ⟨_, rfl, ?_⟩
  rw [HE.out]
  have h9 := HG2.out.apart hfa.out
  refine ⟨G, HG1.out.same (fun b hb => ?_), h9.more (fun b hb => .inl (List.mem_cons_of_mem _ hb)), ?_, HMM.out, ?_, HG7.out⟩
  · exact (show Apart [w.heap.size + 1 + 1] WQ _ from (((((Apart.refl [w.heap.size + 1 + 1] WQ).set ⟨w.heap.size + 1 + 1, 0, none⟩ (.int .i64 K.retries) (by simp)).set ⟨w.heap.size + 1 + 1, 1, none⟩ (.slice oa1 K.outs.length oc1) (by simp)).set ⟨w.heap.size + 1 + 1, 2, none⟩ (.slice ba1 K.boxes.length bc1) (by simp)).set ⟨w.heap.size + 1 + 1, 3, none⟩ (.slice ia1 K.images.length ic1) (by simp))).block b (HG1.out.foot_lt b hb).2 (fun q => by simp only [List.mem_singleton] at q; subst q; exact hnz hb)
  · exact (belSet (belSet (belSet (belSet HG3.out ⟨w.heap.size + 1 + 1, 0, none⟩ (.int .i64 K.retries) hw0) ⟨w.heap.size + 1 + 1, 1, none⟩ (.slice oa1 K.outs.length oc1) hw0) ⟨w.heap.size + 1 + 1, 2, none⟩ (.slice ba1 K.boxes.length bc1) hw0) ⟨w.heap.size + 1 + 1, 3, none⟩ (.slice ia1 K.images.length ic1) hw0)
  · exact ((((HG5.out.setNew ⟨w.heap.size + 1 + 1, 0, none⟩ (.int .i64 K.retries) hz2).setNew ⟨w.heap.size + 1 + 1, 1, none⟩ (.slice oa1 K.outs.length oc1) hz2).setNew ⟨w.heap.size + 1 + 1, 2, none⟩ (.slice ba1 K.boxes.length bc1) hz2).setNew ⟨w.heap.size + 1 + 1, 3, none⟩ (.slice ia1 K.images.length ic1) hz2)
end Go.Proofs.Ytcnjcldfbidkmaa
namespace Go.Proofs.Ytcnjcldfbidkmaa
open Go.RowKit Go.Sort
set_option linter.unusedVariables false
set_option linter.unusedSimpArgs false
theorem jw_runX2 {w u x : World} {M : Nat} {X F : List Nat} {m k j : WorldV} {v : Value} (h1 : WAt u M M F m) (h2 : RIs (X ++ F) u v j) (h3 : Below w.heap.size w u) (h4 : w.heap.size ≤ M) (hT : WTo u x M M F k) : ∃ G, WAt x M M G k ∧ RIs (X ++ G) x v j ∧ Below w.heap.size w x ∧ Apart F u x ∧ ∀ b ∈ G, b ∈ F ∨ u.heap.size ≤ b := by
  have hbl := hT.below h1 h4 h3.size
  obtain ⟨G, k1, k2, k3⟩ := hT
  have r1 : RIs ((X ++ F) ++ G) u v j := h2.more (fun b hb => by
    rcases List.mem_append.1 hb with q | q
    · exact .inl q
    · exact (k3 b q).imp (fun r => List.mem_append_right X r) id)
  have r2 := r1.apart (k2.weaken (fun b hb => List.mem_append_left G (List.mem_append_right X hb)))
  exact ⟨G, k1, r2.more (fun b hb => .inl (by
    rcases List.mem_append.1 hb with q | q
    · exact List.mem_append_left G (List.mem_append_left F q)
    · exact List.mem_append_right _ q)), h3.trans hbl, k2, k3⟩
set_option maxRecDepth 100000 in
set_option maxHeartbeats 32000000 in
theorem does_5 (w0 : World) (M n : Nat) (m : WorldV) (v : Value) (x : ActW) (w : World) (X F : List Nat) (hXs : ∀ b ∈ X, b < w.heap.size) (hW : WAt w M M F m) (hR : RIs (X ++ F) w v m) (hB0 : Below w0.heap.size w0 w) (hM : w0.heap.size ≤ M) (hg : m.Good n) (hn : n ≤ 100000) (hul : x.U.length = x.un) (hRU : Row w x.ua x.un x.uc 1 (x.U.map Value.string)) (hNU : NotIn F x.ua x.U) (d0 : (x.op == (0 : Int)) = false) (d1 : (x.op == (1 : Int)) = false) (d2 : (x.op == (2 : Int)) = false) (d3 : (x.op == (3 : Int)) = false) (d4 : (x.op == (4 : Int)) = false) :
    Calls Try.prog 19 #[.pointer (some ⟨M, 0, none⟩), v, .agg #[.int .i64 x.op, .slice x.wa x.wn x.wc, .string x.id, .int .i64 x.what, .string x.name, .int .i64 x.size, .int .i64 x.round, .slice x.ua x.un x.uc]] w fun e w' => ∃ v', e = .returned (.tuple #[v', .bool true]) ∧ JX w0 w w' M X F (stepW m x) v' := by
  have HUL := Lib.hid hul
  have HRU := Lib.hid hRU
  have HNU := Lib.hid hNU
  have hbu : x.un ≤ x.uc ∧ x.uc ≤ 9223372036854775807 := by obtain ⟨_, h1, h2, _⟩ := hRU; unfold maxLen at h2; exact ⟨h1, h2⟩
  obtain ⟨hbu1, hbu2⟩ := hbu
  clear hul hRU hNU
  have HG := Lib.hid hg
  clear hg
  have HXS := Lib.hid hXs
  clear hXs
  have HW := Lib.hid hW
  have HV := Lib.hid hR
  have HB0 := Lib.hid hB0
  have HMM := Lib.hid hM
  have HFL := Lib.hid (fun b hb => (hW.foot_lt b hb).2)
  obtain ⟨oa, oc, ba, bc, ia, ic, rfl, hO, hL, hI, _⟩ := hR
  have hbo : m.outs.length ≤ oc ∧ oc ≤ 9223372036854775807 := by obtain ⟨_, h1, h2, _⟩ := hO; unfold maxLen at h2; exact ⟨h1, h2⟩
  obtain ⟨hbo1, hbo2⟩ := hbo
  have hbb : m.boxes.length ≤ bc ∧ bc ≤ 9223372036854775807 := by obtain ⟨_, h1, h2, _⟩ := hL; unfold maxLen at h2; exact ⟨h1, h2⟩
  obtain ⟨hbb1, hbb2⟩ := hbb
  have hbi : m.images.length ≤ ic ∧ ic ≤ 9223372036854775807 := by obtain ⟨_, h1, h2, _⟩ := hI; unfold maxLen at h2; exact ⟨h1, h2⟩
  obtain ⟨hbi1, hbi2⟩ := hbi
  clear hW hB0 hM hO hL hI
  have hw : Below w.heap.size w w := Below.refl _ _
  have hbel := hw
  have HE := Lib.hid (show stepW m x = touchW m x.U x.round by unfold stepW; rw [if_neg (by simpa using d0), if_neg (by simpa using d1), if_neg (by simpa using d2), if_neg (by simpa using d3), if_neg (by simpa using d4)])
  go_enter Try.func19, Try.ntmps19
  go_upto_region 1 with fail
  have pp0 : (((w.alloc (.cells #[.int .i64 m.retries, .slice oa m.outs.length oc, .slice ba m.boxes.length bc, .slice ia m.images.length ic] 31)).alloc (.cells #[.int .i64 x.op, .slice x.wa x.wn x.wc, .string x.id, .int .i64 x.what, .string x.name, .int .i64 x.size, .int .i64 x.round, .slice x.ua x.un x.uc] 36)).alloc (.cells #[.int .i64 0, .slice none 0 0, .slice none 0 0, .slice none 0 0] 31)).cell? ⟨w.heap.size, 0, none⟩ = some (.int .i64 m.retries) := by first | (simp; done) | (rw [World.cell?_alloc_at _ _ _ _ (by simp)]; rfl) | (rw [World.cell?_alloc_past _ _ _ (by simp <;> omega), World.cell?_alloc_at _ _ _ _ (by simp)]; rfl) | (rw [World.cell?_alloc_past _ _ _ (by simp <;> omega), World.cell?_alloc_past _ _ _ (by simp <;> omega), World.cell?_alloc_at _ _ _ _ (by simp)]; rfl)
  have pp1 : (((w.alloc (.cells #[.int .i64 m.retries, .slice oa m.outs.length oc, .slice ba m.boxes.length bc, .slice ia m.images.length ic] 31)).alloc (.cells #[.int .i64 x.op, .slice x.wa x.wn x.wc, .string x.id, .int .i64 x.what, .string x.name, .int .i64 x.size, .int .i64 x.round, .slice x.ua x.un x.uc] 36)).alloc (.cells #[.int .i64 0, .slice none 0 0, .slice none 0 0, .slice none 0 0] 31)).cell? ⟨w.heap.size, 1, none⟩ = some (.slice oa m.outs.length oc) := by first | (simp; done) | (rw [World.cell?_alloc_at _ _ _ _ (by simp)]; rfl) | (rw [World.cell?_alloc_past _ _ _ (by simp <;> omega), World.cell?_alloc_at _ _ _ _ (by simp)]; rfl) | (rw [World.cell?_alloc_past _ _ _ (by simp <;> omega), World.cell?_alloc_past _ _ _ (by simp <;> omega), World.cell?_alloc_at _ _ _ _ (by simp)]; rfl)
  have pp2 : (((w.alloc (.cells #[.int .i64 m.retries, .slice oa m.outs.length oc, .slice ba m.boxes.length bc, .slice ia m.images.length ic] 31)).alloc (.cells #[.int .i64 x.op, .slice x.wa x.wn x.wc, .string x.id, .int .i64 x.what, .string x.name, .int .i64 x.size, .int .i64 x.round, .slice x.ua x.un x.uc] 36)).alloc (.cells #[.int .i64 0, .slice none 0 0, .slice none 0 0, .slice none 0 0] 31)).cell? ⟨w.heap.size, 2, none⟩ = some (.slice ba m.boxes.length bc) := by first | (simp; done) | (rw [World.cell?_alloc_at _ _ _ _ (by simp)]; rfl) | (rw [World.cell?_alloc_past _ _ _ (by simp <;> omega), World.cell?_alloc_at _ _ _ _ (by simp)]; rfl) | (rw [World.cell?_alloc_past _ _ _ (by simp <;> omega), World.cell?_alloc_past _ _ _ (by simp <;> omega), World.cell?_alloc_at _ _ _ _ (by simp)]; rfl)
  have pp3 : (((w.alloc (.cells #[.int .i64 m.retries, .slice oa m.outs.length oc, .slice ba m.boxes.length bc, .slice ia m.images.length ic] 31)).alloc (.cells #[.int .i64 x.op, .slice x.wa x.wn x.wc, .string x.id, .int .i64 x.what, .string x.name, .int .i64 x.size, .int .i64 x.round, .slice x.ua x.un x.uc] 36)).alloc (.cells #[.int .i64 0, .slice none 0 0, .slice none 0 0, .slice none 0 0] 31)).cell? ⟨w.heap.size, 3, none⟩ = some (.slice ia m.images.length ic) := by first | (simp; done) | (rw [World.cell?_alloc_at _ _ _ _ (by simp)]; rfl) | (rw [World.cell?_alloc_past _ _ _ (by simp <;> omega), World.cell?_alloc_at _ _ _ _ (by simp)]; rfl) | (rw [World.cell?_alloc_past _ _ _ (by simp <;> omega), World.cell?_alloc_past _ _ _ (by simp <;> omega), World.cell?_alloc_at _ _ _ _ (by simp)]; rfl)
  have aa0 : (((w.alloc (.cells #[.int .i64 m.retries, .slice oa m.outs.length oc, .slice ba m.boxes.length bc, .slice ia m.images.length ic] 31)).alloc (.cells #[.int .i64 x.op, .slice x.wa x.wn x.wc, .string x.id, .int .i64 x.what, .string x.name, .int .i64 x.size, .int .i64 x.round, .slice x.ua x.un x.uc] 36)).alloc (.cells #[.int .i64 0, .slice none 0 0, .slice none 0 0, .slice none 0 0] 31)).cell? ⟨w.heap.size + 1, 0, none⟩ = some (.int .i64 x.op) := by first | (simp; done) | (rw [World.cell?_alloc_at _ _ _ _ (by simp)]; rfl) | (rw [World.cell?_alloc_past _ _ _ (by simp <;> omega), World.cell?_alloc_at _ _ _ _ (by simp)]; rfl) | (rw [World.cell?_alloc_past _ _ _ (by simp <;> omega), World.cell?_alloc_past _ _ _ (by simp <;> omega), World.cell?_alloc_at _ _ _ _ (by simp)]; rfl)
  have aa1 : (((w.alloc (.cells #[.int .i64 m.retries, .slice oa m.outs.length oc, .slice ba m.boxes.length bc, .slice ia m.images.length ic] 31)).alloc (.cells #[.int .i64 x.op, .slice x.wa x.wn x.wc, .string x.id, .int .i64 x.what, .string x.name, .int .i64 x.size, .int .i64 x.round, .slice x.ua x.un x.uc] 36)).alloc (.cells #[.int .i64 0, .slice none 0 0, .slice none 0 0, .slice none 0 0] 31)).cell? ⟨w.heap.size + 1, 1, none⟩ = some (.slice x.wa x.wn x.wc) := by first | (simp; done) | (rw [World.cell?_alloc_at _ _ _ _ (by simp)]; rfl) | (rw [World.cell?_alloc_past _ _ _ (by simp <;> omega), World.cell?_alloc_at _ _ _ _ (by simp)]; rfl) | (rw [World.cell?_alloc_past _ _ _ (by simp <;> omega), World.cell?_alloc_past _ _ _ (by simp <;> omega), World.cell?_alloc_at _ _ _ _ (by simp)]; rfl)
  have aa2 : (((w.alloc (.cells #[.int .i64 m.retries, .slice oa m.outs.length oc, .slice ba m.boxes.length bc, .slice ia m.images.length ic] 31)).alloc (.cells #[.int .i64 x.op, .slice x.wa x.wn x.wc, .string x.id, .int .i64 x.what, .string x.name, .int .i64 x.size, .int .i64 x.round, .slice x.ua x.un x.uc] 36)).alloc (.cells #[.int .i64 0, .slice none 0 0, .slice none 0 0, .slice none 0 0] 31)).cell? ⟨w.heap.size + 1, 2, none⟩ = some (.string x.id) := by first | (simp; done) | (rw [World.cell?_alloc_at _ _ _ _ (by simp)]; rfl) | (rw [World.cell?_alloc_past _ _ _ (by simp <;> omega), World.cell?_alloc_at _ _ _ _ (by simp)]; rfl) | (rw [World.cell?_alloc_past _ _ _ (by simp <;> omega), World.cell?_alloc_past _ _ _ (by simp <;> omega), World.cell?_alloc_at _ _ _ _ (by simp)]; rfl)
  have aa3 : (((w.alloc (.cells #[.int .i64 m.retries, .slice oa m.outs.length oc, .slice ba m.boxes.length bc, .slice ia m.images.length ic] 31)).alloc (.cells #[.int .i64 x.op, .slice x.wa x.wn x.wc, .string x.id, .int .i64 x.what, .string x.name, .int .i64 x.size, .int .i64 x.round, .slice x.ua x.un x.uc] 36)).alloc (.cells #[.int .i64 0, .slice none 0 0, .slice none 0 0, .slice none 0 0] 31)).cell? ⟨w.heap.size + 1, 3, none⟩ = some (.int .i64 x.what) := by first | (simp; done) | (rw [World.cell?_alloc_at _ _ _ _ (by simp)]; rfl) | (rw [World.cell?_alloc_past _ _ _ (by simp <;> omega), World.cell?_alloc_at _ _ _ _ (by simp)]; rfl) | (rw [World.cell?_alloc_past _ _ _ (by simp <;> omega), World.cell?_alloc_past _ _ _ (by simp <;> omega), World.cell?_alloc_at _ _ _ _ (by simp)]; rfl)
  have aa4 : (((w.alloc (.cells #[.int .i64 m.retries, .slice oa m.outs.length oc, .slice ba m.boxes.length bc, .slice ia m.images.length ic] 31)).alloc (.cells #[.int .i64 x.op, .slice x.wa x.wn x.wc, .string x.id, .int .i64 x.what, .string x.name, .int .i64 x.size, .int .i64 x.round, .slice x.ua x.un x.uc] 36)).alloc (.cells #[.int .i64 0, .slice none 0 0, .slice none 0 0, .slice none 0 0] 31)).cell? ⟨w.heap.size + 1, 4, none⟩ = some (.string x.name) := by first | (simp; done) | (rw [World.cell?_alloc_at _ _ _ _ (by simp)]; rfl) | (rw [World.cell?_alloc_past _ _ _ (by simp <;> omega), World.cell?_alloc_at _ _ _ _ (by simp)]; rfl) | (rw [World.cell?_alloc_past _ _ _ (by simp <;> omega), World.cell?_alloc_past _ _ _ (by simp <;> omega), World.cell?_alloc_at _ _ _ _ (by simp)]; rfl)
  have aa5 : (((w.alloc (.cells #[.int .i64 m.retries, .slice oa m.outs.length oc, .slice ba m.boxes.length bc, .slice ia m.images.length ic] 31)).alloc (.cells #[.int .i64 x.op, .slice x.wa x.wn x.wc, .string x.id, .int .i64 x.what, .string x.name, .int .i64 x.size, .int .i64 x.round, .slice x.ua x.un x.uc] 36)).alloc (.cells #[.int .i64 0, .slice none 0 0, .slice none 0 0, .slice none 0 0] 31)).cell? ⟨w.heap.size + 1, 5, none⟩ = some (.int .i64 x.size) := by first | (simp; done) | (rw [World.cell?_alloc_at _ _ _ _ (by simp)]; rfl) | (rw [World.cell?_alloc_past _ _ _ (by simp <;> omega), World.cell?_alloc_at _ _ _ _ (by simp)]; rfl) | (rw [World.cell?_alloc_past _ _ _ (by simp <;> omega), World.cell?_alloc_past _ _ _ (by simp <;> omega), World.cell?_alloc_at _ _ _ _ (by simp)]; rfl)
  have aa6 : (((w.alloc (.cells #[.int .i64 m.retries, .slice oa m.outs.length oc, .slice ba m.boxes.length bc, .slice ia m.images.length ic] 31)).alloc (.cells #[.int .i64 x.op, .slice x.wa x.wn x.wc, .string x.id, .int .i64 x.what, .string x.name, .int .i64 x.size, .int .i64 x.round, .slice x.ua x.un x.uc] 36)).alloc (.cells #[.int .i64 0, .slice none 0 0, .slice none 0 0, .slice none 0 0] 31)).cell? ⟨w.heap.size + 1, 6, none⟩ = some (.int .i64 x.round) := by first | (simp; done) | (rw [World.cell?_alloc_at _ _ _ _ (by simp)]; rfl) | (rw [World.cell?_alloc_past _ _ _ (by simp <;> omega), World.cell?_alloc_at _ _ _ _ (by simp)]; rfl) | (rw [World.cell?_alloc_past _ _ _ (by simp <;> omega), World.cell?_alloc_past _ _ _ (by simp <;> omega), World.cell?_alloc_at _ _ _ _ (by simp)]; rfl)
  have aa7 : (((w.alloc (.cells #[.int .i64 m.retries, .slice oa m.outs.length oc, .slice ba m.boxes.length bc, .slice ia m.images.length ic] 31)).alloc (.cells #[.int .i64 x.op, .slice x.wa x.wn x.wc, .string x.id, .int .i64 x.what, .string x.name, .int .i64 x.size, .int .i64 x.round, .slice x.ua x.un x.uc] 36)).alloc (.cells #[.int .i64 0, .slice none 0 0, .slice none 0 0, .slice none 0 0] 31)).cell? ⟨w.heap.size + 1, 7, none⟩ = some (.slice x.ua x.un x.uc) := by first | (simp; done) | (rw [World.cell?_alloc_at _ _ _ _ (by simp)]; rfl) | (rw [World.cell?_alloc_past _ _ _ (by simp <;> omega), World.cell?_alloc_at _ _ _ _ (by simp)]; rfl) | (rw [World.cell?_alloc_past _ _ _ (by simp <;> omega), World.cell?_alloc_past _ _ _ (by simp <;> omega), World.cell?_alloc_at _ _ _ _ (by simp)]; rfl)
  have zz0 : (((w.alloc (.cells #[.int .i64 m.retries, .slice oa m.outs.length oc, .slice ba m.boxes.length bc, .slice ia m.images.length ic] 31)).alloc (.cells #[.int .i64 x.op, .slice x.wa x.wn x.wc, .string x.id, .int .i64 x.what, .string x.name, .int .i64 x.size, .int .i64 x.round, .slice x.ua x.un x.uc] 36)).alloc (.cells #[.int .i64 0, .slice none 0 0, .slice none 0 0, .slice none 0 0] 31)).cell? ⟨w.heap.size + 2, 0, none⟩ = some (.int .i64 0) := by first | (simp; done) | (rw [World.cell?_alloc_at _ _ _ _ (by simp)]; rfl) | (rw [World.cell?_alloc_past _ _ _ (by simp <;> omega), World.cell?_alloc_at _ _ _ _ (by simp)]; rfl) | (rw [World.cell?_alloc_past _ _ _ (by simp <;> omega), World.cell?_alloc_past _ _ _ (by simp <;> omega), World.cell?_alloc_at _ _ _ _ (by simp)]; rfl)
  have zz1 : (((w.alloc (.cells #[.int .i64 m.retries, .slice oa m.outs.length oc, .slice ba m.boxes.length bc, .slice ia m.images.length ic] 31)).alloc (.cells #[.int .i64 x.op, .slice x.wa x.wn x.wc, .string x.id, .int .i64 x.what, .string x.name, .int .i64 x.size, .int .i64 x.round, .slice x.ua x.un x.uc] 36)).alloc (.cells #[.int .i64 0, .slice none 0 0, .slice none 0 0, .slice none 0 0] 31)).cell? ⟨w.heap.size + 2, 1, none⟩ = some (.slice none 0 0) := by first | (simp; done) | (rw [World.cell?_alloc_at _ _ _ _ (by simp)]; rfl) | (rw [World.cell?_alloc_past _ _ _ (by simp <;> omega), World.cell?_alloc_at _ _ _ _ (by simp)]; rfl) | (rw [World.cell?_alloc_past _ _ _ (by simp <;> omega), World.cell?_alloc_past _ _ _ (by simp <;> omega), World.cell?_alloc_at _ _ _ _ (by simp)]; rfl)
  have zz2 : (((w.alloc (.cells #[.int .i64 m.retries, .slice oa m.outs.length oc, .slice ba m.boxes.length bc, .slice ia m.images.length ic] 31)).alloc (.cells #[.int .i64 x.op, .slice x.wa x.wn x.wc, .string x.id, .int .i64 x.what, .string x.name, .int .i64 x.size, .int .i64 x.round, .slice x.ua x.un x.uc] 36)).alloc (.cells #[.int .i64 0, .slice none 0 0, .slice none 0 0, .slice none 0 0] 31)).cell? ⟨w.heap.size + 2, 2, none⟩ = some (.slice none 0 0) := by first | (simp; done) | (rw [World.cell?_alloc_at _ _ _ _ (by simp)]; rfl) | (rw [World.cell?_alloc_past _ _ _ (by simp <;> omega), World.cell?_alloc_at _ _ _ _ (by simp)]; rfl) | (rw [World.cell?_alloc_past _ _ _ (by simp <;> omega), World.cell?_alloc_past _ _ _ (by simp <;> omega), World.cell?_alloc_at _ _ _ _ (by simp)]; rfl)
  have zz3 : (((w.alloc (.cells #[.int .i64 m.retries, .slice oa m.outs.length oc, .slice ba m.boxes.length bc, .slice ia m.images.length ic] 31)).alloc (.cells #[.int .i64 x.op, .slice x.wa x.wn x.wc, .string x.id, .int .i64 x.what, .string x.name, .int .i64 x.size, .int .i64 x.round, .slice x.ua x.un x.uc] 36)).alloc (.cells #[.int .i64 0, .slice none 0 0, .slice none 0 0, .slice none 0 0] 31)).cell? ⟨w.heap.size + 2, 3, none⟩ = some (.slice none 0 0) := by first | (simp; done) | (rw [World.cell?_alloc_at _ _ _ _ (by simp)]; rfl) | (rw [World.cell?_alloc_past _ _ _ (by simp <;> omega), World.cell?_alloc_at _ _ _ _ (by simp)]; rfl) | (rw [World.cell?_alloc_past _ _ _ (by simp <;> omega), World.cell?_alloc_past _ _ _ (by simp <;> omega), World.cell?_alloc_at _ _ _ _ (by simp)]; rfl)
  have hb2 := (by repeat (first | exact hbel | refine belAlloc ?_ _ | refine belDrew ?_ | refine belSet ?_ _ _ (by simp)) : Below w.heap.size w (((w.alloc (.cells #[.int .i64 m.retries, .slice oa m.outs.length oc, .slice ba m.boxes.length bc, .slice ia m.images.length ic] 31)).alloc (.cells #[.int .i64 x.op, .slice x.wa x.wn x.wc, .string x.id, .int .i64 x.what, .string x.name, .int .i64 x.size, .int .i64 x.round, .slice x.ua x.un x.uc] 36)).alloc (.cells #[.int .i64 0, .slice none 0 0, .slice none 0 0, .slice none 0 0] 31)))
  replace hw := belStep hw hb2
  have ppB : Blk (((w.alloc (.cells #[.int .i64 m.retries, .slice oa m.outs.length oc, .slice ba m.boxes.length bc, .slice ia m.images.length ic] 31)).alloc (.cells #[.int .i64 x.op, .slice x.wa x.wn x.wc, .string x.id, .int .i64 x.what, .string x.name, .int .i64 x.size, .int .i64 x.round, .slice x.ua x.un x.uc] 36)).alloc (.cells #[.int .i64 0, .slice none 0 0, .slice none 0 0, .slice none 0 0] 31)) (w.heap.size) [.int .i64 m.retries, .slice oa m.outs.length oc, .slice ba m.boxes.length bc, .slice ia m.images.length ic] 31 := (Blk.at (by simp) : Blk (w.alloc (.cells #[.int .i64 m.retries, .slice oa m.outs.length oc, .slice ba m.boxes.length bc, .slice ia m.images.length ic] 31)) (w.heap.size) [.int .i64 m.retries, .slice oa m.outs.length oc, .slice ba m.boxes.length bc, .slice ia m.images.length ic] 31).later (by repeat (first | exact Below.refl _ _ | refine belAlloc ?_ _))
  have ppF := Blk.keepF ppB
  replace ppB := Blk.keepB ppB
  have aaB : Blk (((w.alloc (.cells #[.int .i64 m.retries, .slice oa m.outs.length oc, .slice ba m.boxes.length bc, .slice ia m.images.length ic] 31)).alloc (.cells #[.int .i64 x.op, .slice x.wa x.wn x.wc, .string x.id, .int .i64 x.what, .string x.name, .int .i64 x.size, .int .i64 x.round, .slice x.ua x.un x.uc] 36)).alloc (.cells #[.int .i64 0, .slice none 0 0, .slice none 0 0, .slice none 0 0] 31)) (w.heap.size + 1) [.int .i64 x.op, .slice x.wa x.wn x.wc, .string x.id, .int .i64 x.what, .string x.name, .int .i64 x.size, .int .i64 x.round, .slice x.ua x.un x.uc] 36 := (Blk.at (by simp) : Blk ((w.alloc (.cells #[.int .i64 m.retries, .slice oa m.outs.length oc, .slice ba m.boxes.length bc, .slice ia m.images.length ic] 31)).alloc (.cells #[.int .i64 x.op, .slice x.wa x.wn x.wc, .string x.id, .int .i64 x.what, .string x.name, .int .i64 x.size, .int .i64 x.round, .slice x.ua x.un x.uc] 36)) (w.heap.size + 1) [.int .i64 x.op, .slice x.wa x.wn x.wc, .string x.id, .int .i64 x.what, .string x.name, .int .i64 x.size, .int .i64 x.round, .slice x.ua x.un x.uc] 36).later (by repeat (first | exact Below.refl _ _ | refine belAlloc ?_ _))
  have aaF := Blk.keepF aaB
  replace aaB := Blk.keepB aaB
  have zzB : Blk (((w.alloc (.cells #[.int .i64 m.retries, .slice oa m.outs.length oc, .slice ba m.boxes.length bc, .slice ia m.images.length ic] 31)).alloc (.cells #[.int .i64 x.op, .slice x.wa x.wn x.wc, .string x.id, .int .i64 x.what, .string x.name, .int .i64 x.size, .int .i64 x.round, .slice x.ua x.un x.uc] 36)).alloc (.cells #[.int .i64 0, .slice none 0 0, .slice none 0 0, .slice none 0 0] 31)) (w.heap.size + 2) [.int .i64 0, .slice none 0 0, .slice none 0 0, .slice none 0 0] 31 := (Blk.at (by simp) : Blk (((w.alloc (.cells #[.int .i64 m.retries, .slice oa m.outs.length oc, .slice ba m.boxes.length bc, .slice ia m.images.length ic] 31)).alloc (.cells #[.int .i64 x.op, .slice x.wa x.wn x.wc, .string x.id, .int .i64 x.what, .string x.name, .int .i64 x.size, .int .i64 x.round, .slice x.ua x.un x.uc] 36)).alloc (.cells #[.int .i64 0, .slice none 0 0, .slice none 0 0, .slice none 0 0] 31)) (w.heap.size + 2) [.int .i64 0, .slice none 0 0, .slice none 0 0, .slice none 0 0] 31).later (by repeat (first | exact Below.refl _ _ | refine belAlloc ?_ _))
  have zzF := Blk.keepF zzB
  replace zzB := Blk.keepB zzB
  clear hb2 hbel
  generalize ((w.alloc (.cells #[.int .i64 m.retries, .slice oa m.outs.length oc, .slice ba m.boxes.length bc, .slice ia m.images.length ic] 31)).alloc (.cells #[.int .i64 x.op, .slice x.wa x.wn x.wc, .string x.id, .int .i64 x.what, .string x.name, .int .i64 x.size, .int .i64 x.round, .slice x.ua x.un x.uc] 36)).alloc (.cells #[.int .i64 0, .slice none 0 0, .slice none 0 0, .slice none 0 0] 31) = W1 at *
  replace pp0 := keep pp0
  replace pp1 := keep pp1
  replace pp2 := keep pp2
  replace pp3 := keep pp3
  replace aa0 := keep aa0
  replace aa1 := keep aa1
  replace aa2 := keep aa2
  replace aa3 := keep aa3
  replace aa4 := keep aa4
  replace aa5 := keep aa5
  replace aa6 := keep aa6
  replace aa7 := keep aa7
  replace zz0 := keep zz0
  replace zz1 := keep zz1
  replace zz2 := keep zz2
  replace zz3 := keep zz3
  have hbel : Below W1.heap.size W1 W1 := Below.refl _ _
  skip
  have HP := Lib.hid (ppB W1 (Below.refl _ _))
  have HA := Lib.hid (aaB W1 (Below.refl _ _))
  have HZ := Lib.hid (zzB W1 (Below.refl _ _))
  have HB := Lib.hid hw
  clear hw ppB aaB zzB
  obtain ⟨K, hK⟩ : ∃ k, touchW m x.U x.round = k := ⟨_, rfl⟩
  have CW := Lib.hid (fun u (h : WAt u M M F m) (hRu : Row u x.ua x.un x.uc 1 (x.U.map Value.string)) => wd_Touch M M F m x.ua x.un x.uc x.U x.round u h HG.out.risesI (Nat.le_trans HG.out.lenI hn) HUL.out hRu)
  have CR := Lib.hid (fun G v u (h : RIs G u v m) (hG : ∀ b ∈ G, b < u.heap.size) (hRu : Row u x.ua x.un x.uc 1 (x.U.map Value.string)) => r16_Touch x.ua x.un x.uc x.U x.round G v m u h hG HUL.out hRu (Nat.le_trans HG.out.lenI hn))
  rw [hK] at CR CW HE
  clear hK
  have hw0 : w0.heap.size ≤ w.heap.size + 1 + 1 := by have := HB0.out.size; omega
  have hz2 : w.heap.size ≤ w.heap.size + 1 + 1 := by omega
  have hlt := HZ.out.lt
  have HV1 := Lib.hid (show RIs (((w.heap.size + 1 + 1) :: X) ++ F) W1 _ m from ((HV.out.more (G := ((w.heap.size + 1 + 1) :: X) ++ F) (fun b hb => by rcases List.mem_append.1 hb with q | q; rcases List.mem_cons.1 q with q | q; subst q; exact .inr (by omega); exact .inl (List.mem_append_left F q); exact .inl (List.mem_append_right X q))).later HB.out))
  have HW1 := Lib.hid (HW.out.later HB.out)
  have HB1 := Lib.hid (belStep HB0.out HB.out)
  go_upto_region 20 with (go_at_call 63; (with_reducible refine (CW.out _ HW1.out (HRU.out.later HB.out)).mono ?_); rintro e WQ ⟨rfl, hT⟩; have hj := jw_runX2 HW1.out HV1.out HB1.out HMM.out hT; obtain ⟨G, g1, g2, g3, g5, g6⟩ := hj; have HG1 := Lib.hid g1; have HG2 := Lib.hid g2; have HG3 := Lib.hid g3; have HG6 := Lib.hid g6; have HG5 := Lib.hid ((Apart.of_below (F := F) HB.out).trans g5); have HG7 := Lib.hid (show ∀ b ∈ G, b ∈ F ∨ w.heap.size ≤ b from fun b hb => (g6 b hb).imp id (fun r => Nat.le_trans (HB.out).size r)); have HRQ := Lib.hid (g5.row (HRU.out.later HB.out) (fun q => HNU.out (fun z => q (by rw [z]; rfl)))); have HPq := Lib.hid (HP.out.apart g5 (fun q => absurd (HFL.out _ q) (by omega))); have HAq := Lib.hid (HA.out.apart g5 (fun q => absurd (HFL.out _ q) (by omega))); have HZq := Lib.hid (HZ.out.apart g5 (fun q => absurd (HFL.out _ q) (by omega))); clear hT g1 g2 g3 g5 g6)
  clear hbel pp0 pp1 pp2 pp3 aa0 aa1 aa2 aa3 aa4 aa5 aa6 aa7 zz0 zz1 zz2 zz3 ppF aaF zzF
  have p0 := HPq.out.cell (j := 0) rfl
  have p1 := HPq.out.cell (j := 1) rfl
  have p2 := HPq.out.cell (j := 2) rfl
  have p3 := HPq.out.cell (j := 3) rfl
  have a6 := HAq.out.cell (j := 6) rfl
  have a7 := HAq.out.cell (j := 7) rfl
  have hltq := HZq.out.lt
  have HFQ := Lib.hid (show ∀ b ∈ ((w.heap.size + 1 + 1) :: X) ++ G, b < WQ.heap.size from fun b hb => by rcases List.mem_append.1 hb with q | q; rcases List.mem_cons.1 q with q | q; subst q; exact hltq; exact Nat.lt_of_lt_of_le (HXS.out b q) HG5.out.size; exact (HG1.out.foot_lt b q).2)
  go_wp2_with (go_at_call 64; (with_reducible refine (CR.out _ _ _ HG2.out HFQ.out HRQ.out).mono ?_); rintro e W9 ⟨v9, rfl, hR9, hb9⟩; have HV9 := Lib.hid hR9; obtain ⟨oa1, oc1, ba1, bc1, ia1, ic1, rfl, hO1, hL1, hI1, hN1⟩ := hR9; have hbo1 := hO1.2; have hbb1 := hL1.2; have hbi1 := hI1.2; have HRI1 := Lib.hid hI1; clear hO1 hL1 hI1 hN1; have HB9 := Lib.hid hb9; have HZ9 := Lib.hid (HZq.out.later hb9); have z0 := HZ9.out.cell (j := 0) rfl; have z1 := HZ9.out.cell (j := 1) rfl; have z2 := HZ9.out.cell (j := 2) rfl; have z3 := HZ9.out.cell (j := 3) rfl; have zf := HZ9.out.frozen; clear hb9)
  have HW9 := Lib.hid (HG1.out.later HB9.out)
  have hfa := Lib.hid (((((Apart.refl (((w.heap.size + 1 + 1) :: X) ++ G) W9).set ⟨w.heap.size + 1 + 1, 0, none⟩ (.int .i64 K.retries) (by simp)).set ⟨w.heap.size + 1 + 1, 1, none⟩ (.slice oa1 K.outs.length oc1) (by simp)).set ⟨w.heap.size + 1 + 1, 2, none⟩ (.slice ba1 K.boxes.length bc1) (by simp)).set ⟨w.heap.size + 1 + 1, 3, none⟩ (.slice ia1 K.images.length ic1) (by simp))
  have hnz : w.heap.size + 1 + 1 ∉ G := fun q => (HG6.out _ q).elim (fun r => absurd (HFL.out _ r) (by omega)) (fun r => by omega)
  refine does_ret _ (w.heap.size + 1 + 1) _ _ oa1 _ oc1 ba1 _ bc1 ia1 _ ic1 true _ rfl rfl ((((HZ9.out.set 0 (.int .i64 K.retries)).set 1 (.slice oa1 K.outs.length oc1)).set 2 (.slice ba1 K.boxes.length bc1)).set 3 (.slice ia1 K.images.length ic1)) ⟨_, rfl, ?_⟩
  rw [HE.out]
  have h9 := HV9.out.apart hfa.out
  refine ⟨G, HW9.out.same (fun b hb => ?_), h9.more (fun b hb => .inl (List.mem_cons_of_mem _ hb)), ?_, HMM.out, ?_, HG7.out⟩
  · exact (show Apart [w.heap.size + 1 + 1] W9 _ from (((((Apart.refl [w.heap.size + 1 + 1] W9).set ⟨w.heap.size + 1 + 1, 0, none⟩ (.int .i64 K.retries) (by simp)).set ⟨w.heap.size + 1 + 1, 1, none⟩ (.slice oa1 K.outs.length oc1) (by simp)).set ⟨w.heap.size + 1 + 1, 2, none⟩ (.slice ba1 K.boxes.length bc1) (by simp)).set ⟨w.heap.size + 1 + 1, 3, none⟩ (.slice ia1 K.images.length ic1) (by simp))).block b (HW9.out.foot_lt b hb).2 (fun q => by simp only [List.mem_singleton] at q; subst q; exact hnz hb)
  · exact (belSet (belSet (belSet (belSet (belStep HG3.out HB9.out) ⟨w.heap.size + 1 + 1, 0, none⟩ (.int .i64 K.retries) hw0) ⟨w.heap.size + 1 + 1, 1, none⟩ (.slice oa1 K.outs.length oc1) hw0) ⟨w.heap.size + 1 + 1, 2, none⟩ (.slice ba1 K.boxes.length bc1) hw0) ⟨w.heap.size + 1 + 1, 3, none⟩ (.slice ia1 K.images.length ic1) hw0)
  · exact (((((HG5.out.trans (Apart.of_below HB9.out)).setNew ⟨w.heap.size + 1 + 1, 0, none⟩ (.int .i64 K.retries) hz2).setNew ⟨w.heap.size + 1 + 1, 1, none⟩ (.slice oa1 K.outs.length oc1) hz2).setNew ⟨w.heap.size + 1 + 1, 2, none⟩ (.slice ba1 K.boxes.length bc1) hz2).setNew ⟨w.heap.size + 1 + 1, 3, none⟩ (.slice ia1 K.images.length ic1) hz2)
end Go.Proofs.Ytcnjcldfbidkmaa
namespace Go.Proofs.Ytcnjcldfbidkmaa
open Go.RowKit Go.Sort
set_option linter.unusedVariables false
set_option linter.unusedSimpArgs false
theorem row_first_ne {u : World} {a : Option Addr} {n c k : Nat} {y : Value} {l : List Value} (hr : Row u a n c k (y :: l)) {b : Nat} {C : List Value} {T : TypeId} (hb : Blk u b C T) (hy : y ∉ C) {x : Addr} (ex : a = some x) : x.block ≠ b := by
  obtain ⟨_, _, _, _, h5⟩ := hr
  rcases h5 with h5 | ⟨g, o, e2, h5⟩
  · cases h5
  · rw [ex] at e2
    cases e2
    intro e
    have h6 := h5 0 (by simp)
    subst e
    unfold World.cell? at h6
    unfold Blk at hb
    rw [hb] at h6
    simp at h6
    exact hy (List.mem_of_getElem? h6)
def worldKind (C : List Value) : Prop := (∀ s, Value.string s ∉ C) ∧ ∀ c, Value.bool c ∉ C
/-- None of a runtime's rows lies in a block that holds a runtime. -/
theorem ris_blk {F : List Nat} {u : World} {v : Value} {m : WorldV} {b : Nat} {C : List Value} {T : TypeId} (h : RIs F u v m) (hb : Blk u b C T) (hC : worldKind C) : RIs (b :: F) u v m := by
  obtain ⟨oa, oc, ba, bc, ia, ic, e, h1, h2, h3, n1, n2, n3⟩ := h
  refine ⟨oa, oc, ba, bc, ia, ic, e, h1, h2, h3, fun q x ex hx => ?_, fun q x ex hx => ?_, fun q x ex hx => ?_⟩
  · rcases List.mem_cons.1 hx with r | r
    · cases hm : m.outs with
      | nil => exact q hm
      | cons y l => rw [hm] at h1; exact row_first_ne h1 hb (hC.2 _) ex r
    · exact n1 q x ex r
  · rcases List.mem_cons.1 hx with r | r
    · cases hm : m.boxes with
      | nil => exact q hm
      | cons y l => rw [hm] at h2; exact row_first_ne h2 hb (hC.1 _) ex r
    · exact n2 q x ex r
  · rcases List.mem_cons.1 hx with r | r
    · cases hm : m.images with
      | nil => exact q hm
      | cons y l => rw [hm] at h3; exact row_first_ne h3 hb (hC.1 _) ex r
    · exact n3 q x ex r
theorem kindW (r : Int) (a b c : Option Addr) (l m n d e f : Nat) : worldKind [.int .i64 r, .slice a l d, .slice b m e, .slice c n f] := ⟨fun s h => by simp at h, fun s h => by simp at h⟩
def cellsW (m : WorldV) (oa ba ia : Option Addr) (oc bc ic : Nat) : List Value := [.int .i64 m.retries, .slice oa m.outs.length oc, .slice ba m.boxes.length bc, .slice ia m.images.length ic]
/-- The runtime at M, and the law's own one, as a value in the block mb. -/
def LoopW (w u : World) (M mb : Nat) (m : WorldV) : Prop := ∃ oa oc ba bc ia ic F, Blk u mb [.int .i64 m.retries, .slice oa m.outs.length oc, .slice ba m.boxes.length bc, .slice ia m.images.length ic] 31 ∧ WAt u M M F m ∧ RIs F u (.agg #[.int .i64 m.retries, .slice oa m.outs.length oc, .slice ba m.boxes.length bc, .slice ia m.images.length ic]) m ∧ Below w.heap.size w u ∧ w.heap.size ≤ M ∧ mb ∉ F ∧ w.heap.size ≤ mb
theorem LoopW.below {w u : World} {M mb : Nat} {m : WorldV} (h : LoopW w u M mb m) : Below w.heap.size w u := by obtain ⟨_, _, _, _, _, _, _, _, _, _, h, _⟩ := h; exact h
theorem loopW_put {w u : World} {M mb : Nat} {G : List Nat} {m : WorldV} {oa ba ia : Option Addr} {oc bc ic : Nat} (hW : WAt u M M G m) (hR : RIs G u (.agg #[.int .i64 m.retries, .slice oa m.outs.length oc, .slice ba m.boxes.length bc, .slice ia m.images.length ic]) m)
    (hb : Below w.heap.size w u) (hM : w.heap.size ≤ M) (hm : mb ∉ G) (hw : w.heap.size ≤ mb) (c0 c1 c2 c3 : Value) (hB : Blk u mb [c0, c1, c2, c3] 31) (hC : worldKind [c0, c1, c2, c3]) :
    LoopW w ((((u.setCell ⟨mb, 0, none⟩ (.int .i64 m.retries)).setCell ⟨mb, 1, none⟩ (.slice oa m.outs.length oc)).setCell ⟨mb, 2, none⟩ (.slice ba m.boxes.length bc)).setCell ⟨mb, 3, none⟩ (.slice ia m.images.length ic)) M mb m := by
  have hA := ((((Apart.refl [mb] u).set ⟨mb, 0, none⟩ (.int .i64 m.retries) (by simp)).set ⟨mb, 1, none⟩ (.slice oa m.outs.length oc) (by simp)).set ⟨mb, 2, none⟩ (.slice ba m.boxes.length bc) (by simp)).set ⟨mb, 3, none⟩ (.slice ia m.images.length ic) (by simp)
  have hR2 := (ris_blk hR hB hC).apart (hA.weaken (fun b hb => by simp only [List.mem_singleton] at hb; subst hb; exact List.mem_cons_self))
  refine ⟨oa, oc, ba, bc, ia, ic, G, ?_, hW.same (fun b hb2 => hA.block b (hW.foot_lt b hb2).2 (fun q => by simp only [List.mem_singleton] at q; subst q; exact hm hb2)), hR2.more (fun b hb2 => .inl (List.mem_cons_of_mem _ hb2)), ?_, hM, hm, hw⟩
  · exact (((hB.set 0 (.int .i64 m.retries)).set 1 (.slice oa m.outs.length oc)).set 2 (.slice ba m.boxes.length bc)).set 3 (.slice ia m.images.length ic)
  · exact belSet (belSet (belSet (belSet hb ⟨mb, 0, none⟩ _ hw) ⟨mb, 1, none⟩ _ hw) ⟨mb, 2, none⟩ _ hw) ⟨mb, 3, none⟩ _ hw
theorem LoopW.start {w u : World} {M : Nat} {r : Int} (h : WL w u M [] ⟨r, [], [], []⟩) : LoopW w (u.alloc (.cells #[.int .i64 r, .slice none 0 0, .slice none 0 0, .slice none 0 0] 31)) M u.heap.size ⟨r, [], [], []⟩ := by
  obtain ⟨F, h1, h2, h3, _⟩ := h
  have hb : Below u.heap.size u (u.alloc (.cells #[.int .i64 r, .slice none 0 0, .slice none 0 0, .slice none 0 0] 31)) := belAlloc (Below.refl _ _) _
  exact ⟨none, 0, none, 0, none, 0, F, Blk.new u [.int .i64 r, .slice none 0 0, .slice none 0 0, .slice none 0 0] _, h1.later hb, ⟨none, 0, none, 0, none, 0, rfl, row_nil, row_nil, row_nil, fun q => absurd rfl q, fun q => absurd rfl q, fun q => absurd rfl q⟩, belStep h2 hb, h3, fun q => absurd (h1.foot_lt _ q).2 (by omega), h2.size⟩
theorem LoopW.later {w u x : World} {M mb : Nat} {m : WorldV} (h : LoopW w u M mb m) (hb : Below u.heap.size u x) : LoopW w x M mb m := by
  obtain ⟨oa, oc, ba, bc, ia, ic, F, h0, h1, h2, h3, h4⟩ := h
  exact ⟨oa, oc, ba, bc, ia, ic, F, h0.later hb, h1.later hb, h2.later hb, belStep h3 hb, h4⟩
/-- A runtime that is put into a block of the law. -/
theorem worlds_put {w u : World} {M xb mb : Nat} {G : List Nat} {m : WorldV} {D : List Value} {T : TypeId} {oa ba ia : Option Addr} {oc bc ic : Nat} (hW : WAt u M M G m) (hR : RIs G u (.agg #[.int .i64 m.retries, .slice oa m.outs.length oc, .slice ba m.boxes.length bc, .slice ia m.images.length ic]) m)
    (hb : Below w.heap.size w u) (hx : xb ∉ G) (hw : w.heap.size ≤ xb) (c0 c1 c2 c3 : Value) (hB : Blk u xb [c0, c1, c2, c3] 31) (hC : worldKind [c0, c1, c2, c3]) (hM : Blk u mb D T) (hne : mb ≠ xb) {u2 : World}
    (e2 : ((((u.setCell ⟨xb, 0, none⟩ (.int .i64 m.retries)).setCell ⟨xb, 1, none⟩ (.slice oa m.outs.length oc)).setCell ⟨xb, 2, none⟩ (.slice ba m.boxes.length bc)).setCell ⟨xb, 3, none⟩ (.slice ia m.images.length ic)) = u2) :
    WAt u2 M M G m ∧ RIs G u2 (.agg #[.int .i64 m.retries, .slice oa m.outs.length oc, .slice ba m.boxes.length bc, .slice ia m.images.length ic]) m ∧ Below w.heap.size w u2 ∧ Blk u2 xb [.int .i64 m.retries, .slice oa m.outs.length oc, .slice ba m.boxes.length bc, .slice ia m.images.length ic] 31 ∧ Blk u2 mb D T := by
  subst e2
  have hA := ((((Apart.refl [xb] u).set ⟨xb, 0, none⟩ (.int .i64 m.retries) (by simp)).set ⟨xb, 1, none⟩ (.slice oa m.outs.length oc) (by simp)).set ⟨xb, 2, none⟩ (.slice ba m.boxes.length bc) (by simp)).set ⟨xb, 3, none⟩ (.slice ia m.images.length ic) (by simp)
  have hR2 := (ris_blk hR hB hC).apart (hA.weaken (fun b hb => by simp only [List.mem_singleton] at hb; subst hb; exact List.mem_cons_self))
  refine ⟨hW.same (fun b hb2 => hA.block b (hW.foot_lt b hb2).2 (fun q => by simp only [List.mem_singleton] at q; subst q; exact hx hb2)), hR2.more (fun b hb2 => .inl (List.mem_cons_of_mem _ hb2)), ?_, ?_, hM.apart hA (fun q => hne (by simpa using q))⟩
  · exact belSet (belSet (belSet (belSet hb ⟨xb, 0, none⟩ _ hw) ⟨xb, 1, none⟩ _ hw) ⟨xb, 2, none⟩ _ hw) ⟨xb, 3, none⟩ _ hw
  · exact (((hB.set 0 (.int .i64 m.retries)).set 1 (.slice oa m.outs.length oc)).set 2 (.slice ba m.boxes.length bc)).set 3 (.slice ia m.images.length ic)
theorem samesW (m : WorldV) : (sameC m.boxes m.boxes && sameV m.outs m.outs && sameI m.images m.images) = true := by rw [(sameC_iff _ _).2 rfl, sameV_refl, (sameI_iff _ _).2 rfl]; rfl
theorem good_laterW {w u : World} {x : ActW} (h : x.good w) (hb : Below w.heap.size w u) : x.good u := ⟨h.1, h.2.1.later hb, h.2.2.later hb⟩
/-- What lay there before the law began is none of the runtime's. -/
theorem notin_before {w u : World} {M : Nat} {F : List Nat} {m : WorldV} {a : Option Addr} {n c : Nat} {U : List ByteArray} (h : WAt u M M F m) (hM : w.heap.size ≤ M) (hr : Row w a n c 1 (U.map Value.string)) : NotIn F a U := fun q x ex hx => by
  have h1 := row_ltF hr (by intro z; exact q (List.map_eq_nil_iff.1 z)) ex
  have h2 := (h.foot_lt _ hx).1
  omega
theorem law16_doesX (w0 : World) (M n : Nat) (m : WorldV) (v : Value) (x : ActW) (w : World) (X F : List Nat) (hXs : ∀ b ∈ X, b < w.heap.size) (hW : WAt w M M F m) (hR : RIs (X ++ F) w v m) (hB0 : Below w0.heap.size w0 w) (hM : w0.heap.size ≤ M) (hg : m.Good n) (hn : n ≤ 100000) (hx : x.good w) (hNU : NotIn F x.ua x.U) (hwn : x.wn ≤ 3000) :
    Calls Try.prog 19 #[.pointer (some ⟨M, 0, none⟩), v, .agg #[.int .i64 x.op, .slice x.wa x.wn x.wc, .string x.id, .int .i64 x.what, .string x.name, .int .i64 x.size, .int .i64 x.round, .slice x.ua x.un x.uc]] w fun e w' => ∃ v', e = .returned (.tuple #[v', .bool true]) ∧ JX w0 w w' M X F (stepW m x) v' := by
  by_cases h0 : x.op = 0
  · exact does_0 w0 M n m v x w X F hXs hW hR hB0 hM hg hx hwn h0
  · by_cases h1 : x.op = 1
    · exact does_1 w0 M n m v x w X F hXs hW hR hB0 hM hg hn h1
    · by_cases h2 : x.op = 2
      · exact does_2 w0 M n m v x w X F hXs hW hR hB0 hM hg hn hx.1.2.2.1 h2
      · by_cases h3 : x.op = 3
        · exact does_3 w0 M n m v x w X F hXs hW hR hB0 hM hg hn h3
        · by_cases h4 : x.op = 4
          · exact does_4 w0 M n m v x w X F hXs hW hR hB0 hM hg hn h4
          · exact does_5 w0 M n m v x w X F hXs hW hR hB0 hM hg hn hx.1.2.2.2.2.2.2.2.1 hx.2.2 hNU (beq_eq_false_iff_ne.2 h0) (beq_eq_false_iff_ne.2 h1) (beq_eq_false_iff_ne.2 h2) (beq_eq_false_iff_ne.2 h3) (beq_eq_false_iff_ne.2 h4)
theorem law16_does (w0 : World) (M n : Nat) (m : WorldV) (v : Value) (x : ActW) (w : World) (F : List Nat) (hW : WAt w M M F m) (hR : RIs F w v m) (hB0 : Below w0.heap.size w0 w) (hM : w0.heap.size ≤ M) (hg : m.Good n) (hn : n ≤ 100000) (hx : x.good w) (hNU : NotIn F x.ua x.U) (hwn : x.wn ≤ 3000) :
    Calls Try.prog 19 #[.pointer (some ⟨M, 0, none⟩), v, .agg #[.int .i64 x.op, .slice x.wa x.wn x.wc, .string x.id, .int .i64 x.what, .string x.name, .int .i64 x.size, .int .i64 x.round, .slice x.ua x.un x.uc]] w fun e w' => ∃ v', e = .returned (.tuple #[v', .bool true]) ∧ JX w0 w w' M [] F (stepW m x) v' := law16_doesX w0 M n m v x w [] F (fun b h => by cases h) hW hR hB0 hM hg hn hx hNU hwn
end Go.Proofs.Ytcnjcldfbidkmaa
