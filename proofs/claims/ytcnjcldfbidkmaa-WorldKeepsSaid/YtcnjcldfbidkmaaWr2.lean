
/- The reference of stage 16: a runtime as a value; Feed, may. -/
import Derived.Test.YtcnjcldfbidkmaaWr1
import Derived.Test.YtcnjcldfbidkmaaBoxM
namespace Go.Proofs.Ytcnjcldfbidkmaa
open Go.RowKit Go.Sort
set_option linter.unusedVariables false
set_option linter.unusedSimpArgs false
/-- A runtime as a value. -/
def NotIn (F : List Nat) {α : Type} (a : Option Addr) (l : List α) : Prop := l ≠ [] → ∀ x, a = some x → x.block ∉ F
def RIs (F : List Nat) (u : World) (v : Value) (m : WorldV) : Prop := ∃ oa oc ba bc ia ic, v = .agg #[.int .i64 m.retries, .slice oa m.outs.length oc, .slice ba m.boxes.length bc, .slice ia m.images.length ic] ∧ Row u oa m.outs.length oc 1 (m.outs.map Value.bool) ∧ Row u ba m.boxes.length bc 4 (m.boxes.flatMap ContV.cells) ∧ Row u ia m.images.length ic 3 (m.images.flatMap ImgV.cells) ∧ NotIn F oa m.outs ∧ NotIn F ba m.boxes ∧ NotIn F ia m.images
theorem RIs.later {F : List Nat} {u w : World} {v : Value} {m : WorldV} (h : RIs F u v m) (hb : Below u.heap.size u w) : RIs F w v m := by
  obtain ⟨oa, oc, ba, bc, ia, ic, e, h1, h2, h3, h4⟩ := h
  exact ⟨oa, oc, ba, bc, ia, ic, e, h1.later hb, h2.later hb, h3.later hb, h4⟩
theorem row_ltF {u : World} {a : Option Addr} {n c k : Nat} {cs : List Value} (h : Row u a n c k cs) (hc : cs ≠ []) {x : Addr} (e : a = some x) : x.block < u.heap.size := by
  obtain ⟨_, _, _, _, h5⟩ := h
  rcases h5 with h5 | ⟨b, o, e2, h5⟩
  · exact absurd h5 hc
  · rw [e] at e2; cases e2
    have h6 := h5 0 (List.length_pos_iff.2 hc)
    rw [List.getElem?_eq_getElem (List.length_pos_iff.2 hc)] at h6
    exact World.block_lt_of_cell? _ _ h6
theorem notin_flat {α : Type} {f : α → List Value} {L : List α} {k : Nat} (hf : ∀ x, (f x).length = k) (hk : 0 < k) (h : L ≠ []) : L.flatMap f ≠ [] := by
  cases L with
  | nil => exact absurd rfl h
  | cons x l => intro e; have := congrArg List.length e; rw [List.flatMap_cons, List.length_append, hf x] at this; simp at this; omega
/-- Blocks that are made later, and those that were set apart before. -/
theorem RIs.more {F G : List Nat} {u : World} {v : Value} {m : WorldV} (h : RIs F u v m) (hG : ∀ b ∈ G, b ∈ F ∨ u.heap.size ≤ b) : RIs G u v m := by
  obtain ⟨oa, oc, ba, bc, ia, ic, e, h1, h2, h3, n1, n2, n3⟩ := h
  refine ⟨oa, oc, ba, bc, ia, ic, e, h1, h2, h3, fun q x ex hx => ?_, fun q x ex hx => ?_, fun q x ex hx => ?_⟩
  · have := row_ltF h1 (by simpa using q) ex
    rcases hG _ hx with r | r
    · exact n1 q x ex r
    · omega
  · have := row_ltF h2 (notin_flat ContV.cells_len (by omega) q) ex
    rcases hG _ hx with r | r
    · exact n2 q x ex r
    · omega
  · have := row_ltF h3 (notin_flat ImgV.cells_len (by omega) q) ex
    rcases hG _ hx with r | r
    · exact n3 q x ex r
    · omega
theorem RIs.apart {F : List Nat} {u f : World} {v : Value} {m : WorldV} (h : RIs F u v m) (hA : Apart F u f) : RIs F f v m := by
  obtain ⟨oa, oc, ba, bc, ia, ic, e, h1, h2, h3, n1, n2, n3⟩ := h
  exact ⟨oa, oc, ba, bc, ia, ic, e, hA.row h1 (fun q => n1 (by intro z; exact q (by rw [z]; rfl))), hA.row h2 (fun q => n2 (by intro z; exact q (by rw [z]; rfl))), hA.row h3 (fun q => n3 (by intro z; exact q (by rw [z]; rfl))), n1, n2, n3⟩
theorem notin_own {F : List Nat} {α : Type} {u : World} {B k n c : Nat} {E : TypeId} {a : Option Addr} {cs : List Value} {l : List α} (h : OwnR u B E k (.slice a n c) n cs) (hF : ∀ b ∈ F, b < B) : NotIn F a l := fun _ x e hx => by
  subst e
  rcases own_open h with ⟨e, _, _⟩ | ⟨g, c2, C, e, hB, _⟩
  · cases e
  · simp only [Value.slice.injEq, Option.some.injEq] at e
    obtain ⟨rfl, _⟩ := e
    have := hF _ hx
    simp only at this
    omega
theorem own_apartF {u f : World} {B k n : Nat} {E : TypeId} {v : Value} {cs : List Value} {F : List Nat} (ho : OwnR u B E k v n cs) (hA : Apart F u f) (hF : ∀ b ∈ F, b < B) : OwnR f B E k v n cs := own_same ho (fun g e => by obtain ⟨h1, h2, _⟩ := own_type ho e; exact hA.block g h2 (fun q => absurd (hF g q) (by omega)))
theorem own_row {u : World} {B k n c : Nat} {E : TypeId} {a : Option Addr} {cs : List Value} (h : OwnR u B E k (.slice a n c) n cs) : Row u a n c k cs := by
  obtain ⟨a2, c2, e, hr⟩ := rowR_of_own h
  simp only [Value.slice.injEq, true_and] at e
  obtain ⟨rfl, rfl⟩ := e
  exact hr
theorem placeRC_eq {L : List ContV} (h : RisesC L) (s : ByteArray) : placeRC L s = if thereC L s then (placeC L s : Int) else -1 := by
  cases ht : thereC L s with
  | false => rw [placeRC_no ht]; rfl
  | true =>
    obtain ⟨x, hx, he⟩ := thereC_at h ht
    rw [if_pos rfl]
    refine placeRC_at hx (by rw [he]; exact beq_self_eq_true _) ?_
    unfold thereC
    rw [List.any_eq_false]
    intro y hy hc
    obtain ⟨i, hi⟩ := List.getElem?_of_mem hy
    have hik : i < placeC L s := by
      rcases Nat.lt_or_ge i (placeC L s) with q | q
      · exact q
      · rw [List.getElem?_eq_none (by rw [List.length_take]; omega)] at hi; cases hi
    rw [List.getElem?_take_of_lt hik] at hi
    have h2 := h.lt hi hx hik
    rw [eq_of_beq hc, he] at h2
    exact List.lt_irrefl _ h2
theorem bools_oneR (V : List Bool) : ∀ v ∈ V.map Value.bool, v.oneCell' = true := fun v hv => by obtain ⟨x, _, rfl⟩ := List.mem_map.1 hv; rfl
theorem r16feed_ret (W : World) (R : Nat) (tm : Array Value) (r : Int) (oa : Option Addr) (on oc : Nat) (ba : Option Addr) (bn bc : Nat) (ia : Option Addr) (inn ic : Nat) (c : Int) (Q : Ending → World → Prop) (h0 : tm.getD 4 undef = .pointer (some ⟨R, 0, none⟩)) (h1 : tm.getD 5 undef = .int .i64 c) (hb : Blk W R [.int .i64 r, .slice oa on oc, .slice ba bn bc, .slice ia inn ic] 31) (hR : Q (.returned (.tuple #[.agg #[.int .i64 r, .slice oa on oc, .slice ba bn bc, .slice ia inn ic], .int .i64 c])) W) :
    bodyPost Try.prog Try.f58 Q Exit.ret { tmps := tm, defers := [] } W := by
  have z0 := hb.cell (j := 0) rfl
  have z1 := hb.cell (j := 1) rfl
  have z2 := hb.cell (j := 2) rfl
  have z3 := hb.cell (j := 3) rfl
  refine bodyPost_ret (v := .tuple #[.agg #[.int .i64 r, .slice oa on oc, .slice ba bn bc, .slice ia inn ic], .int .i64 c]) ?_ rfl hR
  simp only [Array.getD_eq_getD_getElem?] at h0 h1
  simp [results, Try.results58, go_sem, h0, h1, z0, z1, z2, z3]
set_option maxRecDepth 100000 in
set_option maxHeartbeats 32000000 in
theorem r16_Feed (d : Option Addr) (wl wc : Nat) (V : List Bool) (F : List Nat) (v : Value) (m : WorldV) (w : World) (hv : RIs F w v m) (hF : ∀ b ∈ F, b < w.heap.size) (hv2 : V.length = wl) (hRV : Row w d wl wc 1 (V.map Value.bool)) (ho : m.outs.length ≤ 4096) (hw9 : wl ≤ 50000) :
    Calls Try.prog 58 #[v, .slice d wl wc] w fun e w' => ∃ v', e = .returned (.tuple #[v', .int .i64 (feedE m V)]) ∧ RIs F w' v' (m.fed V) ∧ Below w.heap.size w w' := by
  obtain ⟨r, O, L, I⟩ := m
  obtain ⟨oa, oc, ba, bc, ia, ic, rfl, hO, hL, hI, hN⟩ := hv
  dsimp only at hO hL hI hN ⊢
  have HNF := Lib.hid hN
  have HFF := Lib.hid hF
  clear hN hF
  have hbo : O.length ≤ oc ∧ oc ≤ 9223372036854775807 := by obtain ⟨_, h1, h2, _⟩ := hO; unfold maxLen at h2; exact ⟨h1, h2⟩
  obtain ⟨hbo1, hbo2⟩ := hbo
  have hbb : L.length ≤ bc ∧ bc ≤ 9223372036854775807 := by obtain ⟨_, h1, h2, _⟩ := hL; unfold maxLen at h2; exact ⟨h1, h2⟩
  obtain ⟨hbb1, hbb2⟩ := hbb
  have hbi : I.length ≤ ic ∧ ic ≤ 9223372036854775807 := by obtain ⟨_, h1, h2, _⟩ := hI; unfold maxLen at h2; exact ⟨h1, h2⟩
  obtain ⟨hbi1, hbi2⟩ := hbi
  have HRO := Lib.hid hO
  have HRL := Lib.hid hL
  have HRI := Lib.hid hI
  clear hO hL hI
  have hw : Below w.heap.size w w := Below.refl _ _
  have hbel := hw
  have hbv : wl ≤ wc ∧ wc ≤ 9223372036854775807 := by obtain ⟨_, h1, h2, _⟩ := hRV; unfold maxLen at h2; exact ⟨h1, h2⟩
  obtain ⟨hbv1, hbv2⟩ := hbv
  have HRV := Lib.hid hRV
  have HVL := Lib.hid hv2
  have hon : O.length ≤ 4096 := ho
  have hs1 : IntKind.i64.wrap (4096 - (O.length : Int)) = 4096 - (O.length : Int) := IntWalk.i64_in _ (by omega)
  have d0 : decide (4096 < (O.length : Int)) = false := decide_eq_false (by omega)
  have d0i : ¬ (4096 : Int) < (O.length : Int) := by omega
  clear hRV hv2 ho
  go_enter Try.func58, Try.ntmps58
  go_upto_region 1 with fail
  have pp0 : ((w.alloc (.cells #[.int .i64 r, .slice oa O.length oc, .slice ba L.length bc, .slice ia I.length ic] 31)).alloc (.cells #[.int .i64 0, .slice none 0 0, .slice none 0 0, .slice none 0 0] 31)).cell? ⟨w.heap.size, 0, none⟩ = some (.int .i64 r) := by first | (simp; done) | (rw [World.cell?_alloc_at _ _ _ _ (by simp)]; rfl) | (rw [World.cell?_alloc_past _ _ _ (by simp <;> omega), World.cell?_alloc_at _ _ _ _ (by simp)]; rfl) | (rw [World.cell?_alloc_past _ _ _ (by simp <;> omega), World.cell?_alloc_past _ _ _ (by simp <;> omega), World.cell?_alloc_at _ _ _ _ (by simp)]; rfl)
  have pp1 : ((w.alloc (.cells #[.int .i64 r, .slice oa O.length oc, .slice ba L.length bc, .slice ia I.length ic] 31)).alloc (.cells #[.int .i64 0, .slice none 0 0, .slice none 0 0, .slice none 0 0] 31)).cell? ⟨w.heap.size, 1, none⟩ = some (.slice oa O.length oc) := by first | (simp; done) | (rw [World.cell?_alloc_at _ _ _ _ (by simp)]; rfl) | (rw [World.cell?_alloc_past _ _ _ (by simp <;> omega), World.cell?_alloc_at _ _ _ _ (by simp)]; rfl) | (rw [World.cell?_alloc_past _ _ _ (by simp <;> omega), World.cell?_alloc_past _ _ _ (by simp <;> omega), World.cell?_alloc_at _ _ _ _ (by simp)]; rfl)
  have pp2 : ((w.alloc (.cells #[.int .i64 r, .slice oa O.length oc, .slice ba L.length bc, .slice ia I.length ic] 31)).alloc (.cells #[.int .i64 0, .slice none 0 0, .slice none 0 0, .slice none 0 0] 31)).cell? ⟨w.heap.size, 2, none⟩ = some (.slice ba L.length bc) := by first | (simp; done) | (rw [World.cell?_alloc_at _ _ _ _ (by simp)]; rfl) | (rw [World.cell?_alloc_past _ _ _ (by simp <;> omega), World.cell?_alloc_at _ _ _ _ (by simp)]; rfl) | (rw [World.cell?_alloc_past _ _ _ (by simp <;> omega), World.cell?_alloc_past _ _ _ (by simp <;> omega), World.cell?_alloc_at _ _ _ _ (by simp)]; rfl)
  have pp3 : ((w.alloc (.cells #[.int .i64 r, .slice oa O.length oc, .slice ba L.length bc, .slice ia I.length ic] 31)).alloc (.cells #[.int .i64 0, .slice none 0 0, .slice none 0 0, .slice none 0 0] 31)).cell? ⟨w.heap.size, 3, none⟩ = some (.slice ia I.length ic) := by first | (simp; done) | (rw [World.cell?_alloc_at _ _ _ _ (by simp)]; rfl) | (rw [World.cell?_alloc_past _ _ _ (by simp <;> omega), World.cell?_alloc_at _ _ _ _ (by simp)]; rfl) | (rw [World.cell?_alloc_past _ _ _ (by simp <;> omega), World.cell?_alloc_past _ _ _ (by simp <;> omega), World.cell?_alloc_at _ _ _ _ (by simp)]; rfl)
  have zz0 : ((w.alloc (.cells #[.int .i64 r, .slice oa O.length oc, .slice ba L.length bc, .slice ia I.length ic] 31)).alloc (.cells #[.int .i64 0, .slice none 0 0, .slice none 0 0, .slice none 0 0] 31)).cell? ⟨w.heap.size + 1, 0, none⟩ = some (.int .i64 0) := by first | (simp; done) | (rw [World.cell?_alloc_at _ _ _ _ (by simp)]; rfl) | (rw [World.cell?_alloc_past _ _ _ (by simp <;> omega), World.cell?_alloc_at _ _ _ _ (by simp)]; rfl) | (rw [World.cell?_alloc_past _ _ _ (by simp <;> omega), World.cell?_alloc_past _ _ _ (by simp <;> omega), World.cell?_alloc_at _ _ _ _ (by simp)]; rfl)
  have zz1 : ((w.alloc (.cells #[.int .i64 r, .slice oa O.length oc, .slice ba L.length bc, .slice ia I.length ic] 31)).alloc (.cells #[.int .i64 0, .slice none 0 0, .slice none 0 0, .slice none 0 0] 31)).cell? ⟨w.heap.size + 1, 1, none⟩ = some (.slice none 0 0) := by first | (simp; done) | (rw [World.cell?_alloc_at _ _ _ _ (by simp)]; rfl) | (rw [World.cell?_alloc_past _ _ _ (by simp <;> omega), World.cell?_alloc_at _ _ _ _ (by simp)]; rfl) | (rw [World.cell?_alloc_past _ _ _ (by simp <;> omega), World.cell?_alloc_past _ _ _ (by simp <;> omega), World.cell?_alloc_at _ _ _ _ (by simp)]; rfl)
  have zz2 : ((w.alloc (.cells #[.int .i64 r, .slice oa O.length oc, .slice ba L.length bc, .slice ia I.length ic] 31)).alloc (.cells #[.int .i64 0, .slice none 0 0, .slice none 0 0, .slice none 0 0] 31)).cell? ⟨w.heap.size + 1, 2, none⟩ = some (.slice none 0 0) := by first | (simp; done) | (rw [World.cell?_alloc_at _ _ _ _ (by simp)]; rfl) | (rw [World.cell?_alloc_past _ _ _ (by simp <;> omega), World.cell?_alloc_at _ _ _ _ (by simp)]; rfl) | (rw [World.cell?_alloc_past _ _ _ (by simp <;> omega), World.cell?_alloc_past _ _ _ (by simp <;> omega), World.cell?_alloc_at _ _ _ _ (by simp)]; rfl)
  have zz3 : ((w.alloc (.cells #[.int .i64 r, .slice oa O.length oc, .slice ba L.length bc, .slice ia I.length ic] 31)).alloc (.cells #[.int .i64 0, .slice none 0 0, .slice none 0 0, .slice none 0 0] 31)).cell? ⟨w.heap.size + 1, 3, none⟩ = some (.slice none 0 0) := by first | (simp; done) | (rw [World.cell?_alloc_at _ _ _ _ (by simp)]; rfl) | (rw [World.cell?_alloc_past _ _ _ (by simp <;> omega), World.cell?_alloc_at _ _ _ _ (by simp)]; rfl) | (rw [World.cell?_alloc_past _ _ _ (by simp <;> omega), World.cell?_alloc_past _ _ _ (by simp <;> omega), World.cell?_alloc_at _ _ _ _ (by simp)]; rfl)
  have hb2 := (by repeat (first | exact hbel | refine belAlloc ?_ _ | refine belDrew ?_ | refine belSet ?_ _ _ (by simp)) : Below w.heap.size w ((w.alloc (.cells #[.int .i64 r, .slice oa O.length oc, .slice ba L.length bc, .slice ia I.length ic] 31)).alloc (.cells #[.int .i64 0, .slice none 0 0, .slice none 0 0, .slice none 0 0] 31)))
  replace hw := belStep hw hb2
  have ppB : Blk ((w.alloc (.cells #[.int .i64 r, .slice oa O.length oc, .slice ba L.length bc, .slice ia I.length ic] 31)).alloc (.cells #[.int .i64 0, .slice none 0 0, .slice none 0 0, .slice none 0 0] 31)) (w.heap.size) [.int .i64 r, .slice oa O.length oc, .slice ba L.length bc, .slice ia I.length ic] 31 := (Blk.at (by simp) : Blk (w.alloc (.cells #[.int .i64 r, .slice oa O.length oc, .slice ba L.length bc, .slice ia I.length ic] 31)) (w.heap.size) [.int .i64 r, .slice oa O.length oc, .slice ba L.length bc, .slice ia I.length ic] 31).later (by repeat (first | exact Below.refl _ _ | refine belAlloc ?_ _))
  have ppF := Blk.keepF ppB
  replace ppB := Blk.keepB ppB
  have zzB : Blk ((w.alloc (.cells #[.int .i64 r, .slice oa O.length oc, .slice ba L.length bc, .slice ia I.length ic] 31)).alloc (.cells #[.int .i64 0, .slice none 0 0, .slice none 0 0, .slice none 0 0] 31)) (w.heap.size + 1) [.int .i64 0, .slice none 0 0, .slice none 0 0, .slice none 0 0] 31 := (Blk.at (by simp) : Blk ((w.alloc (.cells #[.int .i64 r, .slice oa O.length oc, .slice ba L.length bc, .slice ia I.length ic] 31)).alloc (.cells #[.int .i64 0, .slice none 0 0, .slice none 0 0, .slice none 0 0] 31)) (w.heap.size + 1) [.int .i64 0, .slice none 0 0, .slice none 0 0, .slice none 0 0] 31).later (by repeat (first | exact Below.refl _ _ | refine belAlloc ?_ _))
  have zzF := Blk.keepF zzB
  replace zzB := Blk.keepB zzB
  clear hb2 hbel
  generalize (w.alloc (.cells #[.int .i64 r, .slice oa O.length oc, .slice ba L.length bc, .slice ia I.length ic] 31)).alloc (.cells #[.int .i64 0, .slice none 0 0, .slice none 0 0, .slice none 0 0] 31) = W1 at *
  replace pp0 := keep pp0
  replace pp1 := keep pp1
  replace pp2 := keep pp2
  replace pp3 := keep pp3
  replace zz0 := keep zz0
  replace zz1 := keep zz1
  replace zz2 := keep zz2
  replace zz3 := keep zz3
  have hbel : Below W1.heap.size W1 W1 := Below.refl _ _
  skip
  have HP := Lib.hid (ppB W1 (Below.refl _ _))
  have HZ := Lib.hid (zzB W1 (Below.refl _ _))
  have HB := Lib.hid hw
  clear hw ppB zzB
  by_cases hf : 4096 < O.length + wl
  · have d1 : decide (4096 - (O.length : Int) < (wl : Int)) = true := decide_eq_true (by omega)
    have d1i : 4096 - (O.length : Int) < (wl : Int) := by omega
    have HE := Lib.hid (show feedE ⟨r, O, L, I⟩ V = 6 ∧ WorldV.fed ⟨r, O, L, I⟩ V = ⟨r, O, L, I⟩ by unfold feedE WorldV.fed; rw [HVL.out, if_pos hf, if_pos hf]; exact ⟨rfl, rfl⟩)
    go_wp2
    have hfb := Lib.hid (belSet (belSet (belSet (belSet HB.out ⟨w.heap.size + 1, 0, none⟩ (.int .i64 r) (Nat.le_succ _)) ⟨w.heap.size + 1, 1, none⟩ (.slice oa O.length oc) (Nat.le_succ _)) ⟨w.heap.size + 1, 2, none⟩ (.slice ba L.length bc) (Nat.le_succ _)) ⟨w.heap.size + 1, 3, none⟩ (.slice ia I.length ic) (Nat.le_succ _))
    refine r16feed_ret _ (w.heap.size + 1) _ r oa _ oc ba _ bc ia _ ic 6 _ rfl rfl ((((HZ.out.set 0 (.int .i64 r)).set 1 (.slice oa O.length oc)).set 2 (.slice ba L.length bc)).set 3 (.slice ia I.length ic)) ⟨_, by rw [HE.out.1], ?_, hfb.out⟩
    rw [HE.out.2]
    exact ⟨oa, oc, ba, bc, ia, ic, rfl, HRO.out.later hfb.out, HRL.out.later hfb.out, HRI.out.later hfb.out, HNF.out⟩
  · have d1 : decide (4096 - (O.length : Int) < (wl : Int)) = false := decide_eq_false (by omega)
    have d1i : ¬ 4096 - (O.length : Int) < (wl : Int) := by omega
    have HE := Lib.hid (show feedE ⟨r, O, L, I⟩ V = 0 ∧ WorldV.fed ⟨r, O, L, I⟩ V = ⟨r, O ++ V, L, I⟩ by unfold feedE WorldV.fed; rw [HVL.out, if_neg hf, if_neg hf]; exact ⟨rfl, rfl⟩)
    have hk0 : Below W1.heap.size W1 (W1.alloc (.cells #[] 4)) := belAlloc (Below.refl _ _) _
    have HO0 := Lib.hid (own_empty W1 4 1)
    have HRA := Lib.hid (HRO.out.later (belStep HB.out hk0))
    have HB0 := Lib.hid hk0
    clear hk0
    obtain ⟨n, hn⟩ : ∃ n, (O ++ V).length = n := ⟨_, rfl⟩
    have HN := Lib.hid (show 0 + O.length + wl = n by rw [← hn, List.length_append, HVL.out, Nat.zero_add])
    have HNL := Lib.hid hn
    have hlt := HP.out.lt
    have hlt2 := HZ.out.lt
    clear hn
    go_upto_region 4 with (first | (at_builtin; refine wpList_app_row rfl _ _ 27 rfl W1.heap.size 4 (.bool false) 1 1 Try.underlying27 info_boolI rfl (by decide) _ 0 [] rfl HO0.out _ O.length _ _ rfl HRA.out (bools_oneR _) (by unfold maxLen; omega) (by omega) (Below.size HB0.out) ?_; intro v4 w4 ho_ hb_ hg_; have HO1 := Lib.hid ho_; replace HB0 := Lib.hid (HB0.out.trans hb_); have HRB := Lib.hid (HRV.out.later (belStep HB.out HB0.out)); clear ho_ hb_ hg_ HO0 HRA) | (at_builtin; refine wpList_app_row rfl _ _ 27 rfl W1.heap.size 4 (.bool false) 1 1 Try.underlying27 info_boolI rfl (by decide) _ (0 + O.length) ([] ++ O.map Value.bool) rfl HO1.out _ wl _ _ rfl HRB.out (bools_oneR _) (by unfold maxLen; omega) (by omega) (Below.size HB0.out) ?_; intro v5 w5 ho_ hb_ hg_; have ho2_ : OwnR w5 W1.heap.size 4 1 v5 n ((O ++ V).map Value.bool) := (by rw [List.map_append, ← HN.out]; exact ho_); replace HB0 := Lib.hid (HB0.out.trans hb_); have HO2 := Lib.hid ho2_; obtain ⟨na, nc, e9, hr9_⟩ := rowR_of_own ho2_; subst e9; have p1 := (HP.out.later HB0.out).cell (j := 1) rfl; have pf := (HP.out.later HB0.out).frozen; clear ho_ ho2_ hb_ hg_ HO1 HRB hr9_))
    clear p1 pf
    have HP6 := Lib.hid ((HP.out.later HB0.out).set 1 (.slice na n nc))
    have hne : w.heap.size ≠ w.heap.size + 1 := by omega
    have HA6 := Lib.hid ((Apart.refl [w.heap.size, w.heap.size + 1] w5).set ⟨w.heap.size, 1, none⟩ (.slice na n nc) (by simp))
    have HB6 := Lib.hid (belSet (belStep HB.out HB0.out) ⟨w.heap.size, 1, none⟩ (.slice na n nc) (Nat.le_refl _))
    have HZ6 := Lib.hid ((HZ.out.later HB0.out).apart ((Apart.refl [w.heap.size] w5).set ⟨w.heap.size, 1, none⟩ (.slice na n nc) (by simp)) (by simp))
    generalize w5.setCell ⟨w.heap.size, 1, none⟩ (.slice na n nc) = W6 at *
    clear hbel pp0 pp1 pp2 pp3 zz0 zz1 zz2 zz3 ppF zzF
    have p0 := HP6.out.cell (j := 0) rfl
    have p1 := HP6.out.cell (j := 1) rfl
    have p2 := HP6.out.cell (j := 2) rfl
    have p3 := HP6.out.cell (j := 3) rfl
    have z0 := HZ6.out.cell (j := 0) rfl
    have z1 := HZ6.out.cell (j := 1) rfl
    have z2 := HZ6.out.cell (j := 2) rfl
    have z3 := HZ6.out.cell (j := 3) rfl
    have zf := HZ6.out.frozen
    go_wp2
    have hfb := Lib.hid (belSet (belSet (belSet (belSet HB6.out ⟨w.heap.size + 1, 0, none⟩ (.int .i64 r) (Nat.le_succ _)) ⟨w.heap.size + 1, 1, none⟩ (.slice na n nc) (Nat.le_succ _)) ⟨w.heap.size + 1, 2, none⟩ (.slice ba L.length bc) (Nat.le_succ _)) ⟨w.heap.size + 1, 3, none⟩ (.slice ia I.length ic) (Nat.le_succ _))
    have hfa := Lib.hid ((((HA6.out.set ⟨w.heap.size + 1, 0, none⟩ (.int .i64 r) (by simp)).set ⟨w.heap.size + 1, 1, none⟩ (.slice na n nc) (by simp)).set ⟨w.heap.size + 1, 2, none⟩ (.slice ba L.length bc) (by simp)).set ⟨w.heap.size + 1, 3, none⟩ (.slice ia I.length ic) (by simp))
    refine r16feed_ret _ (w.heap.size + 1) _ r na n nc ba _ bc ia _ ic 0 _ rfl rfl ((((HZ6.out.set 0 (.int .i64 r)).set 1 (.slice na n nc)).set 2 (.slice ba L.length bc)).set 3 (.slice ia I.length ic)) ⟨_, by rw [HE.out.1], ?_, hfb.out⟩
    rw [HE.out.2]
    refine ⟨na, nc, ba, bc, ia, ic, by rw [HNL.out], ?_, HRL.out.later hfb.out, HRI.out.later hfb.out, notin_own HO2.out (fun b hb => Nat.lt_of_lt_of_le (HFF.out b hb) HB.out.size), HNF.out.2⟩
    have h9 := own_row (own_apartF HO2.out hfa.out (fun b hb => by simp only [List.mem_cons, List.not_mem_nil, or_false] at hb; omega))
    rw [HNL.out]; exact h9
set_option maxRecDepth 100000 in
set_option maxHeartbeats 16000000 in
theorem r16_may (s : ByteArray) (what : Int) (F : List Nat) (v : Value) (m : WorldV) (w : World) (hv : RIs F w v m) (hF : ∀ b ∈ F, b < w.heap.size) (hri : RisesC m.boxes) :
    Calls Try.prog 94 #[v, .string s, .int .i64 what] w fun e w' => e = .returned (.int .i64 (mayC m.boxes s what)) ∧ Below w.heap.size w w' := by
  have CP := Lib.hid (fun ba bc u (hr : Row u ba m.boxes.length bc 4 (m.boxes.flatMap ContV.cells)) => r16_Place ba m.boxes.length bc m.boxes s u rfl hr)
  rw [placeRC_eq hri] at CP
  have HRC := Lib.hid hri
  clear hri
  obtain ⟨r, O, L, I⟩ := m
  obtain ⟨oa, oc, ba, bc, ia, ic, rfl, hO, hL, hI, hN⟩ := hv
  dsimp only at hO hL hI hN ⊢
  have HNF := Lib.hid hN
  have HFF := Lib.hid hF
  clear hN hF
  have hbo : O.length ≤ oc ∧ oc ≤ 9223372036854775807 := by obtain ⟨_, h1, h2, _⟩ := hO; unfold maxLen at h2; exact ⟨h1, h2⟩
  obtain ⟨hbo1, hbo2⟩ := hbo
  have hbb : L.length ≤ bc ∧ bc ≤ 9223372036854775807 := by obtain ⟨_, h1, h2, _⟩ := hL; unfold maxLen at h2; exact ⟨h1, h2⟩
  obtain ⟨hbb1, hbb2⟩ := hbb
  have hbi : I.length ≤ ic ∧ ic ≤ 9223372036854775807 := by obtain ⟨_, h1, h2, _⟩ := hI; unfold maxLen at h2; exact ⟨h1, h2⟩
  obtain ⟨hbi1, hbi2⟩ := hbi
  have HRO := Lib.hid hO
  have HRL := Lib.hid hL
  have HRI := Lib.hid hI
  clear hO hL hI
  have hw : Below w.heap.size w w := Below.refl _ _
  have hbel := hw
  dsimp only at CP HRC
  obtain ⟨th, hth⟩ : ∃ t, thereC L s = t := ⟨_, rfl⟩
  obtain ⟨p, hp⟩ : ∃ p, placeC L s = p := ⟨_, rfl⟩
  rw [hth, hp] at CP
  have HTH := Lib.hid hth
  have HPL := Lib.hid hp
  clear hth hp
  go_enter Try.func94, Try.ntmps94
  go_upto_region 1 with fail
  have pp0 : (w.alloc (.cells #[.int .i64 r, .slice oa O.length oc, .slice ba L.length bc, .slice ia I.length ic] 31)).cell? ⟨w.heap.size, 0, none⟩ = some (.int .i64 r) := by first | (simp; done) | (rw [World.cell?_alloc_at _ _ _ _ (by simp)]; rfl) | (rw [World.cell?_alloc_past _ _ _ (by simp <;> omega), World.cell?_alloc_at _ _ _ _ (by simp)]; rfl) | (rw [World.cell?_alloc_past _ _ _ (by simp <;> omega), World.cell?_alloc_past _ _ _ (by simp <;> omega), World.cell?_alloc_at _ _ _ _ (by simp)]; rfl)
  have pp1 : (w.alloc (.cells #[.int .i64 r, .slice oa O.length oc, .slice ba L.length bc, .slice ia I.length ic] 31)).cell? ⟨w.heap.size, 1, none⟩ = some (.slice oa O.length oc) := by first | (simp; done) | (rw [World.cell?_alloc_at _ _ _ _ (by simp)]; rfl) | (rw [World.cell?_alloc_past _ _ _ (by simp <;> omega), World.cell?_alloc_at _ _ _ _ (by simp)]; rfl) | (rw [World.cell?_alloc_past _ _ _ (by simp <;> omega), World.cell?_alloc_past _ _ _ (by simp <;> omega), World.cell?_alloc_at _ _ _ _ (by simp)]; rfl)
  have pp2 : (w.alloc (.cells #[.int .i64 r, .slice oa O.length oc, .slice ba L.length bc, .slice ia I.length ic] 31)).cell? ⟨w.heap.size, 2, none⟩ = some (.slice ba L.length bc) := by first | (simp; done) | (rw [World.cell?_alloc_at _ _ _ _ (by simp)]; rfl) | (rw [World.cell?_alloc_past _ _ _ (by simp <;> omega), World.cell?_alloc_at _ _ _ _ (by simp)]; rfl) | (rw [World.cell?_alloc_past _ _ _ (by simp <;> omega), World.cell?_alloc_past _ _ _ (by simp <;> omega), World.cell?_alloc_at _ _ _ _ (by simp)]; rfl)
  have pp3 : (w.alloc (.cells #[.int .i64 r, .slice oa O.length oc, .slice ba L.length bc, .slice ia I.length ic] 31)).cell? ⟨w.heap.size, 3, none⟩ = some (.slice ia I.length ic) := by first | (simp; done) | (rw [World.cell?_alloc_at _ _ _ _ (by simp)]; rfl) | (rw [World.cell?_alloc_past _ _ _ (by simp <;> omega), World.cell?_alloc_at _ _ _ _ (by simp)]; rfl) | (rw [World.cell?_alloc_past _ _ _ (by simp <;> omega), World.cell?_alloc_past _ _ _ (by simp <;> omega), World.cell?_alloc_at _ _ _ _ (by simp)]; rfl)
  have hb2 := (by repeat (first | exact hbel | refine belAlloc ?_ _ | refine belDrew ?_ | refine belSet ?_ _ _ (by simp)) : Below w.heap.size w (w.alloc (.cells #[.int .i64 r, .slice oa O.length oc, .slice ba L.length bc, .slice ia I.length ic] 31)))
  replace hw := belStep hw hb2
  have ppB : Blk (w.alloc (.cells #[.int .i64 r, .slice oa O.length oc, .slice ba L.length bc, .slice ia I.length ic] 31)) (w.heap.size) [.int .i64 r, .slice oa O.length oc, .slice ba L.length bc, .slice ia I.length ic] 31 := (Blk.at (by simp) : Blk (w.alloc (.cells #[.int .i64 r, .slice oa O.length oc, .slice ba L.length bc, .slice ia I.length ic] 31)) (w.heap.size) [.int .i64 r, .slice oa O.length oc, .slice ba L.length bc, .slice ia I.length ic] 31).later (by repeat (first | exact Below.refl _ _ | refine belAlloc ?_ _))
  have ppF := Blk.keepF ppB
  replace ppB := Blk.keepB ppB
  clear hb2 hbel
  generalize w.alloc (.cells #[.int .i64 r, .slice oa O.length oc, .slice ba L.length bc, .slice ia I.length ic] 31) = W1 at *
  replace pp0 := keep pp0
  replace pp1 := keep pp1
  replace pp2 := keep pp2
  replace pp3 := keep pp3
  have hbel : Below W1.heap.size W1 W1 := Below.refl _ _
  skip
  have HP := Lib.hid (ppB W1 (Below.refl _ _))
  have HB := Lib.hid hw
  clear hw ppB
  cases th with
  | false =>
    have HE := Lib.hid (show mayC L s what = 4 by unfold mayC; rw [HTH.out]; rfl)
    simp only [Bool.false_eq_true, if_false] at CP
    go_wp2_with (go_at_call 21; (with_reducible refine (CP.out ba bc _ (HRL.out.later (belStep HB.out hbel))).mono ?_); rintro e w2 ⟨rfl, hb_⟩; have hbz := belStep hbel hb_; clear hbel; have hbel := hbz; clear hbz hb_)
    go_ret
    exact ⟨by rw [HE.out]; rfl, belStep HB.out hbel⟩
  | true =>
    simp only [if_true] at CP
    obtain ⟨x, hx, he⟩ := thereC_at HRC.out HTH.out
    have hfx := fndC_at HTH.out hx
    rw [HPL.out] at hx
    have hpl := (List.getElem?_eq_some_iff.1 hx).1
    have hpi : (p : Int) < (L.length : Int) := by omega
    have hp0 : (0 : Int) ≤ (p : Int) := by omega
    have hpn : decide ((p : Int) < 0) = false := decide_eq_false (by omega)
    have hpn2 : ¬ (p : Int) < 0 := by omega
    obtain ⟨bx, ox, ec, _, hcc⟩ := (HRL.out.later HB.out).elem ContV.cells_len (by omega) hx
    subst ec
    have c0 := keep (hcc 0 _ rfl)
    have c1 := keep (hcc 1 _ rfl)
    have c2 := keep (hcc 2 _ rfl)
    have c3 := keep (hcc 3 _ rfl)
    rw [Nat.add_zero] at c0
    have CTO := Lib.hid (fun u => bref_To x.state what u)
    have HE := Lib.hid (show mayC L s what = if toS x.state what = 0 then 7 else 0 by unfold mayC; rw [HTH.out, hfx]; rfl)
    obtain ⟨z, hz⟩ : ∃ z, toS x.state what = z := ⟨_, rfl⟩
    rw [hz] at CTO HE
    clear hx he hcc hfx hz
    by_cases h0 : z = 0
    · have z0 : (z == 0) = true := by rw [h0]; rfl
      rw [if_pos h0] at HE
      clear h0
      go_wp2_with (first | (go_at_call 21; (with_reducible refine (CP.out _ bc _ (HRL.out.later (belStep HB.out hbel))).mono ?_); rintro e w2 ⟨rfl, hb_⟩; have hbz := belStep hbel hb_; clear hbel; have hbel := hbz; clear hbz hb_) | (go_at_call 131; (with_reducible refine (CTO.out _).mono ?_); rintro e w3 ⟨rfl, rfl⟩))
      go_ret
      exact ⟨by rw [HE.out]; rfl, belStep HB.out hbel⟩
    · have z0 : (z == 0) = false := by rw [beq_eq_false_iff_ne]; exact h0
      rw [if_neg h0] at HE
      clear h0
      go_wp2_with (first | (go_at_call 21; (with_reducible refine (CP.out _ bc _ (HRL.out.later (belStep HB.out hbel))).mono ?_); rintro e w2 ⟨rfl, hb_⟩; have hbz := belStep hbel hb_; clear hbel; have hbel := hbz; clear hbz hb_) | (go_at_call 131; (with_reducible refine (CTO.out _).mono ?_); rintro e w3 ⟨rfl, rfl⟩))
      go_ret
      exact ⟨by rw [HE.out]; rfl, belStep HB.out hbel⟩
end Go.Proofs.Ytcnjcldfbidkmaa
