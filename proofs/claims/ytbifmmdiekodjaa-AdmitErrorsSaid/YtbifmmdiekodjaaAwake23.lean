
/- bilgelaw23.awake, some: contracts. -/
import Derived.Test.YtbifmmdiekodjaaAdm4
namespace Go.Proofs.Ytbifmmdiekodjaa
open Go.RowKit
set_option linter.unusedVariables false
set_option linter.unusedSimpArgs false
def cS : CfgV := ⟨100, 50, 10, 9, 9, 9, none, 0, 0, 1, 0, 1, 0, []⟩
def R9 : Room := ⟨9, 9, 9⟩
def pP : PodV := ⟨⟨#[112]⟩, 0, false, 5, 0, 0, 0, 0, 0, ⟨#[120]⟩, 0⟩
def pQ : PodV := ⟨⟨#[113]⟩, 1, true, 5, 0, 0, 0, 0, 0, ⟨#[120]⟩, 0⟩
def pZ : PodV := ⟨⟨#[]⟩, 0, false, 0, 0, 0, 0, 0, 0, ⟨#[]⟩, 0⟩
def pR : PodV := ⟨⟨#[114]⟩, 0, false, 5, 0, 0, 0, 0, 0, ⟨#[120]⟩, 0⟩
def pB : PodV := ⟨⟨#[98]⟩, 0, false, 0, 0, 0, 0, 0, 0, ⟨#[120]⟩, 0⟩
theorem wok (p : PodV) (h : p = pP ∨ p = pQ ∨ p = pZ ∨ p = pR ∨ p = pB) : p.ok := by
  have h1 : (1 : Nat) ≤ 9223372036854775807 := by omega
  have h0 : (0 : Nat) ≤ 9223372036854775807 := by omega
  rcases h with rfl | rfl | rfl | rfl | rfl <;> unfold PodV.ok InI maxLen <;> simp [pP, pQ, pZ, pR, pB] <;> first | exact ⟨h1, h1⟩ | exact h1 | exact h0 | (refine ⟨?_, ?_⟩ <;> first | exact h1 | exact h0)
theorem keepSet {W : World} {M N j i : Nat} {v u : Value} (h : ∀ w, Below W.heap.size W w → w.cell? ⟨M, j, none⟩ = some v) (hne : M ≠ N) : ∀ w, Below (W.setCell ⟨N, i, none⟩ u).heap.size (W.setCell ⟨N, i, none⟩ u) w → w.cell? ⟨M, j, none⟩ = some v := by
  intro w hb
  have h1 := h W (Below.refl _ _)
  have h2 : (W.setCell ⟨N, i, none⟩ u).cell? ⟨M, j, none⟩ = some v := by
    unfold World.cell? at h1 ⊢
    rw [Below.heap_setCell _ _ _ _ (by dsimp only; omega)]
    exact h1
  exact cell_later hb h2
theorem sort_oneP (x : PodV) : sortP [x] = [x] := by unfold sortP; rw [List.mergeSort_singleton]
theorem sort_oneS (s : ByteArray) : sortS [s] = [s] := by
  unfold sortS
  rw [List.map_cons, List.map_nil, List.mergeSort_singleton, List.map_cons, List.map_nil, bA_l]
theorem dec_room {R : Room} {T : List EntV} {O : On} {p : PodV} {V : VerdV} (h1 : refusedF T p = 0) (h2 : barredF O p = none) (h3 : roomF R T p = V) : decideF R T O p = (V, 0) := by
  unfold decideF; rw [if_pos h1, h2, h3]
theorem dec_bar {R : Room} {T : List EntV} {O : On} {p : PodV} {k : Int} (h1 : refusedF T p = 0) (h2 : barredF O p = some k) : decideF R T O p = (⟨3, k, []⟩, 0) := by
  unfold decideF; rw [if_pos h1, h2]
theorem dec_err {R : Room} {T : List EntV} {O : On} {p : PodV} {k : Int} (h1 : refusedF T p = k) (h2 : k ≠ 0) : decideF R T O p = (⟨0, 0, []⟩, k) := by
  unfold decideF; rw [if_neg (by rw [h1]; exact h2), h1]
theorem dec_1 : decideF R9 [] ⟨false, false, false⟩ pP = (⟨1, 0, []⟩, 0) :=
  dec_room (by decide +kernel) (by decide +kernel) (by
    have h : chooseF R9 (podsOf []) pP = some [] := by unfold chooseF; rw [if_pos (by decide +kernel)]
    unfold roomF; rw [h]; rfl)
theorem dec_2 : decideF R9 [⟨pP, 2⟩] ⟨true, true, true⟩ pQ = (⟨2, 0, [⟨#[112]⟩]⟩, 0) :=
  dec_room (by decide +kernel) (by decide +kernel) (by
    have h : chooseF R9 (podsOf [⟨pP, 2⟩]) pQ = some [⟨#[112]⟩] := by
      unfold chooseF
      rw [if_neg (by decide +kernel), if_pos (by decide +kernel)]
      rw [show mayF (podsOf [⟨pP, 2⟩]) pQ = [pP] from rfl, show stF (podsOf [⟨pP, 2⟩]) pQ = [] from rfl, sort_oneP]
      unfold goF
      rw [if_neg (by decide +kernel)]
      unfold goF
      rw [List.map_cons, List.map_nil, sort_oneS]
      rfl
    unfold roomF; rw [h]; rfl)
theorem dec_3 : decideF R9 [] ⟨true, false, true⟩ pP = (⟨3, 2, []⟩, 0) := dec_bar (by decide +kernel) (by decide +kernel)
theorem dec_4 : decideF R9 [⟨pP, 2⟩] ⟨false, false, false⟩ pP = (⟨0, 0, []⟩, 5) := dec_err (by decide +kernel) (by omega)
theorem dec_5 : decideF R9 [⟨pP, 2⟩] ⟨false, false, false⟩ pZ = (⟨0, 0, []⟩, 1) := dec_err (by decide +kernel) (by omega)
theorem dec_6 : decideF R9 [⟨pP, 2⟩] ⟨false, false, false⟩ pR = (⟨4, 0, []⟩, 0) :=
  dec_room (by decide +kernel) (by decide +kernel) (by
    have h : chooseF R9 (podsOf [⟨pP, 2⟩]) pR = none := by
      unfold chooseF
      rw [if_neg (by decide +kernel), if_neg (by decide +kernel)]
    unfold roomF; rw [h])
theorem bar_7 : barredF ⟨true, false, false⟩ pB = some 0 := by decide +kernel
theorem dist_pP : Dist (podsOf [⟨pP, 2⟩]) := by unfold Dist podsOf; simp
theorem dist_0 : Dist (podsOf []) := by unfold Dist podsOf; simp
set_option maxRecDepth 100000 in
set_option maxHeartbeats 16000000 in
theorem some23 (w : World) :
    Calls Try.prog 7 #[] w fun e w' => e = .returned (.agg #[.int .i64 100, .int .i64 50, .int .i64 10, .int .i64 9, .int .i64 9, .int .i64 9, .slice none 0 0, .int .i64 1, .int .i64 0, .int .i64 1, .int .i64 0]) ∧ Below w.heap.size w w' := by
  have hbel : Below w.heap.size w w := Below.refl _ _
  go_enter Try.func7, Try.ntmps7
  go_wp2
  refine bodyPost_ret (v := .agg #[.int .i64 100, .int .i64 50, .int .i64 10, .int .i64 9, .int .i64 9, .int .i64 9, .slice none 0 0, .int .i64 1, .int .i64 0, .int .i64 1, .int .i64 0]) ?_ rfl ⟨rfl, by repeat (first | exact hbel | refine belAlloc ?_ _ | refine belSet ?_ _ _ (Nat.le_refl _))⟩
  simp [results, Try.results7, go_sem]
theorem row_of_blk {w : World} {M : Nat} {C : List Value} {T : TypeId} (h : Blk w M C T) : Row w (some ⟨M, 0, none⟩) 1 1 C.length C := by
  refine ⟨by omega, Nat.le_refl _, by unfold maxLen; omega, (fun h => by cases h), .inr ⟨M, 0, rfl, fun i hi => ?_⟩⟩
  rw [Nat.zero_add, List.getElem?_eq_getElem hi]
  exact h.cell (List.getElem?_eq_getElem hi)
theorem row_of_owns {w : World} {B : Nat} {a : Option Addr} {n c : Nat} {G : List ByteArray} (h : OwnS w B (.slice a n c) G) : Row w a G.length c 1 (G.map Value.string) := by
  obtain ⟨a', c', e, hr⟩ := rowR_of_own h
  simp only [Value.slice.injEq] at e
  obtain ⟨rfl, _, rfl⟩ := e
  exact hr
theorem own_base {w : World} {B : Nat} {a : Option Addr} {n c b o : Nat} {G : List ByteArray} (h : OwnS w B (.slice a n c) G) (e : a = some ⟨b, o, none⟩) : B ≤ b := by
  rcases own_shape h with ⟨e1, _⟩ | ⟨g, cap, e1, hg, _⟩
  · simp only [Value.slice.injEq] at e1; rw [e1.1] at e; cases e
  · simp only [Value.slice.injEq] at e1
    rw [e1.1] at e
    cases e
    exact hg
theorem tabok1 : ∀ x ∈ ([⟨pP, 2⟩] : List EntV), x.ok := fun x hx => by
  simp at hx; subst hx; exact ⟨wok _ (by simp), by unfold InI; simp⟩
set_option maxRecDepth 100000 in
set_option maxHeartbeats 16000000 in
theorem awake23 (w : World) :
    Calls Try.prog 4 #[] w fun e w' => e = .returned (.bool true) ∧ Below w.heap.size w w' := by
  have hw : Below w.heap.size w w := Below.refl _ _
  have hbel := hw
  go_enter Try.func4, Try.ntmps4
  go_upto_region 2 with (go_at_call 7; (with_reducible refine (some23 _).mono ?_); rintro e w1 ⟨rfl, hb1⟩; replace hbel := belStep hbel hb1; clear hb1)
  have cc0 : (w1.alloc (.cells #[.int .i64 100, .int .i64 50, .int .i64 10, .int .i64 9, .int .i64 9, .int .i64 9, .slice none 0 0, .int .i64 1, .int .i64 0, .int .i64 1, .int .i64 0] 40)).cell? ⟨w1.heap.size, 0, none⟩ = some (.int .i64 100) := by first | (simp; done) | (rw [World.cell?_alloc_at _ _ _ _ (by simp)]; rfl) | (rw [World.cell?_alloc_past _ _ _ (by simp <;> omega), World.cell?_alloc_at _ _ _ _ (by simp)]; rfl) | (rw [World.cell?_alloc_past _ _ _ (by simp <;> omega), World.cell?_alloc_past _ _ _ (by simp <;> omega), World.cell?_alloc_at _ _ _ _ (by simp)]; rfl)
  have cc1 : (w1.alloc (.cells #[.int .i64 100, .int .i64 50, .int .i64 10, .int .i64 9, .int .i64 9, .int .i64 9, .slice none 0 0, .int .i64 1, .int .i64 0, .int .i64 1, .int .i64 0] 40)).cell? ⟨w1.heap.size, 1, none⟩ = some (.int .i64 50) := by first | (simp; done) | (rw [World.cell?_alloc_at _ _ _ _ (by simp)]; rfl) | (rw [World.cell?_alloc_past _ _ _ (by simp <;> omega), World.cell?_alloc_at _ _ _ _ (by simp)]; rfl) | (rw [World.cell?_alloc_past _ _ _ (by simp <;> omega), World.cell?_alloc_past _ _ _ (by simp <;> omega), World.cell?_alloc_at _ _ _ _ (by simp)]; rfl)
  have cc2 : (w1.alloc (.cells #[.int .i64 100, .int .i64 50, .int .i64 10, .int .i64 9, .int .i64 9, .int .i64 9, .slice none 0 0, .int .i64 1, .int .i64 0, .int .i64 1, .int .i64 0] 40)).cell? ⟨w1.heap.size, 2, none⟩ = some (.int .i64 10) := by first | (simp; done) | (rw [World.cell?_alloc_at _ _ _ _ (by simp)]; rfl) | (rw [World.cell?_alloc_past _ _ _ (by simp <;> omega), World.cell?_alloc_at _ _ _ _ (by simp)]; rfl) | (rw [World.cell?_alloc_past _ _ _ (by simp <;> omega), World.cell?_alloc_past _ _ _ (by simp <;> omega), World.cell?_alloc_at _ _ _ _ (by simp)]; rfl)
  have cc3 : (w1.alloc (.cells #[.int .i64 100, .int .i64 50, .int .i64 10, .int .i64 9, .int .i64 9, .int .i64 9, .slice none 0 0, .int .i64 1, .int .i64 0, .int .i64 1, .int .i64 0] 40)).cell? ⟨w1.heap.size, 3, none⟩ = some (.int .i64 9) := by first | (simp; done) | (rw [World.cell?_alloc_at _ _ _ _ (by simp)]; rfl) | (rw [World.cell?_alloc_past _ _ _ (by simp <;> omega), World.cell?_alloc_at _ _ _ _ (by simp)]; rfl) | (rw [World.cell?_alloc_past _ _ _ (by simp <;> omega), World.cell?_alloc_past _ _ _ (by simp <;> omega), World.cell?_alloc_at _ _ _ _ (by simp)]; rfl)
  have cc4 : (w1.alloc (.cells #[.int .i64 100, .int .i64 50, .int .i64 10, .int .i64 9, .int .i64 9, .int .i64 9, .slice none 0 0, .int .i64 1, .int .i64 0, .int .i64 1, .int .i64 0] 40)).cell? ⟨w1.heap.size, 4, none⟩ = some (.int .i64 9) := by first | (simp; done) | (rw [World.cell?_alloc_at _ _ _ _ (by simp)]; rfl) | (rw [World.cell?_alloc_past _ _ _ (by simp <;> omega), World.cell?_alloc_at _ _ _ _ (by simp)]; rfl) | (rw [World.cell?_alloc_past _ _ _ (by simp <;> omega), World.cell?_alloc_past _ _ _ (by simp <;> omega), World.cell?_alloc_at _ _ _ _ (by simp)]; rfl)
  have cc5 : (w1.alloc (.cells #[.int .i64 100, .int .i64 50, .int .i64 10, .int .i64 9, .int .i64 9, .int .i64 9, .slice none 0 0, .int .i64 1, .int .i64 0, .int .i64 1, .int .i64 0] 40)).cell? ⟨w1.heap.size, 5, none⟩ = some (.int .i64 9) := by first | (simp; done) | (rw [World.cell?_alloc_at _ _ _ _ (by simp)]; rfl) | (rw [World.cell?_alloc_past _ _ _ (by simp <;> omega), World.cell?_alloc_at _ _ _ _ (by simp)]; rfl) | (rw [World.cell?_alloc_past _ _ _ (by simp <;> omega), World.cell?_alloc_past _ _ _ (by simp <;> omega), World.cell?_alloc_at _ _ _ _ (by simp)]; rfl)
  have cc6 : (w1.alloc (.cells #[.int .i64 100, .int .i64 50, .int .i64 10, .int .i64 9, .int .i64 9, .int .i64 9, .slice none 0 0, .int .i64 1, .int .i64 0, .int .i64 1, .int .i64 0] 40)).cell? ⟨w1.heap.size, 6, none⟩ = some (.slice none 0 0) := by first | (simp; done) | (rw [World.cell?_alloc_at _ _ _ _ (by simp)]; rfl) | (rw [World.cell?_alloc_past _ _ _ (by simp <;> omega), World.cell?_alloc_at _ _ _ _ (by simp)]; rfl) | (rw [World.cell?_alloc_past _ _ _ (by simp <;> omega), World.cell?_alloc_past _ _ _ (by simp <;> omega), World.cell?_alloc_at _ _ _ _ (by simp)]; rfl)
  have cc7 : (w1.alloc (.cells #[.int .i64 100, .int .i64 50, .int .i64 10, .int .i64 9, .int .i64 9, .int .i64 9, .slice none 0 0, .int .i64 1, .int .i64 0, .int .i64 1, .int .i64 0] 40)).cell? ⟨w1.heap.size, 7, none⟩ = some (.int .i64 1) := by first | (simp; done) | (rw [World.cell?_alloc_at _ _ _ _ (by simp)]; rfl) | (rw [World.cell?_alloc_past _ _ _ (by simp <;> omega), World.cell?_alloc_at _ _ _ _ (by simp)]; rfl) | (rw [World.cell?_alloc_past _ _ _ (by simp <;> omega), World.cell?_alloc_past _ _ _ (by simp <;> omega), World.cell?_alloc_at _ _ _ _ (by simp)]; rfl)
  have cc8 : (w1.alloc (.cells #[.int .i64 100, .int .i64 50, .int .i64 10, .int .i64 9, .int .i64 9, .int .i64 9, .slice none 0 0, .int .i64 1, .int .i64 0, .int .i64 1, .int .i64 0] 40)).cell? ⟨w1.heap.size, 8, none⟩ = some (.int .i64 0) := by first | (simp; done) | (rw [World.cell?_alloc_at _ _ _ _ (by simp)]; rfl) | (rw [World.cell?_alloc_past _ _ _ (by simp <;> omega), World.cell?_alloc_at _ _ _ _ (by simp)]; rfl) | (rw [World.cell?_alloc_past _ _ _ (by simp <;> omega), World.cell?_alloc_past _ _ _ (by simp <;> omega), World.cell?_alloc_at _ _ _ _ (by simp)]; rfl)
  have cc9 : (w1.alloc (.cells #[.int .i64 100, .int .i64 50, .int .i64 10, .int .i64 9, .int .i64 9, .int .i64 9, .slice none 0 0, .int .i64 1, .int .i64 0, .int .i64 1, .int .i64 0] 40)).cell? ⟨w1.heap.size, 9, none⟩ = some (.int .i64 1) := by first | (simp; done) | (rw [World.cell?_alloc_at _ _ _ _ (by simp)]; rfl) | (rw [World.cell?_alloc_past _ _ _ (by simp <;> omega), World.cell?_alloc_at _ _ _ _ (by simp)]; rfl) | (rw [World.cell?_alloc_past _ _ _ (by simp <;> omega), World.cell?_alloc_past _ _ _ (by simp <;> omega), World.cell?_alloc_at _ _ _ _ (by simp)]; rfl)
  have cc10 : (w1.alloc (.cells #[.int .i64 100, .int .i64 50, .int .i64 10, .int .i64 9, .int .i64 9, .int .i64 9, .slice none 0 0, .int .i64 1, .int .i64 0, .int .i64 1, .int .i64 0] 40)).cell? ⟨w1.heap.size, 10, none⟩ = some (.int .i64 0) := by first | (simp; done) | (rw [World.cell?_alloc_at _ _ _ _ (by simp)]; rfl) | (rw [World.cell?_alloc_past _ _ _ (by simp <;> omega), World.cell?_alloc_at _ _ _ _ (by simp)]; rfl) | (rw [World.cell?_alloc_past _ _ _ (by simp <;> omega), World.cell?_alloc_past _ _ _ (by simp <;> omega), World.cell?_alloc_at _ _ _ _ (by simp)]; rfl)
  have hb2 := (by repeat (first | exact hbel | refine belAlloc ?_ _ | refine belDrew ?_ | refine belSet ?_ _ _ (by simp)) : Below w.heap.size w (w1.alloc (.cells #[.int .i64 100, .int .i64 50, .int .i64 10, .int .i64 9, .int .i64 9, .int .i64 9, .slice none 0 0, .int .i64 1, .int .i64 0, .int .i64 1, .int .i64 0] 40)))
  replace hw := belStep hw hb2
  have ccB : Blk (w1.alloc (.cells #[.int .i64 100, .int .i64 50, .int .i64 10, .int .i64 9, .int .i64 9, .int .i64 9, .slice none 0 0, .int .i64 1, .int .i64 0, .int .i64 1, .int .i64 0] 40)) (w1.heap.size) [.int .i64 100, .int .i64 50, .int .i64 10, .int .i64 9, .int .i64 9, .int .i64 9, .slice none 0 0, .int .i64 1, .int .i64 0, .int .i64 1, .int .i64 0] 40 := (Blk.at (by simp) : Blk (w1.alloc (.cells #[.int .i64 100, .int .i64 50, .int .i64 10, .int .i64 9, .int .i64 9, .int .i64 9, .slice none 0 0, .int .i64 1, .int .i64 0, .int .i64 1, .int .i64 0] 40)) (w1.heap.size) [.int .i64 100, .int .i64 50, .int .i64 10, .int .i64 9, .int .i64 9, .int .i64 9, .slice none 0 0, .int .i64 1, .int .i64 0, .int .i64 1, .int .i64 0] 40).later (by repeat (first | exact Below.refl _ _ | refine belAlloc ?_ _))
  have ccF := Blk.keepF ccB
  replace ccB := Blk.keepB ccB
  clear hb2 hbel
  generalize w1.alloc (.cells #[.int .i64 100, .int .i64 50, .int .i64 10, .int .i64 9, .int .i64 9, .int .i64 9, .slice none 0 0, .int .i64 1, .int .i64 0, .int .i64 1, .int .i64 0] 40) = W1 at *
  replace cc0 := keep cc0
  replace cc1 := keep cc1
  replace cc2 := keep cc2
  replace cc3 := keep cc3
  replace cc4 := keep cc4
  replace cc5 := keep cc5
  replace cc6 := keep cc6
  replace cc7 := keep cc7
  replace cc8 := keep cc8
  replace cc9 := keep cc9
  replace cc10 := keep cc10
  generalize w1.heap.size = n1 at *
  have hbel : Below W1.heap.size W1 W1 := Below.refl _ _
  clear w1
  go_upto_region 3 with fail
  have q1 : n1 < W1.heap.size := (ccB _ hbel).lt
  have HN2 : Hid (w.heap.size ≤ W1.heap.size) := Lib.hid hw.size
  have pp0 : (W1.alloc (.cells #[.string ⟨#[112]⟩, .int .i64 0, .bool false, .int .i64 5, .int .i64 0, .int .i64 0, .int .i64 0, .int .i64 0, .int .i64 0, .string ⟨#[120]⟩, .int .i64 0] 24)).cell? ⟨W1.heap.size, 0, none⟩ = some (.string ⟨#[112]⟩) := by first | (simp; done) | (rw [World.cell?_alloc_at _ _ _ _ (by simp)]; rfl) | (rw [World.cell?_alloc_past _ _ _ (by simp <;> omega), World.cell?_alloc_at _ _ _ _ (by simp)]; rfl) | (rw [World.cell?_alloc_past _ _ _ (by simp <;> omega), World.cell?_alloc_past _ _ _ (by simp <;> omega), World.cell?_alloc_at _ _ _ _ (by simp)]; rfl)
  have pp1 : (W1.alloc (.cells #[.string ⟨#[112]⟩, .int .i64 0, .bool false, .int .i64 5, .int .i64 0, .int .i64 0, .int .i64 0, .int .i64 0, .int .i64 0, .string ⟨#[120]⟩, .int .i64 0] 24)).cell? ⟨W1.heap.size, 1, none⟩ = some (.int .i64 0) := by first | (simp; done) | (rw [World.cell?_alloc_at _ _ _ _ (by simp)]; rfl) | (rw [World.cell?_alloc_past _ _ _ (by simp <;> omega), World.cell?_alloc_at _ _ _ _ (by simp)]; rfl) | (rw [World.cell?_alloc_past _ _ _ (by simp <;> omega), World.cell?_alloc_past _ _ _ (by simp <;> omega), World.cell?_alloc_at _ _ _ _ (by simp)]; rfl)
  have pp2 : (W1.alloc (.cells #[.string ⟨#[112]⟩, .int .i64 0, .bool false, .int .i64 5, .int .i64 0, .int .i64 0, .int .i64 0, .int .i64 0, .int .i64 0, .string ⟨#[120]⟩, .int .i64 0] 24)).cell? ⟨W1.heap.size, 2, none⟩ = some (.bool false) := by first | (simp; done) | (rw [World.cell?_alloc_at _ _ _ _ (by simp)]; rfl) | (rw [World.cell?_alloc_past _ _ _ (by simp <;> omega), World.cell?_alloc_at _ _ _ _ (by simp)]; rfl) | (rw [World.cell?_alloc_past _ _ _ (by simp <;> omega), World.cell?_alloc_past _ _ _ (by simp <;> omega), World.cell?_alloc_at _ _ _ _ (by simp)]; rfl)
  have pp3 : (W1.alloc (.cells #[.string ⟨#[112]⟩, .int .i64 0, .bool false, .int .i64 5, .int .i64 0, .int .i64 0, .int .i64 0, .int .i64 0, .int .i64 0, .string ⟨#[120]⟩, .int .i64 0] 24)).cell? ⟨W1.heap.size, 3, none⟩ = some (.int .i64 5) := by first | (simp; done) | (rw [World.cell?_alloc_at _ _ _ _ (by simp)]; rfl) | (rw [World.cell?_alloc_past _ _ _ (by simp <;> omega), World.cell?_alloc_at _ _ _ _ (by simp)]; rfl) | (rw [World.cell?_alloc_past _ _ _ (by simp <;> omega), World.cell?_alloc_past _ _ _ (by simp <;> omega), World.cell?_alloc_at _ _ _ _ (by simp)]; rfl)
  have pp4 : (W1.alloc (.cells #[.string ⟨#[112]⟩, .int .i64 0, .bool false, .int .i64 5, .int .i64 0, .int .i64 0, .int .i64 0, .int .i64 0, .int .i64 0, .string ⟨#[120]⟩, .int .i64 0] 24)).cell? ⟨W1.heap.size, 4, none⟩ = some (.int .i64 0) := by first | (simp; done) | (rw [World.cell?_alloc_at _ _ _ _ (by simp)]; rfl) | (rw [World.cell?_alloc_past _ _ _ (by simp <;> omega), World.cell?_alloc_at _ _ _ _ (by simp)]; rfl) | (rw [World.cell?_alloc_past _ _ _ (by simp <;> omega), World.cell?_alloc_past _ _ _ (by simp <;> omega), World.cell?_alloc_at _ _ _ _ (by simp)]; rfl)
  have pp5 : (W1.alloc (.cells #[.string ⟨#[112]⟩, .int .i64 0, .bool false, .int .i64 5, .int .i64 0, .int .i64 0, .int .i64 0, .int .i64 0, .int .i64 0, .string ⟨#[120]⟩, .int .i64 0] 24)).cell? ⟨W1.heap.size, 5, none⟩ = some (.int .i64 0) := by first | (simp; done) | (rw [World.cell?_alloc_at _ _ _ _ (by simp)]; rfl) | (rw [World.cell?_alloc_past _ _ _ (by simp <;> omega), World.cell?_alloc_at _ _ _ _ (by simp)]; rfl) | (rw [World.cell?_alloc_past _ _ _ (by simp <;> omega), World.cell?_alloc_past _ _ _ (by simp <;> omega), World.cell?_alloc_at _ _ _ _ (by simp)]; rfl)
  have pp6 : (W1.alloc (.cells #[.string ⟨#[112]⟩, .int .i64 0, .bool false, .int .i64 5, .int .i64 0, .int .i64 0, .int .i64 0, .int .i64 0, .int .i64 0, .string ⟨#[120]⟩, .int .i64 0] 24)).cell? ⟨W1.heap.size, 6, none⟩ = some (.int .i64 0) := by first | (simp; done) | (rw [World.cell?_alloc_at _ _ _ _ (by simp)]; rfl) | (rw [World.cell?_alloc_past _ _ _ (by simp <;> omega), World.cell?_alloc_at _ _ _ _ (by simp)]; rfl) | (rw [World.cell?_alloc_past _ _ _ (by simp <;> omega), World.cell?_alloc_past _ _ _ (by simp <;> omega), World.cell?_alloc_at _ _ _ _ (by simp)]; rfl)
  have pp7 : (W1.alloc (.cells #[.string ⟨#[112]⟩, .int .i64 0, .bool false, .int .i64 5, .int .i64 0, .int .i64 0, .int .i64 0, .int .i64 0, .int .i64 0, .string ⟨#[120]⟩, .int .i64 0] 24)).cell? ⟨W1.heap.size, 7, none⟩ = some (.int .i64 0) := by first | (simp; done) | (rw [World.cell?_alloc_at _ _ _ _ (by simp)]; rfl) | (rw [World.cell?_alloc_past _ _ _ (by simp <;> omega), World.cell?_alloc_at _ _ _ _ (by simp)]; rfl) | (rw [World.cell?_alloc_past _ _ _ (by simp <;> omega), World.cell?_alloc_past _ _ _ (by simp <;> omega), World.cell?_alloc_at _ _ _ _ (by simp)]; rfl)
  have pp8 : (W1.alloc (.cells #[.string ⟨#[112]⟩, .int .i64 0, .bool false, .int .i64 5, .int .i64 0, .int .i64 0, .int .i64 0, .int .i64 0, .int .i64 0, .string ⟨#[120]⟩, .int .i64 0] 24)).cell? ⟨W1.heap.size, 8, none⟩ = some (.int .i64 0) := by first | (simp; done) | (rw [World.cell?_alloc_at _ _ _ _ (by simp)]; rfl) | (rw [World.cell?_alloc_past _ _ _ (by simp <;> omega), World.cell?_alloc_at _ _ _ _ (by simp)]; rfl) | (rw [World.cell?_alloc_past _ _ _ (by simp <;> omega), World.cell?_alloc_past _ _ _ (by simp <;> omega), World.cell?_alloc_at _ _ _ _ (by simp)]; rfl)
  have pp9 : (W1.alloc (.cells #[.string ⟨#[112]⟩, .int .i64 0, .bool false, .int .i64 5, .int .i64 0, .int .i64 0, .int .i64 0, .int .i64 0, .int .i64 0, .string ⟨#[120]⟩, .int .i64 0] 24)).cell? ⟨W1.heap.size, 9, none⟩ = some (.string ⟨#[120]⟩) := by first | (simp; done) | (rw [World.cell?_alloc_at _ _ _ _ (by simp)]; rfl) | (rw [World.cell?_alloc_past _ _ _ (by simp <;> omega), World.cell?_alloc_at _ _ _ _ (by simp)]; rfl) | (rw [World.cell?_alloc_past _ _ _ (by simp <;> omega), World.cell?_alloc_past _ _ _ (by simp <;> omega), World.cell?_alloc_at _ _ _ _ (by simp)]; rfl)
  have pp10 : (W1.alloc (.cells #[.string ⟨#[112]⟩, .int .i64 0, .bool false, .int .i64 5, .int .i64 0, .int .i64 0, .int .i64 0, .int .i64 0, .int .i64 0, .string ⟨#[120]⟩, .int .i64 0] 24)).cell? ⟨W1.heap.size, 10, none⟩ = some (.int .i64 0) := by first | (simp; done) | (rw [World.cell?_alloc_at _ _ _ _ (by simp)]; rfl) | (rw [World.cell?_alloc_past _ _ _ (by simp <;> omega), World.cell?_alloc_at _ _ _ _ (by simp)]; rfl) | (rw [World.cell?_alloc_past _ _ _ (by simp <;> omega), World.cell?_alloc_past _ _ _ (by simp <;> omega), World.cell?_alloc_at _ _ _ _ (by simp)]; rfl)
  have hb2 := (by repeat (first | exact hbel | refine belAlloc ?_ _ | refine belDrew ?_ | refine belSet ?_ _ _ (by simp)) : Below W1.heap.size W1 (W1.alloc (.cells #[.string ⟨#[112]⟩, .int .i64 0, .bool false, .int .i64 5, .int .i64 0, .int .i64 0, .int .i64 0, .int .i64 0, .int .i64 0, .string ⟨#[120]⟩, .int .i64 0] 24)))
  replace cc0 := keepOnP cc0 hb2
  replace cc1 := keepOnP cc1 hb2
  replace cc2 := keepOnP cc2 hb2
  replace cc3 := keepOnP cc3 hb2
  replace cc4 := keepOnP cc4 hb2
  replace cc5 := keepOnP cc5 hb2
  replace cc6 := keepOnP cc6 hb2
  replace cc7 := keepOnP cc7 hb2
  replace cc8 := keepOnP cc8 hb2
  replace cc9 := keepOnP cc9 hb2
  replace cc10 := keepOnP cc10 hb2
  replace ccF := keepOnP ccF hb2
  replace ccB := keepOnP ccB hb2
  replace hw := belStep hw hb2
  have ppB : Blk (W1.alloc (.cells #[.string ⟨#[112]⟩, .int .i64 0, .bool false, .int .i64 5, .int .i64 0, .int .i64 0, .int .i64 0, .int .i64 0, .int .i64 0, .string ⟨#[120]⟩, .int .i64 0] 24)) (W1.heap.size) [.string ⟨#[112]⟩, .int .i64 0, .bool false, .int .i64 5, .int .i64 0, .int .i64 0, .int .i64 0, .int .i64 0, .int .i64 0, .string ⟨#[120]⟩, .int .i64 0] 24 := (Blk.at (by simp) : Blk (W1.alloc (.cells #[.string ⟨#[112]⟩, .int .i64 0, .bool false, .int .i64 5, .int .i64 0, .int .i64 0, .int .i64 0, .int .i64 0, .int .i64 0, .string ⟨#[120]⟩, .int .i64 0] 24)) (W1.heap.size) [.string ⟨#[112]⟩, .int .i64 0, .bool false, .int .i64 5, .int .i64 0, .int .i64 0, .int .i64 0, .int .i64 0, .int .i64 0, .string ⟨#[120]⟩, .int .i64 0] 24).later (by repeat (first | exact Below.refl _ _ | refine belAlloc ?_ _))
  have ppF := Blk.keepF ppB
  replace ppB := Blk.keepB ppB
  clear hb2 hbel
  generalize W1.alloc (.cells #[.string ⟨#[112]⟩, .int .i64 0, .bool false, .int .i64 5, .int .i64 0, .int .i64 0, .int .i64 0, .int .i64 0, .int .i64 0, .string ⟨#[120]⟩, .int .i64 0] 24) = W2 at *
  replace pp0 := keep pp0
  replace pp1 := keep pp1
  replace pp2 := keep pp2
  replace pp3 := keep pp3
  replace pp4 := keep pp4
  replace pp5 := keep pp5
  replace pp6 := keep pp6
  replace pp7 := keep pp7
  replace pp8 := keep pp8
  replace pp9 := keep pp9
  replace pp10 := keep pp10
  generalize W1.heap.size = n2 at *
  have hbel : Below W2.heap.size W2 W2 := Below.refl _ _
  skip
  go_upto_region 4 with fail
  have q2 : n2 < W2.heap.size := (ppB _ hbel).lt
  have qq0 : (W2.alloc (.cells #[.string ⟨#[113]⟩, .int .i64 1, .bool true, .int .i64 5, .int .i64 0, .int .i64 0, .int .i64 0, .int .i64 0, .int .i64 0, .string ⟨#[120]⟩, .int .i64 0] 24)).cell? ⟨W2.heap.size, 0, none⟩ = some (.string ⟨#[113]⟩) := by first | (simp; done) | (rw [World.cell?_alloc_at _ _ _ _ (by simp)]; rfl) | (rw [World.cell?_alloc_past _ _ _ (by simp <;> omega), World.cell?_alloc_at _ _ _ _ (by simp)]; rfl) | (rw [World.cell?_alloc_past _ _ _ (by simp <;> omega), World.cell?_alloc_past _ _ _ (by simp <;> omega), World.cell?_alloc_at _ _ _ _ (by simp)]; rfl)
  have qq1 : (W2.alloc (.cells #[.string ⟨#[113]⟩, .int .i64 1, .bool true, .int .i64 5, .int .i64 0, .int .i64 0, .int .i64 0, .int .i64 0, .int .i64 0, .string ⟨#[120]⟩, .int .i64 0] 24)).cell? ⟨W2.heap.size, 1, none⟩ = some (.int .i64 1) := by first | (simp; done) | (rw [World.cell?_alloc_at _ _ _ _ (by simp)]; rfl) | (rw [World.cell?_alloc_past _ _ _ (by simp <;> omega), World.cell?_alloc_at _ _ _ _ (by simp)]; rfl) | (rw [World.cell?_alloc_past _ _ _ (by simp <;> omega), World.cell?_alloc_past _ _ _ (by simp <;> omega), World.cell?_alloc_at _ _ _ _ (by simp)]; rfl)
  have qq2 : (W2.alloc (.cells #[.string ⟨#[113]⟩, .int .i64 1, .bool true, .int .i64 5, .int .i64 0, .int .i64 0, .int .i64 0, .int .i64 0, .int .i64 0, .string ⟨#[120]⟩, .int .i64 0] 24)).cell? ⟨W2.heap.size, 2, none⟩ = some (.bool true) := by first | (simp; done) | (rw [World.cell?_alloc_at _ _ _ _ (by simp)]; rfl) | (rw [World.cell?_alloc_past _ _ _ (by simp <;> omega), World.cell?_alloc_at _ _ _ _ (by simp)]; rfl) | (rw [World.cell?_alloc_past _ _ _ (by simp <;> omega), World.cell?_alloc_past _ _ _ (by simp <;> omega), World.cell?_alloc_at _ _ _ _ (by simp)]; rfl)
  have qq3 : (W2.alloc (.cells #[.string ⟨#[113]⟩, .int .i64 1, .bool true, .int .i64 5, .int .i64 0, .int .i64 0, .int .i64 0, .int .i64 0, .int .i64 0, .string ⟨#[120]⟩, .int .i64 0] 24)).cell? ⟨W2.heap.size, 3, none⟩ = some (.int .i64 5) := by first | (simp; done) | (rw [World.cell?_alloc_at _ _ _ _ (by simp)]; rfl) | (rw [World.cell?_alloc_past _ _ _ (by simp <;> omega), World.cell?_alloc_at _ _ _ _ (by simp)]; rfl) | (rw [World.cell?_alloc_past _ _ _ (by simp <;> omega), World.cell?_alloc_past _ _ _ (by simp <;> omega), World.cell?_alloc_at _ _ _ _ (by simp)]; rfl)
  have qq4 : (W2.alloc (.cells #[.string ⟨#[113]⟩, .int .i64 1, .bool true, .int .i64 5, .int .i64 0, .int .i64 0, .int .i64 0, .int .i64 0, .int .i64 0, .string ⟨#[120]⟩, .int .i64 0] 24)).cell? ⟨W2.heap.size, 4, none⟩ = some (.int .i64 0) := by first | (simp; done) | (rw [World.cell?_alloc_at _ _ _ _ (by simp)]; rfl) | (rw [World.cell?_alloc_past _ _ _ (by simp <;> omega), World.cell?_alloc_at _ _ _ _ (by simp)]; rfl) | (rw [World.cell?_alloc_past _ _ _ (by simp <;> omega), World.cell?_alloc_past _ _ _ (by simp <;> omega), World.cell?_alloc_at _ _ _ _ (by simp)]; rfl)
  have qq5 : (W2.alloc (.cells #[.string ⟨#[113]⟩, .int .i64 1, .bool true, .int .i64 5, .int .i64 0, .int .i64 0, .int .i64 0, .int .i64 0, .int .i64 0, .string ⟨#[120]⟩, .int .i64 0] 24)).cell? ⟨W2.heap.size, 5, none⟩ = some (.int .i64 0) := by first | (simp; done) | (rw [World.cell?_alloc_at _ _ _ _ (by simp)]; rfl) | (rw [World.cell?_alloc_past _ _ _ (by simp <;> omega), World.cell?_alloc_at _ _ _ _ (by simp)]; rfl) | (rw [World.cell?_alloc_past _ _ _ (by simp <;> omega), World.cell?_alloc_past _ _ _ (by simp <;> omega), World.cell?_alloc_at _ _ _ _ (by simp)]; rfl)
  have qq6 : (W2.alloc (.cells #[.string ⟨#[113]⟩, .int .i64 1, .bool true, .int .i64 5, .int .i64 0, .int .i64 0, .int .i64 0, .int .i64 0, .int .i64 0, .string ⟨#[120]⟩, .int .i64 0] 24)).cell? ⟨W2.heap.size, 6, none⟩ = some (.int .i64 0) := by first | (simp; done) | (rw [World.cell?_alloc_at _ _ _ _ (by simp)]; rfl) | (rw [World.cell?_alloc_past _ _ _ (by simp <;> omega), World.cell?_alloc_at _ _ _ _ (by simp)]; rfl) | (rw [World.cell?_alloc_past _ _ _ (by simp <;> omega), World.cell?_alloc_past _ _ _ (by simp <;> omega), World.cell?_alloc_at _ _ _ _ (by simp)]; rfl)
  have qq7 : (W2.alloc (.cells #[.string ⟨#[113]⟩, .int .i64 1, .bool true, .int .i64 5, .int .i64 0, .int .i64 0, .int .i64 0, .int .i64 0, .int .i64 0, .string ⟨#[120]⟩, .int .i64 0] 24)).cell? ⟨W2.heap.size, 7, none⟩ = some (.int .i64 0) := by first | (simp; done) | (rw [World.cell?_alloc_at _ _ _ _ (by simp)]; rfl) | (rw [World.cell?_alloc_past _ _ _ (by simp <;> omega), World.cell?_alloc_at _ _ _ _ (by simp)]; rfl) | (rw [World.cell?_alloc_past _ _ _ (by simp <;> omega), World.cell?_alloc_past _ _ _ (by simp <;> omega), World.cell?_alloc_at _ _ _ _ (by simp)]; rfl)
  have qq8 : (W2.alloc (.cells #[.string ⟨#[113]⟩, .int .i64 1, .bool true, .int .i64 5, .int .i64 0, .int .i64 0, .int .i64 0, .int .i64 0, .int .i64 0, .string ⟨#[120]⟩, .int .i64 0] 24)).cell? ⟨W2.heap.size, 8, none⟩ = some (.int .i64 0) := by first | (simp; done) | (rw [World.cell?_alloc_at _ _ _ _ (by simp)]; rfl) | (rw [World.cell?_alloc_past _ _ _ (by simp <;> omega), World.cell?_alloc_at _ _ _ _ (by simp)]; rfl) | (rw [World.cell?_alloc_past _ _ _ (by simp <;> omega), World.cell?_alloc_past _ _ _ (by simp <;> omega), World.cell?_alloc_at _ _ _ _ (by simp)]; rfl)
  have qq9 : (W2.alloc (.cells #[.string ⟨#[113]⟩, .int .i64 1, .bool true, .int .i64 5, .int .i64 0, .int .i64 0, .int .i64 0, .int .i64 0, .int .i64 0, .string ⟨#[120]⟩, .int .i64 0] 24)).cell? ⟨W2.heap.size, 9, none⟩ = some (.string ⟨#[120]⟩) := by first | (simp; done) | (rw [World.cell?_alloc_at _ _ _ _ (by simp)]; rfl) | (rw [World.cell?_alloc_past _ _ _ (by simp <;> omega), World.cell?_alloc_at _ _ _ _ (by simp)]; rfl) | (rw [World.cell?_alloc_past _ _ _ (by simp <;> omega), World.cell?_alloc_past _ _ _ (by simp <;> omega), World.cell?_alloc_at _ _ _ _ (by simp)]; rfl)
  have qq10 : (W2.alloc (.cells #[.string ⟨#[113]⟩, .int .i64 1, .bool true, .int .i64 5, .int .i64 0, .int .i64 0, .int .i64 0, .int .i64 0, .int .i64 0, .string ⟨#[120]⟩, .int .i64 0] 24)).cell? ⟨W2.heap.size, 10, none⟩ = some (.int .i64 0) := by first | (simp; done) | (rw [World.cell?_alloc_at _ _ _ _ (by simp)]; rfl) | (rw [World.cell?_alloc_past _ _ _ (by simp <;> omega), World.cell?_alloc_at _ _ _ _ (by simp)]; rfl) | (rw [World.cell?_alloc_past _ _ _ (by simp <;> omega), World.cell?_alloc_past _ _ _ (by simp <;> omega), World.cell?_alloc_at _ _ _ _ (by simp)]; rfl)
  have hb2 := (by repeat (first | exact hbel | refine belAlloc ?_ _ | refine belDrew ?_ | refine belSet ?_ _ _ (by simp)) : Below W2.heap.size W2 (W2.alloc (.cells #[.string ⟨#[113]⟩, .int .i64 1, .bool true, .int .i64 5, .int .i64 0, .int .i64 0, .int .i64 0, .int .i64 0, .int .i64 0, .string ⟨#[120]⟩, .int .i64 0] 24)))
  replace cc0 := keepOnP cc0 hb2
  replace cc1 := keepOnP cc1 hb2
  replace cc2 := keepOnP cc2 hb2
  replace cc3 := keepOnP cc3 hb2
  replace cc4 := keepOnP cc4 hb2
  replace cc5 := keepOnP cc5 hb2
  replace cc6 := keepOnP cc6 hb2
  replace cc7 := keepOnP cc7 hb2
  replace cc8 := keepOnP cc8 hb2
  replace cc9 := keepOnP cc9 hb2
  replace cc10 := keepOnP cc10 hb2
  replace ccF := keepOnP ccF hb2
  replace ccB := keepOnP ccB hb2
  replace pp0 := keepOnP pp0 hb2
  replace pp1 := keepOnP pp1 hb2
  replace pp2 := keepOnP pp2 hb2
  replace pp3 := keepOnP pp3 hb2
  replace pp4 := keepOnP pp4 hb2
  replace pp5 := keepOnP pp5 hb2
  replace pp6 := keepOnP pp6 hb2
  replace pp7 := keepOnP pp7 hb2
  replace pp8 := keepOnP pp8 hb2
  replace pp9 := keepOnP pp9 hb2
  replace pp10 := keepOnP pp10 hb2
  replace ppF := keepOnP ppF hb2
  replace ppB := keepOnP ppB hb2
  replace hw := belStep hw hb2
  clear hb2 hbel
  generalize W2.alloc (.cells #[.string ⟨#[113]⟩, .int .i64 1, .bool true, .int .i64 5, .int .i64 0, .int .i64 0, .int .i64 0, .int .i64 0, .int .i64 0, .string ⟨#[120]⟩, .int .i64 0] 24) = W3 at *
  replace qq0 := keep qq0
  replace qq1 := keep qq1
  replace qq2 := keep qq2
  replace qq3 := keep qq3
  replace qq4 := keep qq4
  replace qq5 := keep qq5
  replace qq6 := keep qq6
  replace qq7 := keep qq7
  replace qq8 := keep qq8
  replace qq9 := keep qq9
  replace qq10 := keep qq10
  generalize W2.heap.size = n3 at *
  have hbel : Below W3.heap.size W3 W3 := Below.refl _ _
  skip
  go_upto_region 5 with fail
  have q3 : n2 < W3.heap.size := (ppB _ hbel).lt
  have tt0 : (W3.alloc (.cells #[.string ⟨#[112]⟩, .int .i64 0, .bool false, .int .i64 5, .int .i64 0, .int .i64 0, .int .i64 0, .int .i64 0, .int .i64 0, .string ⟨#[120]⟩, .int .i64 0, .int .i64 2] 31)).cell? ⟨W3.heap.size, 0, none⟩ = some (.string ⟨#[112]⟩) := by first | (simp; done) | (rw [World.cell?_alloc_at _ _ _ _ (by simp)]; rfl) | (rw [World.cell?_alloc_past _ _ _ (by simp <;> omega), World.cell?_alloc_at _ _ _ _ (by simp)]; rfl) | (rw [World.cell?_alloc_past _ _ _ (by simp <;> omega), World.cell?_alloc_past _ _ _ (by simp <;> omega), World.cell?_alloc_at _ _ _ _ (by simp)]; rfl)
  have tt1 : (W3.alloc (.cells #[.string ⟨#[112]⟩, .int .i64 0, .bool false, .int .i64 5, .int .i64 0, .int .i64 0, .int .i64 0, .int .i64 0, .int .i64 0, .string ⟨#[120]⟩, .int .i64 0, .int .i64 2] 31)).cell? ⟨W3.heap.size, 1, none⟩ = some (.int .i64 0) := by first | (simp; done) | (rw [World.cell?_alloc_at _ _ _ _ (by simp)]; rfl) | (rw [World.cell?_alloc_past _ _ _ (by simp <;> omega), World.cell?_alloc_at _ _ _ _ (by simp)]; rfl) | (rw [World.cell?_alloc_past _ _ _ (by simp <;> omega), World.cell?_alloc_past _ _ _ (by simp <;> omega), World.cell?_alloc_at _ _ _ _ (by simp)]; rfl)
  have tt2 : (W3.alloc (.cells #[.string ⟨#[112]⟩, .int .i64 0, .bool false, .int .i64 5, .int .i64 0, .int .i64 0, .int .i64 0, .int .i64 0, .int .i64 0, .string ⟨#[120]⟩, .int .i64 0, .int .i64 2] 31)).cell? ⟨W3.heap.size, 2, none⟩ = some (.bool false) := by first | (simp; done) | (rw [World.cell?_alloc_at _ _ _ _ (by simp)]; rfl) | (rw [World.cell?_alloc_past _ _ _ (by simp <;> omega), World.cell?_alloc_at _ _ _ _ (by simp)]; rfl) | (rw [World.cell?_alloc_past _ _ _ (by simp <;> omega), World.cell?_alloc_past _ _ _ (by simp <;> omega), World.cell?_alloc_at _ _ _ _ (by simp)]; rfl)
  have tt3 : (W3.alloc (.cells #[.string ⟨#[112]⟩, .int .i64 0, .bool false, .int .i64 5, .int .i64 0, .int .i64 0, .int .i64 0, .int .i64 0, .int .i64 0, .string ⟨#[120]⟩, .int .i64 0, .int .i64 2] 31)).cell? ⟨W3.heap.size, 3, none⟩ = some (.int .i64 5) := by first | (simp; done) | (rw [World.cell?_alloc_at _ _ _ _ (by simp)]; rfl) | (rw [World.cell?_alloc_past _ _ _ (by simp <;> omega), World.cell?_alloc_at _ _ _ _ (by simp)]; rfl) | (rw [World.cell?_alloc_past _ _ _ (by simp <;> omega), World.cell?_alloc_past _ _ _ (by simp <;> omega), World.cell?_alloc_at _ _ _ _ (by simp)]; rfl)
  have tt4 : (W3.alloc (.cells #[.string ⟨#[112]⟩, .int .i64 0, .bool false, .int .i64 5, .int .i64 0, .int .i64 0, .int .i64 0, .int .i64 0, .int .i64 0, .string ⟨#[120]⟩, .int .i64 0, .int .i64 2] 31)).cell? ⟨W3.heap.size, 4, none⟩ = some (.int .i64 0) := by first | (simp; done) | (rw [World.cell?_alloc_at _ _ _ _ (by simp)]; rfl) | (rw [World.cell?_alloc_past _ _ _ (by simp <;> omega), World.cell?_alloc_at _ _ _ _ (by simp)]; rfl) | (rw [World.cell?_alloc_past _ _ _ (by simp <;> omega), World.cell?_alloc_past _ _ _ (by simp <;> omega), World.cell?_alloc_at _ _ _ _ (by simp)]; rfl)
  have tt5 : (W3.alloc (.cells #[.string ⟨#[112]⟩, .int .i64 0, .bool false, .int .i64 5, .int .i64 0, .int .i64 0, .int .i64 0, .int .i64 0, .int .i64 0, .string ⟨#[120]⟩, .int .i64 0, .int .i64 2] 31)).cell? ⟨W3.heap.size, 5, none⟩ = some (.int .i64 0) := by first | (simp; done) | (rw [World.cell?_alloc_at _ _ _ _ (by simp)]; rfl) | (rw [World.cell?_alloc_past _ _ _ (by simp <;> omega), World.cell?_alloc_at _ _ _ _ (by simp)]; rfl) | (rw [World.cell?_alloc_past _ _ _ (by simp <;> omega), World.cell?_alloc_past _ _ _ (by simp <;> omega), World.cell?_alloc_at _ _ _ _ (by simp)]; rfl)
  have tt6 : (W3.alloc (.cells #[.string ⟨#[112]⟩, .int .i64 0, .bool false, .int .i64 5, .int .i64 0, .int .i64 0, .int .i64 0, .int .i64 0, .int .i64 0, .string ⟨#[120]⟩, .int .i64 0, .int .i64 2] 31)).cell? ⟨W3.heap.size, 6, none⟩ = some (.int .i64 0) := by first | (simp; done) | (rw [World.cell?_alloc_at _ _ _ _ (by simp)]; rfl) | (rw [World.cell?_alloc_past _ _ _ (by simp <;> omega), World.cell?_alloc_at _ _ _ _ (by simp)]; rfl) | (rw [World.cell?_alloc_past _ _ _ (by simp <;> omega), World.cell?_alloc_past _ _ _ (by simp <;> omega), World.cell?_alloc_at _ _ _ _ (by simp)]; rfl)
  have tt7 : (W3.alloc (.cells #[.string ⟨#[112]⟩, .int .i64 0, .bool false, .int .i64 5, .int .i64 0, .int .i64 0, .int .i64 0, .int .i64 0, .int .i64 0, .string ⟨#[120]⟩, .int .i64 0, .int .i64 2] 31)).cell? ⟨W3.heap.size, 7, none⟩ = some (.int .i64 0) := by first | (simp; done) | (rw [World.cell?_alloc_at _ _ _ _ (by simp)]; rfl) | (rw [World.cell?_alloc_past _ _ _ (by simp <;> omega), World.cell?_alloc_at _ _ _ _ (by simp)]; rfl) | (rw [World.cell?_alloc_past _ _ _ (by simp <;> omega), World.cell?_alloc_past _ _ _ (by simp <;> omega), World.cell?_alloc_at _ _ _ _ (by simp)]; rfl)
  have tt8 : (W3.alloc (.cells #[.string ⟨#[112]⟩, .int .i64 0, .bool false, .int .i64 5, .int .i64 0, .int .i64 0, .int .i64 0, .int .i64 0, .int .i64 0, .string ⟨#[120]⟩, .int .i64 0, .int .i64 2] 31)).cell? ⟨W3.heap.size, 8, none⟩ = some (.int .i64 0) := by first | (simp; done) | (rw [World.cell?_alloc_at _ _ _ _ (by simp)]; rfl) | (rw [World.cell?_alloc_past _ _ _ (by simp <;> omega), World.cell?_alloc_at _ _ _ _ (by simp)]; rfl) | (rw [World.cell?_alloc_past _ _ _ (by simp <;> omega), World.cell?_alloc_past _ _ _ (by simp <;> omega), World.cell?_alloc_at _ _ _ _ (by simp)]; rfl)
  have tt9 : (W3.alloc (.cells #[.string ⟨#[112]⟩, .int .i64 0, .bool false, .int .i64 5, .int .i64 0, .int .i64 0, .int .i64 0, .int .i64 0, .int .i64 0, .string ⟨#[120]⟩, .int .i64 0, .int .i64 2] 31)).cell? ⟨W3.heap.size, 9, none⟩ = some (.string ⟨#[120]⟩) := by first | (simp; done) | (rw [World.cell?_alloc_at _ _ _ _ (by simp)]; rfl) | (rw [World.cell?_alloc_past _ _ _ (by simp <;> omega), World.cell?_alloc_at _ _ _ _ (by simp)]; rfl) | (rw [World.cell?_alloc_past _ _ _ (by simp <;> omega), World.cell?_alloc_past _ _ _ (by simp <;> omega), World.cell?_alloc_at _ _ _ _ (by simp)]; rfl)
  have tt10 : (W3.alloc (.cells #[.string ⟨#[112]⟩, .int .i64 0, .bool false, .int .i64 5, .int .i64 0, .int .i64 0, .int .i64 0, .int .i64 0, .int .i64 0, .string ⟨#[120]⟩, .int .i64 0, .int .i64 2] 31)).cell? ⟨W3.heap.size, 10, none⟩ = some (.int .i64 0) := by first | (simp; done) | (rw [World.cell?_alloc_at _ _ _ _ (by simp)]; rfl) | (rw [World.cell?_alloc_past _ _ _ (by simp <;> omega), World.cell?_alloc_at _ _ _ _ (by simp)]; rfl) | (rw [World.cell?_alloc_past _ _ _ (by simp <;> omega), World.cell?_alloc_past _ _ _ (by simp <;> omega), World.cell?_alloc_at _ _ _ _ (by simp)]; rfl)
  have tt11 : (W3.alloc (.cells #[.string ⟨#[112]⟩, .int .i64 0, .bool false, .int .i64 5, .int .i64 0, .int .i64 0, .int .i64 0, .int .i64 0, .int .i64 0, .string ⟨#[120]⟩, .int .i64 0, .int .i64 2] 31)).cell? ⟨W3.heap.size, 11, none⟩ = some (.int .i64 2) := by first | (simp; done) | (rw [World.cell?_alloc_at _ _ _ _ (by simp)]; rfl) | (rw [World.cell?_alloc_past _ _ _ (by simp <;> omega), World.cell?_alloc_at _ _ _ _ (by simp)]; rfl) | (rw [World.cell?_alloc_past _ _ _ (by simp <;> omega), World.cell?_alloc_past _ _ _ (by simp <;> omega), World.cell?_alloc_at _ _ _ _ (by simp)]; rfl)
  have hb2 := (by repeat (first | exact hbel | refine belAlloc ?_ _ | refine belDrew ?_ | refine belSet ?_ _ _ (by simp)) : Below W3.heap.size W3 (W3.alloc (.cells #[.string ⟨#[112]⟩, .int .i64 0, .bool false, .int .i64 5, .int .i64 0, .int .i64 0, .int .i64 0, .int .i64 0, .int .i64 0, .string ⟨#[120]⟩, .int .i64 0, .int .i64 2] 31)))
  replace cc0 := keepOnP cc0 hb2
  replace cc1 := keepOnP cc1 hb2
  replace cc2 := keepOnP cc2 hb2
  replace cc3 := keepOnP cc3 hb2
  replace cc4 := keepOnP cc4 hb2
  replace cc5 := keepOnP cc5 hb2
  replace cc6 := keepOnP cc6 hb2
  replace cc7 := keepOnP cc7 hb2
  replace cc8 := keepOnP cc8 hb2
  replace cc9 := keepOnP cc9 hb2
  replace cc10 := keepOnP cc10 hb2
  replace ccF := keepOnP ccF hb2
  replace ccB := keepOnP ccB hb2
  replace pp0 := keepOnP pp0 hb2
  replace pp1 := keepOnP pp1 hb2
  replace pp2 := keepOnP pp2 hb2
  replace pp3 := keepOnP pp3 hb2
  replace pp4 := keepOnP pp4 hb2
  replace pp5 := keepOnP pp5 hb2
  replace pp6 := keepOnP pp6 hb2
  replace pp7 := keepOnP pp7 hb2
  replace pp8 := keepOnP pp8 hb2
  replace pp9 := keepOnP pp9 hb2
  replace pp10 := keepOnP pp10 hb2
  replace ppF := keepOnP ppF hb2
  replace ppB := keepOnP ppB hb2
  replace qq0 := keepOnP qq0 hb2
  replace qq1 := keepOnP qq1 hb2
  replace qq2 := keepOnP qq2 hb2
  replace qq3 := keepOnP qq3 hb2
  replace qq4 := keepOnP qq4 hb2
  replace qq5 := keepOnP qq5 hb2
  replace qq6 := keepOnP qq6 hb2
  replace qq7 := keepOnP qq7 hb2
  replace qq8 := keepOnP qq8 hb2
  replace qq9 := keepOnP qq9 hb2
  replace qq10 := keepOnP qq10 hb2
  replace hw := belStep hw hb2
  have ttB : Blk (W3.alloc (.cells #[.string ⟨#[112]⟩, .int .i64 0, .bool false, .int .i64 5, .int .i64 0, .int .i64 0, .int .i64 0, .int .i64 0, .int .i64 0, .string ⟨#[120]⟩, .int .i64 0, .int .i64 2] 31)) (W3.heap.size) [.string ⟨#[112]⟩, .int .i64 0, .bool false, .int .i64 5, .int .i64 0, .int .i64 0, .int .i64 0, .int .i64 0, .int .i64 0, .string ⟨#[120]⟩, .int .i64 0, .int .i64 2] 31 := (Blk.at (by simp) : Blk (W3.alloc (.cells #[.string ⟨#[112]⟩, .int .i64 0, .bool false, .int .i64 5, .int .i64 0, .int .i64 0, .int .i64 0, .int .i64 0, .int .i64 0, .string ⟨#[120]⟩, .int .i64 0, .int .i64 2] 31)) (W3.heap.size) [.string ⟨#[112]⟩, .int .i64 0, .bool false, .int .i64 5, .int .i64 0, .int .i64 0, .int .i64 0, .int .i64 0, .int .i64 0, .string ⟨#[120]⟩, .int .i64 0, .int .i64 2] 31).later (by repeat (first | exact Below.refl _ _ | refine belAlloc ?_ _))
  have ttF := Blk.keepF ttB
  replace ttB := Blk.keepB ttB
  clear hb2 hbel
  generalize W3.alloc (.cells #[.string ⟨#[112]⟩, .int .i64 0, .bool false, .int .i64 5, .int .i64 0, .int .i64 0, .int .i64 0, .int .i64 0, .int .i64 0, .string ⟨#[120]⟩, .int .i64 0, .int .i64 2] 31) = W4 at *
  replace tt0 := keep tt0
  replace tt1 := keep tt1
  replace tt2 := keep tt2
  replace tt3 := keep tt3
  replace tt4 := keep tt4
  replace tt5 := keep tt5
  replace tt6 := keep tt6
  replace tt7 := keep tt7
  replace tt8 := keep tt8
  replace tt9 := keep tt9
  replace tt10 := keep tt10
  replace tt11 := keep tt11
  generalize W3.heap.size = n4 at *
  have hbel : Below W4.heap.size W4 W4 := Below.refl _ _
  skip
  have HT := Lib.hid (fun u (hu : Below W4.heap.size W4 u) => (show Row u (some ⟨n4, 0, none⟩) 1 1 12 (([⟨pP, 2⟩] : List EntV).flatMap EntV.cells) from row_of_blk (ttB u hu)))
  have HB4 : Hid (Below W4.heap.size W4 W4) := Lib.hid (Below.refl _ _)
  have C1 := Lib.hid (show ∀ u : World, Below W4.heap.size W4 u → Calls Try.prog 6 #[.agg #[.int .i64 100, .int .i64 50, .int .i64 10, .int .i64 9, .int .i64 9, .int .i64 9, .slice none 0 0, .int .i64 1, .int .i64 0, .int .i64 1, .int .i64 0], .slice none 0 0, .agg #[.bool false, .bool false, .bool false], .agg #[.string ⟨#[112]⟩, .int .i64 0, .bool false, .int .i64 5, .int .i64 0, .int .i64 0, .int .i64 0, .int .i64 0, .int .i64 0, .string ⟨#[120]⟩, .int .i64 0]] u fun e w' => (∃ b n, e = .returned (.tuple #[.agg #[.int .i64 1, .int .i64 0, .slice b 0 n], .int .i64 0]) ∧ OwnS w' u.heap.size (.slice b 0 n) []) ∧ Below u.heap.size u w' from fun u hu => by have h := adm_Decide cS ⟨false, false, false⟩ pP none 0 0 [] u rfl (row_nil) (by omega) (fun x hx => by cases hx) dist_0 (wok _ (by simp)); rw [show decideF ⟨cS.a0, cS.a1, cS.a2⟩ [] ⟨false, false, false⟩ pP = _ from dec_1] at h; exact h)
  have C2 := Lib.hid (show ∀ u : World, Below W4.heap.size W4 u → Calls Try.prog 6 #[.agg #[.int .i64 100, .int .i64 50, .int .i64 10, .int .i64 9, .int .i64 9, .int .i64 9, .slice none 0 0, .int .i64 1, .int .i64 0, .int .i64 1, .int .i64 0], .slice (some ⟨n4, 0, none⟩) 1 1, .agg #[.bool true, .bool true, .bool true], .agg #[.string ⟨#[113]⟩, .int .i64 1, .bool true, .int .i64 5, .int .i64 0, .int .i64 0, .int .i64 0, .int .i64 0, .int .i64 0, .string ⟨#[120]⟩, .int .i64 0]] u fun e w' => (∃ b n, e = .returned (.tuple #[.agg #[.int .i64 2, .int .i64 0, .slice b 1 n], .int .i64 0]) ∧ OwnS w' u.heap.size (.slice b 1 n) [⟨#[112]⟩]) ∧ Below u.heap.size u w' from fun u hu => by have h := adm_Decide cS ⟨true, true, true⟩ pQ (some ⟨n4, 0, none⟩) 1 1 [⟨pP, 2⟩] u rfl (HT.out u hu) (by omega) tabok1 dist_pP (wok _ (by simp)); rw [show decideF ⟨cS.a0, cS.a1, cS.a2⟩ [⟨pP, 2⟩] ⟨true, true, true⟩ pQ = _ from dec_2] at h; exact h)
  have C3 := Lib.hid (show ∀ u : World, Below W4.heap.size W4 u → Calls Try.prog 6 #[.agg #[.int .i64 100, .int .i64 50, .int .i64 10, .int .i64 9, .int .i64 9, .int .i64 9, .slice none 0 0, .int .i64 1, .int .i64 0, .int .i64 1, .int .i64 0], .slice none 0 0, .agg #[.bool true, .bool false, .bool true], .agg #[.string ⟨#[112]⟩, .int .i64 0, .bool false, .int .i64 5, .int .i64 0, .int .i64 0, .int .i64 0, .int .i64 0, .int .i64 0, .string ⟨#[120]⟩, .int .i64 0]] u fun e w' => (∃ b n, e = .returned (.tuple #[.agg #[.int .i64 3, .int .i64 2, .slice b 0 n], .int .i64 0]) ∧ OwnS w' u.heap.size (.slice b 0 n) []) ∧ Below u.heap.size u w' from fun u hu => by have h := adm_Decide cS ⟨true, false, true⟩ pP none 0 0 [] u rfl (row_nil) (by omega) (fun x hx => by cases hx) dist_0 (wok _ (by simp)); rw [show decideF ⟨cS.a0, cS.a1, cS.a2⟩ [] ⟨true, false, true⟩ pP = _ from dec_3] at h; exact h)
  have C4 := Lib.hid (show ∀ u : World, Below W4.heap.size W4 u → Calls Try.prog 6 #[.agg #[.int .i64 100, .int .i64 50, .int .i64 10, .int .i64 9, .int .i64 9, .int .i64 9, .slice none 0 0, .int .i64 1, .int .i64 0, .int .i64 1, .int .i64 0], .slice (some ⟨n4, 0, none⟩) 1 1, .agg #[.bool false, .bool false, .bool false], .agg #[.string ⟨#[112]⟩, .int .i64 0, .bool false, .int .i64 5, .int .i64 0, .int .i64 0, .int .i64 0, .int .i64 0, .int .i64 0, .string ⟨#[120]⟩, .int .i64 0]] u fun e w' => (∃ b n, e = .returned (.tuple #[.agg #[.int .i64 0, .int .i64 0, .slice b 0 n], .int .i64 5]) ∧ OwnS w' u.heap.size (.slice b 0 n) []) ∧ Below u.heap.size u w' from fun u hu => by have h := adm_Decide cS ⟨false, false, false⟩ pP (some ⟨n4, 0, none⟩) 1 1 [⟨pP, 2⟩] u rfl (HT.out u hu) (by omega) tabok1 dist_pP (wok _ (by simp)); rw [show decideF ⟨cS.a0, cS.a1, cS.a2⟩ [⟨pP, 2⟩] ⟨false, false, false⟩ pP = _ from dec_4] at h; exact h)
  have C5 := Lib.hid (show ∀ u : World, Below W4.heap.size W4 u → Calls Try.prog 6 #[.agg #[.int .i64 100, .int .i64 50, .int .i64 10, .int .i64 9, .int .i64 9, .int .i64 9, .slice none 0 0, .int .i64 1, .int .i64 0, .int .i64 1, .int .i64 0], .slice (some ⟨n4, 0, none⟩) 1 1, .agg #[.bool false, .bool false, .bool false], .agg #[.string ⟨#[]⟩, .int .i64 0, .bool false, .int .i64 0, .int .i64 0, .int .i64 0, .int .i64 0, .int .i64 0, .int .i64 0, .string ⟨#[]⟩, .int .i64 0]] u fun e w' => (∃ b n, e = .returned (.tuple #[.agg #[.int .i64 0, .int .i64 0, .slice b 0 n], .int .i64 1]) ∧ OwnS w' u.heap.size (.slice b 0 n) []) ∧ Below u.heap.size u w' from fun u hu => by have h := adm_Decide cS ⟨false, false, false⟩ pZ (some ⟨n4, 0, none⟩) 1 1 [⟨pP, 2⟩] u rfl (HT.out u hu) (by omega) tabok1 dist_pP (wok _ (by simp)); rw [show decideF ⟨cS.a0, cS.a1, cS.a2⟩ [⟨pP, 2⟩] ⟨false, false, false⟩ pZ = _ from dec_5] at h; exact h)
  go_upto_region 6 with (go_at_call 6; (with_reducible refine (C1.out _ (HB4.out.trans (hbel.mono HB4.out.size))).mono ?_); rintro e u1 ⟨⟨b1, m1, rfl, ho1⟩, hb1⟩; replace hbel := belStep hbel hb1)
  have q4 : n2 < u1.heap.size := (ppB _ hbel).lt
  clear ho1
  clear hb1
  have HBN1 := Lib.hid (show Below W4.heap.size W4 (u1.alloc (.cells #[.int .i64 1, .int .i64 0, .slice b1 0 m1] 34)) from belAlloc hbel _)
  have v10 : (u1.alloc (.cells #[.int .i64 1, .int .i64 0, .slice b1 0 m1] 34)).cell? ⟨u1.heap.size, 0, none⟩ = some (.int .i64 1) := by first | (simp; done) | (rw [World.cell?_alloc_at _ _ _ _ (by simp)]; rfl) | (rw [World.cell?_alloc_past _ _ _ (by simp <;> omega), World.cell?_alloc_at _ _ _ _ (by simp)]; rfl) | (rw [World.cell?_alloc_past _ _ _ (by simp <;> omega), World.cell?_alloc_past _ _ _ (by simp <;> omega), World.cell?_alloc_at _ _ _ _ (by simp)]; rfl)
  have v11 : (u1.alloc (.cells #[.int .i64 1, .int .i64 0, .slice b1 0 m1] 34)).cell? ⟨u1.heap.size, 1, none⟩ = some (.int .i64 0) := by first | (simp; done) | (rw [World.cell?_alloc_at _ _ _ _ (by simp)]; rfl) | (rw [World.cell?_alloc_past _ _ _ (by simp <;> omega), World.cell?_alloc_at _ _ _ _ (by simp)]; rfl) | (rw [World.cell?_alloc_past _ _ _ (by simp <;> omega), World.cell?_alloc_past _ _ _ (by simp <;> omega), World.cell?_alloc_at _ _ _ _ (by simp)]; rfl)
  have v12 : (u1.alloc (.cells #[.int .i64 1, .int .i64 0, .slice b1 0 m1] 34)).cell? ⟨u1.heap.size, 2, none⟩ = some (.slice b1 0 m1) := by first | (simp; done) | (rw [World.cell?_alloc_at _ _ _ _ (by simp)]; rfl) | (rw [World.cell?_alloc_past _ _ _ (by simp <;> omega), World.cell?_alloc_at _ _ _ _ (by simp)]; rfl) | (rw [World.cell?_alloc_past _ _ _ (by simp <;> omega), World.cell?_alloc_past _ _ _ (by simp <;> omega), World.cell?_alloc_at _ _ _ _ (by simp)]; rfl)
  have hb2 := (by repeat (first | exact hbel | refine belAlloc ?_ _ | refine belDrew ?_ | refine belSet ?_ _ _ (by simp)) : Below W4.heap.size W4 (u1.alloc (.cells #[.int .i64 1, .int .i64 0, .slice b1 0 m1] 34)))
  replace cc0 := keepOnP cc0 hb2
  replace cc1 := keepOnP cc1 hb2
  replace cc2 := keepOnP cc2 hb2
  replace cc3 := keepOnP cc3 hb2
  replace cc4 := keepOnP cc4 hb2
  replace cc5 := keepOnP cc5 hb2
  replace cc6 := keepOnP cc6 hb2
  replace cc7 := keepOnP cc7 hb2
  replace cc8 := keepOnP cc8 hb2
  replace cc9 := keepOnP cc9 hb2
  replace cc10 := keepOnP cc10 hb2
  replace ccF := keepOnP ccF hb2
  replace ccB := keepOnP ccB hb2
  replace pp0 := keepOnP pp0 hb2
  replace pp1 := keepOnP pp1 hb2
  replace pp2 := keepOnP pp2 hb2
  replace pp3 := keepOnP pp3 hb2
  replace pp4 := keepOnP pp4 hb2
  replace pp5 := keepOnP pp5 hb2
  replace pp6 := keepOnP pp6 hb2
  replace pp7 := keepOnP pp7 hb2
  replace pp8 := keepOnP pp8 hb2
  replace pp9 := keepOnP pp9 hb2
  replace pp10 := keepOnP pp10 hb2
  replace ppF := keepOnP ppF hb2
  replace ppB := keepOnP ppB hb2
  replace qq0 := keepOnP qq0 hb2
  replace qq1 := keepOnP qq1 hb2
  replace qq2 := keepOnP qq2 hb2
  replace qq3 := keepOnP qq3 hb2
  replace qq4 := keepOnP qq4 hb2
  replace qq5 := keepOnP qq5 hb2
  replace qq6 := keepOnP qq6 hb2
  replace qq7 := keepOnP qq7 hb2
  replace qq8 := keepOnP qq8 hb2
  replace qq9 := keepOnP qq9 hb2
  replace qq10 := keepOnP qq10 hb2
  replace tt0 := keepOnP tt0 hb2
  replace tt1 := keepOnP tt1 hb2
  replace tt2 := keepOnP tt2 hb2
  replace tt3 := keepOnP tt3 hb2
  replace tt4 := keepOnP tt4 hb2
  replace tt5 := keepOnP tt5 hb2
  replace tt6 := keepOnP tt6 hb2
  replace tt7 := keepOnP tt7 hb2
  replace tt8 := keepOnP tt8 hb2
  replace tt9 := keepOnP tt9 hb2
  replace tt10 := keepOnP tt10 hb2
  replace tt11 := keepOnP tt11 hb2
  replace ttF := keepOnP ttF hb2
  replace ttB := keepOnP ttB hb2
  replace hw := belStep hw hb2
  clear hb2 hbel
  generalize u1.alloc (.cells #[.int .i64 1, .int .i64 0, .slice b1 0 m1] 34) = W5 at *
  replace v10 := keep v10
  replace v11 := keep v11
  replace v12 := keep v12
  generalize u1.heap.size = p1 at *
  have hbel : Below W5.heap.size W5 W5 := Below.refl _ _
  clear u1
  have HB5 : Hid (Below W4.heap.size W4 W5) := Lib.hid (HB4.out.trans (HBN1.out.mono HB4.out.size))
  go_upto_region 7 with (go_at_call 6; (with_reducible refine (C2.out _ (HB5.out.trans (hbel.mono HB5.out.size))).mono ?_); rintro e u2 ⟨⟨b2, m2, rfl, ho2⟩, hb2⟩; replace hbel := belStep hbel hb2)
  obtain ⟨gb, go, eg, hg⟩ := text_cell (row_of_owns ho2) (k := 0) rfl
  have q5 : n2 < u2.heap.size := (ppB _ hbel).lt
  skip
  have hgn : n2 < gb := by
    have h1 := own_base ho2 eg
    have h2 : n2 < W5.heap.size := (ppB _ (Below.refl _ _)).lt
    omega
  subst eg
  clear ho2
  have HBV := Lib.hid hbel
  replace cc0 := keepOnP cc0 hbel
  replace cc1 := keepOnP cc1 hbel
  replace cc2 := keepOnP cc2 hbel
  replace cc3 := keepOnP cc3 hbel
  replace cc4 := keepOnP cc4 hbel
  replace cc5 := keepOnP cc5 hbel
  replace cc6 := keepOnP cc6 hbel
  replace cc7 := keepOnP cc7 hbel
  replace cc8 := keepOnP cc8 hbel
  replace cc9 := keepOnP cc9 hbel
  replace cc10 := keepOnP cc10 hbel
  replace ccF := keepOnP ccF hbel
  replace ccB := keepOnP ccB hbel
  replace pp0 := keepOnP pp0 hbel
  replace pp1 := keepOnP pp1 hbel
  replace pp2 := keepOnP pp2 hbel
  replace pp3 := keepOnP pp3 hbel
  replace pp4 := keepOnP pp4 hbel
  replace pp5 := keepOnP pp5 hbel
  replace pp6 := keepOnP pp6 hbel
  replace pp7 := keepOnP pp7 hbel
  replace pp8 := keepOnP pp8 hbel
  replace pp9 := keepOnP pp9 hbel
  replace pp10 := keepOnP pp10 hbel
  replace ppF := keepOnP ppF hbel
  replace ppB := keepOnP ppB hbel
  replace qq0 := keepOnP qq0 hbel
  replace qq1 := keepOnP qq1 hbel
  replace qq2 := keepOnP qq2 hbel
  replace qq3 := keepOnP qq3 hbel
  replace qq4 := keepOnP qq4 hbel
  replace qq5 := keepOnP qq5 hbel
  replace qq6 := keepOnP qq6 hbel
  replace qq7 := keepOnP qq7 hbel
  replace qq8 := keepOnP qq8 hbel
  replace qq9 := keepOnP qq9 hbel
  replace qq10 := keepOnP qq10 hbel
  replace tt0 := keepOnP tt0 hbel
  replace tt1 := keepOnP tt1 hbel
  replace tt2 := keepOnP tt2 hbel
  replace tt3 := keepOnP tt3 hbel
  replace tt4 := keepOnP tt4 hbel
  replace tt5 := keepOnP tt5 hbel
  replace tt6 := keepOnP tt6 hbel
  replace tt7 := keepOnP tt7 hbel
  replace tt8 := keepOnP tt8 hbel
  replace tt9 := keepOnP tt9 hbel
  replace tt10 := keepOnP tt10 hbel
  replace tt11 := keepOnP tt11 hbel
  replace ttF := keepOnP ttF hbel
  replace ttB := keepOnP ttB hbel
  replace v10 := keepOnP v10 hbel
  replace v11 := keepOnP v11 hbel
  replace v12 := keepOnP v12 hbel
  replace hw := belStep hw hbel
  clear hbel
  generalize u2 = V5 at *
  have hbel : Below V5.heap.size V5 V5 := Below.refl _ _
  have gg := keep hg
  simp only [Nat.add_zero] at gg
  clear hg
  clear hb2
  have HBN2 := Lib.hid (show Below W5.heap.size W5 (V5.alloc (.cells #[.int .i64 2, .int .i64 0, .slice (some ⟨gb, go, none⟩) 1 m2] 34)) from belAlloc HBV.out _)
  have v20 : (V5.alloc (.cells #[.int .i64 2, .int .i64 0, .slice (some ⟨gb, go, none⟩) 1 m2] 34)).cell? ⟨V5.heap.size, 0, none⟩ = some (.int .i64 2) := by first | (simp; done) | (rw [World.cell?_alloc_at _ _ _ _ (by simp)]; rfl) | (rw [World.cell?_alloc_past _ _ _ (by simp <;> omega), World.cell?_alloc_at _ _ _ _ (by simp)]; rfl) | (rw [World.cell?_alloc_past _ _ _ (by simp <;> omega), World.cell?_alloc_past _ _ _ (by simp <;> omega), World.cell?_alloc_at _ _ _ _ (by simp)]; rfl)
  have v21 : (V5.alloc (.cells #[.int .i64 2, .int .i64 0, .slice (some ⟨gb, go, none⟩) 1 m2] 34)).cell? ⟨V5.heap.size, 1, none⟩ = some (.int .i64 0) := by first | (simp; done) | (rw [World.cell?_alloc_at _ _ _ _ (by simp)]; rfl) | (rw [World.cell?_alloc_past _ _ _ (by simp <;> omega), World.cell?_alloc_at _ _ _ _ (by simp)]; rfl) | (rw [World.cell?_alloc_past _ _ _ (by simp <;> omega), World.cell?_alloc_past _ _ _ (by simp <;> omega), World.cell?_alloc_at _ _ _ _ (by simp)]; rfl)
  have v22 : (V5.alloc (.cells #[.int .i64 2, .int .i64 0, .slice (some ⟨gb, go, none⟩) 1 m2] 34)).cell? ⟨V5.heap.size, 2, none⟩ = some (.slice (some ⟨gb, go, none⟩) 1 m2) := by first | (simp; done) | (rw [World.cell?_alloc_at _ _ _ _ (by simp)]; rfl) | (rw [World.cell?_alloc_past _ _ _ (by simp <;> omega), World.cell?_alloc_at _ _ _ _ (by simp)]; rfl) | (rw [World.cell?_alloc_past _ _ _ (by simp <;> omega), World.cell?_alloc_past _ _ _ (by simp <;> omega), World.cell?_alloc_at _ _ _ _ (by simp)]; rfl)
  have hb2 := (by repeat (first | exact hbel | refine belAlloc ?_ _ | refine belDrew ?_ | refine belSet ?_ _ _ (by simp)) : Below V5.heap.size V5 (V5.alloc (.cells #[.int .i64 2, .int .i64 0, .slice (some ⟨gb, go, none⟩) 1 m2] 34)))
  replace cc0 := keepOnP cc0 hb2
  replace cc1 := keepOnP cc1 hb2
  replace cc2 := keepOnP cc2 hb2
  replace cc3 := keepOnP cc3 hb2
  replace cc4 := keepOnP cc4 hb2
  replace cc5 := keepOnP cc5 hb2
  replace cc6 := keepOnP cc6 hb2
  replace cc7 := keepOnP cc7 hb2
  replace cc8 := keepOnP cc8 hb2
  replace cc9 := keepOnP cc9 hb2
  replace cc10 := keepOnP cc10 hb2
  replace ccF := keepOnP ccF hb2
  replace ccB := keepOnP ccB hb2
  replace pp0 := keepOnP pp0 hb2
  replace pp1 := keepOnP pp1 hb2
  replace pp2 := keepOnP pp2 hb2
  replace pp3 := keepOnP pp3 hb2
  replace pp4 := keepOnP pp4 hb2
  replace pp5 := keepOnP pp5 hb2
  replace pp6 := keepOnP pp6 hb2
  replace pp7 := keepOnP pp7 hb2
  replace pp8 := keepOnP pp8 hb2
  replace pp9 := keepOnP pp9 hb2
  replace pp10 := keepOnP pp10 hb2
  replace ppF := keepOnP ppF hb2
  replace ppB := keepOnP ppB hb2
  replace qq0 := keepOnP qq0 hb2
  replace qq1 := keepOnP qq1 hb2
  replace qq2 := keepOnP qq2 hb2
  replace qq3 := keepOnP qq3 hb2
  replace qq4 := keepOnP qq4 hb2
  replace qq5 := keepOnP qq5 hb2
  replace qq6 := keepOnP qq6 hb2
  replace qq7 := keepOnP qq7 hb2
  replace qq8 := keepOnP qq8 hb2
  replace qq9 := keepOnP qq9 hb2
  replace qq10 := keepOnP qq10 hb2
  replace tt0 := keepOnP tt0 hb2
  replace tt1 := keepOnP tt1 hb2
  replace tt2 := keepOnP tt2 hb2
  replace tt3 := keepOnP tt3 hb2
  replace tt4 := keepOnP tt4 hb2
  replace tt5 := keepOnP tt5 hb2
  replace tt6 := keepOnP tt6 hb2
  replace tt7 := keepOnP tt7 hb2
  replace tt8 := keepOnP tt8 hb2
  replace tt9 := keepOnP tt9 hb2
  replace tt10 := keepOnP tt10 hb2
  replace tt11 := keepOnP tt11 hb2
  replace ttF := keepOnP ttF hb2
  replace ttB := keepOnP ttB hb2
  replace v10 := keepOnP v10 hb2
  replace v11 := keepOnP v11 hb2
  replace v12 := keepOnP v12 hb2
  replace gg := keepOnP gg hb2
  replace hw := belStep hw hb2
  clear hb2 hbel
  generalize V5.alloc (.cells #[.int .i64 2, .int .i64 0, .slice (some ⟨gb, go, none⟩) 1 m2] 34) = W6 at *
  replace v20 := keep v20
  replace v21 := keep v21
  replace v22 := keep v22
  generalize V5.heap.size = p2 at *
  have hbel : Below W6.heap.size W6 W6 := Below.refl _ _
  skip
  have HB6 : Hid (Below W4.heap.size W4 W6) := Lib.hid (HB5.out.trans (HBN2.out.mono HB5.out.size))
  go_upto_region 8 with (go_at_call 6; (with_reducible refine (C3.out _ (HB6.out.trans (hbel.mono HB6.out.size))).mono ?_); rintro e u3 ⟨⟨b3, m3, rfl, ho3⟩, hb3⟩; replace hbel := belStep hbel hb3)
  have q6 : n2 < u3.heap.size := (ppB _ hbel).lt
  clear ho3
  clear hb3
  have HBN3 := Lib.hid (show Below W6.heap.size W6 (u3.alloc (.cells #[.int .i64 3, .int .i64 2, .slice b3 0 m3] 34)) from belAlloc hbel _)
  have v30 : (u3.alloc (.cells #[.int .i64 3, .int .i64 2, .slice b3 0 m3] 34)).cell? ⟨u3.heap.size, 0, none⟩ = some (.int .i64 3) := by first | (simp; done) | (rw [World.cell?_alloc_at _ _ _ _ (by simp)]; rfl) | (rw [World.cell?_alloc_past _ _ _ (by simp <;> omega), World.cell?_alloc_at _ _ _ _ (by simp)]; rfl) | (rw [World.cell?_alloc_past _ _ _ (by simp <;> omega), World.cell?_alloc_past _ _ _ (by simp <;> omega), World.cell?_alloc_at _ _ _ _ (by simp)]; rfl)
  have v31 : (u3.alloc (.cells #[.int .i64 3, .int .i64 2, .slice b3 0 m3] 34)).cell? ⟨u3.heap.size, 1, none⟩ = some (.int .i64 2) := by first | (simp; done) | (rw [World.cell?_alloc_at _ _ _ _ (by simp)]; rfl) | (rw [World.cell?_alloc_past _ _ _ (by simp <;> omega), World.cell?_alloc_at _ _ _ _ (by simp)]; rfl) | (rw [World.cell?_alloc_past _ _ _ (by simp <;> omega), World.cell?_alloc_past _ _ _ (by simp <;> omega), World.cell?_alloc_at _ _ _ _ (by simp)]; rfl)
  have v32 : (u3.alloc (.cells #[.int .i64 3, .int .i64 2, .slice b3 0 m3] 34)).cell? ⟨u3.heap.size, 2, none⟩ = some (.slice b3 0 m3) := by first | (simp; done) | (rw [World.cell?_alloc_at _ _ _ _ (by simp)]; rfl) | (rw [World.cell?_alloc_past _ _ _ (by simp <;> omega), World.cell?_alloc_at _ _ _ _ (by simp)]; rfl) | (rw [World.cell?_alloc_past _ _ _ (by simp <;> omega), World.cell?_alloc_past _ _ _ (by simp <;> omega), World.cell?_alloc_at _ _ _ _ (by simp)]; rfl)
  have hb2 := (by repeat (first | exact hbel | refine belAlloc ?_ _ | refine belDrew ?_ | refine belSet ?_ _ _ (by simp)) : Below W6.heap.size W6 (u3.alloc (.cells #[.int .i64 3, .int .i64 2, .slice b3 0 m3] 34)))
  replace cc0 := keepOnP cc0 hb2
  replace cc1 := keepOnP cc1 hb2
  replace cc2 := keepOnP cc2 hb2
  replace cc3 := keepOnP cc3 hb2
  replace cc4 := keepOnP cc4 hb2
  replace cc5 := keepOnP cc5 hb2
  replace cc6 := keepOnP cc6 hb2
  replace cc7 := keepOnP cc7 hb2
  replace cc8 := keepOnP cc8 hb2
  replace cc9 := keepOnP cc9 hb2
  replace cc10 := keepOnP cc10 hb2
  replace ccF := keepOnP ccF hb2
  replace ccB := keepOnP ccB hb2
  replace pp0 := keepOnP pp0 hb2
  replace pp1 := keepOnP pp1 hb2
  replace pp2 := keepOnP pp2 hb2
  replace pp3 := keepOnP pp3 hb2
  replace pp4 := keepOnP pp4 hb2
  replace pp5 := keepOnP pp5 hb2
  replace pp6 := keepOnP pp6 hb2
  replace pp7 := keepOnP pp7 hb2
  replace pp8 := keepOnP pp8 hb2
  replace pp9 := keepOnP pp9 hb2
  replace pp10 := keepOnP pp10 hb2
  replace ppF := keepOnP ppF hb2
  replace ppB := keepOnP ppB hb2
  replace qq0 := keepOnP qq0 hb2
  replace qq1 := keepOnP qq1 hb2
  replace qq2 := keepOnP qq2 hb2
  replace qq3 := keepOnP qq3 hb2
  replace qq4 := keepOnP qq4 hb2
  replace qq5 := keepOnP qq5 hb2
  replace qq6 := keepOnP qq6 hb2
  replace qq7 := keepOnP qq7 hb2
  replace qq8 := keepOnP qq8 hb2
  replace qq9 := keepOnP qq9 hb2
  replace qq10 := keepOnP qq10 hb2
  replace tt0 := keepOnP tt0 hb2
  replace tt1 := keepOnP tt1 hb2
  replace tt2 := keepOnP tt2 hb2
  replace tt3 := keepOnP tt3 hb2
  replace tt4 := keepOnP tt4 hb2
  replace tt5 := keepOnP tt5 hb2
  replace tt6 := keepOnP tt6 hb2
  replace tt7 := keepOnP tt7 hb2
  replace tt8 := keepOnP tt8 hb2
  replace tt9 := keepOnP tt9 hb2
  replace tt10 := keepOnP tt10 hb2
  replace tt11 := keepOnP tt11 hb2
  replace ttF := keepOnP ttF hb2
  replace ttB := keepOnP ttB hb2
  replace v10 := keepOnP v10 hb2
  replace v11 := keepOnP v11 hb2
  replace v12 := keepOnP v12 hb2
  replace gg := keepOnP gg hb2
  replace v20 := keepOnP v20 hb2
  replace v21 := keepOnP v21 hb2
  replace v22 := keepOnP v22 hb2
  replace hw := belStep hw hb2
  clear hb2 hbel
  generalize u3.alloc (.cells #[.int .i64 3, .int .i64 2, .slice b3 0 m3] 34) = W7 at *
  replace v30 := keep v30
  replace v31 := keep v31
  replace v32 := keep v32
  generalize u3.heap.size = p3 at *
  have hbel : Below W7.heap.size W7 W7 := Below.refl _ _
  clear u3
  have HB7 : Hid (Below W4.heap.size W4 W7) := Lib.hid (HB6.out.trans (HBN3.out.mono HB6.out.size))
  go_upto_region 9 with (go_at_call 6; (with_reducible refine (C4.out _ (HB7.out.trans (hbel.mono HB7.out.size))).mono ?_); rintro e u4 ⟨⟨b4, m4, rfl, ho4⟩, hb4⟩; replace hbel := belStep hbel hb4)
  have q7 : n2 < u4.heap.size := (ppB _ hbel).lt
  clear ho4
  clear hb4
  have HBN4 := Lib.hid (show Below W7.heap.size W7 (u4.alloc (.cells #[.int .i64 0, .int .i64 0, .slice b4 0 m4] 34)) from belAlloc hbel _)
  have v40 : (u4.alloc (.cells #[.int .i64 0, .int .i64 0, .slice b4 0 m4] 34)).cell? ⟨u4.heap.size, 0, none⟩ = some (.int .i64 0) := by first | (simp; done) | (rw [World.cell?_alloc_at _ _ _ _ (by simp)]; rfl) | (rw [World.cell?_alloc_past _ _ _ (by simp <;> omega), World.cell?_alloc_at _ _ _ _ (by simp)]; rfl) | (rw [World.cell?_alloc_past _ _ _ (by simp <;> omega), World.cell?_alloc_past _ _ _ (by simp <;> omega), World.cell?_alloc_at _ _ _ _ (by simp)]; rfl)
  have v41 : (u4.alloc (.cells #[.int .i64 0, .int .i64 0, .slice b4 0 m4] 34)).cell? ⟨u4.heap.size, 1, none⟩ = some (.int .i64 0) := by first | (simp; done) | (rw [World.cell?_alloc_at _ _ _ _ (by simp)]; rfl) | (rw [World.cell?_alloc_past _ _ _ (by simp <;> omega), World.cell?_alloc_at _ _ _ _ (by simp)]; rfl) | (rw [World.cell?_alloc_past _ _ _ (by simp <;> omega), World.cell?_alloc_past _ _ _ (by simp <;> omega), World.cell?_alloc_at _ _ _ _ (by simp)]; rfl)
  have v42 : (u4.alloc (.cells #[.int .i64 0, .int .i64 0, .slice b4 0 m4] 34)).cell? ⟨u4.heap.size, 2, none⟩ = some (.slice b4 0 m4) := by first | (simp; done) | (rw [World.cell?_alloc_at _ _ _ _ (by simp)]; rfl) | (rw [World.cell?_alloc_past _ _ _ (by simp <;> omega), World.cell?_alloc_at _ _ _ _ (by simp)]; rfl) | (rw [World.cell?_alloc_past _ _ _ (by simp <;> omega), World.cell?_alloc_past _ _ _ (by simp <;> omega), World.cell?_alloc_at _ _ _ _ (by simp)]; rfl)
  have hb2 := (by repeat (first | exact hbel | refine belAlloc ?_ _ | refine belDrew ?_ | refine belSet ?_ _ _ (by simp)) : Below W7.heap.size W7 (u4.alloc (.cells #[.int .i64 0, .int .i64 0, .slice b4 0 m4] 34)))
  replace cc0 := keepOnP cc0 hb2
  replace cc1 := keepOnP cc1 hb2
  replace cc2 := keepOnP cc2 hb2
  replace cc3 := keepOnP cc3 hb2
  replace cc4 := keepOnP cc4 hb2
  replace cc5 := keepOnP cc5 hb2
  replace cc6 := keepOnP cc6 hb2
  replace cc7 := keepOnP cc7 hb2
  replace cc8 := keepOnP cc8 hb2
  replace cc9 := keepOnP cc9 hb2
  replace cc10 := keepOnP cc10 hb2
  replace ccF := keepOnP ccF hb2
  replace ccB := keepOnP ccB hb2
  replace pp0 := keepOnP pp0 hb2
  replace pp1 := keepOnP pp1 hb2
  replace pp2 := keepOnP pp2 hb2
  replace pp3 := keepOnP pp3 hb2
  replace pp4 := keepOnP pp4 hb2
  replace pp5 := keepOnP pp5 hb2
  replace pp6 := keepOnP pp6 hb2
  replace pp7 := keepOnP pp7 hb2
  replace pp8 := keepOnP pp8 hb2
  replace pp9 := keepOnP pp9 hb2
  replace pp10 := keepOnP pp10 hb2
  replace ppF := keepOnP ppF hb2
  replace ppB := keepOnP ppB hb2
  replace qq0 := keepOnP qq0 hb2
  replace qq1 := keepOnP qq1 hb2
  replace qq2 := keepOnP qq2 hb2
  replace qq3 := keepOnP qq3 hb2
  replace qq4 := keepOnP qq4 hb2
  replace qq5 := keepOnP qq5 hb2
  replace qq6 := keepOnP qq6 hb2
  replace qq7 := keepOnP qq7 hb2
  replace qq8 := keepOnP qq8 hb2
  replace qq9 := keepOnP qq9 hb2
  replace qq10 := keepOnP qq10 hb2
  replace tt0 := keepOnP tt0 hb2
  replace tt1 := keepOnP tt1 hb2
  replace tt2 := keepOnP tt2 hb2
  replace tt3 := keepOnP tt3 hb2
  replace tt4 := keepOnP tt4 hb2
  replace tt5 := keepOnP tt5 hb2
  replace tt6 := keepOnP tt6 hb2
  replace tt7 := keepOnP tt7 hb2
  replace tt8 := keepOnP tt8 hb2
  replace tt9 := keepOnP tt9 hb2
  replace tt10 := keepOnP tt10 hb2
  replace tt11 := keepOnP tt11 hb2
  replace ttF := keepOnP ttF hb2
  replace ttB := keepOnP ttB hb2
  replace v10 := keepOnP v10 hb2
  replace v11 := keepOnP v11 hb2
  replace v12 := keepOnP v12 hb2
  replace gg := keepOnP gg hb2
  replace v20 := keepOnP v20 hb2
  replace v21 := keepOnP v21 hb2
  replace v22 := keepOnP v22 hb2
  replace v30 := keepOnP v30 hb2
  replace v31 := keepOnP v31 hb2
  replace v32 := keepOnP v32 hb2
  replace hw := belStep hw hb2
  clear hb2 hbel
  generalize u4.alloc (.cells #[.int .i64 0, .int .i64 0, .slice b4 0 m4] 34) = W8 at *
  replace v40 := keep v40
  replace v41 := keep v41
  replace v42 := keep v42
  generalize u4.heap.size = p4 at *
  have hbel : Below W8.heap.size W8 W8 := Below.refl _ _
  clear u4
  have HB8 : Hid (Below W4.heap.size W4 W8) := Lib.hid (HB7.out.trans (HBN4.out.mono HB7.out.size))
  go_upto_region 10 with (go_at_call 6; (with_reducible refine (C5.out _ (HB8.out.trans (hbel.mono HB8.out.size))).mono ?_); rintro e u5 ⟨⟨b5, m5, rfl, ho5⟩, hb5⟩; replace hbel := belStep hbel hb5)
  have q8 : n2 < u5.heap.size := (ppB _ hbel).lt
  clear ho5
  clear hb5
  have HBN5 := Lib.hid (show Below W8.heap.size W8 (u5.alloc (.cells #[.int .i64 0, .int .i64 0, .slice b5 0 m5] 34)) from belAlloc hbel _)
  have v50 : (u5.alloc (.cells #[.int .i64 0, .int .i64 0, .slice b5 0 m5] 34)).cell? ⟨u5.heap.size, 0, none⟩ = some (.int .i64 0) := by first | (simp; done) | (rw [World.cell?_alloc_at _ _ _ _ (by simp)]; rfl) | (rw [World.cell?_alloc_past _ _ _ (by simp <;> omega), World.cell?_alloc_at _ _ _ _ (by simp)]; rfl) | (rw [World.cell?_alloc_past _ _ _ (by simp <;> omega), World.cell?_alloc_past _ _ _ (by simp <;> omega), World.cell?_alloc_at _ _ _ _ (by simp)]; rfl)
  have v51 : (u5.alloc (.cells #[.int .i64 0, .int .i64 0, .slice b5 0 m5] 34)).cell? ⟨u5.heap.size, 1, none⟩ = some (.int .i64 0) := by first | (simp; done) | (rw [World.cell?_alloc_at _ _ _ _ (by simp)]; rfl) | (rw [World.cell?_alloc_past _ _ _ (by simp <;> omega), World.cell?_alloc_at _ _ _ _ (by simp)]; rfl) | (rw [World.cell?_alloc_past _ _ _ (by simp <;> omega), World.cell?_alloc_past _ _ _ (by simp <;> omega), World.cell?_alloc_at _ _ _ _ (by simp)]; rfl)
  have v52 : (u5.alloc (.cells #[.int .i64 0, .int .i64 0, .slice b5 0 m5] 34)).cell? ⟨u5.heap.size, 2, none⟩ = some (.slice b5 0 m5) := by first | (simp; done) | (rw [World.cell?_alloc_at _ _ _ _ (by simp)]; rfl) | (rw [World.cell?_alloc_past _ _ _ (by simp <;> omega), World.cell?_alloc_at _ _ _ _ (by simp)]; rfl) | (rw [World.cell?_alloc_past _ _ _ (by simp <;> omega), World.cell?_alloc_past _ _ _ (by simp <;> omega), World.cell?_alloc_at _ _ _ _ (by simp)]; rfl)
  have hb2 := (by repeat (first | exact hbel | refine belAlloc ?_ _ | refine belDrew ?_ | refine belSet ?_ _ _ (by simp)) : Below W8.heap.size W8 (u5.alloc (.cells #[.int .i64 0, .int .i64 0, .slice b5 0 m5] 34)))
  replace cc0 := keepOnP cc0 hb2
  replace cc1 := keepOnP cc1 hb2
  replace cc2 := keepOnP cc2 hb2
  replace cc3 := keepOnP cc3 hb2
  replace cc4 := keepOnP cc4 hb2
  replace cc5 := keepOnP cc5 hb2
  replace cc6 := keepOnP cc6 hb2
  replace cc7 := keepOnP cc7 hb2
  replace cc8 := keepOnP cc8 hb2
  replace cc9 := keepOnP cc9 hb2
  replace cc10 := keepOnP cc10 hb2
  replace ccF := keepOnP ccF hb2
  replace ccB := keepOnP ccB hb2
  replace pp0 := keepOnP pp0 hb2
  replace pp1 := keepOnP pp1 hb2
  replace pp2 := keepOnP pp2 hb2
  replace pp3 := keepOnP pp3 hb2
  replace pp4 := keepOnP pp4 hb2
  replace pp5 := keepOnP pp5 hb2
  replace pp6 := keepOnP pp6 hb2
  replace pp7 := keepOnP pp7 hb2
  replace pp8 := keepOnP pp8 hb2
  replace pp9 := keepOnP pp9 hb2
  replace pp10 := keepOnP pp10 hb2
  replace ppF := keepOnP ppF hb2
  replace ppB := keepOnP ppB hb2
  replace qq0 := keepOnP qq0 hb2
  replace qq1 := keepOnP qq1 hb2
  replace qq2 := keepOnP qq2 hb2
  replace qq3 := keepOnP qq3 hb2
  replace qq4 := keepOnP qq4 hb2
  replace qq5 := keepOnP qq5 hb2
  replace qq6 := keepOnP qq6 hb2
  replace qq7 := keepOnP qq7 hb2
  replace qq8 := keepOnP qq8 hb2
  replace qq9 := keepOnP qq9 hb2
  replace qq10 := keepOnP qq10 hb2
  replace tt0 := keepOnP tt0 hb2
  replace tt1 := keepOnP tt1 hb2
  replace tt2 := keepOnP tt2 hb2
  replace tt3 := keepOnP tt3 hb2
  replace tt4 := keepOnP tt4 hb2
  replace tt5 := keepOnP tt5 hb2
  replace tt6 := keepOnP tt6 hb2
  replace tt7 := keepOnP tt7 hb2
  replace tt8 := keepOnP tt8 hb2
  replace tt9 := keepOnP tt9 hb2
  replace tt10 := keepOnP tt10 hb2
  replace tt11 := keepOnP tt11 hb2
  replace ttF := keepOnP ttF hb2
  replace ttB := keepOnP ttB hb2
  replace v10 := keepOnP v10 hb2
  replace v11 := keepOnP v11 hb2
  replace v12 := keepOnP v12 hb2
  replace gg := keepOnP gg hb2
  replace v20 := keepOnP v20 hb2
  replace v21 := keepOnP v21 hb2
  replace v22 := keepOnP v22 hb2
  replace v30 := keepOnP v30 hb2
  replace v31 := keepOnP v31 hb2
  replace v32 := keepOnP v32 hb2
  replace v40 := keepOnP v40 hb2
  replace v41 := keepOnP v41 hb2
  replace v42 := keepOnP v42 hb2
  replace hw := belStep hw hb2
  clear hb2 hbel
  generalize u5.alloc (.cells #[.int .i64 0, .int .i64 0, .slice b5 0 m5] 34) = W9 at *
  replace v50 := keep v50
  replace v51 := keep v51
  replace v52 := keep v52
  generalize u5.heap.size = p5 at *
  have hbel : Below W9.heap.size W9 W9 := Below.refl _ _
  clear u5
  have HB9 : Hid (Below W4.heap.size W4 W9) := Lib.hid (HB8.out.trans (HBN5.out.mono HB8.out.size))
  have hP := (ppB W9 (Below.refl _ _)).set 0 (.string ⟨#[114]⟩)
  have hzz := (ppB W9 (Below.refl _ _)).lt
  have HTS := Lib.hid (show Below w.heap.size w (W9.setCell ⟨n2, 0, none⟩ (.string ⟨#[114]⟩)) from belSet hw ⟨n2, 0, none⟩ _ HN2.out)
  have HTT := Lib.hid (fun u (hu : Below (W9.setCell ⟨n2, 0, none⟩ (.string ⟨#[114]⟩)).heap.size (W9.setCell ⟨n2, 0, none⟩ (.string ⟨#[114]⟩)) u) => (show Row u (some ⟨n4, 0, none⟩) 1 1 12 (([⟨pP, 2⟩] : List EntV).flatMap EntV.cells) from row_of_blk (((ttB W9 (Below.refl _ _)).far (a := ⟨n2, 0, none⟩) (show n2 ≠ n4 by omega) (.string ⟨#[114]⟩)).later hu)))
  go_upto_region 11 with fail
  replace cc0 := keepSet (N := n2) (i := 0) (u := .string ⟨#[114]⟩) cc0 (by omega)
  replace cc1 := keepSet (N := n2) (i := 0) (u := .string ⟨#[114]⟩) cc1 (by omega)
  replace cc2 := keepSet (N := n2) (i := 0) (u := .string ⟨#[114]⟩) cc2 (by omega)
  replace cc3 := keepSet (N := n2) (i := 0) (u := .string ⟨#[114]⟩) cc3 (by omega)
  replace cc4 := keepSet (N := n2) (i := 0) (u := .string ⟨#[114]⟩) cc4 (by omega)
  replace cc5 := keepSet (N := n2) (i := 0) (u := .string ⟨#[114]⟩) cc5 (by omega)
  replace cc6 := keepSet (N := n2) (i := 0) (u := .string ⟨#[114]⟩) cc6 (by omega)
  replace cc7 := keepSet (N := n2) (i := 0) (u := .string ⟨#[114]⟩) cc7 (by omega)
  replace cc8 := keepSet (N := n2) (i := 0) (u := .string ⟨#[114]⟩) cc8 (by omega)
  replace cc9 := keepSet (N := n2) (i := 0) (u := .string ⟨#[114]⟩) cc9 (by omega)
  replace cc10 := keepSet (N := n2) (i := 0) (u := .string ⟨#[114]⟩) cc10 (by omega)
  replace v10 := keepSet (N := n2) (i := 0) (u := .string ⟨#[114]⟩) v10 (by omega)
  replace v11 := keepSet (N := n2) (i := 0) (u := .string ⟨#[114]⟩) v11 (by omega)
  replace v12 := keepSet (N := n2) (i := 0) (u := .string ⟨#[114]⟩) v12 (by omega)
  replace v20 := keepSet (N := n2) (i := 0) (u := .string ⟨#[114]⟩) v20 (by omega)
  replace v21 := keepSet (N := n2) (i := 0) (u := .string ⟨#[114]⟩) v21 (by omega)
  replace v22 := keepSet (N := n2) (i := 0) (u := .string ⟨#[114]⟩) v22 (by omega)
  replace v30 := keepSet (N := n2) (i := 0) (u := .string ⟨#[114]⟩) v30 (by omega)
  replace v31 := keepSet (N := n2) (i := 0) (u := .string ⟨#[114]⟩) v31 (by omega)
  replace v32 := keepSet (N := n2) (i := 0) (u := .string ⟨#[114]⟩) v32 (by omega)
  replace v40 := keepSet (N := n2) (i := 0) (u := .string ⟨#[114]⟩) v40 (by omega)
  replace v41 := keepSet (N := n2) (i := 0) (u := .string ⟨#[114]⟩) v41 (by omega)
  replace v42 := keepSet (N := n2) (i := 0) (u := .string ⟨#[114]⟩) v42 (by omega)
  replace v50 := keepSet (N := n2) (i := 0) (u := .string ⟨#[114]⟩) v50 (by omega)
  replace v51 := keepSet (N := n2) (i := 0) (u := .string ⟨#[114]⟩) v51 (by omega)
  replace v52 := keepSet (N := n2) (i := 0) (u := .string ⟨#[114]⟩) v52 (by omega)
  replace gg := keepSet (N := n2) (i := 0) (u := .string ⟨#[114]⟩) gg (by omega)
  clear pp0 pp1 pp2 pp3 pp4 pp5 pp6 pp7 pp8 pp9 pp10 ppF ppB ccF ccB ttF ttB qq0 qq1 qq2 qq3 qq4 qq5 qq6 qq7 qq8 qq9 qq10 tt0 tt1 tt2 tt3 tt4 tt5 tt6 tt7 tt8 tt9 tt10 tt11
  clear hbel hw
  generalize W9.setCell ⟨n2, 0, none⟩ (.string ⟨#[114]⟩) = WA at *
  have pp0 := keep (hP.cell (j := 0) rfl)
  have pp1 := keep (hP.cell (j := 1) rfl)
  have pp2 := keep (hP.cell (j := 2) rfl)
  have pp3 := keep (hP.cell (j := 3) rfl)
  have pp4 := keep (hP.cell (j := 4) rfl)
  have pp5 := keep (hP.cell (j := 5) rfl)
  have pp6 := keep (hP.cell (j := 6) rfl)
  have pp7 := keep (hP.cell (j := 7) rfl)
  have pp8 := keep (hP.cell (j := 8) rfl)
  have pp9 := keep (hP.cell (j := 9) rfl)
  have pp10 := keep (hP.cell (j := 10) rfl)
  have hbel : Below WA.heap.size WA WA := Below.refl _ _
  have C6 := Lib.hid (show ∀ u : World, Below WA.heap.size WA u → Calls Try.prog 6 #[.agg #[.int .i64 100, .int .i64 50, .int .i64 10, .int .i64 9, .int .i64 9, .int .i64 9, .slice none 0 0, .int .i64 1, .int .i64 0, .int .i64 1, .int .i64 0], .slice (some ⟨n4, 0, none⟩) 1 1, .agg #[.bool false, .bool false, .bool false], .agg #[.string ⟨#[114]⟩, .int .i64 0, .bool false, .int .i64 5, .int .i64 0, .int .i64 0, .int .i64 0, .int .i64 0, .int .i64 0, .string ⟨#[120]⟩, .int .i64 0]] u fun e w' => (∃ b n, e = .returned (.tuple #[.agg #[.int .i64 4, .int .i64 0, .slice b 0 n], .int .i64 0]) ∧ OwnS w' u.heap.size (.slice b 0 n) []) ∧ Below u.heap.size u w' from fun u hu => by have h := adm_Decide cS ⟨false, false, false⟩ pR (some ⟨n4, 0, none⟩) 1 1 [⟨pP, 2⟩] u rfl (HTT.out u hu) (by omega) tabok1 dist_pP (wok _ (by simp)); rw [show decideF ⟨cS.a0, cS.a1, cS.a2⟩ [⟨pP, 2⟩] ⟨false, false, false⟩ pR = _ from dec_6] at h; exact h)
  go_upto_region 12 with (go_at_call 6; (with_reducible refine (C6.out _ hbel).mono ?_); rintro e u6 ⟨⟨b6, m6, rfl, ho6⟩, hb6⟩; replace hbel := belStep hbel hb6)
  clear ho6 hb6
  have hw := HTS.out
  have v60 : (u6.alloc (.cells #[.int .i64 4, .int .i64 0, .slice b6 0 m6] 34)).cell? ⟨u6.heap.size, 0, none⟩ = some (.int .i64 4) := by first | (simp; done) | (rw [World.cell?_alloc_at _ _ _ _ (by simp)]; rfl) | (rw [World.cell?_alloc_past _ _ _ (by simp <;> omega), World.cell?_alloc_at _ _ _ _ (by simp)]; rfl) | (rw [World.cell?_alloc_past _ _ _ (by simp <;> omega), World.cell?_alloc_past _ _ _ (by simp <;> omega), World.cell?_alloc_at _ _ _ _ (by simp)]; rfl)
  have v61 : (u6.alloc (.cells #[.int .i64 4, .int .i64 0, .slice b6 0 m6] 34)).cell? ⟨u6.heap.size, 1, none⟩ = some (.int .i64 0) := by first | (simp; done) | (rw [World.cell?_alloc_at _ _ _ _ (by simp)]; rfl) | (rw [World.cell?_alloc_past _ _ _ (by simp <;> omega), World.cell?_alloc_at _ _ _ _ (by simp)]; rfl) | (rw [World.cell?_alloc_past _ _ _ (by simp <;> omega), World.cell?_alloc_past _ _ _ (by simp <;> omega), World.cell?_alloc_at _ _ _ _ (by simp)]; rfl)
  have v62 : (u6.alloc (.cells #[.int .i64 4, .int .i64 0, .slice b6 0 m6] 34)).cell? ⟨u6.heap.size, 2, none⟩ = some (.slice b6 0 m6) := by first | (simp; done) | (rw [World.cell?_alloc_at _ _ _ _ (by simp)]; rfl) | (rw [World.cell?_alloc_past _ _ _ (by simp <;> omega), World.cell?_alloc_at _ _ _ _ (by simp)]; rfl) | (rw [World.cell?_alloc_past _ _ _ (by simp <;> omega), World.cell?_alloc_past _ _ _ (by simp <;> omega), World.cell?_alloc_at _ _ _ _ (by simp)]; rfl)
  have hb2 := (by repeat (first | exact hbel | refine belAlloc ?_ _ | refine belDrew ?_ | refine belSet ?_ _ _ (by simp)) : Below WA.heap.size WA (u6.alloc (.cells #[.int .i64 4, .int .i64 0, .slice b6 0 m6] 34)))
  replace cc0 := keepOnP cc0 hb2
  replace cc1 := keepOnP cc1 hb2
  replace cc2 := keepOnP cc2 hb2
  replace cc3 := keepOnP cc3 hb2
  replace cc4 := keepOnP cc4 hb2
  replace cc5 := keepOnP cc5 hb2
  replace cc6 := keepOnP cc6 hb2
  replace cc7 := keepOnP cc7 hb2
  replace cc8 := keepOnP cc8 hb2
  replace cc9 := keepOnP cc9 hb2
  replace cc10 := keepOnP cc10 hb2
  replace v10 := keepOnP v10 hb2
  replace v11 := keepOnP v11 hb2
  replace v12 := keepOnP v12 hb2
  replace v20 := keepOnP v20 hb2
  replace v21 := keepOnP v21 hb2
  replace v22 := keepOnP v22 hb2
  replace v30 := keepOnP v30 hb2
  replace v31 := keepOnP v31 hb2
  replace v32 := keepOnP v32 hb2
  replace v40 := keepOnP v40 hb2
  replace v41 := keepOnP v41 hb2
  replace v42 := keepOnP v42 hb2
  replace v50 := keepOnP v50 hb2
  replace v51 := keepOnP v51 hb2
  replace v52 := keepOnP v52 hb2
  replace gg := keepOnP gg hb2
  replace hw := belStep hw hb2
  clear hb2 hbel
  generalize u6.alloc (.cells #[.int .i64 4, .int .i64 0, .slice b6 0 m6] 34) = WB at *
  replace v60 := keep v60
  replace v61 := keep v61
  replace v62 := keep v62
  generalize u6.heap.size = p6 at *
  have hbel : Below WB.heap.size WB WB := Below.refl _ _
  clear u6
  have C7 := Lib.hid (show ∀ u : World, Calls Try.prog 10 #[.agg #[.bool true, .bool false, .bool false], .agg #[.string ⟨#[98]⟩, .int .i64 0, .bool false, .int .i64 0, .int .i64 0, .int .i64 0, .int .i64 0, .int .i64 0, .int .i64 0, .string ⟨#[120]⟩, .int .i64 0]] u fun e w' => e = .returned (.tuple #[.int .i64 0, .bool true]) ∧ Below u.heap.size u w' from fun u => by have h := adm_Barred ⟨true, false, false⟩ pB u; rw [bar_7] at h; exact h)
  go_wp2_with (go_at_call 10; (with_reducible refine (C7.out _).mono ?_); rintro e u7 ⟨rfl, hb7⟩; replace hbel := belStep hbel hb7)
  go_ret
  exact ⟨rfl, belStep hw hbel⟩
end Go.Proofs.Ytbifmmdiekodjaa
