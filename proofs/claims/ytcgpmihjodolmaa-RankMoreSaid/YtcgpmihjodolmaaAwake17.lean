
/- bilgelaw17.awake: contract. -/
import Derived.Test.YtcgpmihjodolmaaSmpB
namespace Go.Proofs.Ytcgpmihjodolmaa
open Go.RowKit
set_option linter.unusedVariables false
set_option linter.unusedSimpArgs false
def awR : RawV := ⟨5, 4611235658464650854, 13837309855095848960, 4619567317775286272⟩
def awL : List UsgV := [⟨⟨#[98]⟩, 4611686018427387904, 0, 4607182418800017408⟩, ⟨⟨#[97]⟩, 0, 0, 0⟩]
def awN : RawV := ⟨0, 9221120237041090561, 0, 0⟩
def awU : List UseV := [⟨⟨#[97]⟩, 0, 0, 0⟩, ⟨⟨#[98]⟩, 2, 0, 1⟩]
theorem awL_ok : ∀ x ∈ awL, x.ok := by
  intro x hx
  simp only [awL, List.mem_cons, List.not_mem_nil, or_false] at hx
  rcases hx with rfl | rfl <;> exact ⟨by decide, by unfold In64; decide, by unfold In64; decide, by unfold In64; decide⟩
theorem awR_ok : awR.ok := ⟨by unfold InI; decide, by unfold In64; decide, by unfold In64; decide, by unfold In64; decide⟩
theorem awN_ok : awN.ok := ⟨by unfold InI; decide, by unfold In64; decide, by unfold In64; decide, by unfold In64; decide⟩
theorem aw_right : rightR awR awL = true := by decide +kernel
theorem aw_rightN : rightR awN [] = false := by decide +kernel
theorem aw_list : readL awL = awU := by
  refine (sortBy_unique swoU (L := awL.map readU) ?_ ?_ ?_).symm
  · have hd : DistU awL := dist_of (by decide +kernel)
    exact hd.tied
  · have e : awL.map readU = [⟨⟨#[98]⟩, 2, 0, 1⟩, ⟨⟨#[97]⟩, 0, 0, 0⟩] := by
      have e1 : readF 4611686018427387904 = 2 := by decide +kernel
      have e2 : readF 0 = 0 := by decide +kernel
      have e3 : readF 4607182418800017408 = 1 := by decide +kernel
      simp only [awL, readU, List.map_cons, List.map_nil, e1, e2, e3]
    rw [e]
    exact List.Perm.swap _ _ _
  · simp only [awU, List.pairwise_cons, List.mem_cons, List.mem_nil_iff, or_false, forall_eq, false_implies, implies_true, List.Pairwise.nil, and_true]
    decide +kernel
theorem aw_ok : readOK awR awL = ⟨5, 1, 0, 7, awU⟩ := by
  have e1 : readF 4611235658464650854 = 1 := by decide +kernel
  have e2 : readF 13837309855095848960 = 0 := by decide +kernel
  have e3 : readF 4619567317775286272 = 7 := by decide +kernel
  unfold readOK
  rw [aw_list]
  simp only [awR, e1, e2, e3]
theorem aw_read : readSF awR awL = (⟨5, 1, 0, 7, awU⟩, 0) := by rw [readSF_yes aw_right, aw_ok]
theorem aw_take1 : takeSF awR awL 5 5 1 = (zeroS, 8) := by unfold takeSF; rw [if_pos aw_right, if_neg (by decide)]
theorem aw_take2 : takeSF awR awL 4 5 1 = (⟨5, 1, 0, 7, awU⟩, 0) := by unfold takeSF; rw [if_pos aw_right, if_pos (by decide), aw_ok]
theorem aw_take3 : takeSF awN [] (-1) 5 9 = (zeroS, 1) := by unfold takeSF; rw [if_neg (by rw [aw_rightN]; simp)]
theorem aw_of1 : ofF awU ⟨#[98]⟩ = ⟨⟨#[98]⟩, 2, 0, 1⟩ := by
  unfold ofF awU
  rw [List.find?_cons_of_neg (by decide +kernel), List.find?_cons_of_pos (by decide +kernel)]; rfl
theorem aw_of2 : ofF awU ⟨#[99]⟩ = default := by
  unfold ofF awU
  rw [List.find?_cons_of_neg (by decide +kernel), List.find?_cons_of_neg (by decide +kernel)]; rfl
theorem row_of_ownL {w : World} {B : Nat} {e : TypeId} {k : Nat} {a : Option Addr} {n c : Nat} {cs : List Value} (h : OwnR w B e k (.slice a n c) n cs) : Row w a n c k cs := by
  obtain ⟨a2, c2, e2, h2⟩ := rowR_of_own h
  cases e2; exact h2
theorem math_NaN (w : World) : Calls Try.prog 52 #[] w fun e w' => e = .returned (.float .f64 9221120237041090561) ∧ w = w' := by
  have hb := run_frombits 9221120237041090561
  go_enter Try.func52, Try.ntmps52
  go_wp2
  go_ret
  exact ⟨rfl, rfl⟩
theorem smp_TakeE {S : SmpV} {er : Int} (r : RawV) (a : Option Addr) (len cap : Nat) (L : List UsgV) (last round most : Int) (w : World) (hl : L.length = len) (hr : r.ok) (hok : ∀ x ∈ L, x.ok) (hR : Row w a len cap 4 (L.flatMap UsgV.cells)) (hla : -1 ≤ last) (hro : 0 ≤ round ∧ round ≤ 1099511627776) (hmo : 1 ≤ most ∧ most ≤ 9223372036854775807) (hlb : last ≤ 9223372036854775807) (hS : takeSF r L last round most = (S, er)) :
    Calls Try.prog 27 #[.agg #[.int .i64 r.t, .float .f64 r.x, .float .f64 r.y, .float .f64 r.z, .slice a len cap], .int .i64 last, .int .i64 round, .int .i64 most] w fun e w' => (∃ b n, e = .returned (.tuple #[.agg #[.int .i64 S.t, .int .i64 S.a, .int .i64 S.b, .int .i64 S.c, .slice b S.use.length n], .int .i64 er]) ∧ OwnR w' w.heap.size 51 4 (.slice b S.use.length n) S.use.length (S.use.flatMap UseV.cells)) ∧ Below w.heap.size w w' := by
  have h := smp_Take r a len cap L last round most w hl hr hok hR hla hro hmo hlb
  rw [hS] at h
  exact h
theorem sref_TakeE {S : SmpV} {er : Int} (r : RawV) (a : Option Addr) (len cap : Nat) (L : List UsgV) (last round most : Int) (w : World) (hl : L.length = len) (hr : r.ok) (hok : ∀ x ∈ L, x.ok) (hR : Row w a len cap 4 (L.flatMap UsgV.cells)) (hla : -1 ≤ last) (hro : 0 ≤ round ∧ round ≤ 1099511627776) (hmo : 1 ≤ most ∧ most ≤ 9223372036854775807) (hlb : last ≤ 9223372036854775807) (hS : takeSF r L last round most = (S, er)) :
    Calls Try.prog 28 #[.agg #[.int .i64 r.t, .float .f64 r.x, .float .f64 r.y, .float .f64 r.z, .slice a len cap], .int .i64 last, .int .i64 round, .int .i64 most] w fun e w' => (∃ b n, e = .returned (.tuple #[.agg #[.int .i64 S.t, .int .i64 S.a, .int .i64 S.b, .int .i64 S.c, .slice b S.use.length n], .int .i64 er]) ∧ OwnR w' w.heap.size 51 4 (.slice b S.use.length n) S.use.length (S.use.flatMap UseV.cells)) ∧ Below w.heap.size w w' := by
  have h := sref_Take r a len cap L last round most w hl hr hok hR hla hro hmo hlb
  rw [hS] at h
  exact h
set_option maxRecDepth 100000 in
set_option maxHeartbeats 16000000 in
theorem awake17 (w : World) :
    Calls Try.prog 18 #[] w fun e w' => e = .returned (.bool true) ∧ Below w.heap.size w w' := by
  have hw : Below w.heap.size w w := Below.refl _ _
  have hbel := hw
  go_enter Try.func18, Try.ntmps18
  go_upto_region 2 with fail
  have us0 : ((w.alloc (.cells #[.string ⟨#[98]⟩, .float .f64 4611686018427387904, .float .f64 0, .float .f64 4607182418800017408, .string ⟨#[97]⟩, .float .f64 0, .float .f64 0, .float .f64 0] 47)).alloc (.cells #[.int .i64 5, .float .f64 4611235658464650854, .float .f64 13837309855095848960, .float .f64 4619567317775286272, .slice (some ⟨w.heap.size, 0, none⟩) 2 2] 26)).cell? ⟨w.heap.size, 0, none⟩ = some (.string ⟨#[98]⟩) := by first | (simp; done) | (rw [World.cell?_alloc_at _ _ _ _ (by simp)]; rfl) | (rw [World.cell?_alloc_past _ _ _ (by simp <;> omega), World.cell?_alloc_at _ _ _ _ (by simp)]; rfl) | (rw [World.cell?_alloc_past _ _ _ (by simp <;> omega), World.cell?_alloc_past _ _ _ (by simp <;> omega), World.cell?_alloc_at _ _ _ _ (by simp)]; rfl)
  have us1 : ((w.alloc (.cells #[.string ⟨#[98]⟩, .float .f64 4611686018427387904, .float .f64 0, .float .f64 4607182418800017408, .string ⟨#[97]⟩, .float .f64 0, .float .f64 0, .float .f64 0] 47)).alloc (.cells #[.int .i64 5, .float .f64 4611235658464650854, .float .f64 13837309855095848960, .float .f64 4619567317775286272, .slice (some ⟨w.heap.size, 0, none⟩) 2 2] 26)).cell? ⟨w.heap.size, 1, none⟩ = some (.float .f64 4611686018427387904) := by first | (simp; done) | (rw [World.cell?_alloc_at _ _ _ _ (by simp)]; rfl) | (rw [World.cell?_alloc_past _ _ _ (by simp <;> omega), World.cell?_alloc_at _ _ _ _ (by simp)]; rfl) | (rw [World.cell?_alloc_past _ _ _ (by simp <;> omega), World.cell?_alloc_past _ _ _ (by simp <;> omega), World.cell?_alloc_at _ _ _ _ (by simp)]; rfl)
  have us2 : ((w.alloc (.cells #[.string ⟨#[98]⟩, .float .f64 4611686018427387904, .float .f64 0, .float .f64 4607182418800017408, .string ⟨#[97]⟩, .float .f64 0, .float .f64 0, .float .f64 0] 47)).alloc (.cells #[.int .i64 5, .float .f64 4611235658464650854, .float .f64 13837309855095848960, .float .f64 4619567317775286272, .slice (some ⟨w.heap.size, 0, none⟩) 2 2] 26)).cell? ⟨w.heap.size, 2, none⟩ = some (.float .f64 0) := by first | (simp; done) | (rw [World.cell?_alloc_at _ _ _ _ (by simp)]; rfl) | (rw [World.cell?_alloc_past _ _ _ (by simp <;> omega), World.cell?_alloc_at _ _ _ _ (by simp)]; rfl) | (rw [World.cell?_alloc_past _ _ _ (by simp <;> omega), World.cell?_alloc_past _ _ _ (by simp <;> omega), World.cell?_alloc_at _ _ _ _ (by simp)]; rfl)
  have us3 : ((w.alloc (.cells #[.string ⟨#[98]⟩, .float .f64 4611686018427387904, .float .f64 0, .float .f64 4607182418800017408, .string ⟨#[97]⟩, .float .f64 0, .float .f64 0, .float .f64 0] 47)).alloc (.cells #[.int .i64 5, .float .f64 4611235658464650854, .float .f64 13837309855095848960, .float .f64 4619567317775286272, .slice (some ⟨w.heap.size, 0, none⟩) 2 2] 26)).cell? ⟨w.heap.size, 3, none⟩ = some (.float .f64 4607182418800017408) := by first | (simp; done) | (rw [World.cell?_alloc_at _ _ _ _ (by simp)]; rfl) | (rw [World.cell?_alloc_past _ _ _ (by simp <;> omega), World.cell?_alloc_at _ _ _ _ (by simp)]; rfl) | (rw [World.cell?_alloc_past _ _ _ (by simp <;> omega), World.cell?_alloc_past _ _ _ (by simp <;> omega), World.cell?_alloc_at _ _ _ _ (by simp)]; rfl)
  have us4 : ((w.alloc (.cells #[.string ⟨#[98]⟩, .float .f64 4611686018427387904, .float .f64 0, .float .f64 4607182418800017408, .string ⟨#[97]⟩, .float .f64 0, .float .f64 0, .float .f64 0] 47)).alloc (.cells #[.int .i64 5, .float .f64 4611235658464650854, .float .f64 13837309855095848960, .float .f64 4619567317775286272, .slice (some ⟨w.heap.size, 0, none⟩) 2 2] 26)).cell? ⟨w.heap.size, 4, none⟩ = some (.string ⟨#[97]⟩) := by first | (simp; done) | (rw [World.cell?_alloc_at _ _ _ _ (by simp)]; rfl) | (rw [World.cell?_alloc_past _ _ _ (by simp <;> omega), World.cell?_alloc_at _ _ _ _ (by simp)]; rfl) | (rw [World.cell?_alloc_past _ _ _ (by simp <;> omega), World.cell?_alloc_past _ _ _ (by simp <;> omega), World.cell?_alloc_at _ _ _ _ (by simp)]; rfl)
  have us5 : ((w.alloc (.cells #[.string ⟨#[98]⟩, .float .f64 4611686018427387904, .float .f64 0, .float .f64 4607182418800017408, .string ⟨#[97]⟩, .float .f64 0, .float .f64 0, .float .f64 0] 47)).alloc (.cells #[.int .i64 5, .float .f64 4611235658464650854, .float .f64 13837309855095848960, .float .f64 4619567317775286272, .slice (some ⟨w.heap.size, 0, none⟩) 2 2] 26)).cell? ⟨w.heap.size, 5, none⟩ = some (.float .f64 0) := by first | (simp; done) | (rw [World.cell?_alloc_at _ _ _ _ (by simp)]; rfl) | (rw [World.cell?_alloc_past _ _ _ (by simp <;> omega), World.cell?_alloc_at _ _ _ _ (by simp)]; rfl) | (rw [World.cell?_alloc_past _ _ _ (by simp <;> omega), World.cell?_alloc_past _ _ _ (by simp <;> omega), World.cell?_alloc_at _ _ _ _ (by simp)]; rfl)
  have us6 : ((w.alloc (.cells #[.string ⟨#[98]⟩, .float .f64 4611686018427387904, .float .f64 0, .float .f64 4607182418800017408, .string ⟨#[97]⟩, .float .f64 0, .float .f64 0, .float .f64 0] 47)).alloc (.cells #[.int .i64 5, .float .f64 4611235658464650854, .float .f64 13837309855095848960, .float .f64 4619567317775286272, .slice (some ⟨w.heap.size, 0, none⟩) 2 2] 26)).cell? ⟨w.heap.size, 6, none⟩ = some (.float .f64 0) := by first | (simp; done) | (rw [World.cell?_alloc_at _ _ _ _ (by simp)]; rfl) | (rw [World.cell?_alloc_past _ _ _ (by simp <;> omega), World.cell?_alloc_at _ _ _ _ (by simp)]; rfl) | (rw [World.cell?_alloc_past _ _ _ (by simp <;> omega), World.cell?_alloc_past _ _ _ (by simp <;> omega), World.cell?_alloc_at _ _ _ _ (by simp)]; rfl)
  have us7 : ((w.alloc (.cells #[.string ⟨#[98]⟩, .float .f64 4611686018427387904, .float .f64 0, .float .f64 4607182418800017408, .string ⟨#[97]⟩, .float .f64 0, .float .f64 0, .float .f64 0] 47)).alloc (.cells #[.int .i64 5, .float .f64 4611235658464650854, .float .f64 13837309855095848960, .float .f64 4619567317775286272, .slice (some ⟨w.heap.size, 0, none⟩) 2 2] 26)).cell? ⟨w.heap.size, 7, none⟩ = some (.float .f64 0) := by first | (simp; done) | (rw [World.cell?_alloc_at _ _ _ _ (by simp)]; rfl) | (rw [World.cell?_alloc_past _ _ _ (by simp <;> omega), World.cell?_alloc_at _ _ _ _ (by simp)]; rfl) | (rw [World.cell?_alloc_past _ _ _ (by simp <;> omega), World.cell?_alloc_past _ _ _ (by simp <;> omega), World.cell?_alloc_at _ _ _ _ (by simp)]; rfl)
  have rw0 : ((w.alloc (.cells #[.string ⟨#[98]⟩, .float .f64 4611686018427387904, .float .f64 0, .float .f64 4607182418800017408, .string ⟨#[97]⟩, .float .f64 0, .float .f64 0, .float .f64 0] 47)).alloc (.cells #[.int .i64 5, .float .f64 4611235658464650854, .float .f64 13837309855095848960, .float .f64 4619567317775286272, .slice (some ⟨w.heap.size, 0, none⟩) 2 2] 26)).cell? ⟨w.heap.size + 1, 0, none⟩ = some (.int .i64 5) := by first | (simp; done) | (rw [World.cell?_alloc_at _ _ _ _ (by simp)]; rfl) | (rw [World.cell?_alloc_past _ _ _ (by simp <;> omega), World.cell?_alloc_at _ _ _ _ (by simp)]; rfl) | (rw [World.cell?_alloc_past _ _ _ (by simp <;> omega), World.cell?_alloc_past _ _ _ (by simp <;> omega), World.cell?_alloc_at _ _ _ _ (by simp)]; rfl)
  have rw1 : ((w.alloc (.cells #[.string ⟨#[98]⟩, .float .f64 4611686018427387904, .float .f64 0, .float .f64 4607182418800017408, .string ⟨#[97]⟩, .float .f64 0, .float .f64 0, .float .f64 0] 47)).alloc (.cells #[.int .i64 5, .float .f64 4611235658464650854, .float .f64 13837309855095848960, .float .f64 4619567317775286272, .slice (some ⟨w.heap.size, 0, none⟩) 2 2] 26)).cell? ⟨w.heap.size + 1, 1, none⟩ = some (.float .f64 4611235658464650854) := by first | (simp; done) | (rw [World.cell?_alloc_at _ _ _ _ (by simp)]; rfl) | (rw [World.cell?_alloc_past _ _ _ (by simp <;> omega), World.cell?_alloc_at _ _ _ _ (by simp)]; rfl) | (rw [World.cell?_alloc_past _ _ _ (by simp <;> omega), World.cell?_alloc_past _ _ _ (by simp <;> omega), World.cell?_alloc_at _ _ _ _ (by simp)]; rfl)
  have rw2 : ((w.alloc (.cells #[.string ⟨#[98]⟩, .float .f64 4611686018427387904, .float .f64 0, .float .f64 4607182418800017408, .string ⟨#[97]⟩, .float .f64 0, .float .f64 0, .float .f64 0] 47)).alloc (.cells #[.int .i64 5, .float .f64 4611235658464650854, .float .f64 13837309855095848960, .float .f64 4619567317775286272, .slice (some ⟨w.heap.size, 0, none⟩) 2 2] 26)).cell? ⟨w.heap.size + 1, 2, none⟩ = some (.float .f64 13837309855095848960) := by first | (simp; done) | (rw [World.cell?_alloc_at _ _ _ _ (by simp)]; rfl) | (rw [World.cell?_alloc_past _ _ _ (by simp <;> omega), World.cell?_alloc_at _ _ _ _ (by simp)]; rfl) | (rw [World.cell?_alloc_past _ _ _ (by simp <;> omega), World.cell?_alloc_past _ _ _ (by simp <;> omega), World.cell?_alloc_at _ _ _ _ (by simp)]; rfl)
  have rw3 : ((w.alloc (.cells #[.string ⟨#[98]⟩, .float .f64 4611686018427387904, .float .f64 0, .float .f64 4607182418800017408, .string ⟨#[97]⟩, .float .f64 0, .float .f64 0, .float .f64 0] 47)).alloc (.cells #[.int .i64 5, .float .f64 4611235658464650854, .float .f64 13837309855095848960, .float .f64 4619567317775286272, .slice (some ⟨w.heap.size, 0, none⟩) 2 2] 26)).cell? ⟨w.heap.size + 1, 3, none⟩ = some (.float .f64 4619567317775286272) := by first | (simp; done) | (rw [World.cell?_alloc_at _ _ _ _ (by simp)]; rfl) | (rw [World.cell?_alloc_past _ _ _ (by simp <;> omega), World.cell?_alloc_at _ _ _ _ (by simp)]; rfl) | (rw [World.cell?_alloc_past _ _ _ (by simp <;> omega), World.cell?_alloc_past _ _ _ (by simp <;> omega), World.cell?_alloc_at _ _ _ _ (by simp)]; rfl)
  have rw4 : ((w.alloc (.cells #[.string ⟨#[98]⟩, .float .f64 4611686018427387904, .float .f64 0, .float .f64 4607182418800017408, .string ⟨#[97]⟩, .float .f64 0, .float .f64 0, .float .f64 0] 47)).alloc (.cells #[.int .i64 5, .float .f64 4611235658464650854, .float .f64 13837309855095848960, .float .f64 4619567317775286272, .slice (some ⟨w.heap.size, 0, none⟩) 2 2] 26)).cell? ⟨w.heap.size + 1, 4, none⟩ = some (.slice (some ⟨w.heap.size, 0, none⟩) 2 2) := by first | (simp; done) | (rw [World.cell?_alloc_at _ _ _ _ (by simp)]; rfl) | (rw [World.cell?_alloc_past _ _ _ (by simp <;> omega), World.cell?_alloc_at _ _ _ _ (by simp)]; rfl) | (rw [World.cell?_alloc_past _ _ _ (by simp <;> omega), World.cell?_alloc_past _ _ _ (by simp <;> omega), World.cell?_alloc_at _ _ _ _ (by simp)]; rfl)
  have hb2 := (by repeat (first | exact hbel | refine belAlloc ?_ _ | refine belDrew ?_ | refine belSet ?_ _ _ (by simp)) : Below w.heap.size w ((w.alloc (.cells #[.string ⟨#[98]⟩, .float .f64 4611686018427387904, .float .f64 0, .float .f64 4607182418800017408, .string ⟨#[97]⟩, .float .f64 0, .float .f64 0, .float .f64 0] 47)).alloc (.cells #[.int .i64 5, .float .f64 4611235658464650854, .float .f64 13837309855095848960, .float .f64 4619567317775286272, .slice (some ⟨w.heap.size, 0, none⟩) 2 2] 26)))
  replace hw := belStep hw hb2
  have usB : Blk ((w.alloc (.cells #[.string ⟨#[98]⟩, .float .f64 4611686018427387904, .float .f64 0, .float .f64 4607182418800017408, .string ⟨#[97]⟩, .float .f64 0, .float .f64 0, .float .f64 0] 47)).alloc (.cells #[.int .i64 5, .float .f64 4611235658464650854, .float .f64 13837309855095848960, .float .f64 4619567317775286272, .slice (some ⟨w.heap.size, 0, none⟩) 2 2] 26)) (w.heap.size) [.string ⟨#[98]⟩, .float .f64 4611686018427387904, .float .f64 0, .float .f64 4607182418800017408, .string ⟨#[97]⟩, .float .f64 0, .float .f64 0, .float .f64 0] 47 := (Blk.at (by simp) : Blk (w.alloc (.cells #[.string ⟨#[98]⟩, .float .f64 4611686018427387904, .float .f64 0, .float .f64 4607182418800017408, .string ⟨#[97]⟩, .float .f64 0, .float .f64 0, .float .f64 0] 47)) (w.heap.size) [.string ⟨#[98]⟩, .float .f64 4611686018427387904, .float .f64 0, .float .f64 4607182418800017408, .string ⟨#[97]⟩, .float .f64 0, .float .f64 0, .float .f64 0] 47).later (by repeat (first | exact Below.refl _ _ | refine belAlloc ?_ _))
  have usF := Blk.keepF usB
  replace usB := Blk.keepB usB
  clear hb2 hbel
  generalize (w.alloc (.cells #[.string ⟨#[98]⟩, .float .f64 4611686018427387904, .float .f64 0, .float .f64 4607182418800017408, .string ⟨#[97]⟩, .float .f64 0, .float .f64 0, .float .f64 0] 47)).alloc (.cells #[.int .i64 5, .float .f64 4611235658464650854, .float .f64 13837309855095848960, .float .f64 4619567317775286272, .slice (some ⟨w.heap.size, 0, none⟩) 2 2] 26) = W1 at *
  replace us0 := keep us0
  replace us1 := keep us1
  replace us2 := keep us2
  replace us3 := keep us3
  replace us4 := keep us4
  replace us5 := keep us5
  replace us6 := keep us6
  replace us7 := keep us7
  replace rw0 := keep rw0
  replace rw1 := keep rw1
  replace rw2 := keep rw2
  replace rw3 := keep rw3
  replace rw4 := keep rw4
  have hbel : Below W1.heap.size W1 W1 := Below.refl _ _
  skip
  have CRD := Lib.hid (show ∀ u : World, Below W1.heap.size W1 u → Calls Try.prog 20 #[.agg #[.int .i64 5, .float .f64 4611235658464650854, .float .f64 13837309855095848960, .float .f64 4619567317775286272, .slice (some ⟨w.heap.size, 0, none⟩) 2 2]] u fun e w' => (∃ b n, e = .returned (.tuple #[.agg #[.int .i64 5, .int .i64 1, .int .i64 0, .int .i64 7, .slice b 2 n], .int .i64 0]) ∧ OwnR w' u.heap.size 51 4 (.slice b 2 n) 2 (awU.flatMap UseV.cells)) ∧ Below u.heap.size u w' from fun u hu => smp_ReadE awR (some ⟨w.heap.size, 0, none⟩) 2 2 awL u rfl awR_ok awL_ok (row_of_blkN (n := 2) (k := 4) (usB u hu) rfl (by unfold maxLen; omega)) aw_read)
  have CT1 := Lib.hid (show ∀ u : World, Below W1.heap.size W1 u → Calls Try.prog 27 #[.agg #[.int .i64 5, .float .f64 4611235658464650854, .float .f64 13837309855095848960, .float .f64 4619567317775286272, .slice (some ⟨w.heap.size, 0, none⟩) 2 2], .int .i64 5, .int .i64 5, .int .i64 1] u fun e w' => (∃ b n, e = .returned (.tuple #[.agg #[.int .i64 0, .int .i64 0, .int .i64 0, .int .i64 0, .slice b 0 n], .int .i64 8])) ∧ Below u.heap.size u w' from fun u hu => (smp_TakeE awR (some ⟨w.heap.size, 0, none⟩) 2 2 awL 5 5 1 u rfl awR_ok awL_ok (row_of_blkN (n := 2) (k := 4) (usB u hu) rfl (by unfold maxLen; omega)) (by omega) (by omega) (by omega) (by omega) aw_take1).mono fun e w' h => ⟨by obtain ⟨⟨b, n, h1, _⟩, _⟩ := h; exact ⟨b, n, h1⟩, h.2⟩)
  have CT2 := Lib.hid (show ∀ u : World, Below W1.heap.size W1 u → Calls Try.prog 27 #[.agg #[.int .i64 5, .float .f64 4611235658464650854, .float .f64 13837309855095848960, .float .f64 4619567317775286272, .slice (some ⟨w.heap.size, 0, none⟩) 2 2], .int .i64 4, .int .i64 5, .int .i64 1] u fun e w' => (∃ b n, e = .returned (.tuple #[.agg #[.int .i64 5, .int .i64 1, .int .i64 0, .int .i64 7, .slice b 2 n], .int .i64 0])) ∧ Below u.heap.size u w' from fun u hu => (smp_TakeE awR (some ⟨w.heap.size, 0, none⟩) 2 2 awL 4 5 1 u rfl awR_ok awL_ok (row_of_blkN (n := 2) (k := 4) (usB u hu) rfl (by unfold maxLen; omega)) (by omega) (by omega) (by omega) (by omega) aw_take2).mono fun e w' h => ⟨by obtain ⟨⟨b, n, h1, _⟩, _⟩ := h; exact ⟨b, n, h1⟩, h.2⟩)
  have CT3 := Lib.hid (show ∀ u : World, Calls Try.prog 27 #[.agg #[.int .i64 0, .float .f64 9221120237041090561, .float .f64 0, .float .f64 0, .slice none 0 0], .int .i64 (-1), .int .i64 5, .int .i64 9] u fun e w' => (∃ b n, e = .returned (.tuple #[.agg #[.int .i64 0, .int .i64 0, .int .i64 0, .int .i64 0, .slice b 0 n], .int .i64 1])) ∧ Below u.heap.size u w' from fun u => (smp_TakeE awN none 0 0 [] (-1) 5 9 u rfl awN_ok (fun x hx => by cases hx) row_nil (by omega) (by omega) (by omega) (by omega) aw_take3).mono fun e w' h => ⟨by obtain ⟨⟨b, n, h1, _⟩, _⟩ := h; exact ⟨b, n, h1⟩, h.2⟩)
  have CRT := Lib.hid (show ∀ u : World, Below W1.heap.size W1 u → Calls Try.prog 21 #[.agg #[.int .i64 5, .float .f64 4611235658464650854, .float .f64 13837309855095848960, .float .f64 4619567317775286272, .slice (some ⟨w.heap.size, 0, none⟩) 2 2]] u fun e w' => e = .returned (.bool true) ∧ Below u.heap.size u w' from fun u hu => aw_right ▸ smp_Right awR (some ⟨w.heap.size, 0, none⟩) 2 2 awL u rfl awR_ok awL_ok (row_of_blkN (n := 2) (k := 4) (usB u hu) rfl (by unfold maxLen; omega)))
  go_upto_region 3 with (go_at_call 20; (with_reducible refine (CRD.out _ hbel).mono ?_); rintro e u1 ⟨⟨b1, n1, rfl, ho1⟩, hb1⟩; replace hbel := belStep hbel hb1; clear hb1)
  rcases own_shape ho1 with ⟨_, h0⟩ | ⟨g1, c1, e1, _, hg1, hc1, hc2⟩
  · cases h0
  simp only [Value.slice.injEq, true_and] at e1
  obtain ⟨rfl, rfl⟩ := e1
  have HROW := Lib.hid (row_of_ownL ho1)
  have q0 := World.ownsRow.cellAt ho1 0 (by simp [awU, UseV.cells])
  have q0k : ∀ u, Below u1.heap.size u1 u → u.cell? ⟨g1, 0, none⟩ = some (.string ⟨#[97]⟩) := keep (by rw [q0]; rfl)
  clear q0 ho1
  have HBV := Lib.hid hbel
  replace CT1 := Lib.hid (fun u (hu : Below u1.heap.size u1 u) => CT1.out u (belStep HBV.out hu))
  replace CT2 := Lib.hid (fun u (hu : Below u1.heap.size u1 u) => CT2.out u (belStep HBV.out hu))
  replace CRT := Lib.hid (fun u (hu : Below u1.heap.size u1 u) => CRT.out u (belStep HBV.out hu))
  have COF := Lib.hid (fun (s : ByteArray) u (hu : Below u1.heap.size u1 u) => smp_Of 5 1 0 7 (some ⟨g1, 0, none⟩) 2 n1 awU s u rfl (HROW.out.later hu))
  have CO1 := Lib.hid (fun u (hu : Below u1.heap.size u1 u) => aw_of1 ▸ COF.out ⟨#[98]⟩ u hu)
  have CO2 := Lib.hid (fun u (hu : Below u1.heap.size u1 u) => aw_of2 ▸ COF.out ⟨#[99]⟩ u hu)
  replace rw0 := keepOnP rw0 hbel
  replace rw1 := keepOnP rw1 hbel
  replace rw2 := keepOnP rw2 hbel
  replace rw3 := keepOnP rw3 hbel
  replace rw4 := keepOnP rw4 hbel
  replace hw := belStep hw hbel
  clear hbel
  generalize u1 = V1 at *
  have hbel : Below V1.heap.size V1 V1 := Below.refl _ _
  have HVW := Lib.hid (belAlloc (Below.refl V1.heap.size V1) (.cells #[.int .i64 5, .int .i64 1, .int .i64 0, .int .i64 7, .slice (some ⟨g1, 0, none⟩) 2 n1] 32))
  have sa0 : (V1.alloc (.cells #[.int .i64 5, .int .i64 1, .int .i64 0, .int .i64 7, .slice (some ⟨g1, 0, none⟩) 2 n1] 32)).cell? ⟨V1.heap.size, 0, none⟩ = some (.int .i64 5) := by first | (simp; done) | (rw [World.cell?_alloc_at _ _ _ _ (by simp)]; rfl) | (rw [World.cell?_alloc_past _ _ _ (by simp <;> omega), World.cell?_alloc_at _ _ _ _ (by simp)]; rfl) | (rw [World.cell?_alloc_past _ _ _ (by simp <;> omega), World.cell?_alloc_past _ _ _ (by simp <;> omega), World.cell?_alloc_at _ _ _ _ (by simp)]; rfl)
  have sa1 : (V1.alloc (.cells #[.int .i64 5, .int .i64 1, .int .i64 0, .int .i64 7, .slice (some ⟨g1, 0, none⟩) 2 n1] 32)).cell? ⟨V1.heap.size, 1, none⟩ = some (.int .i64 1) := by first | (simp; done) | (rw [World.cell?_alloc_at _ _ _ _ (by simp)]; rfl) | (rw [World.cell?_alloc_past _ _ _ (by simp <;> omega), World.cell?_alloc_at _ _ _ _ (by simp)]; rfl) | (rw [World.cell?_alloc_past _ _ _ (by simp <;> omega), World.cell?_alloc_past _ _ _ (by simp <;> omega), World.cell?_alloc_at _ _ _ _ (by simp)]; rfl)
  have sa2 : (V1.alloc (.cells #[.int .i64 5, .int .i64 1, .int .i64 0, .int .i64 7, .slice (some ⟨g1, 0, none⟩) 2 n1] 32)).cell? ⟨V1.heap.size, 2, none⟩ = some (.int .i64 0) := by first | (simp; done) | (rw [World.cell?_alloc_at _ _ _ _ (by simp)]; rfl) | (rw [World.cell?_alloc_past _ _ _ (by simp <;> omega), World.cell?_alloc_at _ _ _ _ (by simp)]; rfl) | (rw [World.cell?_alloc_past _ _ _ (by simp <;> omega), World.cell?_alloc_past _ _ _ (by simp <;> omega), World.cell?_alloc_at _ _ _ _ (by simp)]; rfl)
  have sa3 : (V1.alloc (.cells #[.int .i64 5, .int .i64 1, .int .i64 0, .int .i64 7, .slice (some ⟨g1, 0, none⟩) 2 n1] 32)).cell? ⟨V1.heap.size, 3, none⟩ = some (.int .i64 7) := by first | (simp; done) | (rw [World.cell?_alloc_at _ _ _ _ (by simp)]; rfl) | (rw [World.cell?_alloc_past _ _ _ (by simp <;> omega), World.cell?_alloc_at _ _ _ _ (by simp)]; rfl) | (rw [World.cell?_alloc_past _ _ _ (by simp <;> omega), World.cell?_alloc_past _ _ _ (by simp <;> omega), World.cell?_alloc_at _ _ _ _ (by simp)]; rfl)
  have sa4 : (V1.alloc (.cells #[.int .i64 5, .int .i64 1, .int .i64 0, .int .i64 7, .slice (some ⟨g1, 0, none⟩) 2 n1] 32)).cell? ⟨V1.heap.size, 4, none⟩ = some (.slice (some ⟨g1, 0, none⟩) 2 n1) := by first | (simp; done) | (rw [World.cell?_alloc_at _ _ _ _ (by simp)]; rfl) | (rw [World.cell?_alloc_past _ _ _ (by simp <;> omega), World.cell?_alloc_at _ _ _ _ (by simp)]; rfl) | (rw [World.cell?_alloc_past _ _ _ (by simp <;> omega), World.cell?_alloc_past _ _ _ (by simp <;> omega), World.cell?_alloc_at _ _ _ _ (by simp)]; rfl)
  have hb2 := (by repeat (first | exact hbel | refine belAlloc ?_ _ | refine belDrew ?_ | refine belSet ?_ _ _ (by simp)) : Below V1.heap.size V1 (V1.alloc (.cells #[.int .i64 5, .int .i64 1, .int .i64 0, .int .i64 7, .slice (some ⟨g1, 0, none⟩) 2 n1] 32)))
  replace rw0 := keepOnP rw0 hb2
  replace rw1 := keepOnP rw1 hb2
  replace rw2 := keepOnP rw2 hb2
  replace rw3 := keepOnP rw3 hb2
  replace rw4 := keepOnP rw4 hb2
  replace q0k := keepOnP q0k hb2
  replace hw := belStep hw hb2
  clear hb2 hbel
  generalize V1.alloc (.cells #[.int .i64 5, .int .i64 1, .int .i64 0, .int .i64 7, .slice (some ⟨g1, 0, none⟩) 2 n1] 32) = W2 at *
  replace sa0 := keep sa0
  replace sa1 := keep sa1
  replace sa2 := keep sa2
  replace sa3 := keep sa3
  replace sa4 := keep sa4
  have hbel : Below W2.heap.size W2 W2 := Below.refl _ _
  skip
  skip
  replace CT1 := Lib.hid (fun u (hu : Below W2.heap.size W2 u) => CT1.out u (belStep HVW.out hu))
  replace CT2 := Lib.hid (fun u (hu : Below W2.heap.size W2 u) => CT2.out u (belStep HVW.out hu))
  replace CRT := Lib.hid (fun u (hu : Below W2.heap.size W2 u) => CRT.out u (belStep HVW.out hu))
  replace CO1 := Lib.hid (fun u (hu : Below W2.heap.size W2 u) => CO1.out u (belStep HVW.out hu))
  replace CO2 := Lib.hid (fun u (hu : Below W2.heap.size W2 u) => CO2.out u (belStep HVW.out hu))
  clear COF
  go_upto_region 4 with (first | (go_at_call 27; (with_reducible refine (CT1.out _ hbel).mono ?_); rintro e u2 ⟨⟨b2, n2, rfl⟩, hb2⟩; replace hbel := belStep hbel hb2; clear hb2))
  have HX2 := Lib.hid (belAlloc hbel (.cells #[.int .i64 0, .int .i64 0, .int .i64 0, .int .i64 0, .slice b2 0 n2] 32))
  have sb0 : (u2.alloc (.cells #[.int .i64 0, .int .i64 0, .int .i64 0, .int .i64 0, .slice b2 0 n2] 32)).cell? ⟨u2.heap.size, 0, none⟩ = some (.int .i64 0) := by first | (simp; done) | (rw [World.cell?_alloc_at _ _ _ _ (by simp)]; rfl) | (rw [World.cell?_alloc_past _ _ _ (by simp <;> omega), World.cell?_alloc_at _ _ _ _ (by simp)]; rfl) | (rw [World.cell?_alloc_past _ _ _ (by simp <;> omega), World.cell?_alloc_past _ _ _ (by simp <;> omega), World.cell?_alloc_at _ _ _ _ (by simp)]; rfl)
  have sb1 : (u2.alloc (.cells #[.int .i64 0, .int .i64 0, .int .i64 0, .int .i64 0, .slice b2 0 n2] 32)).cell? ⟨u2.heap.size, 1, none⟩ = some (.int .i64 0) := by first | (simp; done) | (rw [World.cell?_alloc_at _ _ _ _ (by simp)]; rfl) | (rw [World.cell?_alloc_past _ _ _ (by simp <;> omega), World.cell?_alloc_at _ _ _ _ (by simp)]; rfl) | (rw [World.cell?_alloc_past _ _ _ (by simp <;> omega), World.cell?_alloc_past _ _ _ (by simp <;> omega), World.cell?_alloc_at _ _ _ _ (by simp)]; rfl)
  have sb2 : (u2.alloc (.cells #[.int .i64 0, .int .i64 0, .int .i64 0, .int .i64 0, .slice b2 0 n2] 32)).cell? ⟨u2.heap.size, 2, none⟩ = some (.int .i64 0) := by first | (simp; done) | (rw [World.cell?_alloc_at _ _ _ _ (by simp)]; rfl) | (rw [World.cell?_alloc_past _ _ _ (by simp <;> omega), World.cell?_alloc_at _ _ _ _ (by simp)]; rfl) | (rw [World.cell?_alloc_past _ _ _ (by simp <;> omega), World.cell?_alloc_past _ _ _ (by simp <;> omega), World.cell?_alloc_at _ _ _ _ (by simp)]; rfl)
  have sb3 : (u2.alloc (.cells #[.int .i64 0, .int .i64 0, .int .i64 0, .int .i64 0, .slice b2 0 n2] 32)).cell? ⟨u2.heap.size, 3, none⟩ = some (.int .i64 0) := by first | (simp; done) | (rw [World.cell?_alloc_at _ _ _ _ (by simp)]; rfl) | (rw [World.cell?_alloc_past _ _ _ (by simp <;> omega), World.cell?_alloc_at _ _ _ _ (by simp)]; rfl) | (rw [World.cell?_alloc_past _ _ _ (by simp <;> omega), World.cell?_alloc_past _ _ _ (by simp <;> omega), World.cell?_alloc_at _ _ _ _ (by simp)]; rfl)
  have sb4 : (u2.alloc (.cells #[.int .i64 0, .int .i64 0, .int .i64 0, .int .i64 0, .slice b2 0 n2] 32)).cell? ⟨u2.heap.size, 4, none⟩ = some (.slice b2 0 n2) := by first | (simp; done) | (rw [World.cell?_alloc_at _ _ _ _ (by simp)]; rfl) | (rw [World.cell?_alloc_past _ _ _ (by simp <;> omega), World.cell?_alloc_at _ _ _ _ (by simp)]; rfl) | (rw [World.cell?_alloc_past _ _ _ (by simp <;> omega), World.cell?_alloc_past _ _ _ (by simp <;> omega), World.cell?_alloc_at _ _ _ _ (by simp)]; rfl)
  have hb2 := (by repeat (first | exact hbel | refine belAlloc ?_ _ | refine belDrew ?_ | refine belSet ?_ _ _ (by simp)) : Below W2.heap.size W2 (u2.alloc (.cells #[.int .i64 0, .int .i64 0, .int .i64 0, .int .i64 0, .slice b2 0 n2] 32)))
  replace rw0 := keepOnP rw0 hb2
  replace rw1 := keepOnP rw1 hb2
  replace rw2 := keepOnP rw2 hb2
  replace rw3 := keepOnP rw3 hb2
  replace rw4 := keepOnP rw4 hb2
  replace q0k := keepOnP q0k hb2
  replace sa0 := keepOnP sa0 hb2
  replace sa1 := keepOnP sa1 hb2
  replace sa2 := keepOnP sa2 hb2
  replace sa3 := keepOnP sa3 hb2
  replace sa4 := keepOnP sa4 hb2
  replace hw := belStep hw hb2
  clear hb2 hbel
  generalize u2.alloc (.cells #[.int .i64 0, .int .i64 0, .int .i64 0, .int .i64 0, .slice b2 0 n2] 32) = W3 at *
  replace sb0 := keep sb0
  replace sb1 := keep sb1
  replace sb2 := keep sb2
  replace sb3 := keep sb3
  replace sb4 := keep sb4
  generalize u2.heap.size = M2 at *
  have hbel : Below W3.heap.size W3 W3 := Below.refl _ _
  clear u2
  replace CT2 := Lib.hid (fun u (hu : Below W3.heap.size W3 u) => CT2.out u (belStep HX2.out hu))
  replace CRT := Lib.hid (fun u (hu : Below W3.heap.size W3 u) => CRT.out u (belStep HX2.out hu))
  replace CO1 := Lib.hid (fun u (hu : Below W3.heap.size W3 u) => CO1.out u (belStep HX2.out hu))
  replace CO2 := Lib.hid (fun u (hu : Below W3.heap.size W3 u) => CO2.out u (belStep HX2.out hu))
  go_upto_region 5 with (first | (go_at_call 27; (with_reducible refine (CT2.out _ hbel).mono ?_); rintro e u2 ⟨⟨b2, n2, rfl⟩, hb2⟩; replace hbel := belStep hbel hb2; clear hb2))
  have HX3 := Lib.hid (belAlloc hbel (.cells #[.int .i64 5, .int .i64 1, .int .i64 0, .int .i64 7, .slice b2 2 n2] 32))
  have sc0 : (u2.alloc (.cells #[.int .i64 5, .int .i64 1, .int .i64 0, .int .i64 7, .slice b2 2 n2] 32)).cell? ⟨u2.heap.size, 0, none⟩ = some (.int .i64 5) := by first | (simp; done) | (rw [World.cell?_alloc_at _ _ _ _ (by simp)]; rfl) | (rw [World.cell?_alloc_past _ _ _ (by simp <;> omega), World.cell?_alloc_at _ _ _ _ (by simp)]; rfl) | (rw [World.cell?_alloc_past _ _ _ (by simp <;> omega), World.cell?_alloc_past _ _ _ (by simp <;> omega), World.cell?_alloc_at _ _ _ _ (by simp)]; rfl)
  have sc1 : (u2.alloc (.cells #[.int .i64 5, .int .i64 1, .int .i64 0, .int .i64 7, .slice b2 2 n2] 32)).cell? ⟨u2.heap.size, 1, none⟩ = some (.int .i64 1) := by first | (simp; done) | (rw [World.cell?_alloc_at _ _ _ _ (by simp)]; rfl) | (rw [World.cell?_alloc_past _ _ _ (by simp <;> omega), World.cell?_alloc_at _ _ _ _ (by simp)]; rfl) | (rw [World.cell?_alloc_past _ _ _ (by simp <;> omega), World.cell?_alloc_past _ _ _ (by simp <;> omega), World.cell?_alloc_at _ _ _ _ (by simp)]; rfl)
  have sc2 : (u2.alloc (.cells #[.int .i64 5, .int .i64 1, .int .i64 0, .int .i64 7, .slice b2 2 n2] 32)).cell? ⟨u2.heap.size, 2, none⟩ = some (.int .i64 0) := by first | (simp; done) | (rw [World.cell?_alloc_at _ _ _ _ (by simp)]; rfl) | (rw [World.cell?_alloc_past _ _ _ (by simp <;> omega), World.cell?_alloc_at _ _ _ _ (by simp)]; rfl) | (rw [World.cell?_alloc_past _ _ _ (by simp <;> omega), World.cell?_alloc_past _ _ _ (by simp <;> omega), World.cell?_alloc_at _ _ _ _ (by simp)]; rfl)
  have sc3 : (u2.alloc (.cells #[.int .i64 5, .int .i64 1, .int .i64 0, .int .i64 7, .slice b2 2 n2] 32)).cell? ⟨u2.heap.size, 3, none⟩ = some (.int .i64 7) := by first | (simp; done) | (rw [World.cell?_alloc_at _ _ _ _ (by simp)]; rfl) | (rw [World.cell?_alloc_past _ _ _ (by simp <;> omega), World.cell?_alloc_at _ _ _ _ (by simp)]; rfl) | (rw [World.cell?_alloc_past _ _ _ (by simp <;> omega), World.cell?_alloc_past _ _ _ (by simp <;> omega), World.cell?_alloc_at _ _ _ _ (by simp)]; rfl)
  have sc4 : (u2.alloc (.cells #[.int .i64 5, .int .i64 1, .int .i64 0, .int .i64 7, .slice b2 2 n2] 32)).cell? ⟨u2.heap.size, 4, none⟩ = some (.slice b2 2 n2) := by first | (simp; done) | (rw [World.cell?_alloc_at _ _ _ _ (by simp)]; rfl) | (rw [World.cell?_alloc_past _ _ _ (by simp <;> omega), World.cell?_alloc_at _ _ _ _ (by simp)]; rfl) | (rw [World.cell?_alloc_past _ _ _ (by simp <;> omega), World.cell?_alloc_past _ _ _ (by simp <;> omega), World.cell?_alloc_at _ _ _ _ (by simp)]; rfl)
  have hb2 := (by repeat (first | exact hbel | refine belAlloc ?_ _ | refine belDrew ?_ | refine belSet ?_ _ _ (by simp)) : Below W3.heap.size W3 (u2.alloc (.cells #[.int .i64 5, .int .i64 1, .int .i64 0, .int .i64 7, .slice b2 2 n2] 32)))
  replace rw0 := keepOnP rw0 hb2
  replace rw1 := keepOnP rw1 hb2
  replace rw2 := keepOnP rw2 hb2
  replace rw3 := keepOnP rw3 hb2
  replace rw4 := keepOnP rw4 hb2
  replace q0k := keepOnP q0k hb2
  replace sa0 := keepOnP sa0 hb2
  replace sa1 := keepOnP sa1 hb2
  replace sa2 := keepOnP sa2 hb2
  replace sa3 := keepOnP sa3 hb2
  replace sa4 := keepOnP sa4 hb2
  replace sb0 := keepOnP sb0 hb2
  replace sb1 := keepOnP sb1 hb2
  replace sb2 := keepOnP sb2 hb2
  replace sb3 := keepOnP sb3 hb2
  replace sb4 := keepOnP sb4 hb2
  replace hw := belStep hw hb2
  clear hb2 hbel
  generalize u2.alloc (.cells #[.int .i64 5, .int .i64 1, .int .i64 0, .int .i64 7, .slice b2 2 n2] 32) = W4 at *
  replace sc0 := keep sc0
  replace sc1 := keep sc1
  replace sc2 := keep sc2
  replace sc3 := keep sc3
  replace sc4 := keep sc4
  generalize u2.heap.size = M3 at *
  have hbel : Below W4.heap.size W4 W4 := Below.refl _ _
  clear u2
  replace CRT := Lib.hid (fun u (hu : Below W4.heap.size W4 u) => CRT.out u (belStep HX3.out hu))
  replace CO1 := Lib.hid (fun u (hu : Below W4.heap.size W4 u) => CO1.out u (belStep HX3.out hu))
  replace CO2 := Lib.hid (fun u (hu : Below W4.heap.size W4 u) => CO2.out u (belStep HX3.out hu))
  go_upto_region 6 with (first | (go_at_call 27; (with_reducible refine (CT3.out _).mono ?_); rintro e u2 ⟨⟨b2, n2, rfl⟩, hb2⟩; replace hbel := belStep hbel hb2; clear hb2) | (go_at_call 52; (with_reducible refine (math_NaN _).mono ?_); rintro e w' ⟨rfl, rfl⟩))
  have HX4 := Lib.hid (belAlloc hbel (.cells #[.int .i64 0, .int .i64 0, .int .i64 0, .int .i64 0, .slice b2 0 n2] 32))
  have sd0 : (u2.alloc (.cells #[.int .i64 0, .int .i64 0, .int .i64 0, .int .i64 0, .slice b2 0 n2] 32)).cell? ⟨u2.heap.size, 0, none⟩ = some (.int .i64 0) := by first | (simp; done) | (rw [World.cell?_alloc_at _ _ _ _ (by simp)]; rfl) | (rw [World.cell?_alloc_past _ _ _ (by simp <;> omega), World.cell?_alloc_at _ _ _ _ (by simp)]; rfl) | (rw [World.cell?_alloc_past _ _ _ (by simp <;> omega), World.cell?_alloc_past _ _ _ (by simp <;> omega), World.cell?_alloc_at _ _ _ _ (by simp)]; rfl)
  have sd1 : (u2.alloc (.cells #[.int .i64 0, .int .i64 0, .int .i64 0, .int .i64 0, .slice b2 0 n2] 32)).cell? ⟨u2.heap.size, 1, none⟩ = some (.int .i64 0) := by first | (simp; done) | (rw [World.cell?_alloc_at _ _ _ _ (by simp)]; rfl) | (rw [World.cell?_alloc_past _ _ _ (by simp <;> omega), World.cell?_alloc_at _ _ _ _ (by simp)]; rfl) | (rw [World.cell?_alloc_past _ _ _ (by simp <;> omega), World.cell?_alloc_past _ _ _ (by simp <;> omega), World.cell?_alloc_at _ _ _ _ (by simp)]; rfl)
  have sd2 : (u2.alloc (.cells #[.int .i64 0, .int .i64 0, .int .i64 0, .int .i64 0, .slice b2 0 n2] 32)).cell? ⟨u2.heap.size, 2, none⟩ = some (.int .i64 0) := by first | (simp; done) | (rw [World.cell?_alloc_at _ _ _ _ (by simp)]; rfl) | (rw [World.cell?_alloc_past _ _ _ (by simp <;> omega), World.cell?_alloc_at _ _ _ _ (by simp)]; rfl) | (rw [World.cell?_alloc_past _ _ _ (by simp <;> omega), World.cell?_alloc_past _ _ _ (by simp <;> omega), World.cell?_alloc_at _ _ _ _ (by simp)]; rfl)
  have sd3 : (u2.alloc (.cells #[.int .i64 0, .int .i64 0, .int .i64 0, .int .i64 0, .slice b2 0 n2] 32)).cell? ⟨u2.heap.size, 3, none⟩ = some (.int .i64 0) := by first | (simp; done) | (rw [World.cell?_alloc_at _ _ _ _ (by simp)]; rfl) | (rw [World.cell?_alloc_past _ _ _ (by simp <;> omega), World.cell?_alloc_at _ _ _ _ (by simp)]; rfl) | (rw [World.cell?_alloc_past _ _ _ (by simp <;> omega), World.cell?_alloc_past _ _ _ (by simp <;> omega), World.cell?_alloc_at _ _ _ _ (by simp)]; rfl)
  have sd4 : (u2.alloc (.cells #[.int .i64 0, .int .i64 0, .int .i64 0, .int .i64 0, .slice b2 0 n2] 32)).cell? ⟨u2.heap.size, 4, none⟩ = some (.slice b2 0 n2) := by first | (simp; done) | (rw [World.cell?_alloc_at _ _ _ _ (by simp)]; rfl) | (rw [World.cell?_alloc_past _ _ _ (by simp <;> omega), World.cell?_alloc_at _ _ _ _ (by simp)]; rfl) | (rw [World.cell?_alloc_past _ _ _ (by simp <;> omega), World.cell?_alloc_past _ _ _ (by simp <;> omega), World.cell?_alloc_at _ _ _ _ (by simp)]; rfl)
  have hb2 := (by repeat (first | exact hbel | refine belAlloc ?_ _ | refine belDrew ?_ | refine belSet ?_ _ _ (by simp)) : Below W4.heap.size W4 (u2.alloc (.cells #[.int .i64 0, .int .i64 0, .int .i64 0, .int .i64 0, .slice b2 0 n2] 32)))
  replace rw0 := keepOnP rw0 hb2
  replace rw1 := keepOnP rw1 hb2
  replace rw2 := keepOnP rw2 hb2
  replace rw3 := keepOnP rw3 hb2
  replace rw4 := keepOnP rw4 hb2
  replace q0k := keepOnP q0k hb2
  replace sa0 := keepOnP sa0 hb2
  replace sa1 := keepOnP sa1 hb2
  replace sa2 := keepOnP sa2 hb2
  replace sa3 := keepOnP sa3 hb2
  replace sa4 := keepOnP sa4 hb2
  replace sb0 := keepOnP sb0 hb2
  replace sb1 := keepOnP sb1 hb2
  replace sb2 := keepOnP sb2 hb2
  replace sb3 := keepOnP sb3 hb2
  replace sb4 := keepOnP sb4 hb2
  replace sc0 := keepOnP sc0 hb2
  replace sc1 := keepOnP sc1 hb2
  replace sc2 := keepOnP sc2 hb2
  replace sc3 := keepOnP sc3 hb2
  replace sc4 := keepOnP sc4 hb2
  replace hw := belStep hw hb2
  clear hb2 hbel
  generalize u2.alloc (.cells #[.int .i64 0, .int .i64 0, .int .i64 0, .int .i64 0, .slice b2 0 n2] 32) = W5 at *
  replace sd0 := keep sd0
  replace sd1 := keep sd1
  replace sd2 := keep sd2
  replace sd3 := keep sd3
  replace sd4 := keep sd4
  generalize u2.heap.size = M4 at *
  have hbel : Below W5.heap.size W5 W5 := Below.refl _ _
  clear u2
  replace CRT := Lib.hid (fun u (hu : Below W5.heap.size W5 u) => CRT.out u (belStep HX4.out hu))
  replace CO1 := Lib.hid (fun u (hu : Below W5.heap.size W5 u) => CO1.out u (belStep HX4.out hu))
  replace CO2 := Lib.hid (fun u (hu : Below W5.heap.size W5 u) => CO2.out u (belStep HX4.out hu))
  have hE3 : ∀ (x y z x2 y2 z2 : Int) (v : World), (Op.equalIn 10000 29 (.agg #[.int .i64 x, .int .i64 y, .int .i64 z]) (.agg #[.int .i64 x2, .int .i64 y2, .int .i64 z2])).run Try.prog v = .ok (x == x2 && (y == y2 && z == z2)) v := fun x y z x2 y2 z2 v => eq3_any 9998 x y z x2 y2 z2 v
  have hn1 : (0 : Int) < 2 := by omega
  go_wp2_with (first | (go_at_call 25; (with_reducible refine (CO1.out _ hbel).mono ?_); rintro e w1 ⟨rfl, hb1⟩; replace hbel := belStep hbel hb1; clear hb1) | (go_at_call 25; (with_reducible refine (CO2.out _ hbel).mono ?_); rintro e w1 ⟨rfl, hb1⟩; replace hbel := belStep hbel hb1; clear hb1) | (go_at_call 21; (with_reducible refine (CRT.out _ hbel).mono ?_); rintro e w1 ⟨rfl, hb1⟩; replace hbel := belStep hbel hb1; clear hb1))
  go_ret
  exact ⟨rfl, belStep hw hbel⟩
end Go.Proofs.Ytcgpmihjodolmaa
