/- grace.Signals, Edge, and the reference's: contracts. -/
import Derived.Test.YtbancemkajgljaaGr7
namespace Go.Proofs.Ytbancemkajgljaa
open Go.RowKit
set_option linter.unusedVariables false
set_option linter.unusedSimpArgs false

/-- Has the signal a threshold, of the first ones, for which 'l' says true? -/
def sgB (c : CfgV) (l : List Bool) (k : Nat) (s : Int) : Bool := ((c.L.zip l).take k).any (fun p => p.2 && p.1.sig == s)
/-- The greatest edge of these. -/
def sgE (c : CfgV) (l : List Bool) (k : Nat) (s cap : Int) : Int := ((c.L.zip l).take k).foldl (fun m p => if p.2 && p.1.sig == s then max m (edgeF p.1 cap) else m) 0
theorem zip_get {c : CfgV} {l : List Bool} {k : Nat} {t : ThrV} (ht : c.L[k]? = some t) (hk : k < l.length) : (c.L.zip l)[k]? = some (t, bl l k) := by
  rw [List.getElem?_zip_eq_some]
  refine ⟨ht, ?_⟩
  show l[k]? = some (bl l k)
  unfold bl
  rw [List.getD_eq_getElem?_getD, List.getElem?_eq_getElem hk]; rfl
theorem sgB_next {c : CfgV} {l : List Bool} {k : Nat} {t : ThrV} (ht : c.L[k]? = some t) (hk : k < l.length) (s : Int) : sgB c l (k + 1) s = (sgB c l k s || (bl l k && t.sig == s)) := by
  unfold sgB
  rw [List.take_add_one, zip_get ht hk, List.any_append]; simp
theorem sgE_next {c : CfgV} {l : List Bool} {k : Nat} {t : ThrV} (ht : c.L[k]? = some t) (hk : k < l.length) (s cap : Int) : sgE c l (k + 1) s cap = if bl l k && t.sig == s then max (sgE c l k s cap) (edgeF t cap) else sgE c l k s cap := by
  unfold sgE
  rw [List.take_add_one, zip_get ht hk, List.foldl_append]; rfl
set_option maxRecDepth 100000 in
set_option maxHeartbeats 8000000 in
theorem gr_Signals_ret (w W : World) (M : Nat) (tm : Array Value) (a b c : Bool) (R : Ending → World → Prop) (h2 : tm.getD 4 undef = .pointer (some ⟨M, 0, none⟩)) (hb : Blk W M [.bool a, .bool b, .bool c] 38) (hR : R (.returned (.agg #[.bool a, .bool b, .bool c])) W) :
    bodyPost Try.prog Try.f22 R Exit.ret { tmps := tm, defers := [] } W := by
  have z0 := hb.cell (j := 0) rfl
  have z1 := hb.cell (j := 1) rfl
  have z2 := hb.cell (j := 2) rfl
  refine bodyPost_ret (v := .agg #[.bool a, .bool b, .bool c]) ?_ rfl hR
  simp only [Array.getD_eq_getD_getElem?] at h2
  simp [results, Try.results22, go_sem, h2, z0, z1, z2]
set_option maxRecDepth 100000 in
set_option maxHeartbeats 8000000 in
theorem gr_Signals (c : CfgV) (la : Option Addr) (lc : Nat) (l : List Bool) (w : World) (hc : Good c w) (hl : Bools w la c.tl lc l) : Calls Try.prog 22 #[.agg #[.int .i64 c.k0, .int .i64 c.k1, .int .i64 c.k2, .int .i64 c.a0, .int .i64 c.a1, .int .i64 c.a2, .slice c.ta c.tl c.tc, .int .i64 c.per, .int .i64 c.ret, .int .i64 c.age, .int .i64 c.dead], .slice la c.tl lc] w fun e w' => e = .returned (.agg #[.bool (sgB c l c.tl 0), .bool (sgB c l c.tl 1), .bool (sgB c l c.tl 2)]) ∧ Below w.heap.size w w' := by
  have hw : Below w.heap.size w w := Below.refl _ _
  have hbel := hw
  have hfew := hc.few
  obtain ⟨hbd1, hbd2⟩ := hc.bd
  obtain ⟨hll, hlc1, hlc2⟩ := hl.bounds
  have HLL := Lib.hid hll
  have HC := Lib.hid hc
  have HLB := Lib.hid hl
  clear hc hl
  go_enter Try.func22, Try.ntmps22
  go_upto_region 1 with fail
  have cc0 : ((w.alloc (.cells #[.int .i64 c.k0, .int .i64 c.k1, .int .i64 c.k2, .int .i64 c.a0, .int .i64 c.a1, .int .i64 c.a2, .slice c.ta c.tl c.tc, .int .i64 c.per, .int .i64 c.ret, .int .i64 c.age, .int .i64 c.dead] 25)).alloc (.cells #[.bool false, .bool false, .bool false] 38)).cell? ⟨w.heap.size, 0, none⟩ = some (.int .i64 c.k0) := by first | (simp; done) | (rw [World.cell?_alloc_at _ _ _ _ (by simp)]; rfl) | (rw [World.cell?_alloc_past _ _ _ (by simp <;> omega), World.cell?_alloc_at _ _ _ _ (by simp)]; rfl) | (rw [World.cell?_alloc_past _ _ _ (by simp <;> omega), World.cell?_alloc_past _ _ _ (by simp <;> omega), World.cell?_alloc_at _ _ _ _ (by simp)]; rfl)
  have cc1 : ((w.alloc (.cells #[.int .i64 c.k0, .int .i64 c.k1, .int .i64 c.k2, .int .i64 c.a0, .int .i64 c.a1, .int .i64 c.a2, .slice c.ta c.tl c.tc, .int .i64 c.per, .int .i64 c.ret, .int .i64 c.age, .int .i64 c.dead] 25)).alloc (.cells #[.bool false, .bool false, .bool false] 38)).cell? ⟨w.heap.size, 1, none⟩ = some (.int .i64 c.k1) := by first | (simp; done) | (rw [World.cell?_alloc_at _ _ _ _ (by simp)]; rfl) | (rw [World.cell?_alloc_past _ _ _ (by simp <;> omega), World.cell?_alloc_at _ _ _ _ (by simp)]; rfl) | (rw [World.cell?_alloc_past _ _ _ (by simp <;> omega), World.cell?_alloc_past _ _ _ (by simp <;> omega), World.cell?_alloc_at _ _ _ _ (by simp)]; rfl)
  have cc2 : ((w.alloc (.cells #[.int .i64 c.k0, .int .i64 c.k1, .int .i64 c.k2, .int .i64 c.a0, .int .i64 c.a1, .int .i64 c.a2, .slice c.ta c.tl c.tc, .int .i64 c.per, .int .i64 c.ret, .int .i64 c.age, .int .i64 c.dead] 25)).alloc (.cells #[.bool false, .bool false, .bool false] 38)).cell? ⟨w.heap.size, 2, none⟩ = some (.int .i64 c.k2) := by first | (simp; done) | (rw [World.cell?_alloc_at _ _ _ _ (by simp)]; rfl) | (rw [World.cell?_alloc_past _ _ _ (by simp <;> omega), World.cell?_alloc_at _ _ _ _ (by simp)]; rfl) | (rw [World.cell?_alloc_past _ _ _ (by simp <;> omega), World.cell?_alloc_past _ _ _ (by simp <;> omega), World.cell?_alloc_at _ _ _ _ (by simp)]; rfl)
  have cc3 : ((w.alloc (.cells #[.int .i64 c.k0, .int .i64 c.k1, .int .i64 c.k2, .int .i64 c.a0, .int .i64 c.a1, .int .i64 c.a2, .slice c.ta c.tl c.tc, .int .i64 c.per, .int .i64 c.ret, .int .i64 c.age, .int .i64 c.dead] 25)).alloc (.cells #[.bool false, .bool false, .bool false] 38)).cell? ⟨w.heap.size, 3, none⟩ = some (.int .i64 c.a0) := by first | (simp; done) | (rw [World.cell?_alloc_at _ _ _ _ (by simp)]; rfl) | (rw [World.cell?_alloc_past _ _ _ (by simp <;> omega), World.cell?_alloc_at _ _ _ _ (by simp)]; rfl) | (rw [World.cell?_alloc_past _ _ _ (by simp <;> omega), World.cell?_alloc_past _ _ _ (by simp <;> omega), World.cell?_alloc_at _ _ _ _ (by simp)]; rfl)
  have cc4 : ((w.alloc (.cells #[.int .i64 c.k0, .int .i64 c.k1, .int .i64 c.k2, .int .i64 c.a0, .int .i64 c.a1, .int .i64 c.a2, .slice c.ta c.tl c.tc, .int .i64 c.per, .int .i64 c.ret, .int .i64 c.age, .int .i64 c.dead] 25)).alloc (.cells #[.bool false, .bool false, .bool false] 38)).cell? ⟨w.heap.size, 4, none⟩ = some (.int .i64 c.a1) := by first | (simp; done) | (rw [World.cell?_alloc_at _ _ _ _ (by simp)]; rfl) | (rw [World.cell?_alloc_past _ _ _ (by simp <;> omega), World.cell?_alloc_at _ _ _ _ (by simp)]; rfl) | (rw [World.cell?_alloc_past _ _ _ (by simp <;> omega), World.cell?_alloc_past _ _ _ (by simp <;> omega), World.cell?_alloc_at _ _ _ _ (by simp)]; rfl)
  have cc5 : ((w.alloc (.cells #[.int .i64 c.k0, .int .i64 c.k1, .int .i64 c.k2, .int .i64 c.a0, .int .i64 c.a1, .int .i64 c.a2, .slice c.ta c.tl c.tc, .int .i64 c.per, .int .i64 c.ret, .int .i64 c.age, .int .i64 c.dead] 25)).alloc (.cells #[.bool false, .bool false, .bool false] 38)).cell? ⟨w.heap.size, 5, none⟩ = some (.int .i64 c.a2) := by first | (simp; done) | (rw [World.cell?_alloc_at _ _ _ _ (by simp)]; rfl) | (rw [World.cell?_alloc_past _ _ _ (by simp <;> omega), World.cell?_alloc_at _ _ _ _ (by simp)]; rfl) | (rw [World.cell?_alloc_past _ _ _ (by simp <;> omega), World.cell?_alloc_past _ _ _ (by simp <;> omega), World.cell?_alloc_at _ _ _ _ (by simp)]; rfl)
  have cc6 : ((w.alloc (.cells #[.int .i64 c.k0, .int .i64 c.k1, .int .i64 c.k2, .int .i64 c.a0, .int .i64 c.a1, .int .i64 c.a2, .slice c.ta c.tl c.tc, .int .i64 c.per, .int .i64 c.ret, .int .i64 c.age, .int .i64 c.dead] 25)).alloc (.cells #[.bool false, .bool false, .bool false] 38)).cell? ⟨w.heap.size, 6, none⟩ = some (.slice c.ta c.tl c.tc) := by first | (simp; done) | (rw [World.cell?_alloc_at _ _ _ _ (by simp)]; rfl) | (rw [World.cell?_alloc_past _ _ _ (by simp <;> omega), World.cell?_alloc_at _ _ _ _ (by simp)]; rfl) | (rw [World.cell?_alloc_past _ _ _ (by simp <;> omega), World.cell?_alloc_past _ _ _ (by simp <;> omega), World.cell?_alloc_at _ _ _ _ (by simp)]; rfl)
  have cc7 : ((w.alloc (.cells #[.int .i64 c.k0, .int .i64 c.k1, .int .i64 c.k2, .int .i64 c.a0, .int .i64 c.a1, .int .i64 c.a2, .slice c.ta c.tl c.tc, .int .i64 c.per, .int .i64 c.ret, .int .i64 c.age, .int .i64 c.dead] 25)).alloc (.cells #[.bool false, .bool false, .bool false] 38)).cell? ⟨w.heap.size, 7, none⟩ = some (.int .i64 c.per) := by first | (simp; done) | (rw [World.cell?_alloc_at _ _ _ _ (by simp)]; rfl) | (rw [World.cell?_alloc_past _ _ _ (by simp <;> omega), World.cell?_alloc_at _ _ _ _ (by simp)]; rfl) | (rw [World.cell?_alloc_past _ _ _ (by simp <;> omega), World.cell?_alloc_past _ _ _ (by simp <;> omega), World.cell?_alloc_at _ _ _ _ (by simp)]; rfl)
  have cc8 : ((w.alloc (.cells #[.int .i64 c.k0, .int .i64 c.k1, .int .i64 c.k2, .int .i64 c.a0, .int .i64 c.a1, .int .i64 c.a2, .slice c.ta c.tl c.tc, .int .i64 c.per, .int .i64 c.ret, .int .i64 c.age, .int .i64 c.dead] 25)).alloc (.cells #[.bool false, .bool false, .bool false] 38)).cell? ⟨w.heap.size, 8, none⟩ = some (.int .i64 c.ret) := by first | (simp; done) | (rw [World.cell?_alloc_at _ _ _ _ (by simp)]; rfl) | (rw [World.cell?_alloc_past _ _ _ (by simp <;> omega), World.cell?_alloc_at _ _ _ _ (by simp)]; rfl) | (rw [World.cell?_alloc_past _ _ _ (by simp <;> omega), World.cell?_alloc_past _ _ _ (by simp <;> omega), World.cell?_alloc_at _ _ _ _ (by simp)]; rfl)
  have cc9 : ((w.alloc (.cells #[.int .i64 c.k0, .int .i64 c.k1, .int .i64 c.k2, .int .i64 c.a0, .int .i64 c.a1, .int .i64 c.a2, .slice c.ta c.tl c.tc, .int .i64 c.per, .int .i64 c.ret, .int .i64 c.age, .int .i64 c.dead] 25)).alloc (.cells #[.bool false, .bool false, .bool false] 38)).cell? ⟨w.heap.size, 9, none⟩ = some (.int .i64 c.age) := by first | (simp; done) | (rw [World.cell?_alloc_at _ _ _ _ (by simp)]; rfl) | (rw [World.cell?_alloc_past _ _ _ (by simp <;> omega), World.cell?_alloc_at _ _ _ _ (by simp)]; rfl) | (rw [World.cell?_alloc_past _ _ _ (by simp <;> omega), World.cell?_alloc_past _ _ _ (by simp <;> omega), World.cell?_alloc_at _ _ _ _ (by simp)]; rfl)
  have cc10 : ((w.alloc (.cells #[.int .i64 c.k0, .int .i64 c.k1, .int .i64 c.k2, .int .i64 c.a0, .int .i64 c.a1, .int .i64 c.a2, .slice c.ta c.tl c.tc, .int .i64 c.per, .int .i64 c.ret, .int .i64 c.age, .int .i64 c.dead] 25)).alloc (.cells #[.bool false, .bool false, .bool false] 38)).cell? ⟨w.heap.size, 10, none⟩ = some (.int .i64 c.dead) := by first | (simp; done) | (rw [World.cell?_alloc_at _ _ _ _ (by simp)]; rfl) | (rw [World.cell?_alloc_past _ _ _ (by simp <;> omega), World.cell?_alloc_at _ _ _ _ (by simp)]; rfl) | (rw [World.cell?_alloc_past _ _ _ (by simp <;> omega), World.cell?_alloc_past _ _ _ (by simp <;> omega), World.cell?_alloc_at _ _ _ _ (by simp)]; rfl)
  have rr0 : ((w.alloc (.cells #[.int .i64 c.k0, .int .i64 c.k1, .int .i64 c.k2, .int .i64 c.a0, .int .i64 c.a1, .int .i64 c.a2, .slice c.ta c.tl c.tc, .int .i64 c.per, .int .i64 c.ret, .int .i64 c.age, .int .i64 c.dead] 25)).alloc (.cells #[.bool false, .bool false, .bool false] 38)).cell? ⟨w.heap.size + 1, 0, none⟩ = some (.bool false) := by first | (simp; done) | (rw [World.cell?_alloc_at _ _ _ _ (by simp)]; rfl) | (rw [World.cell?_alloc_past _ _ _ (by simp <;> omega), World.cell?_alloc_at _ _ _ _ (by simp)]; rfl) | (rw [World.cell?_alloc_past _ _ _ (by simp <;> omega), World.cell?_alloc_past _ _ _ (by simp <;> omega), World.cell?_alloc_at _ _ _ _ (by simp)]; rfl)
  have rr1 : ((w.alloc (.cells #[.int .i64 c.k0, .int .i64 c.k1, .int .i64 c.k2, .int .i64 c.a0, .int .i64 c.a1, .int .i64 c.a2, .slice c.ta c.tl c.tc, .int .i64 c.per, .int .i64 c.ret, .int .i64 c.age, .int .i64 c.dead] 25)).alloc (.cells #[.bool false, .bool false, .bool false] 38)).cell? ⟨w.heap.size + 1, 1, none⟩ = some (.bool false) := by first | (simp; done) | (rw [World.cell?_alloc_at _ _ _ _ (by simp)]; rfl) | (rw [World.cell?_alloc_past _ _ _ (by simp <;> omega), World.cell?_alloc_at _ _ _ _ (by simp)]; rfl) | (rw [World.cell?_alloc_past _ _ _ (by simp <;> omega), World.cell?_alloc_past _ _ _ (by simp <;> omega), World.cell?_alloc_at _ _ _ _ (by simp)]; rfl)
  have rr2 : ((w.alloc (.cells #[.int .i64 c.k0, .int .i64 c.k1, .int .i64 c.k2, .int .i64 c.a0, .int .i64 c.a1, .int .i64 c.a2, .slice c.ta c.tl c.tc, .int .i64 c.per, .int .i64 c.ret, .int .i64 c.age, .int .i64 c.dead] 25)).alloc (.cells #[.bool false, .bool false, .bool false] 38)).cell? ⟨w.heap.size + 1, 2, none⟩ = some (.bool false) := by first | (simp; done) | (rw [World.cell?_alloc_at _ _ _ _ (by simp)]; rfl) | (rw [World.cell?_alloc_past _ _ _ (by simp <;> omega), World.cell?_alloc_at _ _ _ _ (by simp)]; rfl) | (rw [World.cell?_alloc_past _ _ _ (by simp <;> omega), World.cell?_alloc_past _ _ _ (by simp <;> omega), World.cell?_alloc_at _ _ _ _ (by simp)]; rfl)
  have hb2 := (by repeat (first | exact hbel | refine belAlloc ?_ _ | refine belDrew ?_ | refine belSet ?_ _ _ (by simp)) : Below w.heap.size w ((w.alloc (.cells #[.int .i64 c.k0, .int .i64 c.k1, .int .i64 c.k2, .int .i64 c.a0, .int .i64 c.a1, .int .i64 c.a2, .slice c.ta c.tl c.tc, .int .i64 c.per, .int .i64 c.ret, .int .i64 c.age, .int .i64 c.dead] 25)).alloc (.cells #[.bool false, .bool false, .bool false] 38)))
  replace hw := belStep hw hb2
  have rrB : Blk ((w.alloc (.cells #[.int .i64 c.k0, .int .i64 c.k1, .int .i64 c.k2, .int .i64 c.a0, .int .i64 c.a1, .int .i64 c.a2, .slice c.ta c.tl c.tc, .int .i64 c.per, .int .i64 c.ret, .int .i64 c.age, .int .i64 c.dead] 25)).alloc (.cells #[.bool false, .bool false, .bool false] 38)) (w.heap.size + 1) [.bool false, .bool false, .bool false] 38 := (Blk.at (by simp) : Blk ((w.alloc (.cells #[.int .i64 c.k0, .int .i64 c.k1, .int .i64 c.k2, .int .i64 c.a0, .int .i64 c.a1, .int .i64 c.a2, .slice c.ta c.tl c.tc, .int .i64 c.per, .int .i64 c.ret, .int .i64 c.age, .int .i64 c.dead] 25)).alloc (.cells #[.bool false, .bool false, .bool false] 38)) (w.heap.size + 1) [.bool false, .bool false, .bool false] 38).later (by repeat (first | exact Below.refl _ _ | refine belAlloc ?_ _))
  have rrF := Blk.keepF rrB
  replace rrB := Blk.keepB rrB
  clear hb2 hbel
  generalize (w.alloc (.cells #[.int .i64 c.k0, .int .i64 c.k1, .int .i64 c.k2, .int .i64 c.a0, .int .i64 c.a1, .int .i64 c.a2, .slice c.ta c.tl c.tc, .int .i64 c.per, .int .i64 c.ret, .int .i64 c.age, .int .i64 c.dead] 25)).alloc (.cells #[.bool false, .bool false, .bool false] 38) = W1 at *
  replace cc0 := keep cc0
  replace cc1 := keep cc1
  replace cc2 := keep cc2
  replace cc3 := keep cc3
  replace cc4 := keep cc4
  replace cc5 := keep cc5
  replace cc6 := keep cc6
  replace cc7 := keep cc7
  replace cc8 := keep cc8
  replace cc9 := keep cc9
  replace cc10 := keep cc10
  replace rr0 := keep rr0
  replace rr1 := keep rr1
  replace rr2 := keep rr2
  have hbel : Below W1.heap.size W1 W1 := Below.refl _ _
  skip
  have HCW := Lib.hid (HC.out.later hw)
  have HLW := Lib.hid (HLB.out.later hw)
  have HSZ := Lib.hid hw.size
  have HRR := Lib.hid (rrB W1 hbel)
  have HLT := Lib.hid (show w.heap.size + 1 < W1.heap.size from HRR.out.lt)
  have HW := Lib.hid hw
  clear hw HC HLB rrF rrB rr0 rr1 rr2
  go_wp2
  have HB1 := Lib.hid (belAlloc (Below.refl W1.heap.size W1) (.cells #[.bool false, .bool false, .bool false] 38))
  have HK1 := Lib.hid (Blk.new W1 [.bool false, .bool false, .bool false] 38)
  clear hbel
  go_loopw [11] (fun i wr => ∃ k : Nat, k ≤ c.tl ∧ i = .int .i64 k ∧ Blk wr W1.heap.size [.bool (sgB c l k 0), .bool (sgB c l k 1), .bool (sgB c l k 2)] 38 ∧ Below W1.heap.size W1 wr) (fun i _ => c.tl - (intOf i).toNat)
  case atStart => exact ⟨0, by omega, rfl, by exact HK1.out, HB1.out⟩
  case round =>
    obtain ⟨k, hk, rfl, hblk, hbel⟩ := hrel
    have HB := Lib.hid hbel
    by_cases hlt : k < c.tl
    · obtain ⟨t, hti, htr, hto, b, off, hta, hbb, x0, x1, x2, x3, x4⟩ := (HCW.out.later HB.out).at hlt
      obtain ⟨lb, lo, rfl, hlb, hlx⟩ := (HLW.out.later HB.out).opened (by omega)
      have l0 := hlx k hlt
      have hki : (k : Int) < (c.tl : Int) := by omega
      have n0 := sgB_next (l := l) hti (by rw [HLL.out]; exact hlt) 0
      have n1 := sgB_next (l := l) hti (by rw [HLL.out]; exact hlt) 1
      have n2 := sgB_next (l := l) hti (by rw [HLL.out]; exact hlt) 2
      have CR := Lib.hid (fun u => thr_Right t u htr)
      obtain ⟨⟨g0, g1⟩, _, _⟩ := ThrV.facts htr
      have hcl := cc6 _ hbel
      simp only [hta] at hcl ⊢
      obtain ⟨p0, e0⟩ : ∃ p, sgB c l k 0 = p := ⟨_, rfl⟩
      obtain ⟨p1, e1⟩ : ∃ p, sgB c l k 1 = p := ⟨_, rfl⟩
      obtain ⟨p2, e2⟩ : ∃ p, sgB c l k 2 = p := ⟨_, rfl⟩
      rw [e0] at hblk n0
      rw [e1] at hblk n1
      rw [e2] at hblk n2
      have m0 := hblk.cell (j := 0) rfl
      have m1 := hblk.cell (j := 1) rfl
      have m2 := hblk.cell (j := 2) rfl
      have mf := hblk.frozen
      have hltM : W1.heap.size < wr.heap.size := hblk.lt
      have HK := Lib.hid hblk
      generalize bl l k = lk at *
      obtain ⟨tg, tp, tm, ts, tgr⟩ := t
      simp only at g0 g1 n0 n1 n2 x0 x1 x2 x3 x4 CR
      clear hti htr hto hlx e0 e1 e2 hblk
      rcases Bool.eq_false_or_eq_true lk with rfl | rfl
      · have hsg : tg = 0 ∨ tg = 1 ∨ tg = 2 := by omega
        clear g0 g1
        rcases hsg with rfl | rfl | rfl
        · have N0 := Lib.hid (show sgB c l (k + 1) 0 = true by rw [n0]; cases p0 <;> rfl)
          have N1 := Lib.hid (show sgB c l (k + 1) 1 = p1 by rw [n1]; cases p1 <;> rfl)
          have N2 := Lib.hid (show sgB c l (k + 1) 2 = p2 by rw [n2]; cases p2 <;> rfl)
          clear n0 n1 n2
          go_wp2_with (first | (go_at_call 31; (with_reducible refine (CR.out _).mono ?_); rintro e w3 ⟨rfl, hb3⟩; have hB3 := belStep (belAlloc (Below.refl wr.heap.size wr) (.cells #[.int .i64 0, .int .i64 tp, .int .i64 tm, .bool ts, .int .i64 tgr] 47)) hb3; have hK3 := HK.out.later hB3; have HK3 := Lib.hid hK3; have m0 := hK3.cell (j := 0) rfl; have m1 := hK3.cell (j := 1) rfl; have m2 := hK3.cell (j := 2) rfl; have mf := hK3.frozen; have y0 := (Blk.later (Blk.new wr [.int .i64 0, .int .i64 tp, .int .i64 tm, .bool ts, .int .i64 tgr] 47) hb3).cell (j := 0) rfl; have HB3 := Lib.hid (belStep HB.out hB3); replace hbel := HB3.out; clear hb3 hB3 hK3))
          go_roundw
          case rel => exact ⟨k + 1, by omega, by push_cast; rfl, by rw [N0.out, N1.out, N2.out]; exact HK3.out.set 0 (.bool true), HB3.out.setCell (Nat.le_refl _) _⟩
          case measure => simp [intOf] <;> omega
        · have N0 := Lib.hid (show sgB c l (k + 1) 0 = p0 by rw [n0]; cases p0 <;> rfl)
          have N1 := Lib.hid (show sgB c l (k + 1) 1 = true by rw [n1]; cases p1 <;> rfl)
          have N2 := Lib.hid (show sgB c l (k + 1) 2 = p2 by rw [n2]; cases p2 <;> rfl)
          clear n0 n1 n2
          go_wp2_with (first | (go_at_call 31; (with_reducible refine (CR.out _).mono ?_); rintro e w3 ⟨rfl, hb3⟩; have hB3 := belStep (belAlloc (Below.refl wr.heap.size wr) (.cells #[.int .i64 1, .int .i64 tp, .int .i64 tm, .bool ts, .int .i64 tgr] 47)) hb3; have hK3 := HK.out.later hB3; have HK3 := Lib.hid hK3; have m0 := hK3.cell (j := 0) rfl; have m1 := hK3.cell (j := 1) rfl; have m2 := hK3.cell (j := 2) rfl; have mf := hK3.frozen; have y0 := (Blk.later (Blk.new wr [.int .i64 1, .int .i64 tp, .int .i64 tm, .bool ts, .int .i64 tgr] 47) hb3).cell (j := 0) rfl; have HB3 := Lib.hid (belStep HB.out hB3); replace hbel := HB3.out; clear hb3 hB3 hK3))
          go_roundw
          case rel => exact ⟨k + 1, by omega, by push_cast; rfl, by rw [N0.out, N1.out, N2.out]; exact HK3.out.set 1 (.bool true), HB3.out.setCell (Nat.le_refl _) _⟩
          case measure => simp [intOf] <;> omega
        · have N0 := Lib.hid (show sgB c l (k + 1) 0 = p0 by rw [n0]; cases p0 <;> rfl)
          have N1 := Lib.hid (show sgB c l (k + 1) 1 = p1 by rw [n1]; cases p1 <;> rfl)
          have N2 := Lib.hid (show sgB c l (k + 1) 2 = true by rw [n2]; cases p2 <;> rfl)
          clear n0 n1 n2
          go_wp2_with (first | (go_at_call 31; (with_reducible refine (CR.out _).mono ?_); rintro e w3 ⟨rfl, hb3⟩; have hB3 := belStep (belAlloc (Below.refl wr.heap.size wr) (.cells #[.int .i64 2, .int .i64 tp, .int .i64 tm, .bool ts, .int .i64 tgr] 47)) hb3; have hK3 := HK.out.later hB3; have HK3 := Lib.hid hK3; have m0 := hK3.cell (j := 0) rfl; have m1 := hK3.cell (j := 1) rfl; have m2 := hK3.cell (j := 2) rfl; have mf := hK3.frozen; have y0 := (Blk.later (Blk.new wr [.int .i64 2, .int .i64 tp, .int .i64 tm, .bool ts, .int .i64 tgr] 47) hb3).cell (j := 0) rfl; have HB3 := Lib.hid (belStep HB.out hB3); replace hbel := HB3.out; clear hb3 hB3 hK3))
          go_roundw
          case rel => exact ⟨k + 1, by omega, by push_cast; rfl, by rw [N0.out, N1.out, N2.out]; exact HK3.out.set 2 (.bool true), HB3.out.setCell (Nat.le_refl _) _⟩
          case measure => simp [intOf] <;> omega
      · have N0 := Lib.hid (show sgB c l (k + 1) 0 = p0 by rw [n0]; cases p0 <;> rfl)
        have N1 := Lib.hid (show sgB c l (k + 1) 1 = p1 by rw [n1]; cases p1 <;> rfl)
        have N2 := Lib.hid (show sgB c l (k + 1) 2 = p2 by rw [n2]; cases p2 <;> rfl)
        clear n0 n1 n2
        go_wp2
        go_roundw
        case rel => exact ⟨k + 1, by omega, by push_cast; rfl, by rw [N0.out, N1.out, N2.out]; exact HK.out.later (belAlloc (Below.refl wr.heap.size wr) _), HB.out.alloc HB.out.size _⟩
        case measure => simp [intOf] <;> omega
    · obtain rfl : k = c.tl := by omega
      have hki : ¬ (c.tl : Int) < (c.tl : Int) := by omega
      obtain ⟨p0, e0⟩ : ∃ p, sgB c l c.tl 0 = p := ⟨_, rfl⟩
      obtain ⟨p1, e1⟩ : ∃ p, sgB c l c.tl 1 = p := ⟨_, rfl⟩
      obtain ⟨p2, e2⟩ : ∃ p, sgB c l c.tl 2 = p := ⟨_, rfl⟩
      rw [e0, e1, e2] at hblk
      have E := Lib.hid (And.intro e0 (And.intro e1 e2))
      have m0 := hblk.cell (j := 0) rfl
      have m1 := hblk.cell (j := 1) rfl
      have m2 := hblk.cell (j := 2) rfl
      have hrr := HRR.out.below HB.out HLT.out
      have z0 := hrr.cell (j := 0) rfl
      have z1 := hrr.cell (j := 1) rfl
      have z2 := hrr.cell (j := 2) rfl
      have zf := hrr.frozen
      have HRQ := Lib.hid hrr
      clear hblk hrr e0 e1 e2
      go_wp2
      exact gr_Signals_ret w _ (w.heap.size + 1) _ p0 p1 p2 _ rfl (((HRQ.out.set 0 (.bool p0)).set 1 (.bool p1)).set 2 (.bool p2)) ⟨by rw [E.out.1, E.out.2.1, E.out.2.2], belSet (belSet (belSet (HW.out.trans (HB.out.mono HSZ.out)) _ _ (Nat.le_succ _)) _ _ (Nat.le_succ _)) _ _ (Nat.le_succ _)⟩
set_option maxRecDepth 100000 in
set_option maxHeartbeats 8000000 in
theorem ref_Signals_ret (w W : World) (M : Nat) (tm : Array Value) (a b c : Bool) (R : Ending → World → Prop) (h2 : tm.getD 4 undef = .pointer (some ⟨M, 0, none⟩)) (hb : Blk W M [.bool a, .bool b, .bool c] 38) (hR : R (.returned (.agg #[.bool a, .bool b, .bool c])) W) :
    bodyPost Try.prog Try.f23 R Exit.ret { tmps := tm, defers := [] } W := by
  have z0 := hb.cell (j := 0) rfl
  have z1 := hb.cell (j := 1) rfl
  have z2 := hb.cell (j := 2) rfl
  refine bodyPost_ret (v := .agg #[.bool a, .bool b, .bool c]) ?_ rfl hR
  simp only [Array.getD_eq_getD_getElem?] at h2
  simp [results, Try.results23, go_sem, h2, z0, z1, z2]
set_option maxRecDepth 100000 in
set_option maxHeartbeats 8000000 in
theorem ref_Signals (c : CfgV) (la : Option Addr) (lc : Nat) (l : List Bool) (w : World) (hc : Good c w) (hl : Bools w la c.tl lc l) : Calls Try.prog 23 #[.agg #[.int .i64 c.k0, .int .i64 c.k1, .int .i64 c.k2, .int .i64 c.a0, .int .i64 c.a1, .int .i64 c.a2, .slice c.ta c.tl c.tc, .int .i64 c.per, .int .i64 c.ret, .int .i64 c.age, .int .i64 c.dead], .slice la c.tl lc] w fun e w' => e = .returned (.agg #[.bool (sgB c l c.tl 0), .bool (sgB c l c.tl 1), .bool (sgB c l c.tl 2)]) ∧ Below w.heap.size w w' := by
  have hw : Below w.heap.size w w := Below.refl _ _
  have hbel := hw
  have hfew := hc.few
  obtain ⟨hbd1, hbd2⟩ := hc.bd
  obtain ⟨hll, hlc1, hlc2⟩ := hl.bounds
  have HLL := Lib.hid hll
  have HC := Lib.hid hc
  have HLB := Lib.hid hl
  clear hc hl
  go_enter Try.func23, Try.ntmps23
  go_upto_region 1 with fail
  have cc0 : ((w.alloc (.cells #[.int .i64 c.k0, .int .i64 c.k1, .int .i64 c.k2, .int .i64 c.a0, .int .i64 c.a1, .int .i64 c.a2, .slice c.ta c.tl c.tc, .int .i64 c.per, .int .i64 c.ret, .int .i64 c.age, .int .i64 c.dead] 25)).alloc (.cells #[.bool false, .bool false, .bool false] 38)).cell? ⟨w.heap.size, 0, none⟩ = some (.int .i64 c.k0) := by first | (simp; done) | (rw [World.cell?_alloc_at _ _ _ _ (by simp)]; rfl) | (rw [World.cell?_alloc_past _ _ _ (by simp <;> omega), World.cell?_alloc_at _ _ _ _ (by simp)]; rfl) | (rw [World.cell?_alloc_past _ _ _ (by simp <;> omega), World.cell?_alloc_past _ _ _ (by simp <;> omega), World.cell?_alloc_at _ _ _ _ (by simp)]; rfl)
  have cc1 : ((w.alloc (.cells #[.int .i64 c.k0, .int .i64 c.k1, .int .i64 c.k2, .int .i64 c.a0, .int .i64 c.a1, .int .i64 c.a2, .slice c.ta c.tl c.tc, .int .i64 c.per, .int .i64 c.ret, .int .i64 c.age, .int .i64 c.dead] 25)).alloc (.cells #[.bool false, .bool false, .bool false] 38)).cell? ⟨w.heap.size, 1, none⟩ = some (.int .i64 c.k1) := by first | (simp; done) | (rw [World.cell?_alloc_at _ _ _ _ (by simp)]; rfl) | (rw [World.cell?_alloc_past _ _ _ (by simp <;> omega), World.cell?_alloc_at _ _ _ _ (by simp)]; rfl) | (rw [World.cell?_alloc_past _ _ _ (by simp <;> omega), World.cell?_alloc_past _ _ _ (by simp <;> omega), World.cell?_alloc_at _ _ _ _ (by simp)]; rfl)
  have cc2 : ((w.alloc (.cells #[.int .i64 c.k0, .int .i64 c.k1, .int .i64 c.k2, .int .i64 c.a0, .int .i64 c.a1, .int .i64 c.a2, .slice c.ta c.tl c.tc, .int .i64 c.per, .int .i64 c.ret, .int .i64 c.age, .int .i64 c.dead] 25)).alloc (.cells #[.bool false, .bool false, .bool false] 38)).cell? ⟨w.heap.size, 2, none⟩ = some (.int .i64 c.k2) := by first | (simp; done) | (rw [World.cell?_alloc_at _ _ _ _ (by simp)]; rfl) | (rw [World.cell?_alloc_past _ _ _ (by simp <;> omega), World.cell?_alloc_at _ _ _ _ (by simp)]; rfl) | (rw [World.cell?_alloc_past _ _ _ (by simp <;> omega), World.cell?_alloc_past _ _ _ (by simp <;> omega), World.cell?_alloc_at _ _ _ _ (by simp)]; rfl)
  have cc3 : ((w.alloc (.cells #[.int .i64 c.k0, .int .i64 c.k1, .int .i64 c.k2, .int .i64 c.a0, .int .i64 c.a1, .int .i64 c.a2, .slice c.ta c.tl c.tc, .int .i64 c.per, .int .i64 c.ret, .int .i64 c.age, .int .i64 c.dead] 25)).alloc (.cells #[.bool false, .bool false, .bool false] 38)).cell? ⟨w.heap.size, 3, none⟩ = some (.int .i64 c.a0) := by first | (simp; done) | (rw [World.cell?_alloc_at _ _ _ _ (by simp)]; rfl) | (rw [World.cell?_alloc_past _ _ _ (by simp <;> omega), World.cell?_alloc_at _ _ _ _ (by simp)]; rfl) | (rw [World.cell?_alloc_past _ _ _ (by simp <;> omega), World.cell?_alloc_past _ _ _ (by simp <;> omega), World.cell?_alloc_at _ _ _ _ (by simp)]; rfl)
  have cc4 : ((w.alloc (.cells #[.int .i64 c.k0, .int .i64 c.k1, .int .i64 c.k2, .int .i64 c.a0, .int .i64 c.a1, .int .i64 c.a2, .slice c.ta c.tl c.tc, .int .i64 c.per, .int .i64 c.ret, .int .i64 c.age, .int .i64 c.dead] 25)).alloc (.cells #[.bool false, .bool false, .bool false] 38)).cell? ⟨w.heap.size, 4, none⟩ = some (.int .i64 c.a1) := by first | (simp; done) | (rw [World.cell?_alloc_at _ _ _ _ (by simp)]; rfl) | (rw [World.cell?_alloc_past _ _ _ (by simp <;> omega), World.cell?_alloc_at _ _ _ _ (by simp)]; rfl) | (rw [World.cell?_alloc_past _ _ _ (by simp <;> omega), World.cell?_alloc_past _ _ _ (by simp <;> omega), World.cell?_alloc_at _ _ _ _ (by simp)]; rfl)
  have cc5 : ((w.alloc (.cells #[.int .i64 c.k0, .int .i64 c.k1, .int .i64 c.k2, .int .i64 c.a0, .int .i64 c.a1, .int .i64 c.a2, .slice c.ta c.tl c.tc, .int .i64 c.per, .int .i64 c.ret, .int .i64 c.age, .int .i64 c.dead] 25)).alloc (.cells #[.bool false, .bool false, .bool false] 38)).cell? ⟨w.heap.size, 5, none⟩ = some (.int .i64 c.a2) := by first | (simp; done) | (rw [World.cell?_alloc_at _ _ _ _ (by simp)]; rfl) | (rw [World.cell?_alloc_past _ _ _ (by simp <;> omega), World.cell?_alloc_at _ _ _ _ (by simp)]; rfl) | (rw [World.cell?_alloc_past _ _ _ (by simp <;> omega), World.cell?_alloc_past _ _ _ (by simp <;> omega), World.cell?_alloc_at _ _ _ _ (by simp)]; rfl)
  have cc6 : ((w.alloc (.cells #[.int .i64 c.k0, .int .i64 c.k1, .int .i64 c.k2, .int .i64 c.a0, .int .i64 c.a1, .int .i64 c.a2, .slice c.ta c.tl c.tc, .int .i64 c.per, .int .i64 c.ret, .int .i64 c.age, .int .i64 c.dead] 25)).alloc (.cells #[.bool false, .bool false, .bool false] 38)).cell? ⟨w.heap.size, 6, none⟩ = some (.slice c.ta c.tl c.tc) := by first | (simp; done) | (rw [World.cell?_alloc_at _ _ _ _ (by simp)]; rfl) | (rw [World.cell?_alloc_past _ _ _ (by simp <;> omega), World.cell?_alloc_at _ _ _ _ (by simp)]; rfl) | (rw [World.cell?_alloc_past _ _ _ (by simp <;> omega), World.cell?_alloc_past _ _ _ (by simp <;> omega), World.cell?_alloc_at _ _ _ _ (by simp)]; rfl)
  have cc7 : ((w.alloc (.cells #[.int .i64 c.k0, .int .i64 c.k1, .int .i64 c.k2, .int .i64 c.a0, .int .i64 c.a1, .int .i64 c.a2, .slice c.ta c.tl c.tc, .int .i64 c.per, .int .i64 c.ret, .int .i64 c.age, .int .i64 c.dead] 25)).alloc (.cells #[.bool false, .bool false, .bool false] 38)).cell? ⟨w.heap.size, 7, none⟩ = some (.int .i64 c.per) := by first | (simp; done) | (rw [World.cell?_alloc_at _ _ _ _ (by simp)]; rfl) | (rw [World.cell?_alloc_past _ _ _ (by simp <;> omega), World.cell?_alloc_at _ _ _ _ (by simp)]; rfl) | (rw [World.cell?_alloc_past _ _ _ (by simp <;> omega), World.cell?_alloc_past _ _ _ (by simp <;> omega), World.cell?_alloc_at _ _ _ _ (by simp)]; rfl)
  have cc8 : ((w.alloc (.cells #[.int .i64 c.k0, .int .i64 c.k1, .int .i64 c.k2, .int .i64 c.a0, .int .i64 c.a1, .int .i64 c.a2, .slice c.ta c.tl c.tc, .int .i64 c.per, .int .i64 c.ret, .int .i64 c.age, .int .i64 c.dead] 25)).alloc (.cells #[.bool false, .bool false, .bool false] 38)).cell? ⟨w.heap.size, 8, none⟩ = some (.int .i64 c.ret) := by first | (simp; done) | (rw [World.cell?_alloc_at _ _ _ _ (by simp)]; rfl) | (rw [World.cell?_alloc_past _ _ _ (by simp <;> omega), World.cell?_alloc_at _ _ _ _ (by simp)]; rfl) | (rw [World.cell?_alloc_past _ _ _ (by simp <;> omega), World.cell?_alloc_past _ _ _ (by simp <;> omega), World.cell?_alloc_at _ _ _ _ (by simp)]; rfl)
  have cc9 : ((w.alloc (.cells #[.int .i64 c.k0, .int .i64 c.k1, .int .i64 c.k2, .int .i64 c.a0, .int .i64 c.a1, .int .i64 c.a2, .slice c.ta c.tl c.tc, .int .i64 c.per, .int .i64 c.ret, .int .i64 c.age, .int .i64 c.dead] 25)).alloc (.cells #[.bool false, .bool false, .bool false] 38)).cell? ⟨w.heap.size, 9, none⟩ = some (.int .i64 c.age) := by first | (simp; done) | (rw [World.cell?_alloc_at _ _ _ _ (by simp)]; rfl) | (rw [World.cell?_alloc_past _ _ _ (by simp <;> omega), World.cell?_alloc_at _ _ _ _ (by simp)]; rfl) | (rw [World.cell?_alloc_past _ _ _ (by simp <;> omega), World.cell?_alloc_past _ _ _ (by simp <;> omega), World.cell?_alloc_at _ _ _ _ (by simp)]; rfl)
  have cc10 : ((w.alloc (.cells #[.int .i64 c.k0, .int .i64 c.k1, .int .i64 c.k2, .int .i64 c.a0, .int .i64 c.a1, .int .i64 c.a2, .slice c.ta c.tl c.tc, .int .i64 c.per, .int .i64 c.ret, .int .i64 c.age, .int .i64 c.dead] 25)).alloc (.cells #[.bool false, .bool false, .bool false] 38)).cell? ⟨w.heap.size, 10, none⟩ = some (.int .i64 c.dead) := by first | (simp; done) | (rw [World.cell?_alloc_at _ _ _ _ (by simp)]; rfl) | (rw [World.cell?_alloc_past _ _ _ (by simp <;> omega), World.cell?_alloc_at _ _ _ _ (by simp)]; rfl) | (rw [World.cell?_alloc_past _ _ _ (by simp <;> omega), World.cell?_alloc_past _ _ _ (by simp <;> omega), World.cell?_alloc_at _ _ _ _ (by simp)]; rfl)
  have rr0 : ((w.alloc (.cells #[.int .i64 c.k0, .int .i64 c.k1, .int .i64 c.k2, .int .i64 c.a0, .int .i64 c.a1, .int .i64 c.a2, .slice c.ta c.tl c.tc, .int .i64 c.per, .int .i64 c.ret, .int .i64 c.age, .int .i64 c.dead] 25)).alloc (.cells #[.bool false, .bool false, .bool false] 38)).cell? ⟨w.heap.size + 1, 0, none⟩ = some (.bool false) := by first | (simp; done) | (rw [World.cell?_alloc_at _ _ _ _ (by simp)]; rfl) | (rw [World.cell?_alloc_past _ _ _ (by simp <;> omega), World.cell?_alloc_at _ _ _ _ (by simp)]; rfl) | (rw [World.cell?_alloc_past _ _ _ (by simp <;> omega), World.cell?_alloc_past _ _ _ (by simp <;> omega), World.cell?_alloc_at _ _ _ _ (by simp)]; rfl)
  have rr1 : ((w.alloc (.cells #[.int .i64 c.k0, .int .i64 c.k1, .int .i64 c.k2, .int .i64 c.a0, .int .i64 c.a1, .int .i64 c.a2, .slice c.ta c.tl c.tc, .int .i64 c.per, .int .i64 c.ret, .int .i64 c.age, .int .i64 c.dead] 25)).alloc (.cells #[.bool false, .bool false, .bool false] 38)).cell? ⟨w.heap.size + 1, 1, none⟩ = some (.bool false) := by first | (simp; done) | (rw [World.cell?_alloc_at _ _ _ _ (by simp)]; rfl) | (rw [World.cell?_alloc_past _ _ _ (by simp <;> omega), World.cell?_alloc_at _ _ _ _ (by simp)]; rfl) | (rw [World.cell?_alloc_past _ _ _ (by simp <;> omega), World.cell?_alloc_past _ _ _ (by simp <;> omega), World.cell?_alloc_at _ _ _ _ (by simp)]; rfl)
  have rr2 : ((w.alloc (.cells #[.int .i64 c.k0, .int .i64 c.k1, .int .i64 c.k2, .int .i64 c.a0, .int .i64 c.a1, .int .i64 c.a2, .slice c.ta c.tl c.tc, .int .i64 c.per, .int .i64 c.ret, .int .i64 c.age, .int .i64 c.dead] 25)).alloc (.cells #[.bool false, .bool false, .bool false] 38)).cell? ⟨w.heap.size + 1, 2, none⟩ = some (.bool false) := by first | (simp; done) | (rw [World.cell?_alloc_at _ _ _ _ (by simp)]; rfl) | (rw [World.cell?_alloc_past _ _ _ (by simp <;> omega), World.cell?_alloc_at _ _ _ _ (by simp)]; rfl) | (rw [World.cell?_alloc_past _ _ _ (by simp <;> omega), World.cell?_alloc_past _ _ _ (by simp <;> omega), World.cell?_alloc_at _ _ _ _ (by simp)]; rfl)
  have hb2 := (by repeat (first | exact hbel | refine belAlloc ?_ _ | refine belDrew ?_ | refine belSet ?_ _ _ (by simp)) : Below w.heap.size w ((w.alloc (.cells #[.int .i64 c.k0, .int .i64 c.k1, .int .i64 c.k2, .int .i64 c.a0, .int .i64 c.a1, .int .i64 c.a2, .slice c.ta c.tl c.tc, .int .i64 c.per, .int .i64 c.ret, .int .i64 c.age, .int .i64 c.dead] 25)).alloc (.cells #[.bool false, .bool false, .bool false] 38)))
  replace hw := belStep hw hb2
  have rrB : Blk ((w.alloc (.cells #[.int .i64 c.k0, .int .i64 c.k1, .int .i64 c.k2, .int .i64 c.a0, .int .i64 c.a1, .int .i64 c.a2, .slice c.ta c.tl c.tc, .int .i64 c.per, .int .i64 c.ret, .int .i64 c.age, .int .i64 c.dead] 25)).alloc (.cells #[.bool false, .bool false, .bool false] 38)) (w.heap.size + 1) [.bool false, .bool false, .bool false] 38 := (Blk.at (by simp) : Blk ((w.alloc (.cells #[.int .i64 c.k0, .int .i64 c.k1, .int .i64 c.k2, .int .i64 c.a0, .int .i64 c.a1, .int .i64 c.a2, .slice c.ta c.tl c.tc, .int .i64 c.per, .int .i64 c.ret, .int .i64 c.age, .int .i64 c.dead] 25)).alloc (.cells #[.bool false, .bool false, .bool false] 38)) (w.heap.size + 1) [.bool false, .bool false, .bool false] 38).later (by repeat (first | exact Below.refl _ _ | refine belAlloc ?_ _))
  have rrF := Blk.keepF rrB
  replace rrB := Blk.keepB rrB
  clear hb2 hbel
  generalize (w.alloc (.cells #[.int .i64 c.k0, .int .i64 c.k1, .int .i64 c.k2, .int .i64 c.a0, .int .i64 c.a1, .int .i64 c.a2, .slice c.ta c.tl c.tc, .int .i64 c.per, .int .i64 c.ret, .int .i64 c.age, .int .i64 c.dead] 25)).alloc (.cells #[.bool false, .bool false, .bool false] 38) = W1 at *
  replace cc0 := keep cc0
  replace cc1 := keep cc1
  replace cc2 := keep cc2
  replace cc3 := keep cc3
  replace cc4 := keep cc4
  replace cc5 := keep cc5
  replace cc6 := keep cc6
  replace cc7 := keep cc7
  replace cc8 := keep cc8
  replace cc9 := keep cc9
  replace cc10 := keep cc10
  replace rr0 := keep rr0
  replace rr1 := keep rr1
  replace rr2 := keep rr2
  have hbel : Below W1.heap.size W1 W1 := Below.refl _ _
  skip
  have HCW := Lib.hid (HC.out.later hw)
  have HLW := Lib.hid (HLB.out.later hw)
  have HSZ := Lib.hid hw.size
  have HRR := Lib.hid (rrB W1 hbel)
  have HLT := Lib.hid (show w.heap.size + 1 < W1.heap.size from HRR.out.lt)
  have HW := Lib.hid hw
  clear hw HC HLB rrF rrB rr0 rr1 rr2
  go_wp2
  have HB1 := Lib.hid (belAlloc (Below.refl W1.heap.size W1) (.cells #[.bool false, .bool false, .bool false] 38))
  have HK1 := Lib.hid (Blk.new W1 [.bool false, .bool false, .bool false] 38)
  clear hbel
  go_loopw [6] (fun i wr => ∃ k : Nat, k ≤ c.tl ∧ i = .int .i64 k ∧ Blk wr W1.heap.size [.bool (sgB c l k 0), .bool (sgB c l k 1), .bool (sgB c l k 2)] 38 ∧ Below W1.heap.size W1 wr) (fun i _ => c.tl - (intOf i).toNat)
  case atStart => exact ⟨0, by omega, rfl, by exact HK1.out, HB1.out⟩
  case round =>
    obtain ⟨k, hk, rfl, hblk, hbel⟩ := hrel
    have HB := Lib.hid hbel
    by_cases hlt : k < c.tl
    · obtain ⟨t, hti, htr, hto, b, off, hta, hbb, x0, x1, x2, x3, x4⟩ := (HCW.out.later HB.out).at hlt
      obtain ⟨lb, lo, rfl, hlb, hlx⟩ := (HLW.out.later HB.out).opened (by omega)
      have l0 := hlx k hlt
      have hki : (k : Int) < (c.tl : Int) := by omega
      have n0 := sgB_next (l := l) hti (by rw [HLL.out]; exact hlt) 0
      have n1 := sgB_next (l := l) hti (by rw [HLL.out]; exact hlt) 1
      have n2 := sgB_next (l := l) hti (by rw [HLL.out]; exact hlt) 2
      have CR := Lib.hid (fun u => thr_Right t u htr)
      obtain ⟨⟨g0, g1⟩, _, _⟩ := ThrV.facts htr
      have hcl := cc6 _ hbel
      simp only [hta] at hcl ⊢
      obtain ⟨p0, e0⟩ : ∃ p, sgB c l k 0 = p := ⟨_, rfl⟩
      obtain ⟨p1, e1⟩ : ∃ p, sgB c l k 1 = p := ⟨_, rfl⟩
      obtain ⟨p2, e2⟩ : ∃ p, sgB c l k 2 = p := ⟨_, rfl⟩
      rw [e0] at hblk n0
      rw [e1] at hblk n1
      rw [e2] at hblk n2
      have m0 := hblk.cell (j := 0) rfl
      have m1 := hblk.cell (j := 1) rfl
      have m2 := hblk.cell (j := 2) rfl
      have mf := hblk.frozen
      have hltM : W1.heap.size < wr.heap.size := hblk.lt
      have HK := Lib.hid hblk
      generalize bl l k = lk at *
      obtain ⟨tg, tp, tm, ts, tgr⟩ := t
      simp only at g0 g1 n0 n1 n2 x0 x1 x2 x3 x4 CR
      clear hti htr hto hlx e0 e1 e2 hblk
      rcases Bool.eq_false_or_eq_true lk with rfl | rfl
      · have hsg : tg = 0 ∨ tg = 1 ∨ tg = 2 := by omega
        clear g0 g1
        rcases hsg with rfl | rfl | rfl
        · have N0 := Lib.hid (show sgB c l (k + 1) 0 = true by rw [n0]; cases p0 <;> rfl)
          have N1 := Lib.hid (show sgB c l (k + 1) 1 = p1 by rw [n1]; cases p1 <;> rfl)
          have N2 := Lib.hid (show sgB c l (k + 1) 2 = p2 by rw [n2]; cases p2 <;> rfl)
          clear n0 n1 n2
          go_wp2
          go_roundw
          case rel => exact ⟨k + 1, by omega, by push_cast; rfl, by rw [N0.out, N1.out, N2.out]; exact HK.out.set 0 (.bool true), HB.out.setCell (Nat.le_refl _) _⟩
          case measure => simp [intOf] <;> omega
        · have N0 := Lib.hid (show sgB c l (k + 1) 0 = p0 by rw [n0]; cases p0 <;> rfl)
          have N1 := Lib.hid (show sgB c l (k + 1) 1 = true by rw [n1]; cases p1 <;> rfl)
          have N2 := Lib.hid (show sgB c l (k + 1) 2 = p2 by rw [n2]; cases p2 <;> rfl)
          clear n0 n1 n2
          go_wp2
          go_roundw
          case rel => exact ⟨k + 1, by omega, by push_cast; rfl, by rw [N0.out, N1.out, N2.out]; exact HK.out.set 1 (.bool true), HB.out.setCell (Nat.le_refl _) _⟩
          case measure => simp [intOf] <;> omega
        · have N0 := Lib.hid (show sgB c l (k + 1) 0 = p0 by rw [n0]; cases p0 <;> rfl)
          have N1 := Lib.hid (show sgB c l (k + 1) 1 = p1 by rw [n1]; cases p1 <;> rfl)
          have N2 := Lib.hid (show sgB c l (k + 1) 2 = true by rw [n2]; cases p2 <;> rfl)
          clear n0 n1 n2
          go_wp2
          go_roundw
          case rel => exact ⟨k + 1, by omega, by push_cast; rfl, by rw [N0.out, N1.out, N2.out]; exact HK.out.set 2 (.bool true), HB.out.setCell (Nat.le_refl _) _⟩
          case measure => simp [intOf] <;> omega
      · have N0 := Lib.hid (show sgB c l (k + 1) 0 = p0 by rw [n0]; cases p0 <;> rfl)
        have N1 := Lib.hid (show sgB c l (k + 1) 1 = p1 by rw [n1]; cases p1 <;> rfl)
        have N2 := Lib.hid (show sgB c l (k + 1) 2 = p2 by rw [n2]; cases p2 <;> rfl)
        clear n0 n1 n2
        go_wp2
        go_roundw
        case rel => exact ⟨k + 1, by omega, by push_cast; rfl, by rw [N0.out, N1.out, N2.out]; exact HK.out, HB.out⟩
        case measure => simp [intOf] <;> omega
    · obtain rfl : k = c.tl := by omega
      have hki : ¬ (c.tl : Int) < (c.tl : Int) := by omega
      obtain ⟨p0, e0⟩ : ∃ p, sgB c l c.tl 0 = p := ⟨_, rfl⟩
      obtain ⟨p1, e1⟩ : ∃ p, sgB c l c.tl 1 = p := ⟨_, rfl⟩
      obtain ⟨p2, e2⟩ : ∃ p, sgB c l c.tl 2 = p := ⟨_, rfl⟩
      rw [e0, e1, e2] at hblk
      have E := Lib.hid (And.intro e0 (And.intro e1 e2))
      have m0 := hblk.cell (j := 0) rfl
      have m1 := hblk.cell (j := 1) rfl
      have m2 := hblk.cell (j := 2) rfl
      have hrr := HRR.out.below HB.out HLT.out
      have z0 := hrr.cell (j := 0) rfl
      have z1 := hrr.cell (j := 1) rfl
      have z2 := hrr.cell (j := 2) rfl
      have zf := hrr.frozen
      have HRQ := Lib.hid hrr
      clear hblk hrr e0 e1 e2
      go_wp2
      exact ref_Signals_ret w _ (w.heap.size + 1) _ p0 p1 p2 _ rfl (((HRQ.out.set 0 (.bool p0)).set 1 (.bool p1)).set 2 (.bool p2)) ⟨by rw [E.out.1, E.out.2.1, E.out.2.2], belSet (belSet (belSet (HW.out.trans (HB.out.mono HSZ.out)) _ _ (Nat.le_succ _)) _ _ (Nat.le_succ _)) _ _ (Nat.le_succ _)⟩
end Go.Proofs.Ytbancemkajgljaa
