/- BoxRetries holds for every slice of ints, every slice of bools and all numbers of retries. No conditions. -/
import Derived.Test.YthhpkmpaldcloaaAwake14
namespace Go.Proofs.Ythhpkmpaldcloaa.boxRetries
open Go.ChangeShapes Go.WideShapes Go.ChangeAt Go.RowKit
open Go.ChangeMaps (open_string shut_string)
set_option linter.unusedVariables false
set_option linter.unusedSimpArgs false

def brk (lb : List Bool) (r : Int) (l : List Int) : Nat → Bool
  | 0 => false
  | k + 1 => brk lb r l k || ((runB lb r l (k + 1)).1 == 6)

theorem all_well (l : List Int) (k : Nat) : (runB [] 0 l k).1 ≠ 6 ∧ (runB [] 0 l k).2.1 = 0 := by
  induction k with
  | zero => simp [runB]
  | succ k ih =>
    obtain ⟨h1, h2⟩ := ih
    have e : bl [] k = true := rfl
    simp only [runB, e]
    generalize (runB [] 0 l k).1 = s at *
    generalize (runB [] 0 l k).2.1 = t at *
    subst h2
    generalize el l k = x
    refine ⟨?_, ?_⟩
    · have ht : toS s x ≠ 6 := by
        unfold toS
        repeat (split; · omega)
        omega
      unfold doS; simp only [if_true]; split <;> assumption
    · unfold doN; repeat (split <;> try rfl)

theorem brk_same (lb : List Bool) (r m : Int) (l : List Int) (hm : 0 ≤ m) (k : Nat) (h : brk lb r l k = false) : runB lb (r + m) l k = runB lb r l k := by
  induction k with
  | zero => rfl
  | succ k ih =>
    simp only [brk, Bool.or_eq_false_iff] at h
    obtain ⟨h1, h2⟩ := h
    have e := ih h1
    simp at h2
    simp only [runB, e] at h2 ⊢
    generalize (runB lb r l k).1 = s at *
    generalize (runB lb r l k).2.1 = t at *
    generalize (runB lb r l k).2.2 = n at *
    generalize el l k = x at *
    generalize bl lb k = be at *
    have e1 : doS s t x be (r + m) = doS s t x be r := by
      unfold doS failS at h2 ⊢
      split
      · rfl
      · rename_i hz
        rw [if_neg hz] at h2
        split
        · rfl
        · rename_i hw
          rw [if_neg hw] at h2
          by_cases q : r < satAdd t 1
          · rw [if_pos q] at h2; exact absurd rfl h2
          · rw [if_neg q, if_neg (by omega)]
    have e2 : doN s t x be (r + m) = doN s t x be r := rfl
    rw [e1, e2]

set_option maxRecDepth 100000 in
set_option maxHeartbeats 8000000 in
theorem walk (a : Option Addr) (len cap : Nat) (l : List Int) (b : Option Addr) (lenb capb : Nat) (lb : List Bool) (r m : Int) (w : World) (hl : Ints .i64 w a len cap l) (hlb : Bools w b lenb capb lb) (hr : 0 ≤ r ∧ r ≤ 65535) (hm : 0 ≤ m ∧ m ≤ 65535) :
    Calls Try.prog 8 #[.slice a len cap, .slice b lenb capb, .int .u16 r, .int .u16 m] w fun e w' => e = .returned (.bool true) ∧ Below w.heap.size w w' := by
  have hw : Below w.heap.size w w := Below.refl _ _
  have hbel := hw
  have hbd := hl.bounds
  have hbd2 := hlb.bounds
  have HL := Lib.hid hl
  have HB := Lib.hid hlb
  clear hl hlb
  have key : 200 < len ∨ (¬ 200 < len ∧ 200 < lenb) ∨ (¬ 200 < len ∧ ¬ 200 < lenb) := by omega
  rcases key with k1 | ⟨k1, k2⟩ | ⟨k1, k2⟩
  · go_enter Try.func8, Try.ntmps8
    go_wp2_with (first | (go_at_call 16; (with_reducible refine (awake14 _).mono ?_); rintro e w1 ⟨rfl, hb1⟩; replace hbel := belStep hbel hb1; clear hb1))
    go_ret
    exact ⟨rfl, hbel⟩
  · go_enter Try.func8, Try.ntmps8
    go_wp2_with (first | (go_at_call 16; (with_reducible refine (awake14 _).mono ?_); rintro e w1 ⟨rfl, hb1⟩; replace hbel := belStep hbel hb1; clear hb1))
    go_ret
    exact ⟨rfl, hbel⟩
  · obtain ⟨⟨s, t, n⟩, e1⟩ : ∃ y, runB lb r l len = y := ⟨_, rfl⟩
    obtain ⟨⟨s2, t2, n2⟩, e2⟩ : ∃ y, runB lb (r + m) l len = y := ⟨_, rfl⟩
    obtain ⟨⟨s3, t3, n3⟩, e3⟩ : ∃ y, runB [] 0 l len = y := ⟨_, rfl⟩
    have hall := all_well l len
    rw [e3] at hall
    simp only at hall
    obtain ⟨h3, rfl⟩ := hall
    replace h3 : (s3 == 6) = false := by simp [h3]
    have hsame := brk_same lb r m l hm.1 len
    rw [e1, e2] at hsame
    have cs : ∀ (r : Int) (s t n : Int), runB lb r l len = (s, t, n) → ∀ v, Below w.heap.size w v → Calls Try.prog 22 #[.slice a len cap, .slice b lenb capb, .int .i64 r] v fun e w' => e = .returned (.tuple #[.agg #[.int .i64 s, .int .i64 t], .int .i64 n]) ∧ Below v.heap.size v w' := fun r s t n h v hv => by
      have q := box_Run a len cap l b lenb capb lb r v (HL.out.later hv) (HB.out.later hv)
      rw [h] at q; exact q
    have C1 := Lib.hid (cs r s t n e1)
    have C2 := Lib.hid (cs (r + m) s2 t2 n2 e2)
    have c3 : ∀ v, Below w.heap.size w v → Calls Try.prog 22 #[.slice a len cap, .slice none 0 0, .int .i64 0] v fun e w' => e = .returned (.tuple #[.agg #[.int .i64 s3, .int .i64 0], .int .i64 n3]) ∧ Below v.heap.size v w' := fun v hv => by
      have q := box_Run a len cap l none 0 0 [] 0 v (HL.out.later hv) (bools_nil _)
      rw [e3] at q; exact q
    have C3 := Lib.hid c3
    have HS := Lib.hid hsame
    clear cs c3 hsame e1 e2 e3
    go_enter Try.func8, Try.ntmps8
    go_upto_region 4 with (first | (go_at_call 16; (with_reducible refine (awake14 _).mono ?_); rintro e w1 ⟨rfl, hb1⟩; replace hbel := belStep hbel hb1; clear hb1) | (go_at_call 22; (with_reducible refine (C1.out _ (by assumption)).mono ?_); rintro e w1 ⟨rfl, hb1⟩; replace hbel := belStep hbel hb1; clear hb1))
    have d0 : (w1.alloc (.cells #[.int .i64 s, .int .i64 t] 23)).cell? ⟨w1.heap.size, 0, none⟩ = some (.int .i64 s) := by first | (simp; done) | (rw [World.cell?_alloc_at _ _ _ _ (by simp)]; rfl) | (rw [World.cell?_alloc_past _ _ _ (by simp <;> omega), World.cell?_alloc_at _ _ _ _ (by simp)]; rfl) | (rw [World.cell?_alloc_past _ _ _ (by simp <;> omega), World.cell?_alloc_past _ _ _ (by simp <;> omega), World.cell?_alloc_at _ _ _ _ (by simp)]; rfl)
    have d1 : (w1.alloc (.cells #[.int .i64 s, .int .i64 t] 23)).cell? ⟨w1.heap.size, 1, none⟩ = some (.int .i64 t) := by first | (simp; done) | (rw [World.cell?_alloc_at _ _ _ _ (by simp)]; rfl) | (rw [World.cell?_alloc_past _ _ _ (by simp <;> omega), World.cell?_alloc_at _ _ _ _ (by simp)]; rfl) | (rw [World.cell?_alloc_past _ _ _ (by simp <;> omega), World.cell?_alloc_past _ _ _ (by simp <;> omega), World.cell?_alloc_at _ _ _ _ (by simp)]; rfl)
    have hb2 := (by repeat (first | exact hbel | refine belAlloc ?_ _ | refine belDrew ?_ | refine belSet ?_ _ _ (by simp)) : Below w.heap.size w (w1.alloc (.cells #[.int .i64 s, .int .i64 t] 23)))
    replace hw := belStep hw hb2
    clear hb2 hbel
    generalize w1.alloc (.cells #[.int .i64 s, .int .i64 t] 23) = W1 at *
    replace d0 := keep d0
    replace d1 := keep d1
    generalize w1.heap.size = n1 at *
    have hbel : Below W1.heap.size W1 W1 := Below.refl _ _
    clear w1
    go_upto_region 5 with (first | (go_at_call 22; (with_reducible refine (C2.out _ (by first | exact hw | exact belStep hw hbel)).mono ?_); rintro e w1 ⟨rfl, hb1⟩; replace hbel := belStep hbel hb1; clear hb1))
    have f0 : (w1.alloc (.cells #[.int .i64 s2, .int .i64 t2] 23)).cell? ⟨w1.heap.size, 0, none⟩ = some (.int .i64 s2) := by first | (simp; done) | (rw [World.cell?_alloc_at _ _ _ _ (by simp)]; rfl) | (rw [World.cell?_alloc_past _ _ _ (by simp <;> omega), World.cell?_alloc_at _ _ _ _ (by simp)]; rfl) | (rw [World.cell?_alloc_past _ _ _ (by simp <;> omega), World.cell?_alloc_past _ _ _ (by simp <;> omega), World.cell?_alloc_at _ _ _ _ (by simp)]; rfl)
    have f1 : (w1.alloc (.cells #[.int .i64 s2, .int .i64 t2] 23)).cell? ⟨w1.heap.size, 1, none⟩ = some (.int .i64 t2) := by first | (simp; done) | (rw [World.cell?_alloc_at _ _ _ _ (by simp)]; rfl) | (rw [World.cell?_alloc_past _ _ _ (by simp <;> omega), World.cell?_alloc_at _ _ _ _ (by simp)]; rfl) | (rw [World.cell?_alloc_past _ _ _ (by simp <;> omega), World.cell?_alloc_past _ _ _ (by simp <;> omega), World.cell?_alloc_at _ _ _ _ (by simp)]; rfl)
    have hb2 := (by repeat (first | exact hbel | refine belAlloc ?_ _ | refine belDrew ?_ | refine belSet ?_ _ _ (by simp)) : Below W1.heap.size W1 (w1.alloc (.cells #[.int .i64 s2, .int .i64 t2] 23)))
    replace d0 := keepOnP d0 hb2
    replace d1 := keepOnP d1 hb2
    replace hw := belStep hw hb2
    clear hb2 hbel
    generalize w1.alloc (.cells #[.int .i64 s2, .int .i64 t2] 23) = W2 at *
    replace f0 := keep f0
    replace f1 := keep f1
    generalize w1.heap.size = nn2 at *
    have hbel : Below W2.heap.size W2 W2 := Below.refl _ _
    clear w1
    go_upto_region 6 with (first | (go_at_call 22; (with_reducible refine (C3.out _ (by first | exact hw | exact belStep hw hbel)).mono ?_); rintro e w1 ⟨rfl, hb1⟩; replace hbel := belStep hbel hb1; clear hb1))
    have g0 : (w1.alloc (.cells #[.int .i64 s3, .int .i64 0] 23)).cell? ⟨w1.heap.size, 0, none⟩ = some (.int .i64 s3) := by first | (simp; done) | (rw [World.cell?_alloc_at _ _ _ _ (by simp)]; rfl) | (rw [World.cell?_alloc_past _ _ _ (by simp <;> omega), World.cell?_alloc_at _ _ _ _ (by simp)]; rfl) | (rw [World.cell?_alloc_past _ _ _ (by simp <;> omega), World.cell?_alloc_past _ _ _ (by simp <;> omega), World.cell?_alloc_at _ _ _ _ (by simp)]; rfl)
    have g1 : (w1.alloc (.cells #[.int .i64 s3, .int .i64 0] 23)).cell? ⟨w1.heap.size, 1, none⟩ = some (.int .i64 0) := by first | (simp; done) | (rw [World.cell?_alloc_at _ _ _ _ (by simp)]; rfl) | (rw [World.cell?_alloc_past _ _ _ (by simp <;> omega), World.cell?_alloc_at _ _ _ _ (by simp)]; rfl) | (rw [World.cell?_alloc_past _ _ _ (by simp <;> omega), World.cell?_alloc_past _ _ _ (by simp <;> omega), World.cell?_alloc_at _ _ _ _ (by simp)]; rfl)
    have hb2 := (by repeat (first | exact hbel | refine belAlloc ?_ _ | refine belDrew ?_ | refine belSet ?_ _ _ (by simp)) : Below W2.heap.size W2 (w1.alloc (.cells #[.int .i64 s3, .int .i64 0] 23)))
    replace d0 := keepOnP d0 hb2
    replace d1 := keepOnP d1 hb2
    replace f0 := keepOnP f0 hb2
    replace f1 := keepOnP f1 hb2
    replace hw := belStep hw hb2
    clear hb2 hbel
    generalize w1.alloc (.cells #[.int .i64 s3, .int .i64 0] 23) = W3 at *
    replace g0 := keep g0
    replace g1 := keep g1
    generalize w1.heap.size = nn3 at *
    have hbel : Below W3.heap.size W3 W3 := Below.refl _ _
    clear w1
    replace HL := Lib.hid (HL.out.later hw)
    replace HB := Lib.hid (HB.out.later hw)
    clear C1 C2 C3
    go_wp2
    go_loopw [15, 16] (fun c i wr => ∃ k : Nat, k ≤ len ∧ i = .int .i64 k ∧ c = .bool (brk lb r l k) ∧ Below W3.heap.size W3 wr) (fun _ i _ => len - (intOf i).toNat)
    case atStart => exact ⟨0, Nat.zero_le _, rfl, rfl, Below.refl _ _⟩
    case round =>
      obtain ⟨k, hk, rfl, rfl, hbr⟩ := hrel
      have hbel : Below wr.heap.size wr wr := Below.refl _ _
      by_cases hlt : k < len
      · replace hw := belStep hw hbr
        replace HL := Lib.hid (HL.out.later hbr)
        replace HB := Lib.hid (HB.out.later hbr)
        obtain ⟨bb, off, rfl, _, _⟩ := HL.out.opened (by omega)
        obtain ⟨⟨s', t', n'⟩, e⟩ : ∃ y, runB lb r l (k + 1) = y := ⟨_, rfl⟩
        have cs : (∀ v, Below wr.heap.size wr v → Calls Try.prog 22 #[.slice (some ⟨bb, off, none⟩) (k + 1) cap, .slice b lenb capb, .int .i64 r] v fun e w' => e = .returned (.tuple #[.agg #[.int .i64 s', .int .i64 t'], .int .i64 n']) ∧ Below v.heap.size v w') :=
          fun v hv => run_take _ len cap l b lenb capb lb r (k + 1) (by omega) (by simp) s' t' n' e v (HL.out.later hv) (HB.out.later hv)
        have CS := Lib.hid cs
        have he : brk lb r l (k + 1) = (brk lb r l k || (s' == 6)) := by simp only [brk, e]
        obtain ⟨bb0, eb⟩ : ∃ y, brk lb r l k = y := ⟨_, rfl⟩
        rw [eb] at he
        simp only [eb]
        have HE := Lib.hid he
        clear cs e he eb
        cases bb0
        all_goals
          go_upto_region 13 with (first | (go_at_call 22; (with_reducible refine (CS.out _ (by first | exact hbel | (refine belDrew ?_; exact hbel))).mono ?_); rintro e w1 ⟨rfl, hb1⟩; replace hbel := belStep hbel hb1; clear hb1))
          have hb9 := belStep hbr (belAlloc hbel (.cells #[.int .i64 s', .int .i64 t'] 23))
          have p0 : (w1.alloc (.cells #[.int .i64 s', .int .i64 t'] 23)).cell? ⟨w1.heap.size, 0, none⟩ = some (.int .i64 s') := by first | (simp; done) | (rw [World.cell?_alloc_at _ _ _ _ (by simp)]; rfl) | (rw [World.cell?_alloc_past _ _ _ (by simp <;> omega), World.cell?_alloc_at _ _ _ _ (by simp)]; rfl) | (rw [World.cell?_alloc_past _ _ _ (by simp <;> omega), World.cell?_alloc_past _ _ _ (by simp <;> omega), World.cell?_alloc_at _ _ _ _ (by simp)]; rfl)
          have p1 : (w1.alloc (.cells #[.int .i64 s', .int .i64 t'] 23)).cell? ⟨w1.heap.size, 1, none⟩ = some (.int .i64 t') := by first | (simp; done) | (rw [World.cell?_alloc_at _ _ _ _ (by simp)]; rfl) | (rw [World.cell?_alloc_past _ _ _ (by simp <;> omega), World.cell?_alloc_at _ _ _ _ (by simp)]; rfl) | (rw [World.cell?_alloc_past _ _ _ (by simp <;> omega), World.cell?_alloc_past _ _ _ (by simp <;> omega), World.cell?_alloc_at _ _ _ _ (by simp)]; rfl)
          have hb2 := (by repeat (first | exact hbel | refine belAlloc ?_ _ | refine belDrew ?_ | refine belSet ?_ _ _ (by simp)) : Below wr.heap.size wr (w1.alloc (.cells #[.int .i64 s', .int .i64 t'] 23)))
          replace hw := belStep hw hb2
          clear hb2 hbel
          generalize w1.alloc (.cells #[.int .i64 s', .int .i64 t'] 23) = W4 at *
          replace p0 := keep p0
          replace p1 := keep p1
          generalize w1.heap.size = n4 at *
          have hbel : Below W4.heap.size W4 W4 := Below.refl _ _
          clear w1
          go_wp2
          go_roundw
          case rel => exact ⟨k + 1, by omega, by push_cast; rfl, by rw [HE.out]; simp, hb9⟩
          case measure => simp [intOf] <;> omega
      · obtain rfl : k = len := by omega
        replace d0 := keepOnP d0 hbr
        replace d1 := keepOnP d1 hbr
        replace f0 := keepOnP f0 hbr
        replace f1 := keepOnP f1 hbr
        have hs := HS.out
        obtain ⟨bb0, eb⟩ : ∃ y, brk lb r l k = y := ⟨_, rfl⟩
        rw [eb] at hs
        simp only [eb]
        clear eb HS
        cases bb0
        · simp at hs
          obtain ⟨rfl, rfl, rfl⟩ := hs
          go_wp2
          go_ret
          exact ⟨ret_bool (by simp), belStep hw hbr⟩
        · clear hs
          go_wp2
          go_ret
          exact ⟨ret_bool (by simp), belStep hw hbr⟩

set_option maxRecDepth 100000 in
theorem lifted (os : Os) (started : os.Started) (H : Type) (enc : TypeId × Value → H) :
    ReturnsInHanded {} Try.checked os 8 .any (Rows.boxRetriesSpec.pre6 enc Try.prog Try.f8 Rows.boxRetriesRow.domain false) (Rows.boxRetriesSpec.post enc Try.prog Try.f8 false true false false) := by
  refine returnsInHanded_of_change (C := Try.checked) own started (by kernel_rfl) Try.func8
    (ChangeSpec.witness6 (enc := enc) (C := Try.checked) false ⟨#[], #[.slice none 0 0, .slice none 0 0, .int .u16 0, .int .u16 0], []⟩ 8 (by kernel_rfl) (by kernel_rfl) (by kernel_rfl) (by kernel_rfl)) ?_
  intro W base args ds gs before hval0 hW hcnd _
  have hval : ∀ (j : Nat) t v, Try.f8.params[j]? = some t → args[j]? = some v → Value.okWide Try.prog W .any base t v := hval0
  have hW' := hW
  obtain ⟨p, q, hA0, hV, rfl, hfz, hnd⟩ := hW
  have hA : DataW.TrodAll enc Try.prog W 0 (fun _ => true) true Try.f8.params.toList args.toList ds p := hA0
  rw [Try.params8] at hA hval
  obtain ⟨v0, vs0, d0, ds0, p0, q0, hargs, rfl, rfl, h0, r0⟩ := trodAll_cons hA
  obtain ⟨v1, vs1, d1, ds1, p1, q1, rfl, rfl, rfl, h1, r1⟩ := trodAll_cons r0
  obtain ⟨v2, vs2, d2, ds2, p2, q2, rfl, rfl, rfl, h2, r2⟩ := trodAll_cons r1
  obtain ⟨v3, vs3, d3, ds3, p3, q3, rfl, rfl, rfl, h3, r3⟩ := trodAll_cons r2
  obtain ⟨rfl, rfl, rfl⟩ := trodAll_nil r3
  obtain rfl : args = #[v0, v1, v2, v3] := by cases args; simp_all
  obtain ⟨rfl, rfl⟩ := trodVars_none hV
  have k0 := h0
  have lt0 : ∀ x ∈ p0, x.block < W.heap.size := by obtain ⟨m, hm⟩ := k0; exact DataW.trod_lt m _ _ _ hm
  have o0 : Value.okWide Try.prog W .any base 34 v0 := hval 0 34 v0 rfl rfl
  obtain ⟨a0, len0, cap0, rfl⟩ := okWide_slice Try.underlying34 o0
  obtain ⟨z0, w0⟩ : ∃ zs, Ints .i64 W a0 len0 cap0 zs := ints_of_trod Try.underlying34 Try.underlying3 (by kernel_rfl) h0
  have k1 := h1
  have lt1 : ∀ x ∈ p1, x.block < W.heap.size := by obtain ⟨m, hm⟩ := k1; exact DataW.trod_lt m _ _ _ hm
  have o1 : Value.okWide Try.prog W .any base 35 v1 := hval 1 35 v1 rfl rfl
  obtain ⟨a1, len1, cap1, rfl⟩ := okWide_slice Try.underlying35 o1
  obtain ⟨z1, w1⟩ : ∃ zs, Bools W a1 len1 cap1 zs := bools_of_trod Try.underlying35 Try.underlying4 (by kernel_rfl) h1
  have k2 := h2
  have lt2 : ∀ x ∈ p2, x.block < W.heap.size := by obtain ⟨m, hm⟩ := k2; exact DataW.trod_lt m _ _ _ hm
  have o2 : Value.okWide Try.prog W .any base 42 v2 := hval 2 42 v2 rfl rfl
  obtain ⟨a2, rfl, rfl, rfl, w2⟩ := open_int Try.underlying42 o2 h2
  have k3 := h3
  have lt3 : ∀ x ∈ p3, x.block < W.heap.size := by obtain ⟨m, hm⟩ := k3; exact DataW.trod_lt m _ _ _ hm
  have o3 : Value.okWide Try.prog W .any base 42 v3 := hval 3 42 v3 rfl rfl
  obtain ⟨a3, rfl, rfl, rfl, w3⟩ := open_int Try.underlying42 o3 h3
  clear hA0 hval0
  refine (walk a0 len0 cap0 z0 a1 len1 cap1 z1 a2 a3 W w0 w1 (in16_of_wf w2) (in16_of_wf w3)).mono fun e W' ⟨he, bel⟩ => ?_
  subst he
  exact ⟨_, rfl, _, _, _, [], _, [], hW', trodAll_mk1 (shut_bool Try.underlying4 _), (trodAll_cons_mk (Below.trod laidOut (by kernel_rfl) (of_decide_eq_true (by kernel_rfl)) k0 bel lt0) (trodAll_cons_mk (Below.trod laidOut (by kernel_rfl) (of_decide_eq_true (by kernel_rfl)) k1 bel lt1) (trodAll_cons_mk (Below.trod laidOut (by kernel_rfl) (of_decide_eq_true (by kernel_rfl)) k2 bel lt2) (trodAll_cons_mk (Below.trod laidOut (by kernel_rfl) (of_decide_eq_true (by kernel_rfl)) k3 bel lt3) trodAll_mk0)))), rfl, bel.frame _, fun h => by cases h⟩

theorem over : Rows.boxRetriesRow.holds Try.pinned (OpenSpec.ofChange Rows.boxRetriesSpec) :=
  OpenClaim.holds_of_wide 8 Try.f8 rfl rfl rfl rfl rfl rfl rfl ⟨rfl, rfl, rfl, rfl, rfl⟩ rfl rfl rfl rfl rfl (by kernel_rfl) Try.func8 (by kernel_rfl)
    (of_decide_eq_true (by kernel_rfl)) (by unfold Func.isWrapper; first | (rw [if_pos (by decide +kernel)]; kernel_rfl) | (rw [if_neg (by decide +kernel)]; exact ⟨rfl, rfl⟩))
    (fun os started H enc _ => lifted os started H enc)

/-- The statement. -/
theorem proved : Rows.BoxRetriesSaid := over
#print axioms proved

end Go.Proofs.Ythhpkmpaldcloaa.boxRetries
