/- BoxForward holds for every slice of ints, every slice of bools and every number of retries. No conditions. -/
import Derived.Test.YthhpkmpaldcloaaAwake14
namespace Go.Proofs.Ythhpkmpaldcloaa.boxForward
open Go.ChangeShapes Go.WideShapes Go.ChangeAt Go.RowKit
open Go.ChangeMaps (open_string shut_string)
set_option linter.unusedVariables false
set_option linter.unusedSimpArgs false

theorem fwd (s t x : Int) (be : Bool) (r : Int) (h : 1 ≤ s ∧ s ≤ 6) :
    (s = 2 ∧ x = 2 ∧ doS s t x be r = 3) ∨ (s = 3 ∧ doS s t x be r = 3) ∨
    (doS s t x be r ≠ 3 ∧ (doS s t x be r = s ∨ (doS s t x be r ≠ s ∧ doS s t x be r = s + 1) ∨ (doS s t x be r ≠ s ∧ doS s t x be r ≠ s + 1 ∧ doS s t x be r = 6) ∨ (doS s t x be r ≠ s ∧ doS s t x be r ≠ s + 1 ∧ doS s t x be r ≠ 6 ∧ doS s t x be r = 5)) ∧ (s ≠ 2 ∨ (s = 2 ∧ x ≠ 2) ∨ (s = 2 ∧ x = 2))) := by
  have hd := doS_bd (t := t) (k := x) (b := be) (r := r) h
  have ht : toS s x = 0 ∨ toS s x = 5 ∨ (x = 1 ∧ s = 1 ∧ toS s x = 2) ∨ (x = 2 ∧ s = 2 ∧ toS s x = 3) ∨ (x = 3 ∧ s = 3 ∧ toS s x = 4) := by
    unfold toS; repeat (split; · omega)
    omega
  have he : doS s t x be r = s ∨ doS s t x be r = 6 ∨ doS s t x be r = toS s x ∧ toS s x ≠ 0 := by
    unfold doS failS; repeat (split <;> try omega)
  omega

set_option maxRecDepth 100000 in
set_option maxHeartbeats 8000000 in
theorem walk (a : Option Addr) (len cap : Nat) (l : List Int) (b : Option Addr) (lenb capb : Nat) (lb : List Bool) (r : Int) (w : World) (hl : Ints .i64 w a len cap l) (hlb : Bools w b lenb capb lb) (hr : InI r) :
    Calls Try.prog 7 #[.slice a len cap, .slice b lenb capb, .int .i64 r] w fun e w' => e = .returned (.bool true) ∧ Below w.heap.size w w' := by
  have hw : Below w.heap.size w w := Below.refl _ _
  have hbel := hw
  have hbd := hl.bounds
  have hbd2 := hlb.bounds
  have HL := Lib.hid hl
  have HB := Lib.hid hlb
  clear hl hlb
  have key : 60 < len ∨ (¬ 60 < len ∧ 60 < lenb) ∨ (¬ 60 < len ∧ ¬ 60 < lenb) := by omega
  rcases key with k1 | ⟨k1, k2⟩ | ⟨k1, k2⟩
  · go_enter Try.func7, Try.ntmps7
    go_wp2_with (first | (go_at_call 16; (with_reducible refine (awake14 _).mono ?_); rintro e w1 ⟨rfl, hb1⟩; replace hbel := belStep hbel hb1; clear hb1))
    go_ret
    exact ⟨rfl, hbel⟩
  · go_enter Try.func7, Try.ntmps7
    go_wp2_with (first | (go_at_call 16; (with_reducible refine (awake14 _).mono ?_); rintro e w1 ⟨rfl, hb1⟩; replace hbel := belStep hbel hb1; clear hb1))
    go_ret
    exact ⟨rfl, hbel⟩
  · go_enter Try.func7, Try.ntmps7
    go_upto_region 3 with (first | (go_at_call 16; (with_reducible refine (awake14 _).mono ?_); rintro e w1 ⟨rfl, hb1⟩; replace hbel := belStep hbel hb1; clear hb1))
    replace hw := belStep hw hbel
    clear hbel
    generalize w1 = W1 at *
    have hbel : Below W1.heap.size W1 W1 := Below.refl _ _
    replace HL := Lib.hid (HL.out.later hw)
    replace HB := Lib.hid (HB.out.later hw)
    go_wp2
    go_loopw [8, 9] (fun c i wr => ∃ (k : Nat) (s t n : Int) (st : Bool), k ≤ len ∧ i = .int .i64 k ∧ c = .bool st ∧ runB lb r l k = (s, t, n) ∧ (s = 3 → st = true) ∧ Below W1.heap.size W1 wr ∧ Blk wr W1.heap.size [.int .i64 s, .int .i64 t] 23) (fun _ i _ => len - (intOf i).toNat)
    case atStart => exact ⟨0, 1, 0, 0, false, Nat.zero_le _, rfl, rfl, rfl, (fun h => by omega), belAlloc (Below.refl _ _) _, Blk.new W1 [.int .i64 1, .int .i64 0] _⟩
    case round =>
      obtain ⟨k, s, t, n, st, hk, rfl, rfl, hst, hs3, hbr, hblk⟩ := hrel
      have hq := runB_bd lb r l k
      have hq1 := runB_bd lb r l (k + 1)
      have e1 : (runB lb r l (k + 1)).1 = doS (runB lb r l k).1 (runB lb r l k).2.1 (el l k) (bl lb k) r := rfl
      obtain ⟨⟨s', t', n'⟩, hst'⟩ : ∃ y, runB lb r l (k + 1) = y := ⟨_, rfl⟩
      rw [hst] at hq e1
      rw [hst'] at hq1 e1
      simp only at hq hq1 e1
      have c0 : ∀ v, Below wr.heap.size wr v → v.cell? ⟨W1.heap.size, 0, none⟩ = some (.int .i64 s) := keep (hblk.cell rfl)
      have c1 : ∀ v, Below wr.heap.size wr v → v.cell? ⟨W1.heap.size, 1, none⟩ = some (.int .i64 t) := keep (hblk.cell rfl)
      have hF := hblk.keepF
      have hB := hblk.keepB
      have hbel : Below wr.heap.size wr wr := Below.refl _ _
      replace hw := belStep hw hbr
      have hw1 := hbr
      have HL2 := Lib.hid (HL.out.later hbr)
      have HB2 := Lib.hid (HB.out.later hbr)
      clear HL HB hbr hblk
      by_cases hlt : k < len
      · obtain ⟨bb, off, rfl, _, hc⟩ := HL2.out.opened (by omega)
        have x0 := keep (hc k hlt)
        have cs : (∀ v, Below wr.heap.size wr v → Calls Try.prog 22 #[.slice (some ⟨bb, off, none⟩) (k + 1) cap, .slice b lenb capb, .int .i64 r] v fun e w' => e = .returned (.tuple #[.agg #[.int .i64 s', .int .i64 t'], .int .i64 n']) ∧ Below v.heap.size v w') :=
          fun v hv => run_take _ len cap l b lenb capb lb r (k + 1) (by omega) (by simp) s' t' n' hst' v (HL2.out.later hv) (HB2.out.later hv)
        have CS := Lib.hid cs
        clear cs
        have key := fwd s t (el l k) (bl lb k) r hq.1
        rw [← e1] at key
        obtain ⟨x, ex⟩ : ∃ x, el l k = x := ⟨_, rfl⟩
        rw [ex] at x0 key
        have HS := Lib.hid hst'
        clear hst hst' e1 ex hc HL2 HB2
        obtain ⟨hq1, hq2, hq3⟩ := hq1
        have hn : ¬ ((k : Int) + 1 < n') := by omega
        obtain ⟨⟨hs1, hs6⟩, -, -⟩ := hq
        have ew : s + 1 ≤ 9223372036854775807 := by omega
        clear hq1 hq2 hq3
        go_upto_region 9 with (first | (go_at_call 22; (with_reducible refine (CS.out _ (by first | exact hbel | (refine belDrew ?_; exact hbel))).mono ?_); rintro e w1 ⟨rfl, hb1⟩; replace hbel := belStep hbel hb1; clear hb1))
        have hb9 := belStep hw1 (belAlloc hbel (.cells #[.int .i64 s', .int .i64 t'] 23))
        have d0 : (w1.alloc (.cells #[.int .i64 s', .int .i64 t'] 23)).cell? ⟨w1.heap.size, 0, none⟩ = some (.int .i64 s') := by first | (simp; done) | (rw [World.cell?_alloc_at _ _ _ _ (by simp)]; rfl) | (rw [World.cell?_alloc_past _ _ _ (by simp <;> omega), World.cell?_alloc_at _ _ _ _ (by simp)]; rfl) | (rw [World.cell?_alloc_past _ _ _ (by simp <;> omega), World.cell?_alloc_past _ _ _ (by simp <;> omega), World.cell?_alloc_at _ _ _ _ (by simp)]; rfl)
        have d1 : (w1.alloc (.cells #[.int .i64 s', .int .i64 t'] 23)).cell? ⟨w1.heap.size, 1, none⟩ = some (.int .i64 t') := by first | (simp; done) | (rw [World.cell?_alloc_at _ _ _ _ (by simp)]; rfl) | (rw [World.cell?_alloc_past _ _ _ (by simp <;> omega), World.cell?_alloc_at _ _ _ _ (by simp)]; rfl) | (rw [World.cell?_alloc_past _ _ _ (by simp <;> omega), World.cell?_alloc_past _ _ _ (by simp <;> omega), World.cell?_alloc_at _ _ _ _ (by simp)]; rfl)
        have hb2 := (by repeat (first | exact hbel | refine belAlloc ?_ _ | refine belDrew ?_ | refine belSet ?_ _ _ (by simp)) : Below wr.heap.size wr (w1.alloc (.cells #[.int .i64 s', .int .i64 t'] 23)))
        replace c0 := keepOnP c0 hb2
        replace c1 := keepOnP c1 hb2
        replace x0 := keepOnP x0 hb2
        replace hF := keepOnP hF hb2
        replace hB := keepOnP hB hb2
        replace hw := belStep hw hb2
        clear hb2 hbel
        generalize w1.alloc (.cells #[.int .i64 s', .int .i64 t'] 23) = W2 at *
        replace d0 := keep d0
        replace d1 := keep d1
        generalize w1.heap.size = n2 at *
        have hbel : Below W2.heap.size W2 W2 := Below.refl _ _
        clear w1
        have hM2 : W1.heap.size < W2.heap.size := (hB _ hbel).lt
        clear CS
        rcases key with ⟨rfl, rfl, rfl⟩ | ⟨rfl, rfl⟩ | ⟨h3, h4, h5⟩
        · go_wp2
          go_roundw
          case rel => exact ⟨k + 1, _, _, _, _, by omega, by push_cast; rfl, rfl, HS.out, fun _ => rfl, belSet (belSet hb9 _ _ (Nat.le_refl _)) _ _ (Nat.le_refl _), ((hB _ hbel).set 0 _).set 1 _⟩
          case measure => simp [intOf] <;> omega
        · obtain rfl := hs3 rfl
          go_wp2
          go_roundw
          case rel => exact ⟨k + 1, _, _, _, _, by omega, by push_cast; rfl, rfl, HS.out, fun _ => rfl, belSet (belSet hb9 _ _ (Nat.le_refl _)) _ _ (Nat.le_refl _), ((hB _ hbel).set 0 _).set 1 _⟩
          case measure => simp [intOf] <;> omega
        · rcases h4 with rfl | ⟨h4, rfl⟩ | ⟨h4, h6, rfl⟩ | ⟨h4, h6, h7, rfl⟩ <;> rcases h5 with h5 | ⟨rfl, h9⟩ | ⟨rfl, rfl⟩
          all_goals try (exfalso; omega)
          all_goals
            go_wp2
            go_roundw
            case rel => exact ⟨k + 1, _, _, _, _, by omega, by push_cast; rfl, rfl, HS.out, fun h => absurd h h3, belSet (belSet hb9 _ _ (Nat.le_refl _)) _ _ (Nat.le_refl _), ((hB _ hbel).set 0 _).set 1 _⟩
            case measure => simp [intOf] <;> omega
      · obtain rfl : k = len := by omega
        go_wp2
        go_ret
        exact ⟨rfl, hw⟩

set_option maxRecDepth 100000 in
theorem lifted (os : Os) (started : os.Started) (H : Type) (enc : TypeId × Value → H) :
    ReturnsInHanded {} Try.checked os 7 .any (Rows.boxForwardSpec.pre6 enc Try.prog Try.f7 Rows.boxForwardRow.domain false) (Rows.boxForwardSpec.post enc Try.prog Try.f7 false true false false) := by
  refine returnsInHanded_of_change (C := Try.checked) own started (by kernel_rfl) Try.func7
    (ChangeSpec.witness6 (enc := enc) (C := Try.checked) false ⟨#[], #[.slice none 0 0, .slice none 0 0, .int .i64 0], []⟩ 8 (by kernel_rfl) (by kernel_rfl) (by kernel_rfl) (by kernel_rfl)) ?_
  intro W base args ds gs before hval0 hW hcnd _
  have hval : ∀ (j : Nat) t v, Try.f7.params[j]? = some t → args[j]? = some v → Value.okWide Try.prog W .any base t v := hval0
  have hW' := hW
  obtain ⟨p, q, hA0, hV, rfl, hfz, hnd⟩ := hW
  have hA : DataW.TrodAll enc Try.prog W 0 (fun _ => true) true Try.f7.params.toList args.toList ds p := hA0
  rw [Try.params7] at hA hval
  obtain ⟨v0, vs0, d0, ds0, p0, q0, hargs, rfl, rfl, h0, r0⟩ := trodAll_cons hA
  obtain ⟨v1, vs1, d1, ds1, p1, q1, rfl, rfl, rfl, h1, r1⟩ := trodAll_cons r0
  obtain ⟨v2, vs2, d2, ds2, p2, q2, rfl, rfl, rfl, h2, r2⟩ := trodAll_cons r1
  obtain ⟨rfl, rfl, rfl⟩ := trodAll_nil r2
  obtain rfl : args = #[v0, v1, v2] := by cases args; simp_all
  obtain ⟨rfl, rfl⟩ := trodVars_none hV
  have k0 := h0
  have lt0 : ∀ x ∈ p0, x.block < W.heap.size := by obtain ⟨m, hm⟩ := k0; exact DataW.trod_lt m _ _ _ hm
  have o0 : Value.okWide Try.prog W .any base 34 v0 := hval 0 34 v0 rfl rfl
  obtain ⟨a0, len0, cap0, rfl⟩ := okWide_slice Try.underlying34 o0
  obtain ⟨z0, w0⟩ : ∃ zs, Ints .i64 W a0 len0 cap0 zs := ints_of_trod Try.underlying34 Try.underlying3 (by kernel_rfl) h0
  have k1 := h1
  have lt1 : ∀ x ∈ p1, x.block < W.heap.size := by obtain ⟨m, hm⟩ := k1; exact DataW.trod_lt m _ _ _ hm
  have o1 : Value.okWide Try.prog W .any base 35 v1 := hval 1 35 v1 rfl rfl
  obtain ⟨a1, len1, cap1, rfl⟩ := okWide_slice Try.underlying35 o1
  obtain ⟨z1, w1⟩ : ∃ zs, Bools W a1 len1 cap1 zs := bools_of_trod Try.underlying35 Try.underlying4 (by kernel_rfl) h1
  have k2 := h2
  have lt2 : ∀ x ∈ p2, x.block < W.heap.size := by obtain ⟨m, hm⟩ := k2; exact DataW.trod_lt m _ _ _ hm
  have o2 : Value.okWide Try.prog W .any base 3 v2 := hval 2 3 v2 rfl rfl
  obtain ⟨a2, rfl, rfl, rfl, w2⟩ := open_int Try.underlying3 o2 h2
  clear hA0 hval0
  refine (walk a0 len0 cap0 z0 a1 len1 cap1 z1 a2 W w0 w1 (inI_of_wf w2)).mono fun e W' ⟨he, bel⟩ => ?_
  subst he
  exact ⟨_, rfl, _, _, _, [], _, [], hW', trodAll_mk1 (shut_bool Try.underlying4 _), (trodAll_cons_mk (Below.trod laidOut (by kernel_rfl) (of_decide_eq_true (by kernel_rfl)) k0 bel lt0) (trodAll_cons_mk (Below.trod laidOut (by kernel_rfl) (of_decide_eq_true (by kernel_rfl)) k1 bel lt1) (trodAll_cons_mk (Below.trod laidOut (by kernel_rfl) (of_decide_eq_true (by kernel_rfl)) k2 bel lt2) trodAll_mk0))), rfl, bel.frame _, fun h => by cases h⟩

theorem over : Rows.boxForwardRow.holds Try.pinned (OpenSpec.ofChange Rows.boxForwardSpec) :=
  OpenClaim.holds_of_wide 7 Try.f7 rfl rfl rfl rfl rfl rfl rfl ⟨rfl, rfl, rfl, rfl, rfl⟩ rfl rfl rfl rfl rfl (by kernel_rfl) Try.func7 (by kernel_rfl)
    (of_decide_eq_true (by kernel_rfl)) (by unfold Func.isWrapper; first | (rw [if_pos (by decide +kernel)]; kernel_rfl) | (rw [if_neg (by decide +kernel)]; exact ⟨rfl, rfl⟩))
    (fun os started H enc _ => lifted os started H enc)

/-- The statement. -/
theorem proved : Rows.BoxForwardSaid := over
#print axioms proved

end Go.Proofs.Ythhpkmpaldcloaa.boxForward
