/- CondRuns holds for every slice of rounds and every int as a period: a condition is on just if there was a round in which a threshold held, and no period of calm rounds since. No conditions. -/
import Derived.Test.YthhpkmpaldcloaaAwake19
import Derived.Test.YthhpkmpaldcloaaReadCond
import Derived.Test.YthhpkmpaldcloaaTail
namespace Go.Proofs.Ythhpkmpaldcloaa.condRuns
open Go.ChangeShapes Go.WideShapes Go.ChangeAt Go.RowKit
open Go.ChangeMaps (open_string shut_string)
set_option linter.unusedVariables false

def holdB (x : Bool × Bool × Bool) : Bool := x.2.2 && x.1
def calmB (x : Bool × Bool × Bool) : Bool := x.2.2 && !x.2.1 && !x.1
def row1 (row : Int) (x : Bool × Bool × Bool) : Int := if calmB x then row + 1 else 0
/-- Back from the last round: was there one that held, and the longest row of calm ones till then. -/
def scan : Int → Int → List (Bool × Bool × Bool) → Bool × Int
  | _, most, [] => (false, most)
  | row, most, x :: r => if holdB x then (true, most) else scan (row1 row x) (max most (row1 row x)) r

/-- The condition behind a list of rounds, the last one first. -/
def st (n : Int) : List (Bool × Bool × Bool) → Bool × Int
  | [] => (false, 0)
  | x :: r => (stepOn (st n r).1 (st n r).2 x.1 x.2.1 x.2.2 n, stepCalm (st n r).1 (st n r).2 x.1 x.2.1 x.2.2 n)

theorem st_bd (n : Int) (hn : 1 ≤ n) (r : List (Bool × Bool × Bool)) : 0 ≤ (st n r).2 ∧ (st n r).2 < n := by
  induction r with
  | nil => simp [st]; omega
  | cons x r ih =>
    obtain ⟨hh, m, f⟩ := x
    simp only [st]
    generalize st n r = y at *
    obtain ⟨on, c⟩ := y
    simp only at ih ⊢
    have k : c + 1 < n ∨ ¬ c + 1 < n := by omega
    rcases k with k | k <;> cases on <;> cases f <;> cases hh <;> cases m <;> simp [stepCalm, k] <;> omega

theorem scan_st (n : Int) (hn : 1 ≤ n) (r : List (Bool × Bool × Bool)) : ∀ row most : Int, 0 ≤ row → row ≤ most →
    (((scan row most r).1 = true ∧ (scan row most r).2 < n) ↔ ((st n r).1 = true ∧ most < n ∧ row + (st n r).2 < n)) := by
  induction r with
  | nil => intro row most h0 h1; simp [scan, st]
  | cons x r ih =>
    intro row most h0 h1
    have hb := st_bd n hn r
    have e : scan row most (x :: r) = if holdB x then (true, most) else scan (row1 row x) (max most (row1 row x)) r := rfl
    have e2 : st n (x :: r) = (stepOn (st n r).1 (st n r).2 x.1 x.2.1 x.2.2 n, stepCalm (st n r).1 (st n r).2 x.1 x.2.1 x.2.2 n) := rfl
    rw [e, e2]
    have hr0 : 0 ≤ row1 row x := by unfold row1; split <;> omega
    cases hh : holdB x
    · simp only [Bool.false_eq_true, if_false]
      rw [ih _ _ hr0 (by omega)]
      obtain ⟨h, m, f⟩ := x
      generalize st n r = y at *
      obtain ⟨on, c⟩ := y
      have k : c + 1 < n ∨ ¬ c + 1 < n := by omega
      rcases k with k | k <;> cases on <;> cases f <;> cases h <;> cases m <;> simp [holdB, row1, calmB, stepOn, stepCalm, k] at hh hb ⊢ <;> omega
    · simp only [if_true, true_and]
      obtain ⟨h, m, f⟩ := x
      generalize st n r = y at *
      obtain ⟨on, c⟩ := y
      cases f <;> cases h <;> simp [holdB, stepOn, stepCalm] at hh ⊢ <;> omega

theorem scan_on (n : Int) (hn : 1 ≤ n) (r : List (Bool × Bool × Bool)) : (st n r).1 = ((scan 0 0 r).1 && decide ((scan 0 0 r).2 < n)) := by
  have h := scan_st n hn r 0 0 (by omega) (by omega)
  have b := st_bd n hn r
  rw [Bool.eq_iff_iff]
  simp only [Bool.and_eq_true, decide_eq_true_eq]
  rw [h]
  constructor
  · intro q; exact ⟨q, by omega, by omega⟩
  · intro q; exact q.1

theorem rev_take {L : List (Bool × Bool × Bool)} {k : Nat} {x : Bool × Bool × Bool} (h : L[k]? = some x) : (L.take (k + 1)).reverse = x :: (L.take k).reverse := by
  have hk : k < L.length := (List.getElem?_eq_some_iff.1 h).1
  have e : L[k] = x := by rw [List.getElem?_eq_getElem hk] at h; exact Option.some.inj h
  rw [List.take_succ_eq_append_getElem hk, List.reverse_append, e]; rfl

set_option maxHeartbeats 1000000 in
theorem calm_any (h m f : Bool) (w : World) :
    Calls Try.prog 30 #[.agg #[.bool h, .bool m, .bool f]] w fun e w' => e = .returned (.bool (calmB (h, m, f))) ∧ Below w.heap.size w w' := by
  cases f <;> cases m
  all_goals
    go_enter Try.func30, Try.ntmps30
    go_wp2
    go_ret
    exact ⟨ret_bool (by simp [calmB]), (Below.refl _ _).alloc (Nat.le_refl _) _⟩

set_option maxRecDepth 100000 in
set_option maxHeartbeats 4000000 in
theorem walk (a : Option Addr) (len cap : Nat) (L : List (Bool × Bool × Bool)) (n : Int) (w : World) (hL : L.length = len ∧ Row w a len cap 3 (L.flatMap roundCells)) (hn : InI n) :
    Calls Try.prog 10 #[.slice a len cap, .int .i64 n] w fun e w' => e = .returned (.bool true) ∧ Below w.heap.size w w' := by
  obtain ⟨rfl, hR⟩ := hL
  have hbd : L.length ≤ cap ∧ cap ≤ 9223372036854775807 := by obtain ⟨_, h1, h2, _⟩ := hR; unfold maxLen at h2; exact ⟨h1, h2⟩
  obtain ⟨hb1, hb2⟩ := hbd
  have HR := Lib.hid hR
  clear hR
  have hw : Below w.heap.size w w := Below.refl _ _
  have hbel := hw
  have key : (¬ (1 ≤ n ∧ n ≤ 1000)) ∨ ((1 ≤ n ∧ n ≤ 1000) ∧ 100 < L.length) ∨ ((1 ≤ n ∧ n ≤ 1000) ∧ ¬ 100 < L.length) := by omega
  rcases key with hp | ⟨hp, hl⟩ | ⟨hp, hl⟩
  · go_enter Try.func10, Try.ntmps10
    go_wp2_with (first | (go_at_call 24; refine (awake19 _).mono ?_; rintro e w1 ⟨rfl, hb1⟩; replace hbel := belStep hbel hb1; clear hb1) | (go_at_call 27; refine (period_any _ _).mono ?_; rintro e w' ⟨rfl, rfl⟩))
    go_ret
    exact ⟨rfl, hbel⟩
  · go_enter Try.func10, Try.ntmps10
    go_wp2_with (first | (go_at_call 24; refine (awake19 _).mono ?_; rintro e w1 ⟨rfl, hb1⟩; replace hbel := belStep hbel hb1; clear hb1) | (go_at_call 27; refine (period_any _ _).mono ?_; rintro e w' ⟨rfl, rfl⟩))
    go_ret
    exact ⟨rfl, hbel⟩
  · go_enter Try.func10, Try.ntmps10
    go_upto_region 3 with (first | (go_at_call 24; refine (awake19 _).mono ?_; rintro e w1 ⟨rfl, hb1⟩; replace hbel := belStep hbel hb1; clear hb1) | (go_at_call 27; refine (period_any _ _).mono ?_; rintro e w' ⟨rfl, rfl⟩))
    replace hw := hbel
    have HR1 := Lib.hid (HR.out.later hbel)
    clear HR hbel
    generalize w1 = W1 at *
    go_wp2
    go_loopw [6] (fun i wr => ∃ (k : Nat) (on : Bool) (calm : Int), k ≤ L.length ∧ i = .int .i64 k ∧ st n (L.take k).reverse = (on, calm) ∧ Below W1.heap.size W1 wr ∧ Blk wr W1.heap.size [.bool on, .int .i64 calm] 45) (fun i _ => L.length - (intOf i).toNat)
    case atStart => exact ⟨0, false, 0, Nat.zero_le _, rfl, rfl, belAlloc (Below.refl _ _) _, Blk.new W1 [.bool false, .int .i64 0] _⟩
    case round =>
      obtain ⟨k, on, calm, hk, rfl, hst, hbr, hblk⟩ := hrel
      by_cases hlt : k < L.length
      · obtain ⟨⟨hh, m, f⟩, hx⟩ : ∃ x, L[k]? = some x := ⟨L[k], List.getElem?_eq_getElem hlt⟩
        obtain ⟨b, off, rfl, _, hc⟩ := (HR1.out.later hbr).elem roundCells_len (by omega) hx
        have x0 := keep (hc 0 _ rfl)
        have x1 := keep (hc 1 _ rfl)
        have x2 := keep (hc 2 _ rfl)
        rw [Nat.add_zero] at x0
        have c0 : ∀ v, Below wr.heap.size wr v → v.cell? ⟨W1.heap.size, 0, none⟩ = some (.bool on) := keep (hblk.cell rfl)
        have c1 : ∀ v, Below wr.heap.size wr v → v.cell? ⟨W1.heap.size, 1, none⟩ = some (.int .i64 calm) := keep (hblk.cell rfl)
        have fz : ∀ v j, Below wr.heap.size wr v → v.frozen? ⟨W1.heap.size, j, none⟩ = false := fun v j hv => (hblk.later hv).frozen j
        have hbd := st_bd n hp.1 (L.take k).reverse
        rw [hst] at hbd
        have i0 : 0 ≤ calm := hbd.1
        have i1 : calm < 9223372036854775807 := by have : calm < n := hbd.2; omega
        have cs : ∀ v, Calls Try.prog 28 #[.agg #[.bool on, .int .i64 calm], .bool hh, .bool m, .bool f, .int .i64 n] v fun e w' => e = .returned (.agg #[.bool (stepOn on calm hh m f n), .int .i64 (stepCalm on calm hh m f n)]) ∧ Below v.heap.size v w' := fun v => cond_Step _ _ _ _ _ _ _ i0 i1
        have hst' : st n (L.take (k + 1)).reverse = (stepOn on calm hh m f n, stepCalm on calm hh m f n) := by rw [rev_take hx]; simp only [st, hst]
        have hon := scan_on n hp.1 (L.take (k + 1)).reverse
        rw [hst'] at hon
        simp only at hon
        obtain ⟨s, hs⟩ : ∃ s, stepOn on calm hh m f n = s := ⟨_, rfl⟩
        obtain ⟨d, hd⟩ : ∃ d, stepCalm on calm hh m f n = d := ⟨_, rfl⟩
        simp only [hs, hd] at cs hst' hon
        have CS := Lib.hid cs
        have HST := Lib.hid hst'
        have HON := Lib.hid hon
        have HB := Lib.hid hbr
        have HK := Lib.hid hblk
        have hbel : Below wr.heap.size wr wr := Below.refl _ _
        clear cs hst hst' hon hs hd hbd hc hx hbr hblk
        go_wp2
        have kk := fun d os => belStep hbel (below_regrown _ d os)
        refine wp_region_below_tail 18 (by kernel_rfl) (by kernel_rfl) ?_
        simp only [List.take_succ_cons, List.take_zero, List.drop_succ_cons, List.drop_zero]
        repeat (quiet_step (first | (go_at_call 28; exact Calls.regrown_of (CS.out _))))
        refine wpQuiet_nil (fun w1 hw1 => ?_)
        replace hbel := belStep hbel (bel_of_class hw1)
        clear hw1 kk
        have hbW := Lib.hid (belSet (belSet (belStep HB.out hbel) ⟨W1.heap.size, 0, none⟩ (.bool s) (by simp)) ⟨W1.heap.size, 1, none⟩ (.int .i64 d) (by simp))
        have hKW := Lib.hid (((HK.out.later hbel).set 0 (.bool s)).set 1 (.int .i64 d))
        go_wp2
        generalize (w1.setCell ⟨W1.heap.size, 0, none⟩ (.bool s)).setCell ⟨W1.heap.size, 1, none⟩ (.int .i64 d) = Wd at *
        clear hbel x0 x1 x2 c0 c1 fz HB HK w1
        go_loopw [7, 8, 9] (fun r q i wq => ∃ (j : Nat) (row most : Int), j ≤ k + 1 ∧ i = .int .i64 ((j : Int) - 1) ∧ r = .int .i64 row ∧ q = .int .i64 most ∧ 0 ≤ row ∧ row ≤ most ∧ most ≤ 1000 - j ∧ scan row most (L.take j).reverse = scan 0 0 (L.take (k + 1)).reverse ∧ Below W1.heap.size W1 wq ∧ Blk wq W1.heap.size [.bool s, .int .i64 d] 45) (fun _ _ i _ => (intOf i + 1).toNat)
        case atStart => exact ⟨k + 1, 0, 0, Nat.le_refl _, by go_num, rfl, rfl, by omega, by omega, by omega, rfl, hbW.out, hKW.out⟩
        case round =>
          obtain ⟨j, row, most, hj, rfl, rfl, rfl, r0, r1, r2, hsc, hbq, hbk⟩ := hrel
          have d0 : ∀ v, Below wr.heap.size wr v → v.cell? ⟨W1.heap.size, 0, none⟩ = some (.bool s) := keep (hbk.cell rfl)
          have HB1 := Lib.hid hbq
          have HK1 := Lib.hid hbk
          have HON2 := HON.out
          rw [← hsc] at HON2
          have hbel : Below wr.heap.size wr wr := Below.refl _ _
          rcases j with _ | j
          · have es : s = false := by rw [HON2]; rfl
            subst es
            clear HON2 hsc hbq hbk
            go_wp2
            go_roundw
            case rel => exact ⟨k + 1, false, d, by omega, by go_num, HST.out, HB1.out, HK1.out⟩
            case measure => simp [intOf]; omega
          · obtain ⟨⟨hh', m', f'⟩, hy⟩ : ∃ x, L[j]? = some x := ⟨L[j]'(by omega), List.getElem?_eq_getElem (by omega)⟩
            obtain ⟨b', off', eb, _, hc'⟩ := (HR1.out.later hbq).elem roundCells_len (by omega) hy
            simp only [Option.some.injEq, Addr.mk.injEq] at eb
            obtain ⟨rfl, rfl, _⟩ := eb
            have y0 := keep (hc' 0 _ rfl)
            have y1 := keep (hc' 1 _ rfl)
            have y2 := keep (hc' 2 _ rfl)
            rw [Nat.add_zero] at y0
            rw [rev_take hy] at hsc HON2
            have ej : ((j + 1 : Nat) : Int) - 1 = j := by omega
            have hjL : j < L.length := by omega
            rw [ej]
            clear ej hc' hbq hbk hy
            cases f'
            · have e1 : scan row most ((hh', m', false) :: (L.take j).reverse) = scan 0 most (L.take j).reverse := by
                simp [scan, holdB, row1, calmB]; rw [show max most 0 = most by omega]
              rw [e1] at hsc
              have HSC := Lib.hid hsc
              clear e1 hsc HON2
              go_wp2_with (first | (go_at_call 30; refine (calm_any _ _ _ _).mono ?_; rintro e w1 ⟨rfl, hb1⟩; replace hbel := belStep hbel hb1; clear hb1))
              go_roundw
              case rel => exact ⟨j, 0, most, by omega, rfl, rfl, rfl, by omega, by omega, by omega, HSC.out, belStep HB1.out hbel, HK1.out.later hbel⟩
              case measure => simp [intOf] <;> omega
            · cases hh'
              · cases m'
                · have e1 : scan row most ((false, false, true) :: (L.take j).reverse) = scan (row + 1) (max most (row + 1)) (L.take j).reverse := by
                    simp [scan, holdB, row1, calmB]
                  rw [e1] at hsc
                  have HSC := Lib.hid hsc
                  have ec : calmB (false, false, true) = true := rfl
                  clear e1 hsc HON2
                  by_cases hg : most < row + 1
                  · go_wp2_with (first | (go_at_call 30; refine (calm_any _ _ _ _).mono ?_; rintro e w1 ⟨rfl, hb1⟩; replace hbel := belStep hbel hb1; clear hb1))
                    go_roundw
                    case rel => exact ⟨j, row + 1, row + 1, by omega, rfl, rfl, rfl, by omega, by omega, by omega, by rw [← HSC.out, show max most (row + 1) = row + 1 by omega], belStep HB1.out hbel, HK1.out.later hbel⟩
                    case measure => simp [intOf] <;> omega
                  · go_wp2_with (first | (go_at_call 30; refine (calm_any _ _ _ _).mono ?_; rintro e w1 ⟨rfl, hb1⟩; replace hbel := belStep hbel hb1; clear hb1))
                    go_roundw
                    case rel => exact ⟨j, row + 1, most, by omega, rfl, rfl, rfl, by omega, by omega, by omega, by rw [← HSC.out, show max most (row + 1) = most by omega], belStep HB1.out hbel, HK1.out.later hbel⟩
                    case measure => simp [intOf] <;> omega
                · have e1 : scan row most ((false, true, true) :: (L.take j).reverse) = scan 0 most (L.take j).reverse := by
                    simp [scan, holdB, row1, calmB]; rw [show max most 0 = most by omega]
                  rw [e1] at hsc
                  have HSC := Lib.hid hsc
                  have ec : calmB (false, true, true) = false := rfl
                  clear e1 hsc HON2
                  go_wp2_with (first | (go_at_call 30; refine (calm_any _ _ _ _).mono ?_; rintro e w1 ⟨rfl, hb1⟩; replace hbel := belStep hbel hb1; clear hb1))
                  go_roundw
                  case rel => exact ⟨j, 0, most, by omega, rfl, rfl, rfl, by omega, by omega, by omega, HSC.out, belStep HB1.out hbel, HK1.out.later hbel⟩
                  case measure => simp [intOf] <;> omega
              · have es : s = decide (most < n) := by rw [HON2]; rfl
                clear HON2 hsc
                by_cases hm : most < n
                · have : s = true := by rw [es]; simpa using hm
                  subst this
                  clear es
                  go_wp2
                  go_roundw
                  case rel => exact ⟨k + 1, true, d, by omega, by go_num, HST.out, HB1.out, HK1.out⟩
                  case measure => simp [intOf] <;> omega
                · have : s = false := by rw [es]; simpa using hm
                  subst this
                  clear es
                  go_wp2
                  go_roundw
                  case rel => exact ⟨k + 1, false, d, by omega, by go_num, HST.out, HB1.out, HK1.out⟩
                  case measure => simp [intOf] <;> omega
      · have : k = L.length := by omega
        subst this
        go_wp2
        go_ret
        exact ⟨rfl, belStep hw hbr⟩

set_option maxRecDepth 100000 in
theorem lifted (os : Os) (started : os.Started) (H : Type) (enc : TypeId × Value → H) :
    ReturnsInHanded {} Try.checked os 10 .any (Rows.condRunsSpec.pre6 enc Try.prog Try.f10 Rows.condRunsRow.domain false) (Rows.condRunsSpec.post enc Try.prog Try.f10 false true false false) := by
  refine returnsInHanded_of_change (C := Try.checked) own started (by kernel_rfl) Try.func10
    (ChangeSpec.witness6 (enc := enc) (C := Try.checked) false ⟨#[], #[.slice none 0 0, .int .i64 0], []⟩ 8 (by kernel_rfl) (by kernel_rfl) (by kernel_rfl) (by kernel_rfl)) ?_
  intro W base args ds gs before hval0 hW hcnd _
  have hval : ∀ (j : Nat) t v, Try.f10.params[j]? = some t → args[j]? = some v → Value.okWide Try.prog W .any base t v := hval0
  have hW' := hW
  obtain ⟨p, q, hA0, hV, rfl, hfz, hnd⟩ := hW
  have hA : DataW.TrodAll enc Try.prog W 0 (fun _ => true) true Try.f10.params.toList args.toList ds p := hA0
  rw [Try.params10] at hA hval
  obtain ⟨v0, vs0, d0, ds0, p0, q0, hargs, rfl, rfl, h0, r0⟩ := trodAll_cons hA
  obtain ⟨v1, vs1, d1, ds1, p1, q1, rfl, rfl, rfl, h1, r1⟩ := trodAll_cons r0
  obtain ⟨rfl, rfl, rfl⟩ := trodAll_nil r1
  obtain rfl : args = #[v0, v1] := by cases args; simp_all
  obtain ⟨rfl, rfl⟩ := trodVars_none hV
  have k0 := h0
  have lt0 : ∀ x ∈ p0, x.block < W.heap.size := by obtain ⟨m, hm⟩ := k0; exact DataW.trod_lt m _ _ _ hm
  have o0 : Value.okWide Try.prog W .any base 50 v0 := hval 0 50 v0 rfl rfl
  obtain ⟨a0, l0, c0, L0, rfl, f0⟩ := open_rounds o0 h0
  have k1 := h1
  have lt1 : ∀ x ∈ p1, x.block < W.heap.size := by obtain ⟨m, hm⟩ := k1; exact DataW.trod_lt m _ _ _ hm
  have o1 : Value.okWide Try.prog W .any base 3 v1 := hval 1 3 v1 rfl rfl
  obtain ⟨a1, rfl, rfl, rfl, w1⟩ := open_int Try.underlying3 o1 h1
  clear hA0 hval0
  refine (walk a0 l0 c0 L0 a1 W f0 (inI_of_wf w1)).mono fun e W' ⟨he, bel⟩ => ?_
  subst he
  exact ⟨_, rfl, _, _, _, [], _, [], hW', trodAll_mk1 (shut_bool Try.underlying4 _), (trodAll_cons_mk (Below.trod laidOut (by kernel_rfl) (of_decide_eq_true (by kernel_rfl)) k0 bel lt0) (trodAll_cons_mk (Below.trod laidOut (by kernel_rfl) (of_decide_eq_true (by kernel_rfl)) k1 bel lt1) trodAll_mk0)), rfl, bel.frame _, fun h => by cases h⟩

theorem over : Rows.condRunsRow.holds Try.pinned (OpenSpec.ofChange Rows.condRunsSpec) :=
  OpenClaim.holds_of_wide 10 Try.f10 rfl rfl rfl rfl rfl rfl rfl ⟨rfl, rfl, rfl, rfl, rfl⟩ rfl rfl rfl rfl rfl (by kernel_rfl) Try.func10 (by kernel_rfl)
    (of_decide_eq_true (by kernel_rfl)) (by unfold Func.isWrapper; first | (rw [if_pos (by decide +kernel)]; kernel_rfl) | (rw [if_neg (by decide +kernel)]; exact ⟨rfl, rfl⟩))
    (fun os started H enc _ => lifted os started H enc)

/-- The statement. -/
theorem proved : Rows.CondRunsSaid := over
#print axioms proved

end Go.Proofs.Ythhpkmpaldcloaa.condRuns
