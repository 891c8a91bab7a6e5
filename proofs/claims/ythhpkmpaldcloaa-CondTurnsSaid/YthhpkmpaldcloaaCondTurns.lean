/- CondTurns holds for every slice of rounds and every int as a period: a condition turns on in the very round in which a threshold holds, and off just at the last of a period of calm rounds. No conditions. -/
import Derived.Test.YthhpkmpaldcloaaAwake19
import Derived.Test.YthhpkmpaldcloaaReadCond
import Derived.Test.YthhpkmpaldcloaaTail
namespace Go.Proofs.Ythhpkmpaldcloaa.condTurns
open Go.ChangeShapes Go.WideShapes Go.ChangeAt Go.RowKit
open Go.ChangeMaps (open_string shut_string)
set_option linter.unusedVariables false

/-- What stands behind k rounds: the condition, and the row of calm rounds. -/
def Inv (n : Int) (k : Nat) (on : Bool) (calm row : Int) : Prop :=
  0 ≤ calm ∧ 0 ≤ row ∧ row ≤ k ∧ (on = true → calm < n ∧ calm ≤ row) ∧ (on = false → calm = 0)

theorem inv_step {n : Int} {k : Nat} {on : Bool} {calm row : Int} (h1 : 1 ≤ n) (h : Inv n k on calm row) (hh m f : Bool) (s : Bool) (d : Int) (hs : stepOn on calm hh m f n = s) (hd : stepCalm on calm hh m f n = d) :
    (f = true ∧ hh = true ∧ s = true ∧ Inv n (k + 1) s d 0) ∨ (f = false ∧ s = on ∧ Inv n (k + 1) s d 0) ∨ (f = true ∧ hh = false ∧ m = true ∧ s = on ∧ Inv n (k + 1) s d 0) ∨
    (f = true ∧ hh = false ∧ m = false ∧ on = false ∧ s = false ∧ Inv n (k + 1) s d (row + 1)) ∨ (f = true ∧ hh = false ∧ m = false ∧ on = true ∧ s = true ∧ Inv n (k + 1) s d (row + 1)) ∨
    (f = true ∧ hh = false ∧ m = false ∧ on = true ∧ s = false ∧ Inv n (k + 1) s d (row + 1) ∧ ¬ row + 1 < n) := by
  obtain ⟨a1, a2, a3, a5, a6⟩ := h
  subst hs hd
  have c : calm + 1 < n ∨ ¬ calm + 1 < n := by omega
  unfold Inv
  rcases c with c | c <;> cases on <;> cases f <;> cases hh <;> cases m <;> simp [stepOn, stepCalm, c] at a5 a6 ⊢ <;> omega

set_option maxHeartbeats 1000000 in
theorem calm_any (h m f : Bool) (w : World) :
    Calls Try.prog 30 #[.agg #[.bool h, .bool m, .bool f]] w fun e w' => e = .returned (.bool (f && !m && !h)) ∧ Below w.heap.size w w' := by
  cases f <;> cases m
  all_goals
    go_enter Try.func30, Try.ntmps30
    go_wp2
    go_ret
    exact ⟨ret_bool (by simp), (Below.refl _ _).alloc (Nat.le_refl _) _⟩

set_option maxRecDepth 100000 in
set_option maxHeartbeats 4000000 in
theorem walk (a : Option Addr) (len cap : Nat) (L : List (Bool × Bool × Bool)) (n : Int) (w : World) (hL : L.length = len ∧ Row w a len cap 3 (L.flatMap roundCells)) (hn : InI n) :
    Calls Try.prog 11 #[.slice a len cap, .int .i64 n] w fun e w' => e = .returned (.bool true) ∧ Below w.heap.size w w' := by
  obtain ⟨rfl, hR⟩ := hL
  have hbd : L.length ≤ cap ∧ cap ≤ 9223372036854775807 := by obtain ⟨_, h1, h2, _⟩ := hR; unfold maxLen at h2; exact ⟨h1, h2⟩
  obtain ⟨hb1, hb2⟩ := hbd
  have HR := Lib.hid hR
  clear hR
  have hw : Below w.heap.size w w := Below.refl _ _
  have hbel := hw
  have key : (¬ (1 ≤ n ∧ n ≤ 1000)) ∨ ((1 ≤ n ∧ n ≤ 1000) ∧ 100 < L.length) ∨ ((1 ≤ n ∧ n ≤ 1000) ∧ ¬ 100 < L.length) := by omega
  rcases key with hp | ⟨hp, hl⟩ | ⟨hp, hl⟩
  · go_enter Try.func11, Try.ntmps11
    go_wp2_with (first | (go_at_call 24; refine (awake19 _).mono ?_; rintro e w1 ⟨rfl, hb1⟩; replace hbel := belStep hbel hb1; clear hb1) | (go_at_call 27; refine (period_any _ _).mono ?_; rintro e w' ⟨rfl, rfl⟩))
    go_ret
    exact ⟨rfl, hbel⟩
  · go_enter Try.func11, Try.ntmps11
    go_wp2_with (first | (go_at_call 24; refine (awake19 _).mono ?_; rintro e w1 ⟨rfl, hb1⟩; replace hbel := belStep hbel hb1; clear hb1) | (go_at_call 27; refine (period_any _ _).mono ?_; rintro e w' ⟨rfl, rfl⟩))
    go_ret
    exact ⟨rfl, hbel⟩
  · go_enter Try.func11, Try.ntmps11
    go_upto_region 4 with (first | (go_at_call 24; refine (awake19 _).mono ?_; rintro e w1 ⟨rfl, hb1⟩; replace hbel := belStep hbel hb1; clear hb1) | (go_at_call 27; refine (period_any _ _).mono ?_; rintro e w' ⟨rfl, rfl⟩))
    replace hw := hbel
    have HR1 := Lib.hid (HR.out.later hbel)
    clear HR hbel
    generalize w1 = W1 at *
    go_wp2
    go_loopw [6, 7] (fun q i wr => ∃ (k : Nat) (on : Bool) (calm row : Int), k ≤ L.length ∧ i = .int .i64 k ∧ q = .int .i64 row ∧ Inv n k on calm row ∧ Below W1.heap.size W1 wr ∧ Blk wr W1.heap.size [.bool on, .int .i64 calm] 45) (fun _ i _ => L.length - (intOf i).toNat)
    case atStart =>
      refine ⟨0, false, 0, 0, Nat.zero_le _, rfl, rfl, by unfold Inv; simp, belAlloc (Below.refl _ _) _, ?_⟩
      exact Blk.new W1 [.bool false, .int .i64 0] _
    case round =>
      obtain ⟨k, on, calm, row, hk, rfl, rfl, hinv, hbr, hblk⟩ := hrel
      by_cases hlt : k < L.length
      · obtain ⟨⟨hh, m, f⟩, hx⟩ : ∃ x, L[k]? = some x := ⟨L[k], List.getElem?_eq_getElem hlt⟩
        obtain ⟨b, off, rfl, _, hc⟩ := (HR1.out.later hbr).elem roundCells_len (by omega) hx
        have x0 := keep (hc 0 _ rfl)
        have x1 := keep (hc 1 _ rfl)
        have x2 := keep (hc 2 _ rfl)
        rw [Nat.add_zero] at x0
        have c0 : ∀ v, Below wr.heap.size wr v → v.cell? ⟨W1.heap.size, 0, none⟩ = some (.bool on) := keep (hblk.cell rfl)
        have c1 : ∀ v, Below wr.heap.size wr v → v.cell? ⟨W1.heap.size, 1, none⟩ = some (.int .i64 calm) := keep (hblk.cell rfl)
        have fz : ∀ v j, Below wr.heap.size wr v → v.frozen? ⟨W1.heap.size, j, none⟩ = false := fun v j hv => (hblk.later hv).frozen j
        have hst := inv_step hp.1 hinv hh m f
        obtain ⟨i0, i1, i2, i3, _⟩ := hinv
        have hcl : calm < 9223372036854775807 := by cases on <;> simp_all <;> omega
        have cs : ∀ v, Calls Try.prog 28 #[.agg #[.bool on, .int .i64 calm], .bool hh, .bool m, .bool f, .int .i64 n] v fun e w' => e = .returned (.agg #[.bool (stepOn on calm hh m f n), .int .i64 (stepCalm on calm hh m f n)]) ∧ Below v.heap.size v w' := fun v => cond_Step _ _ _ _ _ _ _ i0 hcl
        obtain ⟨s, hs⟩ : ∃ s, stepOn on calm hh m f n = s := ⟨_, rfl⟩
        obtain ⟨d, hd⟩ : ∃ d, stepCalm on calm hh m f n = d := ⟨_, rfl⟩
        have HS := Lib.hid (hst s d hs hd)
        simp only [hs, hd] at cs
        clear hst hs hd i3
        have CS := Lib.hid cs
        have HB := Lib.hid hbr
        have HK := Lib.hid hblk
        have hW := hbr.size
        have hlb := hblk.lt
        clear cs hc hx hbr hblk hcl
        go_wp2
        go_region_held3 (fun w' => w'.cell? ⟨W1.heap.size, 0, none⟩ = some (.bool on) ∧ w'.cell? ⟨W1.heap.size, 1, none⟩ = some (.int .i64 calm) ∧ w'.cell? ⟨b, off + k * 3, none⟩ = some (.bool hh) ∧ w'.cell? ⟨b, off + k * 3 + 1, none⟩ = some (.bool m) ∧ w'.cell? ⟨b, off + k * 3 + 2, none⟩ = some (.bool f)) (first | exact ⟨c0 _ (by repeat (first | assumption | exact Below.refl _ _ | refine belAlloc ?_ _ | refine belDrew ?_ | refine belSet ?_ _ _ (by simp) | refine belStep ?_ (by assumption))), c1 _ (by repeat (first | assumption | exact Below.refl _ _ | refine belAlloc ?_ _ | refine belDrew ?_ | refine belSet ?_ _ _ (by simp) | refine belStep ?_ (by assumption))), x0 _ (by repeat (first | assumption | exact Below.refl _ _ | refine belAlloc ?_ _ | refine belDrew ?_ | refine belSet ?_ _ _ (by simp) | refine belStep ?_ (by assumption))), x1 _ (by repeat (first | assumption | exact Below.refl _ _ | refine belAlloc ?_ _ | refine belDrew ?_ | refine belSet ?_ _ _ (by simp) | refine belStep ?_ (by assumption))), x2 _ (by repeat (first | assumption | exact Below.refl _ _ | refine belAlloc ?_ _ | refine belDrew ?_ | refine belSet ?_ _ _ (by simp) | refine belStep ?_ (by assumption)))⟩) (first | (go_at_call 28; refine (CS.out _).mono ?_; rintro e w1 ⟨rfl, hb1⟩; have hcc := Below.cells hb1; have hff := Below.frozens hb1))
        · have hb2 : Below wr.heap.size wr w1 := belStep (belDrew (Below.refl _ _)) hb1
          have hbd := belAlloc hb2 (.cells #[.bool s, .int .i64 d] 45)
          have hK2 := HK.out.later hbd
          have hD := Blk.new w1 [.bool s, .int .i64 d] 45
          clear hcc hff hb2 hb1
          change Blk (w1.alloc (.cells #[.bool s, .int .i64 d] 45)) _ _ _ at hD
          generalize w1.alloc (.cells #[.bool s, .int .i64 d] 45) = Wd at *
          generalize w1.heap.size = N at *
          have d0 : Wd.cell? ⟨N, 0, none⟩ = some (.bool s) := hD.cell rfl
          have d1 : Wd.cell? ⟨N, 1, none⟩ = some (.int .i64 d) := hD.cell rfl
          have hbW := belStep HB.out hbd
          have x0d := keepOn x0 hbd
          have x1d := keepOn x1 hbd
          have x2d := keepOn x2 hbd
          have c0d := keepOn c0 hbd
          have c1d := keepOn c1 hbd
          have d0k := keep d0
          have d1k := keep d1
          have fzd : ∀ v j, Below Wd.heap.size Wd v → v.frozen? ⟨W1.heap.size, j, none⟩ = false := fun v j hv => fz v j (belStep hbd hv)
          have HbW := Lib.hid hbW
          have hbel : Below Wd.heap.size Wd Wd := Below.refl _ _
          clear x0 x1 x2 c0 c1 d0 d1 fz hbd hbW hD
          rcases HS.out with ⟨rfl, rfl, rfl, HI0⟩ | ⟨rfl, rfl, HI0⟩ | ⟨rfl, rfl, rfl, rfl, HI0⟩ | ⟨rfl, rfl, rfl, rfl, rfl, HI0⟩ | ⟨rfl, rfl, rfl, rfl, rfl, HI0⟩ | ⟨rfl, rfl, rfl, rfl, rfl, HI0, hge⟩
          · have HI := Lib.hid HI0
            clear HI0 HS
            cases on
            all_goals
              go_wp2_with (first | (go_at_call 30; refine (calm_any _ _ _ _).mono ?_; rintro e w1 ⟨rfl, hb1⟩; replace hbel := belStep hbel hb1; clear hb1))
              go_roundw
              case rel => exact ⟨k + 1, _, d, 0, by omega, by go_num, rfl, HI.out, belSet (belSet (belStep HbW.out hbel) _ _ (by simp)) _ _ (by simp), ((hK2.later hbel).set 0 _).set 1 _⟩
              case measure => simp [intOf]; omega
          · have HI := Lib.hid HI0
            clear HI0 HS
            cases s
            all_goals
              go_wp2_with (first | (go_at_call 30; refine (calm_any _ _ _ _).mono ?_; rintro e w1 ⟨rfl, hb1⟩; replace hbel := belStep hbel hb1; clear hb1))
              go_roundw
              case rel => exact ⟨k + 1, _, d, 0, by omega, by go_num, rfl, HI.out, belSet (belSet (belStep HbW.out hbel) _ _ (by simp)) _ _ (by simp), ((hK2.later hbel).set 0 _).set 1 _⟩
              case measure => simp [intOf]; omega
          · have HI := Lib.hid HI0
            clear HI0 HS
            cases s
            all_goals
              go_wp2_with (first | (go_at_call 30; refine (calm_any _ _ _ _).mono ?_; rintro e w1 ⟨rfl, hb1⟩; replace hbel := belStep hbel hb1; clear hb1))
              go_roundw
              case rel => exact ⟨k + 1, _, d, 0, by omega, by go_num, rfl, HI.out, belSet (belSet (belStep HbW.out hbel) _ _ (by simp)) _ _ (by simp), ((hK2.later hbel).set 0 _).set 1 _⟩
              case measure => simp [intOf]; omega
          · have HI := Lib.hid HI0
            clear HI0 HS
            go_wp2_with (first | (go_at_call 30; refine (calm_any _ _ _ _).mono ?_; rintro e w1 ⟨rfl, hb1⟩; replace hbel := belStep hbel hb1; clear hb1))
            go_roundw
            case rel => exact ⟨k + 1, _, d, row + 1, by omega, by go_num, rfl, HI.out, belSet (belSet (belStep HbW.out hbel) _ _ (by simp)) _ _ (by simp), ((hK2.later hbel).set 0 _).set 1 _⟩
            case measure => simp [intOf]; omega
          · have HI := Lib.hid HI0
            clear HI0 HS
            go_wp2_with (first | (go_at_call 30; refine (calm_any _ _ _ _).mono ?_; rintro e w1 ⟨rfl, hb1⟩; replace hbel := belStep hbel hb1; clear hb1))
            go_roundw
            case rel => exact ⟨k + 1, _, d, row + 1, by omega, by go_num, rfl, HI.out, belSet (belSet (belStep HbW.out hbel) _ _ (by simp)) _ _ (by simp), ((hK2.later hbel).set 0 _).set 1 _⟩
            case measure => simp [intOf]; omega
          · have HI := Lib.hid HI0
            clear HI0 HS
            go_wp2_with (first | (go_at_call 30; refine (calm_any _ _ _ _).mono ?_; rintro e w1 ⟨rfl, hb1⟩; replace hbel := belStep hbel hb1; clear hb1))
            go_roundw
            case rel => exact ⟨k + 1, _, d, row + 1, by omega, by go_num, rfl, HI.out, belSet (belSet (belStep HbW.out hbel) _ _ (by simp)) _ _ (by simp), ((hK2.later hbel).set 0 _).set 1 _⟩
            case measure => simp [intOf]; omega
        · have hb2 : Below wr.heap.size wr w1 := belStep (belAlloc (belDrew (Below.refl _ _)) _) hb1
          have hbd := belSet (belSet hb2 ⟨wr.heap.size, 0, none⟩ (.bool s) (by simp)) ⟨wr.heap.size, 1, none⟩ (.int .i64 d) (by simp)
          have hK2 := HK.out.later hbd
          have hD := (((Blk.new wr.drew [.bool false, .int .i64 0] 45).later hb1).set 0 (.bool s)).set 1 (.int .i64 d)
          clear hcc hff hb2 hb1
          change Blk ((w1.setCell ⟨wr.heap.size, 0, none⟩ (.bool s)).setCell ⟨wr.heap.size, 1, none⟩ (.int .i64 d)) wr.heap.size _ _ at hD
          generalize (w1.setCell ⟨wr.heap.size, 0, none⟩ (.bool s)).setCell ⟨wr.heap.size, 1, none⟩ (.int .i64 d) = Wd at *
          have d0 : Wd.cell? ⟨wr.heap.size, 0, none⟩ = some (.bool s) := hD.cell rfl
          have d1 : Wd.cell? ⟨wr.heap.size, 1, none⟩ = some (.int .i64 d) := hD.cell rfl
          have hbW := belStep HB.out hbd
          have x0d := keepOn x0 hbd
          have x1d := keepOn x1 hbd
          have x2d := keepOn x2 hbd
          have c0d := keepOn c0 hbd
          have c1d := keepOn c1 hbd
          have d0k := keep d0
          have d1k := keep d1
          have fzd : ∀ v j, Below Wd.heap.size Wd v → v.frozen? ⟨W1.heap.size, j, none⟩ = false := fun v j hv => fz v j (belStep hbd hv)
          have HbW := Lib.hid hbW
          have hbel : Below Wd.heap.size Wd Wd := Below.refl _ _
          clear x0 x1 x2 c0 c1 d0 d1 fz hbd hbW hD
          rcases HS.out with ⟨rfl, rfl, rfl, HI0⟩ | ⟨rfl, rfl, HI0⟩ | ⟨rfl, rfl, rfl, rfl, HI0⟩ | ⟨rfl, rfl, rfl, rfl, rfl, HI0⟩ | ⟨rfl, rfl, rfl, rfl, rfl, HI0⟩ | ⟨rfl, rfl, rfl, rfl, rfl, HI0, hge⟩
          · have HI := Lib.hid HI0
            clear HI0 HS
            cases on
            all_goals
              go_wp2_with (first | (go_at_call 30; refine (calm_any _ _ _ _).mono ?_; rintro e w1 ⟨rfl, hb1⟩; replace hbel := belStep hbel hb1; clear hb1))
              go_roundw
              case rel => exact ⟨k + 1, _, d, 0, by omega, by go_num, rfl, HI.out, belSet (belSet (belStep HbW.out hbel) _ _ (by simp)) _ _ (by simp), ((hK2.later hbel).set 0 _).set 1 _⟩
              case measure => simp [intOf]; omega
          · have HI := Lib.hid HI0
            clear HI0 HS
            cases s
            all_goals
              go_wp2_with (first | (go_at_call 30; refine (calm_any _ _ _ _).mono ?_; rintro e w1 ⟨rfl, hb1⟩; replace hbel := belStep hbel hb1; clear hb1))
              go_roundw
              case rel => exact ⟨k + 1, _, d, 0, by omega, by go_num, rfl, HI.out, belSet (belSet (belStep HbW.out hbel) _ _ (by simp)) _ _ (by simp), ((hK2.later hbel).set 0 _).set 1 _⟩
              case measure => simp [intOf]; omega
          · have HI := Lib.hid HI0
            clear HI0 HS
            cases s
            all_goals
              go_wp2_with (first | (go_at_call 30; refine (calm_any _ _ _ _).mono ?_; rintro e w1 ⟨rfl, hb1⟩; replace hbel := belStep hbel hb1; clear hb1))
              go_roundw
              case rel => exact ⟨k + 1, _, d, 0, by omega, by go_num, rfl, HI.out, belSet (belSet (belStep HbW.out hbel) _ _ (by simp)) _ _ (by simp), ((hK2.later hbel).set 0 _).set 1 _⟩
              case measure => simp [intOf]; omega
          · have HI := Lib.hid HI0
            clear HI0 HS
            go_wp2_with (first | (go_at_call 30; refine (calm_any _ _ _ _).mono ?_; rintro e w1 ⟨rfl, hb1⟩; replace hbel := belStep hbel hb1; clear hb1))
            go_roundw
            case rel => exact ⟨k + 1, _, d, row + 1, by omega, by go_num, rfl, HI.out, belSet (belSet (belStep HbW.out hbel) _ _ (by simp)) _ _ (by simp), ((hK2.later hbel).set 0 _).set 1 _⟩
            case measure => simp [intOf]; omega
          · have HI := Lib.hid HI0
            clear HI0 HS
            go_wp2_with (first | (go_at_call 30; refine (calm_any _ _ _ _).mono ?_; rintro e w1 ⟨rfl, hb1⟩; replace hbel := belStep hbel hb1; clear hb1))
            go_roundw
            case rel => exact ⟨k + 1, _, d, row + 1, by omega, by go_num, rfl, HI.out, belSet (belSet (belStep HbW.out hbel) _ _ (by simp)) _ _ (by simp), ((hK2.later hbel).set 0 _).set 1 _⟩
            case measure => simp [intOf]; omega
          · have HI := Lib.hid HI0
            clear HI0 HS
            go_wp2_with (first | (go_at_call 30; refine (calm_any _ _ _ _).mono ?_; rintro e w1 ⟨rfl, hb1⟩; replace hbel := belStep hbel hb1; clear hb1))
            go_roundw
            case rel => exact ⟨k + 1, _, d, row + 1, by omega, by go_num, rfl, HI.out, belSet (belSet (belStep HbW.out hbel) _ _ (by simp)) _ _ (by simp), ((hK2.later hbel).set 0 _).set 1 _⟩
            case measure => simp [intOf]; omega
      · have : k = L.length := by omega
        subst this
        go_wp2
        go_ret
        exact ⟨rfl, belStep hw hbr⟩

set_option maxRecDepth 100000 in
theorem lifted (os : Os) (started : os.Started) (H : Type) (enc : TypeId × Value → H) :
    ReturnsInHanded {} Try.checked os 11 .any (Rows.condTurnsSpec.pre6 enc Try.prog Try.f11 Rows.condTurnsRow.domain false) (Rows.condTurnsSpec.post enc Try.prog Try.f11 false true false false) := by
  refine returnsInHanded_of_change (C := Try.checked) own started (by kernel_rfl) Try.func11
    (ChangeSpec.witness6 (enc := enc) (C := Try.checked) false ⟨#[], #[.slice none 0 0, .int .i64 0], []⟩ 8 (by kernel_rfl) (by kernel_rfl) (by kernel_rfl) (by kernel_rfl)) ?_
  intro W base args ds gs before hval0 hW hcnd _
  have hval : ∀ (j : Nat) t v, Try.f11.params[j]? = some t → args[j]? = some v → Value.okWide Try.prog W .any base t v := hval0
  have hW' := hW
  obtain ⟨p, q, hA0, hV, rfl, hfz, hnd⟩ := hW
  have hA : DataW.TrodAll enc Try.prog W 0 (fun _ => true) true Try.f11.params.toList args.toList ds p := hA0
  rw [Try.params11] at hA hval
  obtain ⟨v0, vs0, d0, ds0, p0, q0, hargs, rfl, rfl, h0, r0⟩ := trodAll_cons hA
  obtain ⟨v1, vs1, d1, ds1, p1, q1, rfl, rfl, rfl, h1, r1⟩ := trodAll_cons r0
  obtain ⟨rfl, rfl, rfl⟩ := trodAll_nil r1
  obtain rfl : args = #[v0, v1] := by cases args; simp_all
  obtain ⟨rfl, rfl⟩ := trodVars_none hV
  have k0 := h0
  have lt0 : ∀ x ∈ p0, x.block < W.heap.size := by obtain ⟨m, hm⟩ := k0; exact DataW.trod_lt m _ _ _ hm
  have o0 : Value.okWide Try.prog W .any base 50 v0 := hval 0 50 v0 rfl rfl
  obtain ⟨a0, l0, c0, L0, rfl, f0⟩ := open_rounds o0 h0
  have k1 := h1
  have lt1 : ∀ x ∈ p1, x.block < W.heap.size := by obtain ⟨m, hm⟩ := k1; exact DataW.trod_lt m _ _ _ hm
  have o1 : Value.okWide Try.prog W .any base 3 v1 := hval 1 3 v1 rfl rfl
  obtain ⟨a1, rfl, rfl, rfl, w1⟩ := open_int Try.underlying3 o1 h1
  clear hA0 hval0
  refine (walk a0 l0 c0 L0 a1 W f0 (inI_of_wf w1)).mono fun e W' ⟨he, bel⟩ => ?_
  subst he
  exact ⟨_, rfl, _, _, _, [], _, [], hW', trodAll_mk1 (shut_bool Try.underlying4 _), (trodAll_cons_mk (Below.trod laidOut (by kernel_rfl) (of_decide_eq_true (by kernel_rfl)) k0 bel lt0) (trodAll_cons_mk (Below.trod laidOut (by kernel_rfl) (of_decide_eq_true (by kernel_rfl)) k1 bel lt1) trodAll_mk0)), rfl, bel.frame _, fun h => by cases h⟩

theorem over : Rows.condTurnsRow.holds Try.pinned (OpenSpec.ofChange Rows.condTurnsSpec) :=
  OpenClaim.holds_of_wide 11 Try.f11 rfl rfl rfl rfl rfl rfl rfl ⟨rfl, rfl, rfl, rfl, rfl⟩ rfl rfl rfl rfl rfl (by kernel_rfl) Try.func11 (by kernel_rfl)
    (of_decide_eq_true (by kernel_rfl)) (by unfold Func.isWrapper; first | (rw [if_pos (by decide +kernel)]; kernel_rfl) | (rw [if_neg (by decide +kernel)]; exact ⟨rfl, rfl⟩))
    (fun os started H enc _ => lifted os started H enc)

/-- The statement. -/
theorem proved : Rows.CondTurnsSaid := over
#print axioms proved

end Go.Proofs.Ythhpkmpaldcloaa.condTurns
