/- CondFlaps holds for every slice of rounds and every int as a period: between two times that a condition turns on there are more rounds than a period has. No conditions. -/
import Derived.Test.YthhpkmpaldcloaaAwake19
import Derived.Test.YthhpkmpaldcloaaReadCond
import Derived.Test.YthhpkmpaldcloaaTail
namespace Go.Proofs.Ythhpkmpaldcloaa.condFlaps
open Go.ChangeShapes Go.WideShapes Go.ChangeAt Go.RowKit
open Go.ChangeMaps (open_string shut_string)
set_option linter.unusedVariables false

/-- What stands behind k rounds: the condition, and when it was turned on last. -/
def Inv (n : Int) (k : Nat) (on : Bool) (calm last : Int) : Prop :=
  0 ≤ calm ∧ calm ≤ k ∧ -1 ≤ last ∧ last < k ∧ (on = true → calm < n ∧ 0 ≤ last ∧ calm ≤ k - last - 1) ∧ (on = false → calm = 0 ∧ (0 ≤ last → n < k - last))

theorem inv_step {n : Int} {k : Nat} {on : Bool} {calm last : Int} (h1 : 1 ≤ n) (h : Inv n k on calm last) (hh m f : Bool) :
    (stepOn on calm hh m f n = true → on = false → (¬ 0 ≤ last ∨ (0 ≤ last ∧ ¬ k - last ≤ n)) ∧ Inv n (k + 1) (stepOn on calm hh m f n) (stepCalm on calm hh m f n) k) ∧
    ((stepOn on calm hh m f n = false ∨ on = true) → Inv n (k + 1) (stepOn on calm hh m f n) (stepCalm on calm hh m f n) last) := by
  obtain ⟨a1, a2, a3, a4, a5, a6⟩ := h
  have c : calm + 1 < n ∨ ¬ calm + 1 < n := by omega
  unfold Inv
  rcases c with c | c <;> cases on <;> cases f <;> cases hh <;> cases m <;> simp [stepOn, stepCalm, c] at a5 a6 ⊢ <;> omega

set_option maxHeartbeats 4000000 in
theorem walk (a : Option Addr) (len cap : Nat) (L : List (Bool × Bool × Bool)) (n : Int) (w : World) (hL : L.length = len ∧ Row w a len cap 3 (L.flatMap roundCells)) (hn : InI n) :
    Calls Try.prog 12 #[.slice a len cap, .int .i64 n] w fun e w' => e = .returned (.bool true) ∧ Below w.heap.size w w' := by
  obtain ⟨rfl, hR⟩ := hL
  have hbd : L.length ≤ cap ∧ cap ≤ 9223372036854775807 := by obtain ⟨_, h1, h2, _⟩ := hR; unfold maxLen at h2; exact ⟨h1, h2⟩
  obtain ⟨hb1, hb2⟩ := hbd
  have HR := Lib.hid hR
  clear hR
  have hw : Below w.heap.size w w := Below.refl _ _
  have hbel := hw
  have key : (¬ (1 ≤ n ∧ n ≤ 1000)) ∨ ((1 ≤ n ∧ n ≤ 1000) ∧ 300 < L.length) ∨ ((1 ≤ n ∧ n ≤ 1000) ∧ ¬ 300 < L.length) := by omega
  rcases key with hp | ⟨hp, hl⟩ | ⟨hp, hl⟩
  · go_enter Try.func12, Try.ntmps12
    go_wp2_with (first | (go_at_call 24; refine (awake19 _).mono ?_; rintro e w1 ⟨rfl, hb1⟩; replace hbel := belStep hbel hb1; clear hb1) | (go_at_call 27; refine (period_any _ _).mono ?_; rintro e w' ⟨rfl, rfl⟩))
    go_ret
    exact ⟨rfl, hbel⟩
  · go_enter Try.func12, Try.ntmps12
    go_wp2_with (first | (go_at_call 24; refine (awake19 _).mono ?_; rintro e w1 ⟨rfl, hb1⟩; replace hbel := belStep hbel hb1; clear hb1) | (go_at_call 27; refine (period_any _ _).mono ?_; rintro e w' ⟨rfl, rfl⟩))
    go_ret
    exact ⟨rfl, hbel⟩
  · go_enter Try.func12, Try.ntmps12
    go_upto_region 4 with (first | (go_at_call 24; refine (awake19 _).mono ?_; rintro e w1 ⟨rfl, hb1⟩; replace hbel := belStep hbel hb1; clear hb1) | (go_at_call 27; refine (period_any _ _).mono ?_; rintro e w' ⟨rfl, rfl⟩))
    replace hw := hbel
    have HR1 := Lib.hid (HR.out.later hbel)
    clear HR hbel
    generalize w1 = W1 at *
    go_wp2
    go_loopw [6, 7] (fun q i wr => ∃ (k : Nat) (on : Bool) (calm last : Int), k ≤ L.length ∧ i = .int .i64 k ∧ q = .int .i64 last ∧ Inv n k on calm last ∧ Below W1.heap.size W1 wr ∧ Blk wr W1.heap.size [.bool on, .int .i64 calm] 45) (fun _ i _ => L.length - (intOf i).toNat)
    case atStart =>
      refine ⟨0, false, 0, -1, Nat.zero_le _, rfl, rfl, by unfold Inv; simp, belAlloc (Below.refl _ _) _, ?_⟩
      exact Blk.new W1 [.bool false, .int .i64 0] _
    case round =>
      obtain ⟨k, on, calm, last, hk, rfl, rfl, hinv, hbr, hblk⟩ := hrel
      by_cases hlt : k < L.length
      · obtain ⟨⟨hh, m, f⟩, hx⟩ : ∃ x, L[k]? = some x := ⟨L[k], List.getElem?_eq_getElem hlt⟩
        obtain ⟨b, off, rfl, _, hc⟩ := (HR1.out.later hbr).elem roundCells_len (by omega) hx
        have x0 := keep (hc 0 _ rfl)
        have x1 := keep (hc 1 _ rfl)
        have x2 := keep (hc 2 _ rfl)
        rw [Nat.add_zero] at x0
        have c0 : ∀ v, Below wr.heap.size wr v → v.cell? ⟨W1.heap.size, 0, none⟩ = some (.bool on) := keep (hblk.cell rfl)
        have c1 : ∀ v, Below wr.heap.size wr v → v.cell? ⟨W1.heap.size, 1, none⟩ = some (.int .i64 calm) := keep (hblk.cell rfl)
        have fz : ∀ v j, Below wr.heap.size wr v → v.frozen? ⟨W1.heap.size, j, none⟩ = false := fun v j hv => (hblk.later hv).frozen j
        have hs := inv_step hp.1 hinv hh m f
        obtain ⟨i0, i1, i2, i3, _, _⟩ := hinv
        have hcl : calm < 9223372036854775807 := by omega
        have cs : ∀ v, Calls Try.prog 28 #[.agg #[.bool on, .int .i64 calm], .bool hh, .bool m, .bool f, .int .i64 n] v fun e w' => e = .returned (.agg #[.bool (stepOn on calm hh m f n), .int .i64 (stepCalm on calm hh m f n)]) ∧ Below v.heap.size v w' := fun v => cond_Step _ _ _ _ _ _ _ i0 hcl
        generalize stepOn on calm hh m f n = s at *
        generalize stepCalm on calm hh m f n = d at *
        have HS : Hid ((s = true ∧ on = false ∧ (¬ 0 ≤ last ∨ (0 ≤ last ∧ ¬ (k : Int) - last ≤ n)) ∧ Inv n (k + 1) s d k) ∨ ((s = false ∨ on = true) ∧ Inv n (k + 1) s d last)) := by
          show _ ∨ _
          cases s <;> cases on <;> simp at hs ⊢ <;> simp_all
        have CS := Lib.hid cs
        have HB := Lib.hid hbr
        have HK := Lib.hid hblk
        have hW := hbr.size
        have hlb := hblk.lt
        clear hs cs hc hx hbr hblk hcl
        go_wp2
        go_region_held3 (fun w' => w'.cell? ⟨W1.heap.size, 0, none⟩ = some (.bool on) ∧ w'.cell? ⟨W1.heap.size, 1, none⟩ = some (.int .i64 calm) ∧ w'.cell? ⟨b, off + k * 3, none⟩ = some (.bool hh) ∧ w'.cell? ⟨b, off + k * 3 + 1, none⟩ = some (.bool m) ∧ w'.cell? ⟨b, off + k * 3 + 2, none⟩ = some (.bool f)) (first | exact ⟨c0 _ (by repeat (first | assumption | exact Below.refl _ _ | refine belAlloc ?_ _ | refine belDrew ?_ | refine belSet ?_ _ _ (by simp) | refine belStep ?_ (by assumption))), c1 _ (by repeat (first | assumption | exact Below.refl _ _ | refine belAlloc ?_ _ | refine belDrew ?_ | refine belSet ?_ _ _ (by simp) | refine belStep ?_ (by assumption))), x0 _ (by repeat (first | assumption | exact Below.refl _ _ | refine belAlloc ?_ _ | refine belDrew ?_ | refine belSet ?_ _ _ (by simp) | refine belStep ?_ (by assumption))), x1 _ (by repeat (first | assumption | exact Below.refl _ _ | refine belAlloc ?_ _ | refine belDrew ?_ | refine belSet ?_ _ _ (by simp) | refine belStep ?_ (by assumption))), x2 _ (by repeat (first | assumption | exact Below.refl _ _ | refine belAlloc ?_ _ | refine belDrew ?_ | refine belSet ?_ _ _ (by simp) | refine belStep ?_ (by assumption)))⟩) (first | (go_at_call 28; refine (CS.out _).mono ?_; rintro e w1 ⟨rfl, hb1⟩; have hcc := Below.cells hb1; have hff := Below.frozens hb1))
        · have hb2 : Below wr.heap.size wr w1 := belStep (belDrew (Below.refl _ _)) hb1
          have hbd := belAlloc hb2 (.cells #[.bool s, .int .i64 d] 45)
          have hK2 := HK.out.later hbd
          have hD := Blk.new w1 [.bool s, .int .i64 d] 45
          clear hcc hff hb2 hb1
          change Blk (w1.alloc (.cells #[.bool s, .int .i64 d] 45)) _ _ _ at hD
          generalize w1.alloc (.cells #[.bool s, .int .i64 d] 45) = Wd at *
          generalize w1.heap.size = N at *
          have d0 : Wd.cell? ⟨N, 0, none⟩ = some (.bool s) := hD.cell rfl
          have d1 : Wd.cell? ⟨N, 1, none⟩ = some (.int .i64 d) := hD.cell rfl
          rcases HS.out with ⟨e1, e2, (hl0 | ⟨hl0, hl1⟩), HI0⟩ | ⟨e1, HI0⟩
          · have HI := Lib.hid HI0
            subst e1 e2
            clear HI0 HS
            go_wp2
            go_roundw
            case rel => exact ⟨k + 1, _, d, k, by omega, by go_num, rfl, HI.out, belSet (belSet (belStep HB.out hbd) _ _ (by simp)) _ _ (by simp), (hK2.set 0 _).set 1 _⟩
            case measure => simp [intOf]; omega
          · have HI := Lib.hid HI0
            subst e1 e2
            clear HI0 HS
            go_wp2
            go_roundw
            case rel => exact ⟨k + 1, _, d, k, by omega, by go_num, rfl, HI.out, belSet (belSet (belStep HB.out hbd) _ _ (by simp)) _ _ (by simp), (hK2.set 0 _).set 1 _⟩
            case measure => simp [intOf]; omega
          · have HI := Lib.hid HI0
            clear HI0 HS
            rcases e1 with rfl | rfl
            · go_wp2
              go_roundw
              case rel => exact ⟨k + 1, _, d, last, by omega, by go_num, rfl, HI.out, belSet (belSet (belStep HB.out hbd) _ _ (by simp)) _ _ (by simp), (hK2.set 0 _).set 1 _⟩
              case measure => simp [intOf]; omega
            · cases s
              · go_wp2
                go_roundw
                case rel => exact ⟨k + 1, _, d, last, by omega, by go_num, rfl, HI.out, belSet (belSet (belStep HB.out hbd) _ _ (by simp)) _ _ (by simp), (hK2.set 0 _).set 1 _⟩
                case measure => simp [intOf]; omega
              · go_wp2
                go_roundw
                case rel => exact ⟨k + 1, _, d, last, by omega, by go_num, rfl, HI.out, belSet (belSet (belStep HB.out hbd) _ _ (by simp)) _ _ (by simp), (hK2.set 0 _).set 1 _⟩
                case measure => simp [intOf]; omega
        · have hb2 : Below wr.heap.size wr w1 := belStep (belAlloc (belDrew (Below.refl _ _)) _) hb1
          have hbd := belSet (belSet hb2 ⟨wr.heap.size, 0, none⟩ (.bool s) (by simp)) ⟨wr.heap.size, 1, none⟩ (.int .i64 d) (by simp)
          have hK2 := HK.out.later hbd
          have hD := (((Blk.new wr.drew [.bool false, .int .i64 0] 45).later hb1).set 0 (.bool s)).set 1 (.int .i64 d)
          clear hcc hff hb2 hb1
          change Blk ((w1.setCell ⟨wr.heap.size, 0, none⟩ (.bool s)).setCell ⟨wr.heap.size, 1, none⟩ (.int .i64 d)) wr.heap.size _ _ at hD
          generalize (w1.setCell ⟨wr.heap.size, 0, none⟩ (.bool s)).setCell ⟨wr.heap.size, 1, none⟩ (.int .i64 d) = Wd at *
          have d0 : Wd.cell? ⟨wr.heap.size, 0, none⟩ = some (.bool s) := hD.cell rfl
          have d1 : Wd.cell? ⟨wr.heap.size, 1, none⟩ = some (.int .i64 d) := hD.cell rfl
          rcases HS.out with ⟨e1, e2, (hl0 | ⟨hl0, hl1⟩), HI0⟩ | ⟨e1, HI0⟩
          · have HI := Lib.hid HI0
            subst e1 e2
            clear HI0 HS
            go_wp2
            go_roundw
            case rel => exact ⟨k + 1, _, d, k, by omega, by go_num, rfl, HI.out, belSet (belSet (belStep HB.out hbd) _ _ (by simp)) _ _ (by simp), (hK2.set 0 _).set 1 _⟩
            case measure => simp [intOf]; omega
          · have HI := Lib.hid HI0
            subst e1 e2
            clear HI0 HS
            go_wp2
            go_roundw
            case rel => exact ⟨k + 1, _, d, k, by omega, by go_num, rfl, HI.out, belSet (belSet (belStep HB.out hbd) _ _ (by simp)) _ _ (by simp), (hK2.set 0 _).set 1 _⟩
            case measure => simp [intOf]; omega
          · have HI := Lib.hid HI0
            clear HI0 HS
            rcases e1 with rfl | rfl
            · go_wp2
              go_roundw
              case rel => exact ⟨k + 1, _, d, last, by omega, by go_num, rfl, HI.out, belSet (belSet (belStep HB.out hbd) _ _ (by simp)) _ _ (by simp), (hK2.set 0 _).set 1 _⟩
              case measure => simp [intOf]; omega
            · cases s
              · go_wp2
                go_roundw
                case rel => exact ⟨k + 1, _, d, last, by omega, by go_num, rfl, HI.out, belSet (belSet (belStep HB.out hbd) _ _ (by simp)) _ _ (by simp), (hK2.set 0 _).set 1 _⟩
                case measure => simp [intOf]; omega
              · go_wp2
                go_roundw
                case rel => exact ⟨k + 1, _, d, last, by omega, by go_num, rfl, HI.out, belSet (belSet (belStep HB.out hbd) _ _ (by simp)) _ _ (by simp), (hK2.set 0 _).set 1 _⟩
                case measure => simp [intOf]; omega
      · have : k = L.length := by omega
        subst this
        go_wp2
        go_ret
        exact ⟨rfl, belStep hw hbr⟩

set_option maxRecDepth 100000 in
theorem lifted (os : Os) (started : os.Started) (H : Type) (enc : TypeId × Value → H) :
    ReturnsInHanded {} Try.checked os 12 .any (Rows.condFlapsSpec.pre6 enc Try.prog Try.f12 Rows.condFlapsRow.domain false) (Rows.condFlapsSpec.post enc Try.prog Try.f12 false true false false) := by
  refine returnsInHanded_of_change (C := Try.checked) own started (by kernel_rfl) Try.func12
    (ChangeSpec.witness6 (enc := enc) (C := Try.checked) false ⟨#[], #[.slice none 0 0, .int .i64 0], []⟩ 8 (by kernel_rfl) (by kernel_rfl) (by kernel_rfl) (by kernel_rfl)) ?_
  intro W base args ds gs before hval0 hW hcnd _
  have hval : ∀ (j : Nat) t v, Try.f12.params[j]? = some t → args[j]? = some v → Value.okWide Try.prog W .any base t v := hval0
  have hW' := hW
  obtain ⟨p, q, hA0, hV, rfl, hfz, hnd⟩ := hW
  have hA : DataW.TrodAll enc Try.prog W 0 (fun _ => true) true Try.f12.params.toList args.toList ds p := hA0
  rw [Try.params12] at hA hval
  obtain ⟨v0, vs0, d0, ds0, p0, q0, hargs, rfl, rfl, h0, r0⟩ := trodAll_cons hA
  obtain ⟨v1, vs1, d1, ds1, p1, q1, rfl, rfl, rfl, h1, r1⟩ := trodAll_cons r0
  obtain ⟨rfl, rfl, rfl⟩ := trodAll_nil r1
  obtain rfl : args = #[v0, v1] := by cases args; simp_all
  obtain ⟨rfl, rfl⟩ := trodVars_none hV
  have k0 := h0
  have lt0 : ∀ x ∈ p0, x.block < W.heap.size := by obtain ⟨m, hm⟩ := k0; exact DataW.trod_lt m _ _ _ hm
  have o0 : Value.okWide Try.prog W .any base 50 v0 := hval 0 50 v0 rfl rfl
  obtain ⟨a0, l0, c0, L0, rfl, f0⟩ := open_rounds o0 h0
  have k1 := h1
  have lt1 : ∀ x ∈ p1, x.block < W.heap.size := by obtain ⟨m, hm⟩ := k1; exact DataW.trod_lt m _ _ _ hm
  have o1 : Value.okWide Try.prog W .any base 3 v1 := hval 1 3 v1 rfl rfl
  obtain ⟨a1, rfl, rfl, rfl, w1⟩ := open_int Try.underlying3 o1 h1
  clear hA0 hval0
  refine (walk a0 l0 c0 L0 a1 W f0 (inI_of_wf w1)).mono fun e W' ⟨he, bel⟩ => ?_
  subst he
  exact ⟨_, rfl, _, _, _, [], _, [], hW', trodAll_mk1 (shut_bool Try.underlying4 _), (trodAll_cons_mk (Below.trod laidOut (by kernel_rfl) (of_decide_eq_true (by kernel_rfl)) k0 bel lt0) (trodAll_cons_mk (Below.trod laidOut (by kernel_rfl) (of_decide_eq_true (by kernel_rfl)) k1 bel lt1) trodAll_mk0)), rfl, bel.frame _, fun h => by cases h⟩

theorem over : Rows.condFlapsRow.holds Try.pinned (OpenSpec.ofChange Rows.condFlapsSpec) :=
  OpenClaim.holds_of_wide 12 Try.f12 rfl rfl rfl rfl rfl rfl rfl ⟨rfl, rfl, rfl, rfl, rfl⟩ rfl rfl rfl rfl rfl (by kernel_rfl) Try.func12 (by kernel_rfl)
    (of_decide_eq_true (by kernel_rfl)) (by unfold Func.isWrapper; first | (rw [if_pos (by decide +kernel)]; kernel_rfl) | (rw [if_neg (by decide +kernel)]; exact ⟨rfl, rfl⟩))
    (fun os started H enc _ => lifted os started H enc)

/-- The statement. -/
theorem proved : Rows.CondFlapsSaid := over
#print axioms proved

end Go.Proofs.Ythhpkmpaldcloaa.condFlaps
