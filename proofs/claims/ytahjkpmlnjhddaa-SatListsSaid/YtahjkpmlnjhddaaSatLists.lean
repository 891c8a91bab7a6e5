/- SatLists holds for every two slices of ints: the sum of both, one behind the other, is the sum of their sums; turned round a list has the same sum. No conditions. -/
import Derived.Test.YtahjkpmlnjhddaaAwake01
namespace Go.Proofs.Ytahjkpmlnjhddaa.satLists
open Go.ChangeShapes Go.WideShapes Go.ChangeAt Go.RowKit
open Go.ChangeMaps (open_string shut_string)
set_option linter.unusedVariables false

theorem info_int : (Try.prog.info? 3).map (fun i => (i.zero, i.size, i.bytes)) = some (some (.int .i64 0), 1, 8) := by kernel_rfl

theorem foldl_add (l : List Int) (s : Int) (hs : 0 ≤ s ∧ s ≤ 9223372036854775807) : l.foldl satAdd s = satAdd s (satSum l) := by
  induction l generalizing s with
  | nil => unfold satSum satAdd; simp; omega
  | cons x l ih =>
    simp only [List.foldl_cons]
    rw [ih _ (satAdd_bd _ _)]
    have : satSum (x :: l) = satAdd (satAdd 0 x) (satSum l) := by unfold satSum; rw [List.foldl_cons]; exact ih _ (satAdd_bd _ _)
    rw [this, ← satAdd_assoc]
    unfold satAdd; omega
theorem sum_append (a b : List Int) : satSum (a ++ b) = satAdd (satSum a) (satSum b) := by
  unfold satSum
  rw [List.foldl_append]
  exact foldl_add b _ (satSum_bd a)
theorem sum_one (x : Int) (l : List Int) : satSum (x :: l) = satSum (l ++ [x]) := by
  have : x :: l = [x] ++ l := rfl
  rw [this, sum_append, sum_append, satAdd_comm]
theorem sum_reverse (l : List Int) : satSum l.reverse = satSum l := by
  induction l with
  | nil => rfl
  | cons x l ih => rw [List.reverse_cons, sum_append, ih, sum_one x l, sum_append]

theorem drop_rev {l : List Int} {k : Nat} (h : k < l.length) : (l.drop k).reverse = (l.drop (k + 1)).reverse ++ [el l k] := by
  rw [List.drop_eq_getElem_cons h, List.reverse_cons]
  simp [el, h]

set_option maxHeartbeats 2000000 in
theorem walk (a : Option Addr) (len cap : Nat) (l : List Int) (b : Option Addr) (lenb capb : Nat) (m : List Int) (w : World) (hr : Ints .i64 w a len cap l) (hq : Ints .i64 w b lenb capb m) :
    Calls Try.prog 6 #[.slice a len cap, .slice b lenb capb] w fun e w' => e = .returned (.bool true) ∧ Below w.heap.size w w' := by
  obtain ⟨rfl, hl, hm⟩ := hr.bounds
  obtain ⟨rfl, hlb, hmb⟩ := hq.bounds
  have hb : Below w.heap.size w w := Below.refl _ _
  have HR := Lib.hid hr
  have HQ := Lib.hid hq
  clear hr hq
  have key : (500 < l.length ∨ l.length ≤ 500 ∧ 500 < m.length) ∨ (l.length ≤ 500 ∧ m.length ≤ 500) := by omega
  rcases key with key | ⟨h1, h2⟩
  · rcases key with h1 | ⟨h1, h2⟩
    all_goals
      go_enter Try.func6, Try.ntmps6
      go_wp2_with (go_at_call 13; refine (awake01 _).mono ?_; rintro e w1 ⟨rfl, hb1⟩; replace hb := belStep hb hb1; clear hb1)
      go_ret
      exact ⟨rfl, hb⟩
  · go_enter Try.func6, Try.ntmps6
    go_wp2_with (go_at_call 13; refine (awake01 _).mono ?_; rintro e w1 ⟨rfl, hb1⟩; replace hb := belStep hb hb1; clear hb1)
    go_loopw [5, 6] (fun v i wr => ∃ k : Nat, k ≤ l.length ∧ i = .int .i64 ((k : Int) - 1) ∧ OwnI wr w.heap.size 3 .i64 v (l.drop k).reverse ∧ Below w.heap.size w wr) (fun _ i _ => (intOf i + 1).toNat)
    case atStart => exact ⟨l.length, Nat.le_refl _, rfl, by simpa using OwnI.nil w1 w.heap.size 3 .i64, hb⟩
    case round =>
      obtain ⟨k, hk, rfl, hown, hbr⟩ := hrel
      have HB := Lib.hid hbr
      have HO := Lib.hid hown
      clear hown hbr hb
      by_cases hlt : 0 < k
      · obtain ⟨j, rfl⟩ : ∃ j, k = j + 1 := ⟨k - 1, by omega⟩
        obtain ⟨ba, off, rfl, hlt, hc⟩ := (HR.out.later HB.out).opened (by omega)
        have hc := hc j (by omega)
        have hx : (Lit.int .i64 (el l j)).wf = true := HR.out.2 _ (el_mem (by omega))
        have hbs := HB.out.size
        have hnew := ints_new (k := .i64) wr [el l j] 3 (0, 0) (by simp [maxLen]) (by simpa using hx)
        simp only [List.map_cons, List.map_nil, List.length_cons, List.length_nil, Nat.zero_add] at hnew
        have HN := Lib.hid hnew
        have ej : ((j + 1 : Nat) : Int) - 1 = j := by omega
        rw [ej]
        clear hnew ej
        go_wp2_with (at_builtin; refine wpList_app_ints rfl _ _ 26 rfl w.heap.size 3 .i64 8 Try.underlying26 info_int _ _ rfl (HO.out.alloc _) _ _ _ _ rfl HN.out ?c1 ?c2 ?c3 ?_)
        case c1 => unfold maxLen; (try rw [List.length_reverse, List.length_drop]); omega
        case c2 => (try rw [List.length_reverse, List.length_drop]); omega
        case c3 => simp; omega
        intro v w2 ho hb2 hg
        rw [← drop_rev (show j < l.length by omega)] at ho
        have hb3 : Below w.heap.size w w2 := (HB.out.alloc hbs _).trans hb2
        have HO2 := Lib.hid ho
        have HB2 := Lib.hid hb3
        clear ho hb2 hb3 hg
        go_wp2
        go_roundw
        case rel => exact ⟨j, by omega, rfl, HO2.out, HB2.out⟩
        case measure => simp [intOf] <;> omega
      · obtain rfl : k = 0 := by omega
        have hbs := HB.out.size
        have ho := HO.out
        rw [List.drop_zero] at ho
        obtain ⟨va, vc, rfl, hv⟩ := ints_of_own ho (by intro n hn; exact HR.out.2 n (by simpa using hn))
        rw [List.length_reverse] at hv
        clear ho HO
        have HV := Lib.hid hv
        have H1 := Lib.hid (HR.out.later HB.out)
        have H2 := Lib.hid (HQ.out.later HB.out)
        have HN := Lib.hid (own_new wr wr.heap.size 3 .i64 (Nat.le_refl _))
        have HB1 := Lib.hid ((Below.refl wr.heap.size wr).alloc (Nat.le_refl _) (.cells #[] 3))
        have H1n := Lib.hid (H1.out.later HB1.out)
        clear hv
        go_wp2_with (at_builtin; refine wpList_app_ints rfl (.tmp 35) (.tmp 36) 26 rfl wr.heap.size 3 .i64 8 Try.underlying26 info_int _ _ rfl HN.out _ _ _ _ rfl H1n.out ?c1 ?c2 ?c3 ?_)
        case c1 => unfold maxLen; rw [List.length_nil]; omega
        case c2 => rw [List.length_nil]; omega
        case c3 => simp
        intro v w2 ho hb2 hg
        have HB2 := Lib.hid (HB1.out.trans hb2)
        have HO2 := Lib.hid ho
        have H2n := Lib.hid (H2.out.later HB2.out)
        have hs2 := HB2.out.size
        clear ho hb2 hg
        go_wp2_with (at_builtin; refine wpList_app_ints rfl (.tmp 37) (.tmp 38) 26 rfl wr.heap.size 3 .i64 8 Try.underlying26 info_int _ _ rfl HO2.out _ _ _ _ rfl H2n.out ?c1 ?c2 ?c3 ?_)
        case c1 => unfold maxLen; (try rw [List.length_reverse, List.length_drop]); omega
        case c2 => (try rw [List.length_reverse, List.length_drop]); omega
        case c3 => omega
        intro v3 w3 ho hb2 hg
        have HB3 := Lib.hid (HB2.out.trans hb2)
        obtain ⟨va3, vc3, rfl, hv3⟩ := ints_of_own ho (by
          intro n hn
          rcases List.mem_append.1 hn with hn | hn
          · exact HR.out.2 n hn
          · exact HQ.out.2 n hn)
        rw [List.length_append] at hv3
        have HV3 := Lib.hid hv3
        have HA := Lib.hid (HV.out.later HB3.out)
        have H1b := Lib.hid (H1.out.later HB3.out)
        have H2b := Lib.hid (H2.out.later HB3.out)
        have HF := Lib.hid (belStep HB.out HB3.out)
        have e1 : (satSum (l ++ m) == satAdd (satSum l) (satSum m)) = true := by rw [sum_append]; simp
        have e2 : (satSum l.reverse == satSum l) = true := by rw [sum_reverse]; simp
        have b1 : InI (satSum l) := by have := satSum_bd l; unfold InI; omega
        have b2 : InI (satSum m) := by have := satSum_bd m; unfold InI; omega
        have E1 := Lib.hid e1
        have E2 := Lib.hid e2
        clear hv3 ho hb2 hg e1 e2
        go_wp2_with (first
          | (go_at_call 21; (with_reducible refine (sat_Sum _ _ _ _ _ HV3.out).mono ?_); rintro e w' ⟨rfl, rfl⟩)
          | (go_at_call 21; (with_reducible refine (sat_Sum _ _ _ _ _ HA.out).mono ?_); rintro e w' ⟨rfl, rfl⟩)
          | (go_at_call 21; (with_reducible refine (sat_Sum _ _ _ _ _ H1b.out).mono ?_); rintro e w' ⟨rfl, rfl⟩)
          | (go_at_call 21; (with_reducible refine (sat_Sum _ _ _ _ _ H2b.out).mono ?_); rintro e w' ⟨rfl, rfl⟩)
          | (go_at_call 14; (with_reducible refine (sat_Add _ _ _ (by assumption) (by assumption)).mono ?_); rintro e w' ⟨rfl, rfl⟩; have e1 := E1.out; have e2 := E2.out))
        go_ret
        exact ⟨rfl, HF.out⟩

set_option maxRecDepth 100000 in
theorem lifted (os : Os) (started : os.Started) (H : Type) (enc : TypeId × Value → H) :
    ReturnsInHanded {} Try.checked os 6 .any (Rows.satListsSpec.pre6 enc Try.prog Try.f6 Rows.satListsRow.domain false) (Rows.satListsSpec.post enc Try.prog Try.f6 false true false false) := by
  refine returnsInHanded_of_change (C := Try.checked) own started (by kernel_rfl) Try.func6
    (ChangeSpec.witness6 (enc := enc) (C := Try.checked) false ⟨#[], #[.slice none 0 0, .slice none 0 0], []⟩ 8 (by kernel_rfl) (by kernel_rfl) (by kernel_rfl) (by kernel_rfl)) ?_
  intro W base args ds gs before hval0 hW hcnd _
  have hval : ∀ (j : Nat) t v, Try.f6.params[j]? = some t → args[j]? = some v → Value.okWide Try.prog W .any base t v := hval0
  have hW' := hW
  obtain ⟨p, q, hA0, hV, rfl, hfz, hnd⟩ := hW
  have hA : DataW.TrodAll enc Try.prog W 0 (fun _ => true) true Try.f6.params.toList args.toList ds p := hA0
  rw [Try.params6] at hA hval
  obtain ⟨v0, vs0, d0, ds0, p0, q0, hargs, rfl, rfl, h0, r0⟩ := trodAll_cons hA
  obtain ⟨v1, vs1, d1, ds1, p1, q1, rfl, rfl, rfl, h1, r1⟩ := trodAll_cons r0
  obtain ⟨rfl, rfl, rfl⟩ := trodAll_nil r1
  obtain rfl : args = #[v0, v1] := by cases args; simp_all
  obtain ⟨rfl, rfl⟩ := trodVars_none hV
  have k0 := h0
  have lt0 : ∀ x ∈ p0, x.block < W.heap.size := by obtain ⟨m, hm⟩ := k0; exact DataW.trod_lt m _ _ _ hm
  have o0 : Value.okWide Try.prog W .any base 26 v0 := hval 0 26 v0 rfl rfl
  obtain ⟨a0, len0, cap0, rfl⟩ := okWide_slice Try.underlying26 o0
  obtain ⟨z0, w0⟩ : ∃ zs, Ints .i64 W a0 len0 cap0 zs := ints_of_trod Try.underlying26 Try.underlying3 (by kernel_rfl) h0
  have k1 := h1
  have lt1 : ∀ x ∈ p1, x.block < W.heap.size := by obtain ⟨m, hm⟩ := k1; exact DataW.trod_lt m _ _ _ hm
  have o1 : Value.okWide Try.prog W .any base 26 v1 := hval 1 26 v1 rfl rfl
  obtain ⟨a1, len1, cap1, rfl⟩ := okWide_slice Try.underlying26 o1
  obtain ⟨z1, w1⟩ : ∃ zs, Ints .i64 W a1 len1 cap1 zs := ints_of_trod Try.underlying26 Try.underlying3 (by kernel_rfl) h1
  clear hA0 hval0
  refine (walk a0 len0 cap0 z0 a1 len1 cap1 z1 W w0 w1).mono fun e W' ⟨he, bel⟩ => ?_
  subst he
  exact ⟨_, rfl, _, _, _, [], _, [], hW', trodAll_mk1 (shut_bool Try.underlying4 _), (trodAll_cons_mk (Below.trod laidOut (by kernel_rfl) (of_decide_eq_true (by kernel_rfl)) k0 bel lt0) (trodAll_cons_mk (Below.trod laidOut (by kernel_rfl) (of_decide_eq_true (by kernel_rfl)) k1 bel lt1) trodAll_mk0)), rfl, bel.frame _, fun h => by cases h⟩

theorem over : Rows.satListsRow.holds Try.pinned (OpenSpec.ofChange Rows.satListsSpec) :=
  OpenClaim.holds_of_wide 6 Try.f6 rfl rfl rfl rfl rfl rfl rfl ⟨rfl, rfl, rfl, rfl, rfl⟩ rfl rfl rfl rfl rfl (by kernel_rfl) Try.func6 (by kernel_rfl)
    (of_decide_eq_true (by kernel_rfl)) (by unfold Func.isWrapper; first | (rw [if_pos (by decide +kernel)]; kernel_rfl) | (rw [if_neg (by decide +kernel)]; exact ⟨rfl, rfl⟩))
    (fun os started H enc _ => lifted os started H enc)

/-- The statement. -/
theorem proved : Rows.SatListsSaid := over
#print axioms proved

end Go.Proofs.Ytahjkpmlnjhddaa.satLists
