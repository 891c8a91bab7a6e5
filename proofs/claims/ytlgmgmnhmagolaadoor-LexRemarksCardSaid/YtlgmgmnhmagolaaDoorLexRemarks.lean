
/- LexRemarks holds for every two slices of bytes. -/
import Derived.Test.YtlgmgmnhmagolaaDoorLexRmkM
import Derived.Test.YtlgmgmnhmagolaaDoorLexRd
import Derived.Test.YtlgmgmnhmagolaaDoorLexSame
import Derived.Test.YtlgmgmnhmagolaaDoorLexCard
import Derived.Deep.LoopGhost
namespace Go.Proofs.YtlgmgmnhmagolaaDoor.lexRemarks
open Go.ChangeShapes Go.WideShapes Go.ChangeAt Go.RowKit
open Go.ChangeMaps (open_string shut_string)
set_option linter.unusedVariables false
set_option linter.unusedSimpArgs false
theorem nums_wf (L : List UInt8) : ∀ n ∈ numsL L, (Lit.int .u8 n).wf = true := fun n hn => by
  unfold numsL at hn
  obtain ⟨c, _, rfl⟩ := List.mem_map.1 hn
  exact WalkArith.wf_u8 ⟨by omega, by have := c.toNat_lt; omega⟩
theorem rd_t (a : Option Addr) (len cap : Nat) (L : List UInt8) (w : World) (hI : Ints .u8 w a len cap (numsL L)) {r : Bool} (hr : readB L = r) : Calls Tryd.prog 11 #[.slice a len cap] w fun e w' => e = .returned (.bool r) ∧ w = w' := hr ▸ rlex_Readable a len cap L w hI
set_option maxRecDepth 100000 in
set_option maxHeartbeats 16000000 in
theorem walk (a : Option Addr) (la ca : Nat) (l1 : List Int) (b : Option Addr) (lb cb : Nat) (l2 : List Int) (w : World) (ht : Env w) (h1 : Ints .u8 w a la ca l1) (h2 : Ints .u8 w b lb cb l2) :
    Calls Tryd.prog 8 #[.slice a la ca, .slice b lb cb] w fun e w' => e = .returned (.bool true) ∧ Below w.heap.size w w' := by
  have hw := Below.refl w.heap.size w
  have hbel := hw
  have hb1 := h1.bounds
  have hb2 := h2.bounds
  obtain ⟨A, rfl, lA⟩ := nums_of_bytes h1
  obtain ⟨B, rfl, lB⟩ := nums_of_bytes h2
  obtain ⟨m, hm⟩ := ht
  have HM := Lib.hid (keep hm)
  have HA := Lib.hid h1
  have HB := Lib.hid h2
  have LA := Lib.hid lA
  have LB := Lib.hid lB
  obtain ⟨_, hb11, hb12⟩ := hb1
  obtain ⟨_, hb21, hb22⟩ := hb2
  clear h1 h2 hm lA lB
  by_cases hA : 2000 < la
  · go_enter Tryd.func8, Tryd.ntmps8
    go_wp2_with (first | (go_at_call 9; (with_reducible refine (awake04 _ m (HM.out _ hbel)).mono ?_); rintro e w1 ⟨rfl, hb1⟩; replace hbel := belStep hbel hb1; clear hb1))
    go_ret
    exact ⟨rfl, hbel⟩
  by_cases hB : 200 < lb
  · go_enter Tryd.func8, Tryd.ntmps8
    go_wp2_with (first | (go_at_call 9; (with_reducible refine (awake04 _ m (HM.out _ hbel)).mono ?_); rintro e w1 ⟨rfl, hb1⟩; replace hbel := belStep hbel hb1; clear hb1))
    go_ret
    exact ⟨rfl, hbel⟩
  have hnA : ¬ (2000 : Int) < (la : Int) := by omega
  have hnB : ¬ (200 : Int) < (lb : Int) := by omega
  rcases qa : readB A with _ | _
  · have RA := Lib.hid qa
    clear qa
    go_enter Tryd.func8, Tryd.ntmps8
    go_wp2_with (first | (go_at_call 9; (with_reducible refine (awake04 _ m (HM.out _ hbel)).mono ?_); rintro e w1 ⟨rfl, hb1⟩; replace hbel := belStep hbel hb1; clear hb1) | (go_at_call 11; (with_reducible refine (rd_t _ _ _ A _ (HA.out.later hbel) RA.out).mono ?_); rintro e w' ⟨rfl, rfl⟩))
    go_ret
    exact ⟨rfl, hbel⟩
  rcases qb : readB B with _ | _
  · have RA := Lib.hid qa
    have RB := Lib.hid qb
    clear qa qb
    go_enter Tryd.func8, Tryd.ntmps8
    go_wp2_with (first | (go_at_call 9; (with_reducible refine (awake04 _ m (HM.out _ hbel)).mono ?_); rintro e w1 ⟨rfl, hb1⟩; replace hbel := belStep hbel hb1; clear hb1) | (go_at_call 11; (with_reducible refine (rd_t _ _ _ A _ (HA.out.later hbel) RA.out).mono ?_); rintro e w' ⟨rfl, rfl⟩) | (go_at_call 11; (with_reducible refine (rd_t _ _ _ B _ (HB.out.later hbel) RB.out).mono ?_); rintro e w' ⟨rfl, rfl⟩))
    go_ret
    exact ⟨rfl, hbel⟩
  have RA := Lib.hid qa
  have RB := Lib.hid qb
  have LN := Lib.hid (show (noteB B).length ≤ 200 by have := note_le B; rw [LB.out] at this; omega)
  clear qa qb hw
  go_enter Tryd.func8, Tryd.ntmps8
  go_wp2_with (first | (go_at_call 9; (with_reducible refine (awake04 _ m (HM.out _ hbel)).mono ?_); rintro e w1 ⟨rfl, hb1⟩; replace hbel := belStep hbel hb1; clear hb1) | (go_at_call 11; (with_reducible refine (rd_t _ _ _ A _ (HA.out.later hbel) RA.out).mono ?_); rintro e w' ⟨rfl, rfl⟩) | (go_at_call 11; (with_reducible refine (rd_t _ _ _ B _ (HB.out.later hbel) RB.out).mono ?_); rintro e w' ⟨rfl, rfl⟩))
  go_loopg [5, 6] lb (fun g nv iv wr => ∃ (i : Nat) (z : List Int), i + g = lb ∧ iv = .int .i64 i ∧ Hid (z = numsL (noteB (B.take i))) ∧ Hid (OwnI wr w.heap.size 5 .u8 nv z) ∧ Below w.heap.size w wr)
  case atStart => exact ⟨0, [], by omega, rfl, Lib.hid rfl, Lib.hid (OwnI.nil _ _ _ _), hbel⟩
  case round =>
    clear hbel
    obtain ⟨i, z, hig, rfl, HZ, HW, hbel⟩ := hrel
    cases gk with
    | zero =>
      obtain rfl : i = lb := by omega
      have hd : decide ((i : Int) < (i : Int)) = false := decide_eq_false (by omega)
      have hdn : ¬ (i : Int) < (i : Int) := by omega
      obtain rfl : z = numsL (noteB B) := by rw [HZ.out, ← LB.out, List.take_length]
      obtain ⟨xa, xc, rfl, hia⟩ := ints_of_own HW.out (nums_wf _)
      obtain ⟨nl, hnl⟩ : ∃ n, (noteB B).length = n := ⟨_, rfl⟩
      have HNL := Lib.hid hnl
      rw [show (numsL (noteB B)).length = nl by unfold numsL; rw [List.length_map]; exact hnl] at hia ⊢
      rw [hnl] at LN
      have HNT := Lib.hid hia
      have HWN := Lib.hid hbel
      have hln := LN.out
      clear hnl hia LN HZ hbel
      generalize wr = wn at *
      go_wp2
      go_loopg [7, 8, 9] la (fun g mv lv jv wr => ∃ (j ln : Nat) (z : List Int), j + g = la ∧ jv = .int .i64 j ∧ lv = .int .i64 ln ∧ ln ≤ j + 1 ∧ Hid (z = numsL (rmkP (noteB B) (A.take j))) ∧ Hid (OwnI wr wn.heap.size 5 .u8 mv z) ∧ Below wn.heap.size wn wr)
      case atStart => exact ⟨0, 1, [], by omega, rfl, rfl, by omega, Lib.hid rfl, Lib.hid (OwnI.nil _ _ _ _), Below.refl _ _⟩
      case round =>
        obtain ⟨j, ln, z, hig, rfl, rfl, hln2, HZ, HW3, hbq⟩ := hrel
        have hbel := belStep HWN.out hbq
        have HZL := Lib.hid (show z.length ≤ 406000 by rw [HZ.out]; have h := rmkP_le (noteB B) (A.take j); rw [HNL.out] at h; have h2 : (A.take j).length * (nl + 3) ≤ 2000 * 203 := Nat.mul_le_mul (by rw [List.length_take, LA.out]; omega) (by omega); simp only [numsL, List.length_map]; omega)
        cases gk with
        | zero =>
          obtain rfl : j = la := by omega
          have hd : decide ((j : Int) < (j : Int)) = false := decide_eq_false (by omega)
          have hdn : ¬ (j : Int) < (j : Int) := by omega
          obtain rfl : z = numsL (rmkP (noteB B) A) := by rw [HZ.out, ← LA.out, List.take_length]
          obtain ⟨ya, yc, rfl, _⟩ := ints_of_own HW3.out (nums_wf _)
          obtain ⟨ml, hml⟩ : ∃ n, (rmkP (noteB B) A).length = n := ⟨_, rfl⟩
          have HML := Lib.hid hml
          rw [show (numsL (rmkP (noteB B) A)).length = ml by unfold numsL; rw [List.length_map]; exact hml] at HW3 HZL ⊢
          have hmm := HZL.out
          clear hml HZ HZL
          by_cases hk : 200 < ln
          · have hk1 : decide ((200 : Int) < (ln : Int)) = true := decide_eq_true (by omega)
            have hk2 : (200 : Int) < (ln : Int) := by omega
            go_wp2
            go_ret
            exact ⟨rfl, hbel⟩
          have hk1 : decide ((200 : Int) < (ln : Int)) = false := decide_eq_false (by omega)
          have hk2 : ¬ (200 : Int) < (ln : Int) := by omega
          by_cases hj : 60000 < ml
          · have hj1 : decide ((60000 : Int) < (ml : Int)) = true := decide_eq_true (by omega)
            have hj2 : (60000 : Int) < (ml : Int) := by omega
            go_wp2
            go_ret
            exact ⟨rfl, hbel⟩
          have hj1 : decide ((60000 : Int) < (ml : Int)) = false := decide_eq_false (by omega)
          have hj2 : ¬ (60000 : Int) < (ml : Int) := by omega
          have HT := Lib.hid (show Ints .u8 (wr.alloc (.cells #[.int .u8 32, .int .u8 35] 5)) (some ⟨wr.heap.size, 0, none⟩) 2 2 (numsL [32, 35]) from nums_ints wr [32, 35] (0, 0) (by decide))
          have HO := Lib.hid (OwnI.alloc HW3.out (.cells #[.int .u8 32, .int .u8 35] 5))
          have hbA := belAlloc hbq (.cells #[.int .u8 32, .int .u8 35] 5)
          have hsA := hbA.size
          have hml2 : (numsL (rmkP (noteB B) A)).length = ml := by unfold numsL; rw [List.length_map]; exact HML.out
          go_wp2_with (at_builtin; refine wpList_app_ints rfl _ _ 22 rfl wn.heap.size 5 .u8 1 Tryd.underlying22 bld_byte _ _ rfl HO.out _ 2 2 (numsL [32, 35]) rfl (HT.out) ?c1 ?c2 ?c3 ?_)
          case c1 => simp only [maxLen]; omega
          case c2 => omega
          case c3 => first | exact hsA | (have := hbq.size; omega) | (have := hbel.size; omega)
          intro v2 w2 ho2 hb2 hg2
          have HO2 := Lib.hid ho2
          have hb22 := hbA.trans hb2
          have hs2 := hb22.size
          have hle2 : (numsL (rmkP (noteB B) A) ++ numsL [32, 35]).length = ml + 2 := by rw [List.length_append, hml2]; rfl
          clear ho2 hb2 hg2 hbA hsA
          go_wp2_with (at_builtin; refine wpList_app_ints rfl _ _ 22 rfl wn.heap.size 5 .u8 1 Tryd.underlying22 bld_byte _ _ rfl HO2.out _ nl xc (numsL (noteB B)) rfl (HNT.out.later hb22) ?c1 ?c2 ?c3 ?_)
          case c1 => simp only [maxLen]; omega
          case c2 => omega
          case c3 => exact hs2
          intro v3 w3 ho3 hb3 hg3
          try rw [List.append_assoc] at ho3
          rw [show numsL (rmkP (noteB B) A) ++ (numsL [32, 35] ++ numsL (noteB B)) = numsL (rmkF (noteB B) A) by unfold numsL rmkF; simp] at ho3
          obtain ⟨za, zc, rfl, hiz⟩ := ints_of_own ho3 (nums_wf _)
          have hlf : (rmkF (noteB B) A).length = ml + 2 + nl := by unfold rmkF; rw [List.length_append, HML.out, List.length_cons, List.length_cons, HNL.out]; omega
          rw [show (numsL (rmkF (noteB B) A)).length = ml + 2 + nl by unfold numsL; rw [List.length_map]; exact hlf] at hiz ⊢
          have HX := Lib.hid hiz
          have RF := Lib.hid (rmk_read RB.out RA.out (by rw [hlf]; omega))
          have HFE := Lib.hid (rmk_fields B A)
          replace hbel := belStep HWN.out (hb22.trans hb3)
          clear ho3 hb3 hg3 hb22 hs2 hiz hlf hle2 hml2 hbq
          go_upto_region 22 with (go_at_call 10; (with_reducible refine (lines_of _ _ _ A m _ (HA.out.later hbel) (HM.out _ hbel) RA.out).mono ?_); rintro e wx ⟨⟨bx, nx, vx, rfl, hrx⟩, hbx⟩; have HRX := Lib.hid hrx; have HXX := Lib.hid (HX.out.later hbx); replace hbel := belStep hbel hbx; clear hbx hrx)
          go_upto_region 23 with (go_at_call 10; (with_reducible refine (lines_of _ _ _ (rmkF (noteB B) A) m _ HXX.out (HM.out _ hbel) RF.out).mono ?_); rintro e wy ⟨⟨by_, ny, vy, rfl, hry⟩, hby⟩; have HRY := Lib.hid hry; have HRX2 := Lib.hid (HRX.out.later hby); replace hbel := belStep hbel hby; clear hby hry)
          rw [HFE.out] at HRY ⊢
          go_wp2_with (go_at_call 12; (with_reducible refine (rlex_Same _ _ _ _ _ _ (fieldsF A) _ _ _ HRX2.out HRY.out).mono ?_); rintro e ws ⟨rfl, hbs⟩; replace hbel := belStep hbel hbs; clear hbs)
          go_ret
          exact ⟨rfl, hbel⟩
        | succ g =>
          have hil : j < la := by omega
          have hd : decide ((j : Int) < (la : Int)) = true := decide_eq_true (by omega)
          have hii : (j : Int) < (la : Int) := by omega
          have hi0 : (0 : Int) ≤ (j : Int) := by omega
          obtain ⟨Ab, Ao, eA, _, hcA⟩ := (HA.out.later hbel).opened (show 0 < la by omega)
          subst eA
          obtain ⟨c, hc⟩ : ∃ c, A[j]? = some c := ⟨A[j]'(by rw [LA.out]; omega), List.getElem?_eq_getElem (by rw [LA.out]; omega)⟩
          have cc : wr.cell? ⟨Ab, Ao + j, none⟩ = some (.int .u8 (c.toNat : Int)) := by rw [hcA j (by omega)]; simp [numsL, el, List.getD, hc]
          clear hcA
          have HNX := Lib.hid (rmkP_next (N := noteB B) hc)
          clear hc
          by_cases h10 : c = 10
          · subst h10
            rw [show ((10 : UInt8).toNat : Int) = 10 from rfl] at cc
            have hw1 : IntKind.i64.wrap ((ln : Int) + 1) = ((ln + 1 : Nat) : Int) := by push_cast; exact IntWalk.i64_in _ (by omega)
            have HT := Lib.hid (show Ints .u8 (wr.alloc (.cells #[.int .u8 32, .int .u8 35] 5)) (some ⟨wr.heap.size, 0, none⟩) 2 2 (numsL [32, 35]) from nums_ints wr [32, 35] (0, 0) (by decide))
            have HO := Lib.hid (OwnI.alloc HW3.out (.cells #[.int .u8 32, .int .u8 35] 5))
            have hbA := belAlloc hbq (.cells #[.int .u8 32, .int .u8 35] 5)
            have hsA := hbA.size
            go_wp2_with (at_builtin; refine wpList_app_ints rfl _ _ 22 rfl wn.heap.size 5 .u8 1 Tryd.underlying22 bld_byte _ _ rfl HO.out _ 2 2 (numsL [32, 35]) rfl (HT.out) ?c1 ?c2 ?c3 ?_)
            case c1 => simp only [maxLen]; have := HZL.out; omega
            case c2 => have := HZL.out; omega
            case c3 => first | exact hsA | (have := hbq.size; omega) | (have := hbel.size; omega)
            intro v2 w2 ho2 hb2 hg2
            have HO2 := Lib.hid ho2
            have hb22 := hbA.trans hb2
            have hs2 := hb22.size
            have HLE2 := Lib.hid (show (z ++ numsL [32, 35]).length ≤ 406002 by rw [List.length_append]; have := HZL.out; simp only [numsL, List.length_map, List.length_cons, List.length_nil]; omega)
            clear ho2 hb2 hg2 hbA hsA
            go_wp2_with (at_builtin; refine wpList_app_ints rfl _ _ 22 rfl wn.heap.size 5 .u8 1 Tryd.underlying22 bld_byte _ _ rfl HO2.out _ nl xc (numsL (noteB B)) rfl (HNT.out.later hb22) ?c1 ?c2 ?c3 ?_)
            case c1 => simp only [maxLen]; have := HLE2.out; omega
            case c2 => have := HLE2.out; omega
            case c3 => exact hs2
            intro v3 w3 ho3 hb3 hg3
            have hb33 := hb22.trans hb3
            have HO3 := Lib.hid (OwnI.alloc ho3 (.cells #[.int .u8 10] 5))
            have hb34 := belAlloc hb33 (.cells #[.int .u8 10] 5)
            have hs3 := hb34.size
            have HT3 := Lib.hid (show Ints .u8 (w3.alloc (.cells #[.int .u8 10] 5)) (some ⟨w3.heap.size, 0, none⟩) 1 1 (numsL [10]) from nums_ints w3 [10] (0, 0) (by decide))
            have HLE3 := Lib.hid (show (z ++ (numsL [32, 35] ++ numsL (noteB B))).length ≤ 406202 by rw [← List.append_assoc, List.length_append]; have := HLE2.out; have h9 : (numsL (noteB B)).length = nl := (by unfold numsL; rw [List.length_map]; exact HNL.out); omega)
            clear ho3 hb3 hg3 hb22 hs2 hb33
            go_wp2_with (at_builtin; refine wpList_app_ints rfl _ _ 22 rfl wn.heap.size 5 .u8 1 Tryd.underlying22 bld_byte _ _ rfl HO3.out _ 1 1 (numsL [10]) rfl (HT3.out) ?c1 ?c2 ?c3 ?_)
            case c1 => simp only [maxLen]; have := HLE3.out; omega
            case c2 => have := HLE3.out; omega
            case c3 => first | exact hs3 | (have := hs3; simp at this; omega)
            intro v4 w4 ho4 hb4 hg4
            have HW5 := Lib.hid (show OwnI w4 wn.heap.size 5 .u8 v4 (numsL (rmkP (noteB B) (A.take (j + 1)))) from by rw [HNX.out, show numsL (rmkP (noteB B) (A.take j) ++ rmk1 (noteB B) 10) = numsL (rmkP (noteB B) (A.take j)) ++ numsL [32, 35] ++ numsL (noteB B) ++ numsL [10] by unfold numsL rmk1; simp, ← HZ.out]; simpa only [List.append_assoc] using ho4)
            have HB5 := Lib.hid (hb34.trans hb4)
            clear ho4 hb4 hg4 hb34 hs3
            go_wp2
            go_roundg g
            case rel => exact ⟨j + 1, ln + 1, _, by omega, by push_cast; rfl, by push_cast; rfl, by omega, Lib.hid rfl, HW5, HB5.out⟩
            case measure => omega
          · have hne10 : (c == 10) = false := by simpa using h10
            have hnn : ¬ (c.toNat : Int) = 10 := fun h => by have k := byte_eq c 10; rw [show ((10 : UInt8).toNat : Int) = 10 from rfl, hne10] at k; simp at k; exact k h
            have hn10 : ((c.toNat : Int) == 10) = false := by simpa using hnn
            have HT := Lib.hid (show Ints .u8 (wr.alloc (.cells #[.int .u8 (c.toNat : Int)] 5)) (some ⟨wr.heap.size, 0, none⟩) 1 1 (numsL [c]) from nums_ints wr [c] (0, 0) (by simp))
            have HO := Lib.hid (OwnI.alloc HW3.out (.cells #[.int .u8 (c.toNat : Int)] 5))
            have hbA := belAlloc hbq (.cells #[.int .u8 (c.toNat : Int)] 5)
            have hsA := hbA.size
            go_wp2_with (at_builtin; refine wpList_app_ints rfl _ _ 22 rfl wn.heap.size 5 .u8 1 Tryd.underlying22 bld_byte _ _ rfl HO.out _ 1 1 (numsL [c]) rfl (HT.out) ?c1 ?c2 ?c3 ?_)
            case c1 => simp only [maxLen]; have := HZL.out; omega
            case c2 => have := HZL.out; omega
            case c3 => first | exact hsA | (have := hbq.size; omega) | (have := hbel.size; omega)
            intro v2 w2 ho2 hb2 hg2
            have HW5 := Lib.hid (show OwnI w2 wn.heap.size 5 .u8 v2 (numsL (rmkP (noteB B) (A.take (j + 1)))) from by rw [HNX.out, show rmk1 (noteB B) c = [c] by unfold rmk1; rw [hne10]; rfl, show numsL (rmkP (noteB B) (A.take j) ++ [c]) = numsL (rmkP (noteB B) (A.take j)) ++ numsL [c] by unfold numsL; simp, ← HZ.out]; exact ho2)
            have HB5 := Lib.hid (hbA.trans hb2)
            clear ho2 hb2 hg2 hbA hsA
            go_wp2
            go_roundg g
            case rel => exact ⟨j + 1, ln, _, by omega, by push_cast; rfl, rfl, by omega, Lib.hid rfl, HW5, HB5.out⟩
            case measure => omega
    | succ g =>
      have hil : i < lb := by omega
      have hd : decide ((i : Int) < (lb : Int)) = true := decide_eq_true (by omega)
      have hii : (i : Int) < (lb : Int) := by omega
      have hi0 : (0 : Int) ≤ (i : Int) := by omega
      obtain ⟨Bb, Bo, eB, _, hcB⟩ := (HB.out.later hbel).opened (show 0 < lb by omega)
      subst eB
      obtain ⟨c, hc⟩ : ∃ c, B[i]? = some c := ⟨B[i]'(by rw [LB.out]; omega), List.getElem?_eq_getElem (by rw [LB.out]; omega)⟩
      have cc : wr.cell? ⟨Bb, Bo + i, none⟩ = some (.int .u8 (c.toNat : Int)) := by rw [hcB i (by omega)]; simp [numsL, el, List.getD, hc]
      clear hcB
      have HNX := Lib.hid (note_next hc)
      have HZL := Lib.hid (show z.length ≤ 200 by rw [HZ.out]; have := note_le (B.take i); rw [List.length_take] at this; simp only [numsL, List.length_map]; omega)
      clear hc
      by_cases h10 : c = 10
      · subst h10
        rw [show ((10 : UInt8).toNat : Int) = 10 from rfl] at cc
        have HZ2 := Lib.hid (show z = numsL (noteB (B.take (i + 1))) by rw [HNX.out]; simp only [beq_self_eq_true, if_true, List.append_nil]; exact HZ.out)
        go_wp2
        go_roundg g
        case rel => exact ⟨i + 1, z, by omega, by push_cast; rfl, HZ2, HW, hbel⟩
        case measure => omega
      · have hne10 : (c == 10) = false := by simpa using h10
        have hnn : ¬ (c.toNat : Int) = 10 := fun h => by have k := byte_eq c 10; rw [show ((10 : UInt8).toNat : Int) = 10 from rfl, hne10] at k; simp at k; exact k h
        have hn10 : ((c.toNat : Int) == 10) = false := by simpa using hnn
        have HT := Lib.hid (show Ints .u8 (wr.alloc (.cells #[.int .u8 (c.toNat : Int)] 5)) (some ⟨wr.heap.size, 0, none⟩) 1 1 (numsL [c]) from nums_ints wr [c] (0, 0) (by simp))
        have HO := Lib.hid (OwnI.alloc HW.out (.cells #[.int .u8 (c.toNat : Int)] 5))
        have hbA := belAlloc hbel (.cells #[.int .u8 (c.toNat : Int)] 5)
        have hsA := hbA.size
        go_wp2_with (at_builtin; refine wpList_app_ints rfl _ _ 22 rfl w.heap.size 5 .u8 1 Tryd.underlying22 bld_byte _ _ rfl HO.out _ 1 1 (numsL [c]) rfl (HT.out) ?c1 ?c2 ?c3 ?_)
        case c1 => simp only [maxLen]; have := HZL.out; omega
        case c2 => have := HZL.out; omega
        case c3 => first | exact hsA | (have := hbq.size; omega) | (have := hbel.size; omega)
        intro v2 w2 ho2 hb2 hg2
        have HW2 := Lib.hid (show OwnI w2 w.heap.size 5 .u8 v2 (numsL (noteB (B.take (i + 1)))) from by rw [HNX.out, hne10]; simp only [Bool.false_eq_true, if_false]; rw [show numsL (noteB (B.take i) ++ [c]) = numsL (noteB (B.take i)) ++ numsL [c] by unfold numsL; simp, ← HZ.out]; exact ho2)
        have HB2 := Lib.hid (hbA.trans hb2)
        clear ho2 hb2 hg2 hbA hsA
        go_wp2
        go_roundg g
        case rel => exact ⟨i + 1, _, by omega, by push_cast; rfl, Lib.hid rfl, HW2, HB2.out⟩
        case measure => omega

set_option maxRecDepth 100000 in
set_option maxRecDepth 100000 in
theorem lifted (os : Os) (started : os.Started) (H : Type) (enc : TypeId × Value → H) :
    ReturnsInHanded {} Tryd.checked os 8 .any (fun w args => (Rows.lexRemarksSpec.pre enc Tryd.prog Tryd.f8 [] false w args ∧ laidMetH Tryd.prog Rows.lexRemarksRow.laid w) ∧ sizedMet enc Tryd.prog Tryd.f8 (OpenSpec.ofChange Rows.lexRemarksSpec) false w args) (Rows.lexRemarksSpec.post enc Tryd.prog Tryd.f8 false true false false) := by
  refine returnsInHanded_of_change_and_shaped (C := Tryd.checked) (X := fun w _ => laidMetH Tryd.prog Rows.lexRemarksRow.laid w) (fun _ _ _ hh h => h.of_heap hh) own started (by kernel_rfl) Tryd.func8
    (ChangeSpec.witness_shaped (enc := enc) (C := Tryd.checked) (os := os) (X := fun w _ => laidMetH Tryd.prog Rows.lexRemarksRow.laid w) false (World.laidAll Tryd.prog os Rows.lexRemarksRow.laid) #[.slice none 0 0, .slice none 0 0] 8 (World.laidAll_os _ _ _) (World.shaped_of_ZipB (by kernel_rfl) (by kernel_rfl)) (by kernel_rfl) (by kernel_rfl) (by kernel_rfl) (by rw [MakeChecks.laidMetH_plain _ _ _ (by kernel_rfl)]; exact laidMet_laidAll _ (by kernel_rfl) (by kernel_rfl))) ?_
  intro W base args ds gs before hval0 hW hL hsh
  rw [MakeChecks.laidMetH_plain _ _ _ (by kernel_rfl)] at hL
  have ht : Env W := env_of hL hsh
  clear hL
  have hval : ∀ (j : Nat) t v, Tryd.f8.params[j]? = some t → args[j]? = some v → Value.okWide Tryd.prog W .any base t v := hval0
  have hW' := hW
  obtain ⟨p, q, hA0, hV, rfl, hfz, hnd⟩ := hW
  have hA : DataW.TrodAll enc Tryd.prog W 0 (fun _ => true) true Tryd.f8.params.toList args.toList ds p := hA0
  rw [Tryd.params8] at hA hval
  obtain ⟨v0, vs0, d0, ds0, p0, q0, hargs, rfl, rfl, h0, r0⟩ := trodAll_cons hA
  obtain ⟨v1, vs1, d1, ds1, p1, q1, rfl, rfl, rfl, h1, r1⟩ := trodAll_cons r0
  obtain ⟨rfl, rfl, rfl⟩ := trodAll_nil r1
  obtain rfl : args = #[v0, v1] := by cases args; simp_all
  obtain ⟨rfl, rfl⟩ := trodVars_none hV
  have k0 := h0
  have lt0 : ∀ x ∈ p0, x.block < W.heap.size := by obtain ⟨m, hm⟩ := k0; exact DataW.trod_lt m _ _ _ hm
  have o0 : Value.okWide Tryd.prog W .any base 22 v0 := hval 0 22 v0 rfl rfl
  obtain ⟨a0, len0, cap0, rfl⟩ := okWide_slice Tryd.underlying22 o0
  obtain ⟨z0, w0⟩ : ∃ zs, Ints .u8 W a0 len0 cap0 zs := ints_of_trod Tryd.underlying22 Tryd.underlying5 (by kernel_rfl) h0
  have k1 := h1
  have lt1 : ∀ x ∈ p1, x.block < W.heap.size := by obtain ⟨m, hm⟩ := k1; exact DataW.trod_lt m _ _ _ hm
  have o1 : Value.okWide Tryd.prog W .any base 22 v1 := hval 1 22 v1 rfl rfl
  obtain ⟨a1, len1, cap1, rfl⟩ := okWide_slice Tryd.underlying22 o1
  obtain ⟨z1, w1⟩ : ∃ zs, Ints .u8 W a1 len1 cap1 zs := ints_of_trod Tryd.underlying22 Tryd.underlying5 (by kernel_rfl) h1
  clear hA0 hval0
  refine (walk a0 len0 cap0 z0 a1 len1 cap1 z1 W ht w0 w1).mono fun e W' ⟨he, bel⟩ => ?_
  subst he
  exact ⟨_, rfl, _, _, _, [], _, [], hW', trodAll_mk1 (shut_bool Tryd.underlying4 _), (trodAll_cons_mk (Below.trod laidOut (by kernel_rfl) (of_decide_eq_true (by kernel_rfl)) k0 bel lt0) (trodAll_cons_mk (Below.trod laidOut (by kernel_rfl) (of_decide_eq_true (by kernel_rfl)) k1 bel lt1) trodAll_mk0)), rfl, bel.frame _, fun h => by cases h⟩

theorem over : Rows.lexRemarksRow.holds Tryd.pinned (OpenSpec.ofChange Rows.lexRemarksSpec) :=
  OpenClaim.holds_of_wide 8 Tryd.f8 rfl rfl rfl rfl rfl rfl rfl ⟨rfl, rfl, rfl, rfl, rfl⟩ rfl rfl rfl rfl rfl (by kernel_rfl) Tryd.func8 (by kernel_rfl)
    (of_decide_eq_true (by kernel_rfl)) (by unfold Func.isWrapper; first | (rw [if_pos (by decide +kernel)]; kernel_rfl) | (rw [if_neg (by decide +kernel)]; exact ⟨rfl, rfl⟩))
    (fun os started H enc _ => lifted os started H enc)

/-- The statement. -/
theorem proved : Rows.LexRemarksCardSaid :=
  Claim7.holds_tied_plain_at .later [] Rows.lexRemarksCard.laidKinds true Rows.lexRemarksCard.stood.harness false
    over (fun _ h => by cases h) (by kernel_rfl) (fun _ h => by cases h) lexRemarks_row_tie rfl ⟨rfl, rfl⟩ (by kernel_rfl) rfl
    (fun f fn hf hfn => by
      obtain rfl : f = 8 := Option.some.inj ((show Tryd.prog.funcNamed Rows.lexRemarksRow.func = some 8 by kernel_rfl).symm.trans hf) |>.symm
      obtain rfl : fn = Tryd.f8 := (Option.some.inj (Tryd.func8.symm.trans hfn)).symm
      exact ⟨by kernel_rfl, fun j t ht => by
        rw [Tryd.params8] at ht
        have hm : t ∈ [22, 22] := by simpa using Array.mem_of_getElem? ht
        have hall : ([22, 22].all fun u => !Tryd.prog.wantsStandIn u) = true := by kernel_rfl
        exact (show Tryd.prog.wantsStandIn t = false by simpa using List.all_eq_true.1 hall t hm)⟩)
    (by kernel_rfl)
#print axioms proved

end Go.Proofs.YtlgmgmnhmagolaaDoor.lexRemarks
