/- EdgeLists holds for every list: the least one is of the list and the least; what is read of each is the document's, or one is none. No conditions. -/
import Derived.Test.YtkdkhbeacejamaaEdgeOwn
namespace Go.Proofs.Ytkdkhbeacejamaa.edgeLists
open Go.ChangeShapes Go.WideShapes Go.ChangeAt Go.RowKit
open Go.ChangeMaps (open_string shut_string)
set_option linter.unusedVariables false
set_option linter.unusedSimpArgs false

set_option maxRecDepth 100000 in
set_option maxHeartbeats 8000000 in
theorem walk (a : Option Addr) (len cap : Nat) (Z : List Int) (w : World) (hz : Ints .u64 w a len cap Z) : Calls Try.prog 5 #[.slice a len cap] w fun e w' => e = .returned (.bool true) ∧ Below w.heap.size w w' := by
  have hw : Below w.heap.size w w := Below.refl _ _
  have hbel := hw
  obtain ⟨hlen, hc1, hc2⟩ := hz.bounds
  have HZ := Lib.hid hz
  have HL := Lib.hid hlen
  have HU := Lib.hid (show ∀ i, i < len → 0 ≤ el Z i ∧ (el Z i).toNat < 18446744073709551616 from fun i hi => by
    have := in64_of_wf (hz.2 _ (el_mem (l := Z) (i := i) (by omega)))
    omega)
  have HUL := Lib.hid (show ∀ n ∈ fls Z, n < 18446744073709551616 from fun n hn => by
    unfold fls at hn
    obtain ⟨x, hx, rfl⟩ := List.mem_map.1 hn
    have := in64_of_wf (hz.2 _ hx)
    omega)
  clear hz
  by_cases hbig : 300 < len
  · have hbig' : (300 : Int) < len := by omega
    go_enter Try.func5, Try.ntmps5
    go_wp2_with (first | (go_at_call 9; (with_reducible refine (awake03 _).mono ?_); rintro e w1 ⟨rfl, hb1⟩; replace hbel := belStep hbel hb1; clear hb1))
    go_ret
    exact ⟨rfl, hbel⟩
  · have hbig' : ¬ (300 : Int) < len := by omega
    have hsm : len ≤ 300 := by omega
    go_enter Try.func5, Try.ntmps5
    go_wp2_with (first | (go_at_call 9; (with_reducible refine (awake03 _).mono ?_); rintro e w1 ⟨rfl, hb1⟩; replace hbel := belStep hbel hb1; clear hb1))
    have HB0 := Lib.hid hbel
    have hs0 : w.heap.size ≤ w1.heap.size := hbel.size
    clear hbel
    go_loopw [3, 4, 5] (fun v g i wr => ∃ k : Nat, k ≤ len ∧ i = .int .i64 k ∧ g = .bool ((fls (Z.take k)).all notNaN) ∧ OwnF wr w.heap.size 24 v (fls (Z.take k)) ∧ Below w.heap.size w wr) (fun _ _ i _ => len - (intOf i).toNat)
    case atStart => exact ⟨0, by omega, rfl, rfl, OwnF.nil _ _ _, HB0.out⟩
    case round =>
      obtain ⟨k, hk, rfl, rfl, ho, hbw⟩ := hrel
      have HO := Lib.hid ho
      have HBW := Lib.hid hbw
      clear ho hbw
      by_cases hlt : k < len
      · obtain ⟨b, off, rfl, hbb, hcell⟩ := (HZ.out.later HBW.out).opened (by omega)
        have xk := hcell k hlt
        obtain ⟨hx0, hx1⟩ := HU.out k hlt
        have hnext := Lib.hid (fls_next (l := Z) (k := k) (by rw [HL.out]; exact hlt))
        have hlk := Lib.hid (show (fls (Z.take k)).length = k by rw [fls_len, List.length_take, HL.out, Nat.min_eq_left hk])
        have hki : (k : Int) < (len : Int) := by omega
        have hsz : w.heap.size ≤ wr.heap.size := HBW.out.size
        clear hcell
        have hf := run_frombits (el Z k)
        obtain ⟨x, ex⟩ : ∃ x, (el Z k).toNat = x := ⟨_, rfl⟩
        have EX := Lib.hid ex
        rw [ex] at hf hx1
        clear ex
        have CK := Lib.hid (fun v => ref_Kind x v hx1)
        have hg : (fls (Z.take (k + 1))).all notNaN = ((fls (Z.take k)).all notNaN && notNaN x) := by
          rw [hnext.out, List.all_append, EX.out]; simp
        have HG := Lib.hid hg
        clear hg
        obtain ⟨g, eg⟩ : ∃ g, (fls (Z.take k)).all notNaN = g := ⟨_, rfl⟩
        rw [eg] at HG ⊢
        clear eg
        have hcase : (g = false) ∨ (g = true ∧ kindF x = 1) ∨ (g = true ∧ ¬ kindF x = 1) := by
          cases g
          · exact .inl rfl
          · by_cases q : kindF x = 1
            · exact .inr (.inl ⟨rfl, q⟩)
            · exact .inr (.inr ⟨rfl, q⟩)
        rcases hcase with rfl | ⟨rfl, q⟩ | ⟨rfl, q⟩
        · go_wp2_with (first | (at_builtin; refine wpList_app_flt rfl _ _ 33 rfl w.heap.size 24 8 Try.underlying33 info_f64 _ _ rfl (HO.out.alloc (.cells #[.float .f64 x] 24)) _ _ rfl (by simp; rfl) (by rw [hlk.out]; unfold maxLen; omega) (by rw [hlk.out]; omega) (by simp; omega) ?_; intro v4 w4 ho4 hb4; have HB4 := Lib.hid (((HBW.out.alloc hsz (.cells #[.float .f64 x] 24)) : Below w.heap.size w _).trans hb4); have HO4 := Lib.hid ho4; clear ho4 hb4))
          go_roundw
          case rel => exact ⟨k + 1, by omega, by push_cast; rfl, by rw [HG.out]; rfl, by rw [hnext.out, EX.out]; exact HO4.out, HB4.out⟩
          case measure => simp [intOf] <;> omega
        · have HN := Lib.hid (show notNaN x = false by unfold notNaN; rw [q]; rfl)
          rw [q] at CK
          clear q
          go_wp2_with (first | (go_at_call 14; (with_reducible refine (CK.out _).mono ?_); rintro e w' ⟨rfl, rfl⟩) | (at_builtin; refine wpList_app_flt rfl _ _ 33 rfl w.heap.size 24 8 Try.underlying33 info_f64 _ _ rfl (HO.out.alloc (.cells #[.float .f64 x] 24)) _ _ rfl (by simp; rfl) (by rw [hlk.out]; unfold maxLen; omega) (by rw [hlk.out]; omega) (by simp; omega) ?_; intro v4 w4 ho4 hb4; have HB4 := Lib.hid (((HBW.out.alloc hsz (.cells #[.float .f64 x] 24)) : Below w.heap.size w _).trans hb4); have HO4 := Lib.hid ho4; clear ho4 hb4))
          go_roundw
          case rel => exact ⟨k + 1, by omega, by push_cast; rfl, by rw [HG.out, HN.out]; rfl, by rw [hnext.out, EX.out]; exact HO4.out, HB4.out⟩
          case measure => simp [intOf] <;> omega
        · have HN := Lib.hid (show notNaN x = true by unfold notNaN; simp [q])
          have hq1 : (kindF x == 1) = false := by simpa using q
          clear q
          generalize kindF x = kx at *
          go_wp2_with (first | (go_at_call 14; (with_reducible refine (CK.out _).mono ?_); rintro e w' ⟨rfl, rfl⟩) | (at_builtin; refine wpList_app_flt rfl _ _ 33 rfl w.heap.size 24 8 Try.underlying33 info_f64 _ _ rfl (HO.out.alloc (.cells #[.float .f64 x] 24)) _ _ rfl (by simp; rfl) (by rw [hlk.out]; unfold maxLen; omega) (by rw [hlk.out]; omega) (by simp; omega) ?_; intro v4 w4 ho4 hb4; have HB4 := Lib.hid (((HBW.out.alloc hsz (.cells #[.float .f64 x] 24)) : Below w.heap.size w _).trans hb4); have HO4 := Lib.hid ho4; clear ho4 hb4))
          go_roundw
          case rel => exact ⟨k + 1, by omega, by push_cast; rfl, by rw [HG.out, HN.out]; simp only [bne, hq1]; rfl, by rw [hnext.out, EX.out]; exact HO4.out, HB4.out⟩
          case measure => simp [intOf] <;> omega
      · obtain rfl : k = len := by omega
        have hki : ¬ (k : Int) < (k : Int) := by omega
        have ht : Z.take k = Z := List.take_of_length_le (by rw [HL.out]; exact Nat.le_refl _)
        obtain ⟨fa, fc, rfl, hfl⟩ := flts_of_own HO.out (by rw [ht]; exact HUL.out)
        have HF0 := hfl
        have e0 : (fls (Z.take k)).length = k := by rw [ht, fls_len, HL.out]
        rw [e0, ht] at HF0
        rw [e0, ht]
        have hFL : (fls Z).length = k := by rw [fls_len, HL.out]
        have HFL := Lib.hid hFL
        have HUF := HUL
        clear HO HU HUL hfl ht hFL e0
        generalize fls Z = F at *
        have HF := Lib.hid HF0
        clear HF0 HZ HL hlen
        have HLe := Lib.hid (least_le F)
        have hlm := leastF_lt F HUF.out
        have CL := Lib.hid (edge_Least fa k fc F wr HF.out)
        have CAll := Lib.hid (edge_All fa k fc F wr HF.out hsm)
        have HFA := Lib.hid (fndB_all F)
        have HF0' := Lib.hid (fndB_zero F)
        have HFN := Lib.hid (fndB_next F)
        rcases Nat.eq_zero_or_pos k with h0 | h0
        · subst h0
          obtain rfl : F = [] := List.eq_nil_of_length_eq_zero HFL.out
          rw [show leastF [] = 9218868437227405312 from rfl] at CL
          have CA2 := Lib.hid (show Calls Try.prog 19 #[.slice fa 0 fc] wr fun e w' => ∃ x c, e = .returned (.tuple #[.slice x 0 c, .bool true]) ∧ Below wr.heap.size wr w' from by
            refine CAll.out.mono ?_
            rintro e w' ⟨hp, hb⟩
            unfold AllPost at hp
            rw [if_pos (show ([] : List Nat).all notNaN = true from rfl)] at hp
            obtain ⟨v, rfl, ho⟩ := hp
            obtain ⟨x, c, rfl, _⟩ := row_of_own (show OwnR w' wr.heap.size 3 1 v 0 [] from ho)
            exact ⟨x, c, rfl, hb⟩)
          rw [show ([] : List Nat).all notNaN = true from rfl]
          go_wp2_with (first | (go_at_call 17; (with_reducible refine (CL.out).mono ?_); rintro e w' ⟨rfl, rfl⟩) | (go_at_call 14; (with_reducible refine (kind_inf _).mono ?_); rintro e w' ⟨rfl, rfl⟩))
          go_loopw [8, 9] (fun c i wq => i = .int .i64 0 ∧ c = .bool true ∧ wr = wq) (fun _ i _ => 0)
          case atStart => exact ⟨rfl, rfl, rfl⟩
          case round =>
            obtain ⟨rfl, rfl, rfl⟩ := hrel
            go_wp2_with (first | (go_at_call 19; (with_reducible refine CA2.out.mono ?_); rintro e w5 ⟨x5, c5, rfl, hb5⟩; have HB5 := Lib.hid hb5; clear hb5))
            go_loopw [12] (fun i wq => i = .int .i64 0 ∧ w5 = wq) (fun i _ => 0)
            case atStart => exact ⟨rfl, rfl⟩
            case round =>
              obtain ⟨rfl, rfl⟩ := hrel
              go_wp2
              go_ret
              exact ⟨rfl, HBW.out.trans (HB5.out.mono HBW.out.size)⟩
        · have hk0 : ((k : Int) == 0) = false := by simp; omega
          have hk1 : (0 : Int) < k := by omega
          obtain ⟨least, eL⟩ : ∃ m, leastF F = m := ⟨_, rfl⟩
          rw [eL] at CL HLe HFN hlm
          obtain ⟨G, eG⟩ : ∃ G, F.all notNaN = G := ⟨_, rfl⟩
          have EG := Lib.hid eG
          rw [eG]
          clear eL eG
          have hne0 : F.isEmpty = false := by
            cases F with
            | nil => have := HFL.out; simp at this; omega
            | cons x l => rfl
          have hne := Lib.hid (show fndB F 0 = false by rw [HF0'.out]; exact hne0)
          clear hne0
          go_wp2_with (first | (go_at_call 17; (with_reducible refine (CL.out).mono ?_); rintro e w' ⟨rfl, rfl⟩))
          go_loopw [8, 9] (fun c i wq => ∃ j : Nat, j ≤ k ∧ i = .int .i64 j ∧ c = .bool (fndB F j) ∧ wr = wq) (fun _ i _ => k - (intOf i).toNat)
          case atStart => exact ⟨0, by omega, rfl, by rw [hne.out], rfl⟩
          case round =>
            obtain ⟨j, hj, rfl, rfl, rfl⟩ := hrel
            by_cases hjk : j < k
            · obtain ⟨b, off, rfl, hbb, hcell⟩ := HF.out.opened h0
              have xj := hcell j hjk
              have hjj : (j : Int) < (k : Int) := by omega
              have hmem := HUF.out _ (fl_mem (l := F) (i := j) (by rw [HFL.out]; exact hjk))
              have hle := HLe.out _ (fl_mem (l := F) (i := j) (by rw [HFL.out]; exact hjk))
              have hnx := HFN.out j (by rw [HFL.out]; exact hjk)
              clear hcell
              generalize fl F j = x at *
              have CC := Lib.hid (fun v => ref_Compare x least v hmem hlm)
              have CA := Lib.hid (fun v => ref_Alike x least v hmem hlm)
              have hcn : ¬ cmpI (fplace x) (fplace least) < 0 := by rw [cmp_neg]; omega
              generalize cmpI (fplace x) (fplace least) = c at *
              have HNX := Lib.hid hnx
              clear hnx hle
              obtain ⟨fb, eb⟩ : ∃ fb, fndB F j = fb := ⟨_, rfl⟩
              rw [eb] at HNX ⊢
              clear eb
              rcases Bool.eq_false_or_eq_true fb with rfl | rfl
              · go_wp2_with (first | (go_at_call 16; (with_reducible refine (CC.out _).mono ?_); rintro e w' ⟨rfl, rfl⟩) | (go_at_call 18; (with_reducible refine (CA.out _).mono ?_); rintro e w' ⟨rfl, rfl⟩))
                go_roundw
                case rel => exact ⟨j + 1, by omega, by push_cast; rfl, by rw [HNX.out]; rfl, by first | rfl | trivial⟩
                case measure => simp [intOf] <;> omega
              · go_wp2_with (first | (go_at_call 16; (with_reducible refine (CC.out _).mono ?_); rintro e w' ⟨rfl, rfl⟩) | (go_at_call 18; (with_reducible refine (CA.out _).mono ?_); rintro e w' ⟨rfl, rfl⟩))
                go_roundw
                case rel => exact ⟨j + 1, by omega, by push_cast; rfl, by rw [HNX.out]; rfl, by first | rfl | trivial⟩
                case measure => simp [intOf] <;> omega
            · obtain rfl : j = k := by omega
              have hjj : ¬ (j : Int) < (j : Int) := by omega
              have hfin : fndB F j = true := by rw [← HFL.out]; exact HFA.out
              rw [hfin]
              clear hfin
              rcases Bool.eq_false_or_eq_true G with rfl | rfl
              · have CA2 := Lib.hid (show Calls Try.prog 19 #[.slice fa j fc] wr fun e w' => ∃ g c, e = .returned (.tuple #[.slice (some ⟨g, 0, none⟩) j c, .bool true]) ∧ OwnI w' wr.heap.size 3 .i64 (.slice (some ⟨g, 0, none⟩) j c) (F.map readF) ∧ j ≤ c ∧ c ≤ 9223372036854775807 ∧ Below wr.heap.size wr w' from by
                  refine CAll.out.mono ?_
                  rintro e w' ⟨hp, hb⟩
                  unfold AllPost at hp
                  rw [if_pos EG.out] at hp
                  obtain ⟨v, rfl, ho⟩ := hp
                  have hlm' : (F.map readF).length = j := by rw [List.length_map, HFL.out]
                  rcases ho.shape with ⟨_, h⟩ | ⟨g, c, rfl, h1, h2, h3, h4⟩
                  · rw [h] at hlm'; simp at hlm'; omega
                  · rw [hlm'] at ho h3
                    rw [hlm']
                    exact ⟨g, c, rfl, ho, h3, h4, hb⟩)
                go_wp2_with (first | (go_at_call 19; (with_reducible refine CA2.out.mono ?_); rintro e w5 ⟨g, c, rfl, ho5, hc5, hc6, hb5⟩; have HO5 := Lib.hid ho5; have HB5 := Lib.hid hb5; clear ho5 hb5))
                go_loopw [12] (fun i wq => ∃ q : Nat, q ≤ j ∧ i = .int .i64 q ∧ w5 = wq) (fun i _ => j - (intOf i).toNat)
                case atStart => exact ⟨0, by omega, rfl, rfl⟩
                case round =>
                  obtain ⟨q, hq, rfl, rfl⟩ := hrel
                  by_cases hqj : q < j
                  · obtain ⟨b, off, rfl, hbb, hcell⟩ := (HF.out.later HB5.out).opened h0
                    have xq := hcell q hqj
                    have yq := HO5.out.cellAt (by rw [List.length_map, HFL.out]) hqj
                    have hmem := HUF.out _ (fl_mem (l := F) (i := q) (by rw [HFL.out]; exact hqj))
                    have hnn : notNaN (fl F q) = true := List.all_eq_true.1 EG.out _ (fl_mem (l := F) (i := q) (by rw [HFL.out]; exact hqj))
                    have hel : el (F.map readF) q = readF (fl F q) := by
                      unfold el fl
                      rw [List.getD_eq_getElem?_getD, List.getD_eq_getElem?_getD, List.getElem?_map, List.getElem?_eq_getElem (show q < F.length by rw [HFL.out]; exact hqj)]
                      rfl
                    rw [hel] at yq
                    clear hcell hel
                    have hqq : (q : Int) < (j : Int) := by omega
                    generalize fl F q = x at *
                    have CR := fun v => ref_Read x v hmem
                    simp only [if_neg (show ¬ kindF x = 1 by unfold notNaN at hnn; simpa using hnn)] at CR
                    have HCR := Lib.hid CR
                    clear CR hnn
                    generalize readF x = r at *
                    go_wp2_with (first | (go_at_call 12; (with_reducible refine (HCR.out _).mono ?_); rintro e w' ⟨rfl, rfl⟩))
                    go_roundw
                    case rel => exact ⟨q + 1, by omega, by push_cast; rfl, by first | rfl | trivial⟩
                    case measure => simp [intOf] <;> omega
                  · obtain rfl : q = j := by omega
                    have hqq : ¬ (q : Int) < (q : Int) := by omega
                    go_wp2
                    go_ret
                    exact ⟨rfl, HBW.out.trans (HB5.out.mono HBW.out.size)⟩
              · have CA2 := Lib.hid (show Calls Try.prog 19 #[.slice fa j fc] wr fun e w' => e = .returned (.tuple #[.slice none 0 0, .bool false]) ∧ Below wr.heap.size wr w' from by
                  refine CAll.out.mono ?_
                  rintro e w' ⟨hp, hb⟩
                  unfold AllPost at hp
                  rw [if_neg (by rw [EG.out]; simp)] at hp
                  exact ⟨hp, hb⟩)
                go_wp2_with (first | (go_at_call 19; (with_reducible refine CA2.out.mono ?_); rintro e w5 ⟨rfl, hb5⟩; have HB5 := Lib.hid hb5; clear hb5))
                go_loopw [12] (fun i wq => i = .int .i64 0 ∧ w5 = wq) (fun i _ => 0)
                case atStart => exact ⟨rfl, rfl⟩
                case round =>
                  obtain ⟨rfl, rfl⟩ := hrel
                  go_wp2
                  go_ret
                  exact ⟨rfl, HBW.out.trans (HB5.out.mono HBW.out.size)⟩

set_option maxRecDepth 100000 in
theorem lifted (os : Os) (started : os.Started) (H : Type) (enc : TypeId × Value → H) :
    ReturnsInHanded {} Try.checked os 5 .any (Rows.edgeListsSpec.pre6 enc Try.prog Try.f5 Rows.edgeListsRow.domain false) (Rows.edgeListsSpec.post enc Try.prog Try.f5 false true false false) := by
  refine returnsInHanded_of_change (C := Try.checked) own started (by kernel_rfl) Try.func5
    (ChangeSpec.witness6 (enc := enc) (C := Try.checked) false ⟨#[], #[.slice none 0 0], []⟩ 8 (by kernel_rfl) (by kernel_rfl) (by kernel_rfl) (by kernel_rfl)) ?_
  intro W base args ds gs before hval0 hW hcnd _
  have hval : ∀ (j : Nat) t v, Try.f5.params[j]? = some t → args[j]? = some v → Value.okWide Try.prog W .any base t v := hval0
  have hW' := hW
  obtain ⟨p, q, hA0, hV, rfl, hfz, hnd⟩ := hW
  have hA : DataW.TrodAll enc Try.prog W 0 (fun _ => true) true Try.f5.params.toList args.toList ds p := hA0
  rw [Try.params5] at hA hval
  obtain ⟨v0, vs0, d0, ds0, p0, q0, hargs, rfl, rfl, h0, r0⟩ := trodAll_cons hA
  obtain ⟨rfl, rfl, rfl⟩ := trodAll_nil r0
  obtain rfl : args = #[v0] := by cases args; simp_all
  obtain ⟨rfl, rfl⟩ := trodVars_none hV
  have k0 := h0
  have lt0 : ∀ x ∈ p0, x.block < W.heap.size := by obtain ⟨m, hm⟩ := k0; exact DataW.trod_lt m _ _ _ hm
  have o0 : Value.okWide Try.prog W .any base 32 v0 := hval 0 32 v0 rfl rfl
  obtain ⟨a0, len0, cap0, rfl⟩ := okWide_slice Try.underlying32 o0
  obtain ⟨z0, w0⟩ : ∃ zs, Ints .u64 W a0 len0 cap0 zs := ints_of_trod Try.underlying32 Try.underlying22 (by kernel_rfl) h0
  clear hA0 hval0
  refine (walk a0 len0 cap0 z0 W w0).mono fun e W' ⟨he, bel⟩ => ?_
  subst he
  exact ⟨_, rfl, _, _, _, [], _, [], hW', trodAll_mk1 (shut_bool Try.underlying4 _), (trodAll_cons_mk (Below.trod laidOut (by kernel_rfl) (of_decide_eq_true (by kernel_rfl)) k0 bel lt0) trodAll_mk0), rfl, bel.frame _, fun h => by cases h⟩

theorem over : Rows.edgeListsRow.holds Try.pinned (OpenSpec.ofChange Rows.edgeListsSpec) :=
  OpenClaim.holds_of_wide 5 Try.f5 rfl rfl rfl rfl rfl rfl rfl ⟨rfl, rfl, rfl, rfl, rfl⟩ rfl rfl rfl rfl rfl (by kernel_rfl) Try.func5 (by kernel_rfl)
    (of_decide_eq_true (by kernel_rfl)) (by unfold Func.isWrapper; first | (rw [if_pos (by decide +kernel)]; kernel_rfl) | (rw [if_neg (by decide +kernel)]; exact ⟨rfl, rfl⟩))
    (fun os started H enc _ => lifted os started H enc)

/-- The statement. -/
theorem proved : Rows.EdgeListsSaid := over
#print axioms proved

end Go.Proofs.Ytkdkhbeacejamaa.edgeLists
