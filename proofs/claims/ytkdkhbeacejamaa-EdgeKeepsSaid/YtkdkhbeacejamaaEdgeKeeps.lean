/- EdgeKeeps holds for every list: what is handed in stays, what is answered is new memory. No conditions. -/
import Derived.Test.YtkdkhbeacejamaaEdgeOwn
namespace Go.Proofs.Ytkdkhbeacejamaa.edgeKeeps
open Go.ChangeShapes Go.WideShapes Go.ChangeAt Go.RowKit
open Go.ChangeMaps (open_string shut_string)
set_option linter.unusedVariables false
set_option linter.unusedSimpArgs false

set_option maxRecDepth 100000 in
set_option maxHeartbeats 8000000 in
theorem walk (a : Option Addr) (len cap : Nat) (Z : List Int) (w : World) (hz : Ints .u64 w a len cap Z) : Calls Try.prog 7 #[.slice a len cap] w fun e w' => e = .returned (.bool true) ∧ Below w.heap.size w w' := by
  have hw : Below w.heap.size w w := Below.refl _ _
  have hbel := hw
  obtain ⟨hlen, hc1, hc2⟩ := hz.bounds
  have HZ := Lib.hid hz
  have HL := Lib.hid hlen
  have HU := Lib.hid (show ∀ i, i < len → 0 ≤ el Z i ∧ (el Z i).toNat < 18446744073709551616 from fun i hi => by
    have := in64_of_wf (hz.2 _ (el_mem (l := Z) (i := i) (by omega)))
    omega)
  have HUL := Lib.hid (show ∀ n ∈ fls Z, n < 18446744073709551616 from fun n hn => by
    unfold fls at hn
    obtain ⟨x, hx, rfl⟩ := List.mem_map.1 hn
    have := in64_of_wf (hz.2 _ hx)
    omega)
  clear hz
  by_cases hbig : 300 < len
  · have hbig' : (300 : Int) < len := by omega
    go_enter Try.func7, Try.ntmps7
    go_wp2_with (first | (go_at_call 9; (with_reducible refine (awake03 _).mono ?_); rintro e w1 ⟨rfl, hb1⟩; replace hbel := belStep hbel hb1; clear hb1))
    go_ret
    exact ⟨rfl, hbel⟩
  · have hbig' : ¬ (300 : Int) < len := by omega
    have hsm : len ≤ 300 := by omega
    go_enter Try.func7, Try.ntmps7
    go_wp2_with (first | (go_at_call 9; (with_reducible refine (awake03 _).mono ?_); rintro e w1 ⟨rfl, hb1⟩; replace hbel := belStep hbel hb1; clear hb1))
    have HB0 := Lib.hid hbel
    have hs0 : w.heap.size ≤ w1.heap.size := hbel.size
    clear hbel
    go_loopw [3, 4] (fun v i wr => ∃ k : Nat, k ≤ len ∧ i = .int .i64 k ∧ OwnF wr w.heap.size 24 v (fls (Z.take k)) ∧ Below w.heap.size w wr) (fun _ i _ => len - (intOf i).toNat)
    case atStart => exact ⟨0, by omega, rfl, OwnF.nil _ _ _, HB0.out⟩
    case round =>
      obtain ⟨k, hk, rfl, ho, hbw⟩ := hrel
      have HO := Lib.hid ho
      have HBW := Lib.hid hbw
      clear ho hbw
      by_cases hlt : k < len
      · obtain ⟨b, off, rfl, hbb, hcell⟩ := (HZ.out.later HBW.out).opened (by omega)
        have xk := hcell k hlt
        obtain ⟨hx0, hx1⟩ := HU.out k hlt
        have hnext := Lib.hid (fls_next (l := Z) (k := k) (by rw [HL.out]; exact hlt))
        have hlk := Lib.hid (show (fls (Z.take k)).length = k by rw [fls_len, List.length_take, HL.out, Nat.min_eq_left hk])
        have hki : (k : Int) < (len : Int) := by omega
        have hsz : w.heap.size ≤ wr.heap.size := HBW.out.size
        clear hcell
        have hf := run_frombits (el Z k)
        obtain ⟨x, ex⟩ : ∃ x, (el Z k).toNat = x := ⟨_, rfl⟩
        have EX := Lib.hid ex
        rw [ex] at hf hx1
        clear ex
        go_wp2_with (first | (at_builtin; refine wpList_app_flt rfl _ _ 33 rfl w.heap.size 24 8 Try.underlying33 info_f64 _ _ rfl (HO.out.alloc (.cells #[.float .f64 x] 24)) _ _ rfl (by simp; rfl) (by rw [hlk.out]; unfold maxLen; omega) (by rw [hlk.out]; omega) (by simp; omega) ?_; intro v4 w4 ho4 hb4; have HB4 := Lib.hid (((HBW.out.alloc hsz (.cells #[.float .f64 x] 24)) : Below w.heap.size w _).trans hb4); have HO4 := Lib.hid ho4; clear ho4 hb4))
        go_roundw
        case rel => exact ⟨k + 1, by omega, by push_cast; rfl, by rw [hnext.out, EX.out]; exact HO4.out, HB4.out⟩
        case measure => simp [intOf] <;> omega
      · obtain rfl : k = len := by omega
        have hki : ¬ (k : Int) < (k : Int) := by omega
        have ht : Z.take k = Z := List.take_of_length_le (by rw [HL.out]; exact Nat.le_refl _)
        obtain ⟨fa, fc, rfl, hfl⟩ := flts_of_own HO.out (by rw [ht]; exact HUL.out)
        have HF0 := hfl
        have e0 : (fls (Z.take k)).length = k := by rw [ht, fls_len, HL.out]
        rw [e0, ht] at HF0
        rw [e0]
        have HFL := Lib.hid (show (fls Z).length = k by rw [fls_len, HL.out])
        have HEQ := Lib.hid (fls_fl Z)
        have HUF := HUL
        clear HO HUL hfl ht e0
        generalize fls Z = F at *
        have HF := Lib.hid HF0
        have HZR := Lib.hid (HZ.out.later HBW.out)
        clear HF0 HZ
        generalize wr = WA at *
        have CAll := Lib.hid (fun v (hb : Below WA.heap.size WA v) => all_any fa k fc F v (HF.out.later hb) hsm HFL.out)
        have CL := Lib.hid (fun v (hb : Below WA.heap.size WA v) => edge_Least fa k fc F v (HF.out.later hb))
        go_wp2_with (first | (go_at_call 19; (with_reducible refine (CAll.out _ (Below.refl _ _)).mono ?_); rintro e w5 ⟨x5, n5, c5, ok5, l5, rfl, ho5, hl5, hn5, hb5⟩; have HO5 := Lib.hid ho5; have HB5 := Lib.hid hb5; have HN5 := Lib.hid hn5; have HL5 := Lib.hid hl5; clear ho5 hb5 hn5 hl5))
        go_loopw [7] (fun i wq => ∃ q : Nat, q ≤ n5 ∧ i = .int .i64 q ∧ (∃ l', l'.length = n5 ∧ OwnI wq WA.heap.size 3 .i64 (.slice x5 n5 c5) l') ∧ Below WA.heap.size WA wq) (fun i _ => n5 - (intOf i).toNat)
        case atStart => exact ⟨0, by omega, rfl, ⟨l5, HL5.out, HO5.out⟩, HB5.out⟩
        case round =>
          obtain ⟨q, hq, rfl, ⟨l', hl', ho'⟩, hbq⟩ := hrel
          have HBQ := Lib.hid hbq
          have HO6 := Lib.hid ho'
          have HL6 := Lib.hid hl'
          clear hbq ho' hl'
          by_cases hqn : q < n5
          · obtain ⟨g, rfl, hg1, hg2, hg3, hg4⟩ := HO6.out.open HL6.out (by omega)
            have yq := HO6.out.cellAt HL6.out.symm hqn
            have fq := HO6.out.frozenAt HL6.out.symm q
            have hqq : (q : Int) < (n5 : Int) := by omega
            go_wp2
            go_roundw
            case rel => exact ⟨q + 1, by omega, by push_cast; rfl, ⟨_, by rw [List.length_set]; exact HL6.out, HO6.out.set HL6.out.symm q (-1)⟩, HBQ.out.setCell hg1 _⟩
            case measure => simp [intOf] <;> omega
          · have hqq : ¬ (q : Int) < (n5 : Int) := by omega
            clear HO6 HL6 HO5 HL5 HN5 HB5
            generalize wr = WQ at *
            go_wp2_with (first | (go_at_call 17; (with_reducible refine (CL.out _ HBQ.out).mono ?_); rintro e w' ⟨rfl, rfl⟩))
            have HZQ := Lib.hid (HZR.out.later HBQ.out)
            have HFQ := Lib.hid (HF.out.later HBQ.out)
            go_loopw [8] (fun i wz => ∃ p : Nat, p ≤ k ∧ i = .int .i64 p ∧ Below WQ.heap.size WQ wz) (fun i _ => k - (intOf i).toNat)
            case atStart => exact ⟨0, by omega, rfl, Below.refl _ _⟩
            case round =>
              obtain ⟨p, hp, rfl, hbz⟩ := hrel
              have HBZ := Lib.hid hbz
              clear hbz
              by_cases hpk : p < k
              · obtain ⟨b1, o1, rfl, hb1, hcell1⟩ := (HFQ.out.later HBZ.out).opened (by omega)
                obtain ⟨b2, o2, rfl, hb2, hcell2⟩ := (HZQ.out.later HBZ.out).opened (by omega)
                have x1 := hcell1 p hpk
                have x2 := hcell2 p hpk
                have hpp : (p : Int) < (k : Int) := by omega
                have hf := run_frombits (el Z p)
                have hmem := HUF.out _ (fl_mem (l := F) (i := p) (by rw [HFL.out]; exact hpk))
                rw [HEQ.out p] at x1 hmem
                have CA := fun v => ref_Alike (el Z p).toNat (el Z p).toNat v hmem hmem
                rw [show ∀ x : Int, cmpI x x = 0 from fun x => by unfold cmpI; omega] at CA
                have HCA := Lib.hid CA
                clear CA
                generalize (el Z p).toNat = f at *
                have hbel : Below wr.heap.size wr wr := Below.refl _ _
                replace x1 := keep x1
                replace x2 := keep x2
                go_wp2
                have kk := fun d os => belStep hbel (below_regrown _ d os)
                refine wp_region_quiet_below (by kernel_rfl) (by kernel_rfl) ?_
                repeat ((with_reducible refine wpQuiet_step (fun K hK => ?_)); go_simp; (try (rw [if_neg]; rotate_left; · decide)); first | ((with_reducible refine hK _ ?_); clear hK K) | (apply Exists.intro; refine ⟨fun _ => ?_, hK _ ?_⟩; (first | (go_at_call 18; with_reducible exact regrown_of_eq (HCA.out _))); clear hK K))
                refine wpQuiet_nil (fun w1 hw1 => ?_)
                replace hbel := belStep hbel (bel_of_class hw1)
                clear hw1 kk
                go_wp2
                go_roundw
                case rel => exact ⟨p + 1, by omega, by push_cast; rfl, belStep HBZ.out hbel⟩
                case measure => simp [intOf] <;> omega
              · have hpp : ¬ (p : Int) < (k : Int) := by omega
                generalize wr = WZ at *
                have hbz : Below WA.heap.size WA WZ := HBQ.out.trans (HBZ.out.mono HBQ.out.size)
                have HBZA := Lib.hid hbz
                clear hbz
                go_wp2_with (first | (go_at_call 19; (with_reducible refine (CAll.out _ HBZA.out).mono ?_); rintro e w6 ⟨x6, n6, c6, ok6, l6, rfl, ho6, hl6, hn6, hb6⟩; have HO6 := Lib.hid ho6; have HB6 := Lib.hid hb6; have HN6 := Lib.hid hn6; have HL6 := Lib.hid hl6; clear ho6 hb6 hn6 hl6))
                go_loopw [11] (fun i wq => ∃ s : Nat, s ≤ n6 ∧ i = .int .i64 s ∧ w6 = wq) (fun i _ => n6 - (intOf i).toNat)
                case atStart => exact ⟨0, by omega, rfl, rfl⟩
                case round =>
                  obtain ⟨s, hs, rfl, rfl⟩ := hrel
                  by_cases hsn : s < n6
                  · obtain ⟨g, rfl, hg1, hg2, hg3, hg4⟩ := HO6.out.open HL6.out (by omega)
                    have ys := HO6.out.cellAt HL6.out.symm hsn
                    have hnn := HN6.out.1 s hsn
                    have hss : (s : Int) < (n6 : Int) := by omega
                    generalize el l6 s = r at *
                    have hr : ¬ r < 0 := by omega
                    go_wp2
                    go_roundw
                    case rel => exact ⟨s + 1, by omega, by push_cast; rfl, by first | rfl | trivial⟩
                    case measure => simp [intOf] <;> omega
                  · have hss : ¬ (s : Int) < (n6 : Int) := by omega
                    go_wp2
                    go_ret
                    exact ⟨rfl, (HBW.out.trans (HBZA.out.mono HBW.out.size)).trans (HB6.out.mono (Nat.le_trans HBW.out.size HBZA.out.size))⟩

set_option maxRecDepth 100000 in
theorem lifted (os : Os) (started : os.Started) (H : Type) (enc : TypeId × Value → H) :
    ReturnsInHanded {} Try.checked os 7 .any (Rows.edgeKeepsSpec.pre6 enc Try.prog Try.f7 Rows.edgeKeepsRow.domain false) (Rows.edgeKeepsSpec.post enc Try.prog Try.f7 false true false false) := by
  refine returnsInHanded_of_change (C := Try.checked) own started (by kernel_rfl) Try.func7
    (ChangeSpec.witness6 (enc := enc) (C := Try.checked) false ⟨#[], #[.slice none 0 0], []⟩ 8 (by kernel_rfl) (by kernel_rfl) (by kernel_rfl) (by kernel_rfl)) ?_
  intro W base args ds gs before hval0 hW hcnd _
  have hval : ∀ (j : Nat) t v, Try.f7.params[j]? = some t → args[j]? = some v → Value.okWide Try.prog W .any base t v := hval0
  have hW' := hW
  obtain ⟨p, q, hA0, hV, rfl, hfz, hnd⟩ := hW
  have hA : DataW.TrodAll enc Try.prog W 0 (fun _ => true) true Try.f7.params.toList args.toList ds p := hA0
  rw [Try.params7] at hA hval
  obtain ⟨v0, vs0, d0, ds0, p0, q0, hargs, rfl, rfl, h0, r0⟩ := trodAll_cons hA
  obtain ⟨rfl, rfl, rfl⟩ := trodAll_nil r0
  obtain rfl : args = #[v0] := by cases args; simp_all
  obtain ⟨rfl, rfl⟩ := trodVars_none hV
  have k0 := h0
  have lt0 : ∀ x ∈ p0, x.block < W.heap.size := by obtain ⟨m, hm⟩ := k0; exact DataW.trod_lt m _ _ _ hm
  have o0 : Value.okWide Try.prog W .any base 32 v0 := hval 0 32 v0 rfl rfl
  obtain ⟨a0, len0, cap0, rfl⟩ := okWide_slice Try.underlying32 o0
  obtain ⟨z0, w0⟩ : ∃ zs, Ints .u64 W a0 len0 cap0 zs := ints_of_trod Try.underlying32 Try.underlying22 (by kernel_rfl) h0
  clear hA0 hval0
  refine (walk a0 len0 cap0 z0 W w0).mono fun e W' ⟨he, bel⟩ => ?_
  subst he
  exact ⟨_, rfl, _, _, _, [], _, [], hW', trodAll_mk1 (shut_bool Try.underlying4 _), (trodAll_cons_mk (Below.trod laidOut (by kernel_rfl) (of_decide_eq_true (by kernel_rfl)) k0 bel lt0) trodAll_mk0), rfl, bel.frame _, fun h => by cases h⟩

theorem over : Rows.edgeKeepsRow.holds Try.pinned (OpenSpec.ofChange Rows.edgeKeepsSpec) :=
  OpenClaim.holds_of_wide 7 Try.f7 rfl rfl rfl rfl rfl rfl rfl ⟨rfl, rfl, rfl, rfl, rfl⟩ rfl rfl rfl rfl rfl (by kernel_rfl) Try.func7 (by kernel_rfl)
    (of_decide_eq_true (by kernel_rfl)) (by unfold Func.isWrapper; first | (rw [if_pos (by decide +kernel)]; kernel_rfl) | (rw [if_neg (by decide +kernel)]; exact ⟨rfl, rfl⟩))
    (fun os started H enc _ => lifted os started H enc)

/-- The statement. -/
theorem proved : Rows.EdgeKeepsSaid := over
#print axioms proved

end Go.Proofs.Ytkdkhbeacejamaa.edgeKeeps
