/- QuantBack holds for every number and every count of zeros. No conditions but that the library's tables lie as its own text lays them. -/
import Derived.Test.YtiaemcejgjobiaaDoorQuantCard
namespace Go.Proofs.YtiaemcejgjobiaaDoor.quantBack
open Go.ChangeShapes Go.WideShapes Go.ChangeAt Go.RowKit
open Go.ChangeMaps (open_string shut_string)
set_option linter.unusedVariables false
set_option linter.unusedSimpArgs false

def zr (s : ByteArray) : Nat → ByteArray
  | 0 => s
  | k + 1 => ⟨#[48]⟩ ++ zr s k
theorem app_list (a b : ByteArray) : (a ++ b).toList = a.toList ++ b.toList := by
  rw [sl, sl, sl, ByteArray.data_append]; simp
theorem zr_list (s : ByteArray) (k : Nat) : (zr s k).toList = List.replicate k 48 ++ s.toList := by
  induction k with
  | zero => rfl
  | succ k ih => rw [zr, app_list, ih, List.replicate_succ]; rw [sl]; rfl
theorem zr_size (s : ByteArray) (k : Nat) : (zr s k).size = k + s.size := by
  rw [← sl_len, zr_list, List.length_append, List.length_replicate, sl_len]
theorem dgn_zeros (k : Nat) (d : List UInt8) : dgn (List.replicate k 48 ++ d) = dgn d := by
  induction k with
  | zero => rfl
  | succ k ih =>
    rw [List.replicate_succ, List.cons_append, ← ih]
    unfold dgn
    rw [List.foldl_cons]; rfl
theorem pr_parts (n : Int) (h : n ≤ 9223372036854775807) : ∃ (u : Nat) (r : List UInt8), (prAll n).toList = Lib.decDigits u ++ r ∧ unitL r ≠ 0 ∧ satMul (u : Int) (unitL r) = max n 0 ∧ u ≤ 9223372036854775807 := by
  by_cases h0 : n ≤ 0
  · refine ⟨0, [], ?_, by decide, ?_, by omega⟩
    · unfold prAll; rw [if_pos h0, sl, dd_small (by omega)]; rfl
    · rw [Int.max_eq_right h0]; rfl
  · obtain ⟨q1, q2, q3, q4⟩ := nmO_unit n 8 (by omega)
    have hq : 0 ≤ n / uO (bf n 8) := Int.ediv_nonneg (by omega) (by omega)
    have hle := Int.ediv_le_self (uO (bf n 8)) (show 0 ≤ n by omega)
    have hmul : n / uO (bf n 8) * uO (bf n 8) = n := Int.ediv_mul_cancel (Int.dvd_of_emod_eq_zero q4)
    refine ⟨(n / uO (bf n 8)).toNat, (nmO (bf n 8)).toList, ?_, by rw [q1]; omega, ?_, by omega⟩
    · unfold prAll prB; rw [if_neg h0, app_list, ddB_list]
    · rw [q1, Int.toNat_of_nonneg hq]
      unfold satMul
      rw [Int.max_eq_left hq, Int.max_eq_left (show (0 : Int) ≤ uO (bf n 8) by omega), hmul]; omega
theorem read_back (n : Int) (h : n ≤ 9223372036854775807) (k : Nat) : qN (zr (prAll n) k).toList = max n 0 ∧ qE (zr (prAll n) k).toList = 0 := by
  obtain ⟨u, r, e1, e2, e3, e4⟩ := pr_parts n h
  have hd : ∀ c ∈ List.replicate k (48 : UInt8) ++ Lib.decDigits u, isDg c = true := fun c hc => by
    rcases List.mem_append.1 hc with hc | hc
    · rw [List.eq_of_mem_replicate hc]; rfl
    · exact dd_dg u c hc
  have hne : List.replicate k (48 : UInt8) ++ Lib.decDigits u ≠ [] := by
    intro e
    exact dd_pos u (List.append_eq_nil_iff.1 e).2
  obtain ⟨o1, o2⟩ := q_of hd hne e2
  unfold qN qE
  rw [zr_list, e1, ← List.append_assoc, o1, o2, dgn_zeros, dgn_dd u e4, e3]
  exact ⟨rfl, rfl⟩
theorem prAll_size (n : Int) (h : n ≤ 9223372036854775807) : (prAll n).size ≤ 23 := by
  unfold prAll
  split
  · decide
  · unfold prB
    rw [← sl_len, app_list, List.length_append, sl_len, sl_len]
    have h1 := nmO_size (bf n 8)
    obtain ⟨q1, q2, q3, q4⟩ := nmO_unit n 8 (by omega)
    have hle := Int.ediv_le_self (uO (bf n 8)) (show 0 ≤ n by omega)
    have h2 := ddB_size (n / uO (bf n 8)).toNat (by omega)
    omega

set_option maxRecDepth 100000 in
set_option maxHeartbeats 4000000 in
theorem walk (n c : Int) (W : World) (ht : Tab W) (hn : InI n) (hc : 0 ≤ c ∧ c ≤ 255) : Calls Tryd.prog 4 #[.int .i64 n, .int .u8 c] W fun e w' => e = .returned (.bool true) ∧ Below W.heap.size W w' := by
  have hbel : Below W.heap.size W W := Below.refl _ _
  have CA := Lib.hid (fun v (hv : Below W.heap.size W v) => awake05 v (ht.later hv))
  have CP := Lib.hid (fun v (hv : Below W.heap.size W v) => quant_Print n v hn (ht.later hv))
  have CQ := Lib.hid (fun v => ref_Print n v hn)
  unfold InI at hn
  obtain ⟨hn1, hn2⟩ := hn
  obtain ⟨hc1, hc2⟩ := hc
  obtain ⟨d, hd⟩ : ∃ d : Nat, (c % 20) = d := ⟨(c % 20).toNat, by omega⟩
  have hd20 : d < 20 := by omega
  have hz := prAll_size n hn2
  have HZS := Lib.hid (zr_size (prAll n))
  have hb0 := read_back n hn2 0
  have hbd := read_back n hn2 d
  have CR : ∀ v, Calls Tryd.prog 13 #[.string (prAll n)] v fun e w' => e = .returned (.tuple #[.int .i64 (max n 0), .int .i64 0]) ∧ Below v.heap.size v w' := fun v => by
    have h := quant_Read (prAll n) v (by unfold maxLen; omega)
    rw [show (prAll n).toList = (zr (prAll n) 0).toList from rfl, hb0.1, hb0.2] at h
    exact h
  have CZ : ∀ v, Calls Tryd.prog 13 #[.string (zr (prAll n) d)] v fun e w' => e = .returned (.tuple #[.int .i64 (max n 0), .int .i64 0]) ∧ Below v.heap.size v w' := fun v => by
    have h := quant_Read (zr (prAll n) d) v (by unfold maxLen; rw [zr_size]; omega)
    rw [hbd.1, hbd.2] at h
    exact h
  have HNEG := Lib.hid (fun (h : n < 0) => show prAll n = ⟨#[48]⟩ by unfold prAll; rw [if_pos (by omega)])
  have HCR := Lib.hid CR
  have HCZ := Lib.hid CZ
  have HD := Lib.hid hd
  have hd2 : c % 20 = (d : Int) := hd
  clear CR CZ ht hb0 hbd hd
  generalize hs : prAll n = s at *
  clear hs
  go_enter Tryd.func4, Tryd.ntmps4
  go_wp2_with (first | (go_at_call 12; (with_reducible refine (CA.out _ hbel).mono ?_); rintro e w1 ⟨rfl, hb1⟩; replace hbel := belStep hbel hb1; clear hb1) | (go_at_call 17; (with_reducible refine (CP.out _ hbel).mono ?_); rintro e w1 ⟨rfl, hb1⟩; replace hbel := belStep hbel hb1; clear hb1) | (go_at_call 13; (with_reducible refine (HCR.out _).mono ?_); rintro e w1 ⟨rfl, hb1⟩; replace hbel := belStep hbel hb1; clear hb1))
  go_loopw [8, 9] (fun z i wr => ∃ k : Nat, k ≤ d ∧ i = .int .i64 k ∧ z = .string (zr s k) ∧ Below W.heap.size W wr) (fun _ i _ => d - (intOf i).toNat)
  case atStart => exact ⟨0, Nat.zero_le _, rfl, rfl, hbel⟩
  case round =>
    obtain ⟨k, hk, rfl, rfl, hbr⟩ := hrel
    clear hbel
    have hbel := hbr
    by_cases hlt : k < d
    · have hzk := HZS.out k
      have hz2 : (zr s k).size ≤ 50 := by omega
      have HN := Lib.hid (show zr s (k + 1) = ⟨#[48]⟩ ++ zr s k from rfl)
      clear hzk
      generalize zr s k = z at *
      go_wp2
      go_roundw
      case rel => exact ⟨k + 1, by omega, by push_cast; rfl, by rw [HN.out], hbel⟩
      case measure => simp [intOf] <;> omega
    · obtain rfl : k = d := by omega
      rcases Int.lt_or_le n 0 with hneg | hpos
      · obtain rfl : s = ⟨#[48]⟩ := HNEG.out hneg
        rw [Int.max_eq_right (by omega)] at HCZ ⊢
        generalize zr ⟨#[48]⟩ k = z at *
        go_wp2_with (first | (go_at_call 13; (with_reducible refine (HCZ.out _).mono ?_); rintro e w1 ⟨rfl, hb1⟩; replace hbel := belStep hbel hb1; clear hb1))
        go_ret
        exact ⟨rfl, hbel⟩
      · rw [Int.max_eq_left hpos] at HCZ ⊢
        generalize zr s k = z at *
        go_wp2_with (first | (go_at_call 13; (with_reducible refine (HCZ.out _).mono ?_); rintro e w1 ⟨rfl, hb1⟩; replace hbel := belStep hbel hb1; clear hb1) | (go_at_call 18; (with_reducible refine (CQ.out _).mono ?_); rintro e w1 ⟨rfl, hb1⟩; replace hbel := belStep hbel hb1; clear hb1))
        go_ret
        exact ⟨rfl, hbel⟩

set_option maxRecDepth 100000 in
theorem door_met (os : Os) (args : Array Value) : laidMet Tryd.prog Rows.quantBackRow.laid ((World.doorLaid Tryd.prog 400 os).forCall (fun _ _ => 0) ⟨#[], args, []⟩).memory :=
  laidMet_of_run' 8 (by kernel_rfl) (by kernel_rfl)
set_option maxRecDepth 100000 in
theorem lifted (os : Os) (started : os.Started) (H : Type) (enc : TypeId × Value → H) :
    ReturnsInHanded {} Tryd.checked os 4 .any (fun w args => (Rows.quantBackSpec.pre enc Tryd.prog Tryd.f4 [] false w args ∧ laidMetH Tryd.prog Rows.quantBackRow.laid w) ∧ sizedMet enc Tryd.prog Tryd.f4 (OpenSpec.ofChange Rows.quantBackSpec) false w args) (Rows.quantBackSpec.post enc Tryd.prog Tryd.f4 false true false false) := by
  refine returnsInHanded_of_change_and (C := Tryd.checked) (X := fun w _ => laidMetH Tryd.prog Rows.quantBackRow.laid w) (fun _ _ _ hh h => h.of_heap hh) own started (by kernel_rfl) Tryd.func4
    (ChangeSpec.witness_shaped (enc := enc) (C := Tryd.checked) (os := os) (X := fun w _ => laidMetH Tryd.prog Rows.quantBackRow.laid w) false (World.doorLaid Tryd.prog 400 os) #[.int .i64 0, .int .u8 0] 8 rfl (World.shaped_of_RefB (by kernel_rfl) (by kernel_rfl)) (by kernel_rfl) (by kernel_rfl) (by kernel_rfl) (by rw [MakeChecks.laidMetH_plain _ _ _ (by kernel_rfl)]; exact door_met os _)) ?_
  intro W base args ds gs before hval0 hW _ _ hL _
  rw [MakeChecks.laidMetH_plain _ _ _ (by kernel_rfl)] at hL
  have ht : Tab W := tab_of hL
  clear hL
  have hval : ∀ (j : Nat) t v, Tryd.f4.params[j]? = some t → args[j]? = some v → Value.okWide Tryd.prog W .any base t v := hval0
  have hW' := hW
  obtain ⟨p, q, hA0, hV, rfl, hfz, hnd⟩ := hW
  have hA : DataW.TrodAll enc Tryd.prog W 0 (fun _ => true) true Tryd.f4.params.toList args.toList ds p := hA0
  rw [Tryd.params4] at hA hval
  obtain ⟨v0, vs0, d0, ds0, p0, q0, hargs, rfl, rfl, h0, r0⟩ := trodAll_cons hA
  obtain ⟨v1, vs1, d1, ds1, p1, q1, rfl, rfl, rfl, h1, r1⟩ := trodAll_cons r0
  obtain ⟨rfl, rfl, rfl⟩ := trodAll_nil r1
  obtain rfl : args = #[v0, v1] := by cases args; simp_all
  obtain ⟨rfl, rfl⟩ := trodVars_none hV
  have k0 := h0
  have lt0 : ∀ x ∈ p0, x.block < W.heap.size := by obtain ⟨m, hm⟩ := k0; exact DataW.trod_lt m _ _ _ hm
  have o0 : Value.okWide Tryd.prog W .any base 3 v0 := hval 0 3 v0 rfl rfl
  obtain ⟨a0, rfl, rfl, rfl, w0⟩ := open_int Tryd.underlying3 o0 h0
  have k1 := h1
  have lt1 : ∀ x ∈ p1, x.block < W.heap.size := by obtain ⟨m, hm⟩ := k1; exact DataW.trod_lt m _ _ _ hm
  have o1 : Value.okWide Tryd.prog W .any base 5 v1 := hval 1 5 v1 rfl rfl
  obtain ⟨a1, rfl, rfl, rfl, w1⟩ := open_int Tryd.underlying5 o1 h1
  clear hA0 hval0
  refine (walk a0 a1 W ht (inI_of_wf w0) (in8_of_wf w1)).mono fun e W' ⟨he, bel⟩ => ?_
  subst he
  exact ⟨_, rfl, _, _, _, [], _, [], hW', trodAll_mk1 (shut_bool Tryd.underlying4 _), (trodAll_cons_mk (Below.trod laidOut (by kernel_rfl) (of_decide_eq_true (by kernel_rfl)) k0 bel lt0) (trodAll_cons_mk (Below.trod laidOut (by kernel_rfl) (of_decide_eq_true (by kernel_rfl)) k1 bel lt1) trodAll_mk0)), rfl, bel.frame _, fun h => by cases h⟩

theorem over : Rows.quantBackRow.holds Tryd.pinned (OpenSpec.ofChange Rows.quantBackSpec) :=
  OpenClaim.holds_of_wide 4 Tryd.f4 rfl rfl rfl rfl rfl rfl rfl ⟨rfl, rfl, rfl, rfl, rfl⟩ rfl rfl rfl rfl rfl (by kernel_rfl) Tryd.func4 (by kernel_rfl)
    (of_decide_eq_true (by kernel_rfl)) (by unfold Func.isWrapper; first | (rw [if_pos (by decide +kernel)]; kernel_rfl) | (rw [if_neg (by decide +kernel)]; exact ⟨rfl, rfl⟩))
    (fun os started H enc _ => lifted os started H enc)

/-- The statement. -/
theorem proved : Rows.QuantBackCardSaid :=
  Claim7.holds_tied_plain_at .later [] Rows.quantBackCard.laidKinds true Rows.quantBackCard.stood.harness true
    over (fun _ h => by cases h) (by kernel_rfl) (fun _ h => by cases h) quantBack_row_tie rfl ⟨rfl, rfl⟩ (by kernel_rfl) rfl
    (fun f fn hf hfn => by
      obtain rfl : f = 4 := Option.some.inj ((show Tryd.prog.funcNamed Rows.quantBackRow.func = some 4 by kernel_rfl).symm.trans hf) |>.symm
      obtain rfl : fn = Tryd.f4 := (Option.some.inj (Tryd.func4.symm.trans hfn)).symm
      exact ⟨by kernel_rfl, fun j t ht => by
        rw [Tryd.params4] at ht
        have hm : t ∈ [3, 5] := by simpa using Array.mem_of_getElem? ht
        have hall : ([3, 5].all fun u => !Tryd.prog.wantsStandIn u) = true := by kernel_rfl
        exact (show Tryd.prog.wantsStandIn t = false by simpa using List.all_eq_true.1 hall t hm)⟩)
    (by kernel_rfl)
#print axioms proved

end Go.Proofs.YtiaemcejgjobiaaDoor.quantBack
