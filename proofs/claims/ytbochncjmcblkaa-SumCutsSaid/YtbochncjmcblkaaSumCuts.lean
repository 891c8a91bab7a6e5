/- SumCuts holds for every slice of bytes. No conditions. -/
import Derived.Test.YtbochncjmcblkaaAwake08
namespace Go.Proofs.Ytbochncjmcblkaa.sumCuts
open Go.ChangeShapes Go.WideShapes Go.ChangeAt Go.RowKit
open Go.ChangeMaps (open_string shut_string)
set_option linter.unusedVariables false
set_option linter.unusedSimpArgs false

theorem body_bytes {l : List Int} (h : Bytes l) : Bytes (cutBody l) := by
  unfold cutBody; split
  · exact h.take _
  · intro c hc; cases hc
theorem cut_ints (a : Option Addr) (len cap : Nat) (l : List Int) (w : World) (hl : Ints .u8 w a len cap l) (hlen : len ≤ 1000000) (ok : Bool) (bd : List Int) (h1 : cutOk l = ok) (h2 : cutBody l = bd) :
    Calls Try.prog 20 #[.slice a len cap] w fun e w' => ∃ a2 c2, e = .returned (.tuple #[.slice a2 bd.length c2, .bool ok]) ∧ Ints .u8 w' a2 bd.length c2 bd ∧ Below w.heap.size w w' := by
  subst h1 h2
  have hb := body_bytes (bytes_of hl)
  refine (sum_Cut a len cap l w hl hlen).mono ?_
  rintro e w1 ⟨v, rfl, hown, hb1⟩
  obtain ⟨a2, cap2, rfl, hi2⟩ := ints_of_own hown (fun m hm => wf8 m (hb m hm))
  exact ⟨a2, cap2, rfl, hi2, hb1⟩
theorem refput_ints (a : Option Addr) (len cap : Nat) (l : List Int) (w : World) (hl : Ints .u8 w a len cap l) (hlen : len ≤ 1000000) :
    Calls Try.prog 19 #[.slice a len cap] w fun e w' => ∃ a2 c2, e = .returned (.slice a2 (len + 4) c2) ∧ Ints .u8 w' a2 (len + 4) c2 (l ++ tailN (sumOf l) 4) ∧ Below w.heap.size w w' := by
  have hb := bytes_of hl
  have hn := hl.bounds
  refine (sref_Put a len cap l w hl hlen).mono ?_
  rintro e w1 ⟨v, rfl, hown, hb1⟩
  obtain ⟨a2, cap2, rfl, hi2⟩ := ints_of_own hown (fun m hm => by
    rcases List.mem_append.1 hm with h | h
    · exact wf8 m (hb m h)
    · exact wf8 m (tailN_bytes _ _ m h))
  have e1 : (l ++ tailN (sumOf l) 4).length = len + 4 := by rw [List.length_append, tailN_len, hn.1]
  rw [e1] at hi2
  exact ⟨a2, cap2, by rw [e1], hi2, hb1⟩
theorem ok_iff (l : List Int) (n : Nat) (h : l.length = n + 4) : cutOk l = (l.take n ++ tailN (sumOf (l.take n)) 4 == l) := by
  unfold cutOk
  rw [h, decide_eq_true (by omega), show n + 4 - 4 = n by omega, Bool.true_and]
  have e : l.take n ++ l.drop n = l := List.take_append_drop n l
  rw [Bool.eq_iff_iff]
  simp only [beq_iff_eq]
  constructor
  · intro q; rw [← q]; exact e
  · intro q
    have := q.trans e.symm
    exact ((List.append_cancel_left this)).symm

set_option maxRecDepth 100000 in
set_option maxHeartbeats 4000000 in
theorem walk (a : Option Addr) (len cap : Nat) (l : List Int) (w : World) (hl : Ints .u8 w a len cap l) :
    Calls Try.prog 5 #[.slice a len cap] w fun e w' => e = .returned (.bool true) ∧ Below w.heap.size w w' := by
  have hw : Below w.heap.size w w := Below.refl _ _
  have hbel := hw
  have hb := hl.bounds
  have HL := Lib.hid hl
  by_cases h1000 : 1000 < len
  · go_enter Try.func5, Try.ntmps5
    go_wp2_with (first | (go_at_call 13; (with_reducible refine (awake08 _).mono ?_); rintro e w1 ⟨rfl, hb1⟩; replace hbel := belStep hbel hb1; clear hb1))
    go_ret
    exact ⟨rfl, hbel⟩
  · by_cases h4 : len < 4
    · have e1 : cutOk l = false := by unfold cutOk; rw [decide_eq_false (by omega)]; rfl
      have e2 : cutBody l = [] := by unfold cutBody; rw [e1]; rfl
      have CC := Lib.hid (fun v (hv : Below w.heap.size w v) => cut_ints a len cap l v (HL.out.later hv) (by omega) false [] e1 e2)
      clear hl
      go_enter Try.func5, Try.ntmps5
      go_wp2_with (first | (go_at_call 13; (with_reducible refine (awake08 _).mono ?_); rintro e w1 ⟨rfl, hb1⟩; replace hbel := belStep hbel hb1; clear hb1) | (go_at_call 20; (with_reducible refine (CC.out _ hbel).mono ?_); rintro e w2 ⟨a2, c2, rfl, hi2, hb2⟩; replace hbel := belStep hbel hb2; clear hb2 hi2))
      go_ret
      exact ⟨rfl, hbel⟩
    · obtain ⟨n, rfl⟩ : ∃ n, len = n + 4 := ⟨len - 4, by omega⟩
      obtain ⟨b, off, rfl, _, _⟩ := hl.opened (by omega)
      have hbody := hl.take (n := n) (by omega) (by simp)
      have eok := ok_iff l n hb.1
      have ebd : cutBody l = if cutOk l then l.take n else [] := by unfold cutBody; rw [hb.1]; simp
      have hwr : IntKind.i64.wrap (n : Int) = n := by rw [IntKind.wrap_i64]; omega
      have hnc : n ≤ cap := by omega
      have htl : (l.take n).length = n := by rw [List.length_take]; omega
      have CP := Lib.hid (fun v (hv : Below w.heap.size w v) => refput_ints _ n cap (l.take n) v (hbody.later hv) (by omega))
      cases hok : cutOk l
      · rw [hok] at eok ebd
        have CC := Lib.hid (fun v (hv : Below w.heap.size w v) => cut_ints _ (n + 4) cap l v (HL.out.later hv) (by omega) false [] hok ebd)
        have CS := Lib.hid (fun (a2 : Option Addr) (c2 : Nat) v (hv : Below w.heap.size w v) (h2 : Ints .u8 v a2 (n + 4) c2 (l.take n ++ tailN (sumOf (l.take n)) 4)) => eok ▸ sref_Same a2 (n + 4) c2 _ _ (n + 4) cap l v h2 (HL.out.later hv))
        clear hl hbody eok ebd hok
        go_enter Try.func5, Try.ntmps5
        go_wp2_with (first | (go_at_call 13; (with_reducible refine (awake08 _).mono ?_); rintro e w1 ⟨rfl, hb1⟩; replace hbel := belStep hbel hb1; clear hb1) | (go_at_call 20; (with_reducible refine (CC.out _ hbel).mono ?_); rintro e w2 ⟨a2, c2, rfl, hi2, hb2⟩; replace hbel := belStep hbel hb2; clear hb2 hi2) | (go_at_call 19; (with_reducible refine (CP.out _ hbel).mono ?_); rintro e w3 ⟨a3, c3, rfl, hi3, hb3⟩; replace hbel := belStep hbel hb3; have HI := Lib.hid hi3; clear hb3 hi3) | (go_at_call 17; (with_reducible refine (CS.out _ _ _ hbel HI.out).mono ?_); rintro e w4 ⟨rfl, rfl⟩))
        go_ret
        exact ⟨rfl, hbel⟩
      · rw [hok] at eok ebd
        have CC := Lib.hid (fun v (hv : Below w.heap.size w v) => cut_ints _ (n + 4) cap l v (HL.out.later hv) (by omega) true (l.take n) hok (by rw [ebd]; rfl))
        have CS := Lib.hid (fun (a2 : Option Addr) (c2 : Nat) v (hv : Below w.heap.size w v) (h2 : Ints .u8 v a2 (n + 4) c2 (l.take n ++ tailN (sumOf (l.take n)) 4)) => eok ▸ sref_Same a2 (n + 4) c2 _ _ (n + 4) cap l v h2 (HL.out.later hv))
        have e5 : (l.take n == l.take n) = true := by simp
        have CT := Lib.hid (fun (a2 : Option Addr) (c2 : Nat) v (hv : Below w.heap.size w v) (h2 : Ints .u8 v a2 n c2 (l.take n)) => e5 ▸ sref_Same a2 n c2 _ _ n cap (l.take n) v h2 (hbody.later hv))
        simp only [htl] at CC
        clear hl hbody eok ebd hok e5
        go_enter Try.func5, Try.ntmps5
        go_wp2_with (first | (go_at_call 13; (with_reducible refine (awake08 _).mono ?_); rintro e w1 ⟨rfl, hb1⟩; replace hbel := belStep hbel hb1; clear hb1) | (go_at_call 20; (with_reducible refine (CC.out _ hbel).mono ?_); rintro e w2 ⟨a2, c2, rfl, hi2, hb2⟩; replace hbel := belStep hbel hb2; have HX := Lib.hid hi2; clear hb2 hi2) | (go_at_call 19; (with_reducible refine (CP.out _ hbel).mono ?_); rintro e w3 ⟨a3, c3, rfl, hi3, hb3⟩; replace hbel := belStep hbel hb3; have HI := Lib.hid hi3; replace HX := Lib.hid (HX.out.later hb3); clear hb3 hi3) | (go_at_call 17; (with_reducible refine (CS.out _ _ _ hbel HI.out).mono ?_); rintro e w4 ⟨rfl, rfl⟩) | (go_at_call 17; (with_reducible refine (CT.out _ _ _ hbel HX.out).mono ?_); rintro e w5 ⟨rfl, rfl⟩))
        go_ret
        exact ⟨rfl, hbel⟩

set_option maxRecDepth 100000 in
theorem lifted (os : Os) (started : os.Started) (H : Type) (enc : TypeId × Value → H) :
    ReturnsInHanded {} Try.checked os 5 .any (Rows.sumCutsSpec.pre6 enc Try.prog Try.f5 Rows.sumCutsRow.domain false) (Rows.sumCutsSpec.post enc Try.prog Try.f5 false true false false) := by
  refine returnsInHanded_of_change (C := Try.checked) own started (by kernel_rfl) Try.func5
    (ChangeSpec.witness6 (enc := enc) (C := Try.checked) false ⟨#[], #[.slice none 0 0], []⟩ 8 (by kernel_rfl) (by kernel_rfl) (by kernel_rfl) (by kernel_rfl)) ?_
  intro W base args ds gs before hval0 hW hcnd _
  have hval : ∀ (j : Nat) t v, Try.f5.params[j]? = some t → args[j]? = some v → Value.okWide Try.prog W .any base t v := hval0
  have hW' := hW
  obtain ⟨p, q, hA0, hV, rfl, hfz, hnd⟩ := hW
  have hA : DataW.TrodAll enc Try.prog W 0 (fun _ => true) true Try.f5.params.toList args.toList ds p := hA0
  rw [Try.params5] at hA hval
  obtain ⟨v0, vs0, d0, ds0, p0, q0, hargs, rfl, rfl, h0, r0⟩ := trodAll_cons hA
  obtain ⟨rfl, rfl, rfl⟩ := trodAll_nil r0
  obtain rfl : args = #[v0] := by cases args; simp_all
  obtain ⟨rfl, rfl⟩ := trodVars_none hV
  have k0 := h0
  have lt0 : ∀ x ∈ p0, x.block < W.heap.size := by obtain ⟨m, hm⟩ := k0; exact DataW.trod_lt m _ _ _ hm
  have o0 : Value.okWide Try.prog W .any base 22 v0 := hval 0 22 v0 rfl rfl
  obtain ⟨a0, len0, cap0, rfl⟩ := okWide_slice Try.underlying22 o0
  obtain ⟨z0, w0⟩ : ∃ zs, Ints .u8 W a0 len0 cap0 zs := ints_of_trod Try.underlying22 Try.underlying5 (by kernel_rfl) h0
  clear hA0 hval0
  refine (walk a0 len0 cap0 z0 W w0).mono fun e W' ⟨he, bel⟩ => ?_
  subst he
  exact ⟨_, rfl, _, _, _, [], _, [], hW', trodAll_mk1 (shut_bool Try.underlying4 _), (trodAll_cons_mk (Below.trod laidOut (by kernel_rfl) (of_decide_eq_true (by kernel_rfl)) k0 bel lt0) trodAll_mk0), rfl, bel.frame _, fun h => by cases h⟩

theorem over : Rows.sumCutsRow.holds Try.pinned (OpenSpec.ofChange Rows.sumCutsSpec) :=
  OpenClaim.holds_of_wide 5 Try.f5 rfl rfl rfl rfl rfl rfl rfl ⟨rfl, rfl, rfl, rfl, rfl⟩ rfl rfl rfl rfl rfl (by kernel_rfl) Try.func5 (by kernel_rfl)
    (of_decide_eq_true (by kernel_rfl)) (by unfold Func.isWrapper; first | (rw [if_pos (by decide +kernel)]; kernel_rfl) | (rw [if_neg (by decide +kernel)]; exact ⟨rfl, rfl⟩))
    (fun os started H enc _ => lifted os started H enc)

/-- The statement. -/
theorem proved : Rows.SumCutsSaid := over
#print axioms proved

end Go.Proofs.Ytbochncjmcblkaa.sumCuts
