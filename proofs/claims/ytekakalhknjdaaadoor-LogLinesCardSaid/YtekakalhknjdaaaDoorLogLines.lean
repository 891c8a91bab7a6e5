
/- LogLines holds for all its arguments. No conditions but that the library's variables lie as its own text lays them. -/
import Derived.Lay
import Derived.Test.YtekakalhknjdaaaDoorLgB
import Derived.Test.YtekakalhknjdaaaDoorThrCards
import Derived.Test.YtekakalhknjdaaaDoorLgF
namespace Go.Proofs.YtekakalhknjdaaaDoor.logLines
open Go.ChangeShapes Go.WideShapes Go.ChangeAt Go.RowKit
open Go.ChangeMaps (open_string shut_string)
set_option linter.unusedVariables false
set_option linter.unusedSimpArgs false
theorem right_is (e : EvV) : (writeW e).good = (lineE 0 e).isSome := by
  rw [line_write]
  cases h : (writeW e).good with
  | true => simp
  | false => simp
set_option maxRecDepth 100000 in
set_option maxHeartbeats 16000000 in
theorem walk (a : Int) (e : EvV) (W : World) (ht : Env W) (ha : InI a) (he : e.ok) :
    Calls Tryd.prog 3 #[.int .i64 a, .agg #[.int .i64 e.kind, .string e.id, .int .i64 e.sig, .int .i64 e.n]] W fun e0 w' => e0 = .returned (.bool true) ∧ Below W.heap.size W w' := by
  have hw : Below W.heap.size W W := Below.refl _ _
  have hbel := hw
  have HE := Lib.hid ht
  have H1 := Lib.hid he
  have HA := Lib.hid ha
  clear ht he ha
  go_enter Tryd.func3, Tryd.ntmps3
  go_upto_region 1 with fail
  have ee0 : (W.alloc (.cells #[.int .i64 e.kind, .string e.id, .int .i64 e.sig, .int .i64 e.n] 23)).cell? ⟨W.heap.size, 0, none⟩ = some (.int .i64 e.kind) := by first | (simp; done) | (rw [World.cell?_alloc_at _ _ _ _ (by simp)]; rfl) | (rw [World.cell?_alloc_past _ _ _ (by simp <;> omega), World.cell?_alloc_at _ _ _ _ (by simp)]; rfl) | (rw [World.cell?_alloc_past _ _ _ (by simp <;> omega), World.cell?_alloc_past _ _ _ (by simp <;> omega), World.cell?_alloc_at _ _ _ _ (by simp)]; rfl)
  have ee1 : (W.alloc (.cells #[.int .i64 e.kind, .string e.id, .int .i64 e.sig, .int .i64 e.n] 23)).cell? ⟨W.heap.size, 1, none⟩ = some (.string e.id) := by first | (simp; done) | (rw [World.cell?_alloc_at _ _ _ _ (by simp)]; rfl) | (rw [World.cell?_alloc_past _ _ _ (by simp <;> omega), World.cell?_alloc_at _ _ _ _ (by simp)]; rfl) | (rw [World.cell?_alloc_past _ _ _ (by simp <;> omega), World.cell?_alloc_past _ _ _ (by simp <;> omega), World.cell?_alloc_at _ _ _ _ (by simp)]; rfl)
  have ee2 : (W.alloc (.cells #[.int .i64 e.kind, .string e.id, .int .i64 e.sig, .int .i64 e.n] 23)).cell? ⟨W.heap.size, 2, none⟩ = some (.int .i64 e.sig) := by first | (simp; done) | (rw [World.cell?_alloc_at _ _ _ _ (by simp)]; rfl) | (rw [World.cell?_alloc_past _ _ _ (by simp <;> omega), World.cell?_alloc_at _ _ _ _ (by simp)]; rfl) | (rw [World.cell?_alloc_past _ _ _ (by simp <;> omega), World.cell?_alloc_past _ _ _ (by simp <;> omega), World.cell?_alloc_at _ _ _ _ (by simp)]; rfl)
  have ee3 : (W.alloc (.cells #[.int .i64 e.kind, .string e.id, .int .i64 e.sig, .int .i64 e.n] 23)).cell? ⟨W.heap.size, 3, none⟩ = some (.int .i64 e.n) := by first | (simp; done) | (rw [World.cell?_alloc_at _ _ _ _ (by simp)]; rfl) | (rw [World.cell?_alloc_past _ _ _ (by simp <;> omega), World.cell?_alloc_at _ _ _ _ (by simp)]; rfl) | (rw [World.cell?_alloc_past _ _ _ (by simp <;> omega), World.cell?_alloc_past _ _ _ (by simp <;> omega), World.cell?_alloc_at _ _ _ _ (by simp)]; rfl)
  have hb2 := (by repeat (first | exact hbel | refine belAlloc ?_ _ | refine belDrew ?_ | refine belSet ?_ _ _ (by simp)) : Below W.heap.size W (W.alloc (.cells #[.int .i64 e.kind, .string e.id, .int .i64 e.sig, .int .i64 e.n] 23)))
  replace hw := belStep hw hb2
  have eeB : Blk (W.alloc (.cells #[.int .i64 e.kind, .string e.id, .int .i64 e.sig, .int .i64 e.n] 23)) (W.heap.size) [.int .i64 e.kind, .string e.id, .int .i64 e.sig, .int .i64 e.n] 23 := (Blk.at (by simp) : Blk (W.alloc (.cells #[.int .i64 e.kind, .string e.id, .int .i64 e.sig, .int .i64 e.n] 23)) (W.heap.size) [.int .i64 e.kind, .string e.id, .int .i64 e.sig, .int .i64 e.n] 23).later (by repeat (first | exact Below.refl _ _ | refine belAlloc ?_ _))
  have eeF := Blk.keepF eeB
  replace eeB := Blk.keepB eeB
  clear hb2 hbel
  generalize W.alloc (.cells #[.int .i64 e.kind, .string e.id, .int .i64 e.sig, .int .i64 e.n] 23) = W1 at *
  replace ee0 := keep ee0
  replace ee1 := keep ee1
  replace ee2 := keep ee2
  replace ee3 := keep ee3
  have hbel : Below W1.heap.size W1 W1 := Below.refl _ _
  skip
  have HW := Lib.hid hw
  clear hw
  have HE1 := Lib.hid (fun u (hu : Below W1.heap.size W1 u) => HE.out.later (belStep HW.out hu))
  clear HE
  have CA := Lib.hid (fun u (hu : Below W1.heap.size W1 u) => awake27 u (HE1.out u hu))
  have hes := H1.out.2.1
  by_cases h1 : 80 < e.id.size
  · have t1 : decide ((80 : Int) < (e.id.size : Int)) = true := decide_eq_true (by omega)
    have t1i : (80 : Int) < (e.id.size : Int) := by omega
    go_wp2_with (go_at_call 10; (with_reducible refine (CA.out _ hbel).mono ?_); rintro e9 w9 ⟨rfl, hb9⟩; replace hbel := belStep hbel hb9; clear hb9)
    go_ret
    exact ⟨rfl, belStep HW.out hbel⟩
  · have t1 : decide ((80 : Int) < (e.id.size : Int)) = false := decide_eq_false (by omega)
    have t1i : ¬ (80 : Int) < (e.id.size : Int) := by omega
    have C1 := Lib.hid (fun u (hu : Below W1.heap.size W1 u) => lg_Line a e u (fun v hv => (HE1.out v (hu.trans (hv.mono hu.size))).tab) HA.out H1.out.2.1 H1.out.2.2.2)
    have C2 := Lib.hid (fun u => rf_Line27 e.kind e.sig e.n a e.id u H1.out.2.1 HA.out H1.out.2.2.2)
    have C3 := Lib.hid (fun u => rf_Line27 e.kind e.sig e.n 0 e.id u H1.out.2.1 ⟨by decide, by decide⟩ H1.out.2.2.2)
    have CG := Lib.hid (fun u (hu : Below W1.heap.size W1 u) => lg_Right e u (fun v hv => (HE1.out v (hu.trans (hv.mono hu.size))).tab) H1.out.2.1 H1.out.2.2.2)
    rw [right_is] at CG
    cases h3 : lineE a e with
    | none =>
      cases h4 : lineE 0 e with
      | none =>
        rw [(ln_no h3).1, (ln_no h3).2] at C1
        rw [show (lineE 0 e).isSome = false from by rw [h4]; rfl] at CG
        go_wp2_with (first | (go_at_call 10; (with_reducible refine (CA.out _ hbel).mono ?_); rintro e9 w9 ⟨rfl, hb9⟩; replace hbel := belStep hbel hb9; clear hb9) | (go_at_call 11; (with_reducible refine (C1.out _ hbel).mono ?_); rintro e9 w9 ⟨rfl, hb9⟩; replace hbel := belStep hbel hb9; clear hb9) | (go_at_call 12; (with_reducible refine (C2.out _).mono ?_); rintro e9 w9 ⟨hr, hb9⟩; replace hbel := belStep hbel hb9; obtain ⟨t9, rfl⟩ := rln_no' (e := e) h3 hr; clear hr; clear hb9) | (go_at_call 12; (with_reducible refine (C3.out _).mono ?_); rintro e9 w9 ⟨hr, hb9⟩; replace hbel := belStep hbel hb9; obtain ⟨t9, rfl⟩ := rln_no' (e := e) h4 hr; clear hr; clear hb9) | (go_at_call 13; (with_reducible refine (CG.out _ hbel).mono ?_); rintro e9 w9 ⟨rfl, hb9⟩; replace hbel := belStep hbel hb9; clear hb9))
        go_ret
        exact ⟨rfl, belStep HW.out hbel⟩
      | some q =>
        rw [(ln_no h3).1, (ln_no h3).2] at C1
        rw [show (lineE 0 e).isSome = true from by rw [h4]; rfl] at CG
        go_wp2_with (first | (go_at_call 10; (with_reducible refine (CA.out _ hbel).mono ?_); rintro e9 w9 ⟨rfl, hb9⟩; replace hbel := belStep hbel hb9; clear hb9) | (go_at_call 11; (with_reducible refine (C1.out _ hbel).mono ?_); rintro e9 w9 ⟨rfl, hb9⟩; replace hbel := belStep hbel hb9; clear hb9) | (go_at_call 12; (with_reducible refine (C2.out _).mono ?_); rintro e9 w9 ⟨hr, hb9⟩; replace hbel := belStep hbel hb9; obtain ⟨t9, rfl⟩ := rln_no' (e := e) h3 hr; clear hr; clear hb9) | (go_at_call 12; (with_reducible refine (C3.out _).mono ?_); rintro e9 w9 ⟨hr, hb9⟩; replace hbel := belStep hbel hb9; have e9r := rln_yes' (e := e) h4 hr; subst e9r; clear hr; clear hb9) | (go_at_call 13; (with_reducible refine (CG.out _ hbel).mono ?_); rintro e9 w9 ⟨rfl, hb9⟩; replace hbel := belStep hbel hb9; clear hb9))
        go_ret
        exact ⟨rfl, belStep HW.out hbel⟩
    | some s =>
      cases h4 : lineE 0 e with
      | none =>
        rw [(ln_yes h3).1, (ln_yes h3).2] at C1
        rw [show (lineE 0 e).isSome = false from by rw [h4]; rfl] at CG
        go_wp2_with (first | (go_at_call 10; (with_reducible refine (CA.out _ hbel).mono ?_); rintro e9 w9 ⟨rfl, hb9⟩; replace hbel := belStep hbel hb9; clear hb9) | (go_at_call 11; (with_reducible refine (C1.out _ hbel).mono ?_); rintro e9 w9 ⟨rfl, hb9⟩; replace hbel := belStep hbel hb9; clear hb9) | (go_at_call 12; (with_reducible refine (C2.out _).mono ?_); rintro e9 w9 ⟨hr, hb9⟩; replace hbel := belStep hbel hb9; have e9r := rln_yes' (e := e) h3 hr; subst e9r; clear hr; clear hb9) | (go_at_call 12; (with_reducible refine (C3.out _).mono ?_); rintro e9 w9 ⟨hr, hb9⟩; replace hbel := belStep hbel hb9; obtain ⟨t9, rfl⟩ := rln_no' (e := e) h4 hr; clear hr; clear hb9) | (go_at_call 13; (with_reducible refine (CG.out _ hbel).mono ?_); rintro e9 w9 ⟨rfl, hb9⟩; replace hbel := belStep hbel hb9; clear hb9))
        go_ret
        exact ⟨rfl, belStep HW.out hbel⟩
      | some q =>
        have t5 : ((bA s).toList == (bA s).toList) = true := beq_self_eq_true _
        skip
        rw [(ln_yes h3).1, (ln_yes h3).2] at C1
        rw [show (lineE 0 e).isSome = true from by rw [h4]; rfl] at CG
        go_wp2_with (first | (go_at_call 10; (with_reducible refine (CA.out _ hbel).mono ?_); rintro e9 w9 ⟨rfl, hb9⟩; replace hbel := belStep hbel hb9; clear hb9) | (go_at_call 11; (with_reducible refine (C1.out _ hbel).mono ?_); rintro e9 w9 ⟨rfl, hb9⟩; replace hbel := belStep hbel hb9; clear hb9) | (go_at_call 12; (with_reducible refine (C2.out _).mono ?_); rintro e9 w9 ⟨hr, hb9⟩; replace hbel := belStep hbel hb9; have e9r := rln_yes' (e := e) h3 hr; subst e9r; clear hr; clear hb9) | (go_at_call 12; (with_reducible refine (C3.out _).mono ?_); rintro e9 w9 ⟨hr, hb9⟩; replace hbel := belStep hbel hb9; have e9r := rln_yes' (e := e) h4 hr; subst e9r; clear hr; clear hb9) | (go_at_call 13; (with_reducible refine (CG.out _ hbel).mono ?_); rintro e9 w9 ⟨rfl, hb9⟩; replace hbel := belStep hbel hb9; clear hb9))
        go_ret
        exact ⟨rfl, belStep HW.out hbel⟩
theorem env_of {W : World} (h : laidMet Tryd.prog Rows.logLinesRow.laid W) (hs : W.ShapedOpen Tryd.prog) : Env W := env_of7 h hs

set_option maxRecDepth 100000 in
set_option maxRecDepth 100000 in
theorem lifted (os : Os) (started : os.Started) (H : Type) (enc : TypeId × Value → H) :
    ReturnsInHanded {} Tryd.checked os 3 .any (fun w args => (Rows.logLinesSpec.pre enc Tryd.prog Tryd.f3 [] false w args ∧ laidMetH Tryd.prog Rows.logLinesRow.laid w) ∧ sizedMet enc Tryd.prog Tryd.f3 (OpenSpec.ofChange Rows.logLinesSpec) false w args) (Rows.logLinesSpec.post enc Tryd.prog Tryd.f3 false true false false) := by
  refine returnsInHanded_of_change_and_shaped (C := Tryd.checked) (X := fun w _ => laidMetH Tryd.prog Rows.logLinesRow.laid w) (fun _ _ _ hh h => h.of_heap hh) own started (by kernel_rfl) Tryd.func3
    (ChangeSpec.witness_shaped (enc := enc) (C := Tryd.checked) (os := os) (X := fun w _ => laidMetH Tryd.prog Rows.logLinesRow.laid w) false (World.laidAll Tryd.prog os Rows.logLinesRow.laid) #[.int .i64 0, .agg #[.int .i64 0, .string ⟨#[]⟩, .int .i64 0, .int .i64 0]] 8 (World.laidAll_os _ _ _) (World.shaped_of_ZipB (by kernel_rfl) (by kernel_rfl)) (by kernel_rfl) (by kernel_rfl) (by kernel_rfl) (by rw [MakeChecks.laidMetH_plain _ _ _ (by kernel_rfl)]; exact laidMet_laidAll _ (by kernel_rfl) (by kernel_rfl))) ?_
  intro W base args ds gs before hval0 hW hL hsh
  rw [MakeChecks.laidMetH_plain _ _ _ (by kernel_rfl)] at hL
  have ht : Env W := env_of hL hsh
  clear hL
  have hval : ∀ (j : Nat) t v, Tryd.f3.params[j]? = some t → args[j]? = some v → Value.okWide Tryd.prog W .any base t v := hval0
  have hW' := hW
  obtain ⟨p, q, hA0, hV, rfl, hfz, hnd⟩ := hW
  have hA : DataW.TrodAll enc Tryd.prog W 0 (fun _ => true) true Tryd.f3.params.toList args.toList ds p := hA0
  rw [Tryd.params3] at hA hval
  obtain ⟨v0, vs0, d0, ds0, p0, q0, hargs, rfl, rfl, h0, r0⟩ := trodAll_cons hA
  obtain ⟨v1, vs1, d1, ds1, p1, q1, rfl, rfl, rfl, h1, r1⟩ := trodAll_cons r0
  obtain ⟨rfl, rfl, rfl⟩ := trodAll_nil r1
  obtain rfl : args = #[v0, v1] := by cases args; simp_all
  obtain ⟨rfl, rfl⟩ := trodVars_none hV
  have k0 := h0
  have lt0 : ∀ x ∈ p0, x.block < W.heap.size := by obtain ⟨m, hm⟩ := k0; exact DataW.trod_lt m _ _ _ hm
  have o0 : Value.okWide Tryd.prog W .any base 3 v0 := hval 0 3 v0 rfl rfl
  obtain ⟨a0, rfl, rfl, rfl, w0⟩ := open_int Tryd.underlying3 o0 h0
  have k1 := h1
  have lt1 : ∀ x ∈ p1, x.block < W.heap.size := by obtain ⟨m, hm⟩ := k1; exact DataW.trod_lt m _ _ _ hm
  have o1 : Value.okWide Tryd.prog W .any base 23 v1 := hval 1 23 v1 rfl rfl
  obtain ⟨e1, rfl, he1⟩ := open_event o1 h1
  clear hA0 hval0
  refine (walk a0 e1 W ht (inI_of_wf w0) he1).mono fun e W' ⟨he, bel⟩ => ?_
  subst he
  exact ⟨_, rfl, _, _, _, [], _, [], hW', trodAll_mk1 (shut_bool Tryd.underlying4 _), (trodAll_cons_mk (Below.trod laidOut (by kernel_rfl) (of_decide_eq_true (by kernel_rfl)) k0 bel lt0) (trodAll_cons_mk (Below.trod laidOut (by kernel_rfl) (of_decide_eq_true (by kernel_rfl)) k1 bel lt1) trodAll_mk0)), rfl, bel.frame _, fun h => by cases h⟩

theorem over : Rows.logLinesRow.holds Tryd.pinned (OpenSpec.ofChange Rows.logLinesSpec) :=
  OpenClaim.holds_of_wide 3 Tryd.f3 rfl rfl rfl rfl rfl rfl rfl ⟨rfl, rfl, rfl, rfl, rfl⟩ rfl rfl rfl rfl rfl (by kernel_rfl) Tryd.func3 (by kernel_rfl)
    (of_decide_eq_true (by kernel_rfl)) (by unfold Func.isWrapper; first | (rw [if_pos (by decide +kernel)]; kernel_rfl) | (rw [if_neg (by decide +kernel)]; exact ⟨rfl, rfl⟩))
    (fun os started H enc _ => lifted os started H enc)

/-- The statement. -/
theorem proved : Rows.LogLinesCardSaid :=
  Claim7.holds_tied_plain_at .later [] Rows.logLinesCard.laidKinds true Rows.logLinesCard.stood.harness true
    over (fun _ h => by cases h) (by kernel_rfl) (fun _ h => by cases h) logLines_row_tie rfl ⟨rfl, rfl⟩ (by kernel_rfl) rfl
    (fun f fn hf hfn => by
      obtain rfl : f = 3 := Option.some.inj ((show Tryd.prog.funcNamed Rows.logLinesRow.func = some 3 by kernel_rfl).symm.trans hf) |>.symm
      obtain rfl : fn = Tryd.f3 := (Option.some.inj (Tryd.func3.symm.trans hfn)).symm
      exact ⟨by kernel_rfl, fun j t ht => by
        rw [Tryd.params3] at ht
        have hm : t ∈ [3, 23] := by simpa using Array.mem_of_getElem? ht
        have hall : ([3, 23].all fun u => !Tryd.prog.wantsStandIn u) = true := by kernel_rfl
        exact (show Tryd.prog.wantsStandIn t = false by simpa using List.all_eq_true.1 hall t hm)⟩)
    (by kernel_rfl)
#print axioms proved

end Go.Proofs.YtekakalhknjdaaaDoor.logLines
