
/- Stage 10: disk.part: contract. -/
import Derived.Test.YtcbblgeleboggaaDk3
namespace Go.Proofs.Ytcbblgeleboggaa
open Go.RowKit Go.Sort Go.Maps Go.WideMaps
set_option linter.unusedVariables false
set_option linter.unusedSimpArgs false
theorem part_ret (W : World) (R : Nat) (tm : Array Value) (k : Int) (s t : ByteArray) (a : Option Addr) (n c : Nat) (q : Bool) (Q : Ending → World → Prop) (h0 : tm.getD 4 undef = .pointer (some ⟨R, 0, none⟩)) (h1 : tm.getD 5 undef = .bool q) (hb : Blk W R [.int .i64 k, .string s, .string t, .slice a n c] 49) (hR : Q (.returned (.tuple #[.agg #[.int .i64 k, .string s, .string t, .slice a n c], .bool q])) W) :
    bodyPost Try.prog Try.f36 Q Exit.ret { tmps := tm, defers := [] } W := by
  have z0 := hb.cell (j := 0) rfl
  have z1 := hb.cell (j := 1) rfl
  have z2 := hb.cell (j := 2) rfl
  have z3 := hb.cell (j := 3) rfl
  refine bodyPost_ret (v := .tuple #[.agg #[.int .i64 k, .string s, .string t, .slice a n c], .bool q]) ?_ rfl hR
  simp only [Array.getD_eq_getD_getElem?] at h0 h1
  simp [results, Try.results36, go_sem, h0, h1, z0, z1, z2, z3]
set_option maxRecDepth 100000 in
set_option maxHeartbeats 32000000 in
theorem dk_part (o : OpV) (k : Int) (w : World) (hZ : Ints .u8 w o.ba o.Z.length o.bc o.Z) (hl : o.Z.length ≤ 1000000) (hk : InI k) :
    Calls Try.prog 36 #[.agg #[.int .i64 o.kind, .string o.name, .string o.dst, .slice o.ba o.Z.length o.bc], .int .i64 k] w fun e w' => ∃ q : OpV, e = .returned (.tuple #[.agg #[.int .i64 q.kind, .string q.name, .string q.dst, .slice q.ba q.Z.length q.bc], .bool (!(k == 0))]) ∧ q.m = partM o.m k ∧ q.name = o.name ∧ q.dst = o.dst ∧ q.Z.length ≤ o.Z.length ∧ (∀ X, (∀ b ∈ X, b < w.heap.size) → BytesX X w o.ba o.bc o.Z → BytesX X w' q.ba q.bc q.Z) ∧ Below w.heap.size w w' := by
  have hbd : o.Z.length ≤ o.bc ∧ o.bc ≤ 9223372036854775807 := by obtain ⟨⟨_, h1, h2, _⟩, _⟩ := hZ; unfold maxLen at h2; exact ⟨h1, h2⟩
  obtain ⟨hbd1, hbd2⟩ := hbd
  have HZ := Lib.hid hZ
  obtain ⟨hk1, hk2⟩ := hk
  clear hZ
  go_enter Try.func36, Try.ntmps36
  go_upto_region 1 with fail
  have HA0 := Lib.hid (Blk.new w [.int .i64 o.kind, .string o.name, .string o.dst, .slice o.ba o.Z.length o.bc] 49)
  have kA := belAlloc (Below.refl w.heap.size w) (.cells #[.int .i64 o.kind, .string o.name, .string o.dst, .slice o.ba o.Z.length o.bc] 49)
  have HAl := Lib.hid (show (w.alloc (.cells #[.int .i64 o.kind, .string o.name, .string o.dst, .slice o.ba o.Z.length o.bc] 49)).heap.size = w.heap.size + 1 from by simp)
  have HT0 := Lib.hid (Blk.new (w.alloc (.cells #[.int .i64 o.kind, .string o.name, .string o.dst, .slice o.ba o.Z.length o.bc] 49)) [.int .i64 0, .string ⟨#[]⟩, .string ⟨#[]⟩, .slice none 0 0] 49)
  have kT := belAlloc (Below.refl (w.alloc (.cells #[.int .i64 o.kind, .string o.name, .string o.dst, .slice o.ba o.Z.length o.bc] 49)).heap.size (w.alloc (.cells #[.int .i64 o.kind, .string o.name, .string o.dst, .slice o.ba o.Z.length o.bc] 49))) (.cells #[.int .i64 0, .string ⟨#[]⟩, .string ⟨#[]⟩, .slice none 0 0] 49)
  generalize hE2 : ((w.alloc (.cells #[.int .i64 o.kind, .string o.name, .string o.dst, .slice o.ba o.Z.length o.bc] 49)).alloc (.cells #[.int .i64 0, .string ⟨#[]⟩, .string ⟨#[]⟩, .slice none 0 0] 49)) = W2 at *
  generalize hE1 : (w.alloc (.cells #[.int .i64 o.kind, .string o.name, .string o.dst, .slice o.ba o.Z.length o.bc] 49)) = W1 at *
  clear hE1 hE2
  have HB2 := Lib.hid (belStep kA kT)
  have HA := Lib.hid (HA0.out.later kT)
  rw [HAl.out] at HT0
  have hTl := HT0.out.lt
  have HAL := Lib.hid HAl.out
  clear kA kT HAl HA0
  have a0 := HA.out.cell (j := 0) rfl
  have a1 := HA.out.cell (j := 1) rfl
  have a2 := HA.out.cell (j := 2) rfl
  have a3 := HA.out.cell (j := 3) rfl
  have t0 := HT0.out.cell (j := 0) rfl
  have t1 := HT0.out.cell (j := 1) rfl
  have t2 := HT0.out.cell (j := 2) rfl
  have t3 := HT0.out.cell (j := 3) rfl
  have tf := HT0.out.frozen
  have af := HA.out.frozen
  by_cases kc : o.kind = 1 ∧ 1 ≤ k ∧ k ≤ o.Z.length
  · obtain ⟨k1, k2, k3⟩ := kc
    have HE := Lib.hid (show partM o.m k = ⟨1, o.name, o.dst, o.Z.take (k - 1).toNat⟩ by unfold partM OpV.m; dsimp only; rw [if_pos ⟨k1, k2, k3⟩, k1])
    have d1 : (o.kind == (1 : Int)) = true := by rw [k1]; rfl
    have HK1 := Lib.hid k1
    clear k1
    have d2 : decide ((1 : Int) ≤ k) = true := decide_eq_true k2
    have d3 : decide (k ≤ (o.Z.length : Int)) = true := decide_eq_true k3
    obtain ⟨j, hj⟩ : ∃ j : Nat, (k - 1).toNat = j := ⟨_, rfl⟩
    have hkj : k - 1 = (j : Int) := by omega
    have hjl : j ≤ o.Z.length := by omega
    have hjc : (j : Int) ≤ (o.bc : Int) := by omega
    have hwj : IntKind.i64.wrap (j : Int) = (j : Int) := IntWalk.i64_in _ (by omega)
    have hj0 : (0 : Int) ≤ (j : Int) := by omega
    rw [hj] at HE
    clear hj
    have HJT := Lib.hid (show (o.Z.take j).length = j by rw [List.length_take]; omega)
    have CC := Lib.hid (fun u (hu : Below w.heap.size w u) => dk_Clone o.ba j o.bc (o.Z.take j) u (ints_takeD (HZ.out.later hu) hjl) (by omega))
    have hnz : (k == 0) = false := by rw [beq_eq_false_iff_ne]; omega
    go_upto_region 3 with (go_at_call 28; (with_reducible refine (CC.out _ HB2.out).mono ?_); rintro e wq ⟨v, rfl, ho_, hb_⟩; obtain ⟨va, vc, e9, _⟩ := BytesX.of_own (X := []) ho_ (fun n hn => HZ.out.2 n (List.mem_of_mem_take hn)) (fun b hb => by cases hb) (by rw [List.length_take]; omega); rw [HJT.out] at e9; subst e9; have HO := Lib.hid ho_; have HQ := Lib.hid hb_; clear ho_ hb_; have z3 := (HA.out.later HQ.out).cell (j := 3) rfl; have zf := (HA.out.later HQ.out).frozen)
    have HA5 := Lib.hid (show Blk (wq.setCell ⟨w.heap.size, 3, none⟩ (.slice va j vc)) w.heap.size [.int .i64 o.kind, .string o.name, .string o.dst, .slice va j vc] 49 from (HA.out.later HQ.out).set 3 _)
    have HT5 := Lib.hid ((HT0.out.later HQ.out).far (a := ⟨w.heap.size, 3, none⟩) (by simp) (.slice va j vc))
    have HB5 := Lib.hid (belSet (belStep HB2.out HQ.out) ⟨w.heap.size, 3, none⟩ (.slice va j vc) (Nat.le_refl _))
    have HP5 := Lib.hid ((Apart.refl [w.heap.size] wq).set ⟨w.heap.size, 3, none⟩ (.slice va j vc) (by simp))
    clear a0 a1 a2 a3 t0 t1 t2 t3 tf af z3 zf HA
    generalize wq.setCell ⟨w.heap.size, 3, none⟩ (.slice va j vc) = W5 at *
    have a0 := HA5.out.cell (j := 0) rfl
    have a1 := HA5.out.cell (j := 1) rfl
    have a2 := HA5.out.cell (j := 2) rfl
    have a3 := HA5.out.cell (j := 3) rfl
    have t0 := HT5.out.cell (j := 0) rfl
    have t1 := HT5.out.cell (j := 1) rfl
    have t2 := HT5.out.cell (j := 2) rfl
    have t3 := HT5.out.cell (j := 3) rfl
    have tf := HT5.out.frozen
    go_wp2
    have HS := Lib.hid ((((HT5.out.set 0 (.int .i64 o.kind)).set 1 (.string o.name)).set 2 (.string o.dst)).set 3 (.slice va j vc))
    have HBF := Lib.hid (belSet (belSet (belSet (belSet HB5.out ⟨w.heap.size + 1, 0, none⟩ (.int .i64 o.kind) (Nat.le_succ _)) ⟨w.heap.size + 1, 1, none⟩ (.string o.name) (Nat.le_succ _)) ⟨w.heap.size + 1, 2, none⟩ (.string o.dst) (Nat.le_succ _)) ⟨w.heap.size + 1, 3, none⟩ (.slice va j vc) (Nat.le_succ _))
    have hAp : Apart [w.heap.size + 1] W5 ((((W5.setCell ⟨w.heap.size + 1, 0, none⟩ (.int .i64 o.kind)).setCell ⟨w.heap.size + 1, 1, none⟩ (.string o.name)).setCell ⟨w.heap.size + 1, 2, none⟩ (.string o.dst)).setCell ⟨w.heap.size + 1, 3, none⟩ (.slice va j vc)) := ((((Apart.refl [w.heap.size + 1] W5).set _ _ (by simp)).set _ _ (by simp)).set _ _ (by simp)).set _ _ (by simp)
    refine part_ret _ (w.heap.size + 1) _ o.kind o.name o.dst va j vc _ _ rfl rfl HS.out ⟨⟨o.kind, o.name, o.dst, va, vc, o.Z.take j⟩, by first | (dsimp only; rw [HJT.out]; first | rfl | (rw [hnz]; rfl)), ?_, rfl, rfl, ?_, ?_, HBF.out⟩
    · rw [HE.out]; unfold OpV.m; rw [HK1.out]
    · rw [List.length_take]; omega
    · intro X hX hZX
      obtain ⟨a2, c2, e2, hB2⟩ := BytesX.of_own (X := X) HO.out (fun n hn => HZ.out.2 n (List.mem_of_mem_take hn)) (fun b hb => by have := hX b hb; have := HB2.out.size; omega) (by rw [List.length_take]; omega)
      rw [HJT.out] at e2
      simp only [Value.slice.injEq, true_and] at e2
      obtain ⟨rfl, rfl⟩ := e2
      exact ⟨hAp.ints (HP5.out.ints hB2.1 (fun q x ex hx => by subst ex; have h9 := row_ge HO.out q; simp only [List.mem_singleton] at hx; omega)) (fun q x ex hx => by subst ex; have h9 := row_ge HO.out q; simp only [List.mem_singleton] at hx; omega), hB2.2⟩
  · have HE := Lib.hid (show partM o.m k = o.m by unfold partM; rw [if_neg (show ¬ (o.m.kind = 1 ∧ 1 ≤ k ∧ k ≤ (o.m.Z.length : Int)) from kc)])
    by_cases k1 : o.kind = 1
    · have d1 : (o.kind == (1 : Int)) = true := by rw [k1]; rfl
      have HK1 := Lib.hid k1
      by_cases k2 : 1 ≤ k
      · have d2 : decide ((1 : Int) ≤ k) = true := decide_eq_true k2
        have k3 : ¬ k ≤ (o.Z.length : Int) := fun q => kc ⟨k1, k2, q⟩
        have d3 : decide (k ≤ (o.Z.length : Int)) = false := decide_eq_false k3
        clear k1 kc
        go_wp2
        have HS := Lib.hid ((((HT0.out.set 0 (.int .i64 o.kind)).set 1 (.string o.name)).set 2 (.string o.dst)).set 3 (.slice o.ba o.Z.length o.bc))
        have HBF := Lib.hid (belSet (belSet (belSet (belSet HB2.out ⟨w.heap.size + 1, 0, none⟩ (.int .i64 o.kind) (Nat.le_succ _)) ⟨w.heap.size + 1, 1, none⟩ (.string o.name) (Nat.le_succ _)) ⟨w.heap.size + 1, 2, none⟩ (.string o.dst) (Nat.le_succ _)) ⟨w.heap.size + 1, 3, none⟩ (.slice o.ba o.Z.length o.bc) (Nat.le_succ _))
        have hAp : Apart [w.heap.size + 1] W2 ((((W2.setCell ⟨w.heap.size + 1, 0, none⟩ (.int .i64 o.kind)).setCell ⟨w.heap.size + 1, 1, none⟩ (.string o.name)).setCell ⟨w.heap.size + 1, 2, none⟩ (.string o.dst)).setCell ⟨w.heap.size + 1, 3, none⟩ (.slice o.ba o.Z.length o.bc)) := ((((Apart.refl [w.heap.size + 1] W2).set _ _ (by simp)).set _ _ (by simp)).set _ _ (by simp)).set _ _ (by simp)
        refine part_ret _ (w.heap.size + 1) _ o.kind o.name o.dst o.ba o.Z.length o.bc _ _ rfl rfl HS.out ⟨o, by first | rfl | simp, HE.out.symm, rfl, rfl, Nat.le_refl _, ?_, HBF.out⟩
        · intro X hX hZX
          have hz2 := hZX.later HB2.out
          exact ⟨hAp.ints hz2.1 (fun q x ex hx => by have h9 := row_ltF hZX.1.1 (by simpa using q) ex; simp only [List.mem_singleton] at hx; omega), hz2.2⟩
      · have d2 : decide ((1 : Int) ≤ k) = false := decide_eq_false k2
        clear k1 kc
        go_wp2
        have HS := Lib.hid ((((HT0.out.set 0 (.int .i64 o.kind)).set 1 (.string o.name)).set 2 (.string o.dst)).set 3 (.slice o.ba o.Z.length o.bc))
        have HBF := Lib.hid (belSet (belSet (belSet (belSet HB2.out ⟨w.heap.size + 1, 0, none⟩ (.int .i64 o.kind) (Nat.le_succ _)) ⟨w.heap.size + 1, 1, none⟩ (.string o.name) (Nat.le_succ _)) ⟨w.heap.size + 1, 2, none⟩ (.string o.dst) (Nat.le_succ _)) ⟨w.heap.size + 1, 3, none⟩ (.slice o.ba o.Z.length o.bc) (Nat.le_succ _))
        have hAp : Apart [w.heap.size + 1] W2 ((((W2.setCell ⟨w.heap.size + 1, 0, none⟩ (.int .i64 o.kind)).setCell ⟨w.heap.size + 1, 1, none⟩ (.string o.name)).setCell ⟨w.heap.size + 1, 2, none⟩ (.string o.dst)).setCell ⟨w.heap.size + 1, 3, none⟩ (.slice o.ba o.Z.length o.bc)) := ((((Apart.refl [w.heap.size + 1] W2).set _ _ (by simp)).set _ _ (by simp)).set _ _ (by simp)).set _ _ (by simp)
        refine part_ret _ (w.heap.size + 1) _ o.kind o.name o.dst o.ba o.Z.length o.bc _ _ rfl rfl HS.out ⟨o, by first | rfl | simp, HE.out.symm, rfl, rfl, Nat.le_refl _, ?_, HBF.out⟩
        · intro X hX hZX
          have hz2 := hZX.later HB2.out
          exact ⟨hAp.ints hz2.1 (fun q x ex hx => by have h9 := row_ltF hZX.1.1 (by simpa using q) ex; simp only [List.mem_singleton] at hx; omega), hz2.2⟩
    · have d1 : (o.kind == (1 : Int)) = false := by rw [beq_eq_false_iff_ne]; exact k1
      clear k1 kc
      go_wp2
      have HS := Lib.hid ((((HT0.out.set 0 (.int .i64 o.kind)).set 1 (.string o.name)).set 2 (.string o.dst)).set 3 (.slice o.ba o.Z.length o.bc))
      have HBF := Lib.hid (belSet (belSet (belSet (belSet HB2.out ⟨w.heap.size + 1, 0, none⟩ (.int .i64 o.kind) (Nat.le_succ _)) ⟨w.heap.size + 1, 1, none⟩ (.string o.name) (Nat.le_succ _)) ⟨w.heap.size + 1, 2, none⟩ (.string o.dst) (Nat.le_succ _)) ⟨w.heap.size + 1, 3, none⟩ (.slice o.ba o.Z.length o.bc) (Nat.le_succ _))
      have hAp : Apart [w.heap.size + 1] W2 ((((W2.setCell ⟨w.heap.size + 1, 0, none⟩ (.int .i64 o.kind)).setCell ⟨w.heap.size + 1, 1, none⟩ (.string o.name)).setCell ⟨w.heap.size + 1, 2, none⟩ (.string o.dst)).setCell ⟨w.heap.size + 1, 3, none⟩ (.slice o.ba o.Z.length o.bc)) := ((((Apart.refl [w.heap.size + 1] W2).set _ _ (by simp)).set _ _ (by simp)).set _ _ (by simp)).set _ _ (by simp)
      refine part_ret _ (w.heap.size + 1) _ o.kind o.name o.dst o.ba o.Z.length o.bc _ _ rfl rfl HS.out ⟨o, by first | rfl | simp, HE.out.symm, rfl, rfl, Nat.le_refl _, ?_, HBF.out⟩
      · intro X hX hZX
        have hz2 := hZX.later HB2.out
        exact ⟨hAp.ints hz2.1 (fun q x ex hx => by have h9 := row_ltF hZX.1.1 (by simpa using q) ex; simp only [List.mem_singleton] at hx; omega), hz2.2⟩
end Go.Proofs.Ytcbblgeleboggaa
