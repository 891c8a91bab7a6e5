
/- Stage 27: the reference: Read of 5 pieces: contract. -/
import Derived.Test.YtekakalhknjdaaaDoorLgF
namespace Go.Proofs.YtekakalhknjdaaaDoor
open Go.RowKit
set_option linter.unusedVariables false
set_option linter.unusedSimpArgs false
set_option maxRecDepth 100000 in
set_option maxHeartbeats 64000000 in
theorem rf_Read27_5 (s : ByteArray) (w : World) (hs : s.size ≤ 1000000) (hq : (cutsL 32 s.data.toList).length = 5) :
    Calls Tryd.prog 15 #[.string s] w fun e0 w' => e0 = .returned (.tuple #[.int .i64 (rdR s), (rdE s).v, .bool (rdB s)]) ∧ Below w.heap.size w w' := by
  have HS := Lib.hid hs
  obtain ⟨P, hP⟩ : ∃ P, cutsL 32 s.data.toList = P := ⟨_, rfl⟩
  have hlen := cuts_len 32 s.data.toList
  have CS := Lib.hid (fun u => rf_split27 s u hs)
  rw [hP] at hlen CS
  have hsz : s.data.toList.length = s.size := rfl
  rw [hsz] at hlen
  have hL : P.length ≤ maxLen := by unfold maxLen; omega
  have HP := Lib.hid hP
  have hP0 : 0 < P.length := by have := cuts_ne 32 s.data.toList; rw [hP] at this; exact List.length_pos_iff.2 this
  have HSZ := Lib.hid (fun x hx => Nat.le_trans (hlen.2 x hx) hs)
  rw [hP] at hq
  clear hP hs hsz hlen
  go_enter Tryd.func15, Tryd.ntmps15
  go_upto_region 2 with (go_at_call 31; (with_reducible refine (CS.out _).mono ?_); rintro e9 v1 ⟨⟨a, c, rfl, hO⟩, hb1⟩; have HO := Lib.hid hO; have HB1 := Lib.hid hb1; clear hO hb1 CS)
  have hs0 : (w.alloc (.cells #[.int .i64 0, .string ⟨#[]⟩, .int .i64 0, .int .i64 0] 23)).heap.size = w.heap.size + 1 := by simp
  have HZ := Lib.hid ((Blk.new w [.int .i64 0, .string ⟨#[]⟩, .int .i64 0, .int .i64 0] 23).later HB1.out)
  have HB := Lib.hid ((belAlloc (Below.refl w.heap.size w) (.cells #[.int .i64 0, .string ⟨#[]⟩, .int .i64 0, .int .i64 0] 23)).trans (HB1.out.mono (by omega)))
  have hzl := HZ.out.lt
  obtain ⟨g, rfl, hgl, hgB, hnc, hcm, hcel⟩ := own_at HO.out hP0
  rw [hs0] at hgB
  have HC := Lib.hid hcel
  clear hcel hs0 HB1 HO
  generalize hzb : w.heap.size = zb at *
  have HZB := Lib.hid hzb
  clear hzb
  unfold maxLen at hcm hL
  have t1 : decide ((P.length : Int) < 3) = false := decide_eq_false (by omega)
  have t2 : decide ((5 : Int) < (P.length : Int)) = false := decide_eq_false (by omega)
  have hn3 : 3 ≤ P.length := by omega
  have hn5 : P.length ≤ 5 := by omega
  clear hP0
  generalize hn : P.length = n at *
  obtain ⟨p0, p1, p2, R, rfl⟩ : ∃ p0 p1 p2 R, P = p0 :: p1 :: p2 :: R := by
    match P, hn with
    | [], h => exact absurd h.symm (by simp; omega)
    | [x], h => exact absurd h.symm (by simp; omega)
    | [x, y], h => exact absurd h.symm (by simp; omega)
    | x :: y :: z :: R, _ => exact ⟨x, y, z, R, rfl⟩
  have hRn0 : R.length + 3 = n := by rw [← hn]; rfl
  have HRQ := Lib.hid (readR_eq p0 p1 p2 R (by omega))
  have HRn := Lib.hid hRn0
  clear hn hRn0
  have HQN := Lib.hid hq
  clear hq
  have HX1 := Lib.hid (HC.out 1 _ rfl)
  unfold strB at HX1
  have n3i : (3 : Int) ≤ (n : Int) := by omega
  have n1a : 1 < n := by omega
  have n1b : (1 : Int) < (n : Int) := by omega
  go_upto_region 5 with fail
  have hq6 : v1.heap.size ≠ zb := by omega
  have hq6b : zb ≠ v1.heap.size := by omega
  have hq7 : v1.heap.size ≠ g := by omega
  have hq8 : g ≠ v1.heap.size := by omega
  have HA := Lib.hid (Blk.new v1 [.int .i64 0, .string ⟨#[]⟩, .int .i64 0, .int .i64 0] 23)
  have HZ5 := Lib.hid (HZ.out.later (belAlloc (Below.refl _ _) (.cells #[.int .i64 0, .string ⟨#[]⟩, .int .i64 0, .int .i64 0] 23)))
  have HB5 := Lib.hid (belAlloc (Below.refl v1.heap.size v1) (.cells #[.int .i64 0, .string ⟨#[]⟩, .int .i64 0, .int .i64 0] 23))
  generalize v1.alloc (.cells #[.int .i64 0, .string ⟨#[]⟩, .int .i64 0, .int .i64 0] 23) = w5 at *
  go_wp2
  go_loopw [7] (fun iv wr => ∃ m : Nat, m ≤ 16 ∧ iv = .int .i64 ((m : Int) + 1) ∧ Hid (Blk wr v1.heap.size [.int .i64 (kkF p1 m), .string ⟨#[]⟩, .int .i64 0, .int .i64 0] 23) ∧ Hid (Blk wr zb [.int .i64 0, .string ⟨#[]⟩, .int .i64 0, .int .i64 0] 23) ∧ Hid (Below v1.heap.size v1 wr)) (fun iv _ => 17 - (intOf iv).toNat)
  case atStart => exact ⟨0, by omega, rfl, HA, HZ5, HB5⟩
  case round =>
    clear HA HZ5 HB5
    obtain ⟨m, hm, rfl, HA, HZW, HBW⟩ := hrel
    by_cases hlt : m < 16
    · have hd : decide ((m : Int) + 1 ≤ 16) = true := decide_eq_true (by omega)
      have CW := Lib.hid (fun u => rf_Word27 ((m : Int) + 1) u)
      rw [kwI_good (show 1 ≤ (m : Int) + 1 ∧ (m : Int) + 1 ≤ 16 by omega), show ((m : Int) + 1).toNat = m + 1 by omega] at CW
      obtain ⟨x1, hx1⟩ : ∃ x, bA p1 = x := ⟨_, rfl⟩
      obtain ⟨tk, htk⟩ : ∃ x, bA (kwE (m + 1)) = x := ⟨_, rfl⟩
      rw [htk] at CW
      have hxw := cell_later HBW.out HX1.out
      rw [hx1] at hxw
      have c1 := keep hxw
      clear hxw
      have hbel : Below wr.heap.size wr wr := Below.refl _ _
      by_cases hk : kwE (m + 1) = p1
      · have HK := Lib.hid (show kkF p1 (m + 1) = (m : Int) + 1 from by rw [kkF, if_pos hk]; push_cast; rfl)
        have t5 : (tk.toList == x1.toList) = true := by rw [← htk, ← hx1, bA_toL, bA_toL, beq_iff_eq]; exact hk
        clear htk hx1 hk
        go_upto_region 8 with fail
        have kk := fun d os => belStep hbel (below_regrown _ d os)
        refine wp_region_quiet_below (by kernel_rfl) (by kernel_rfl) ?_
        repeat ((with_reducible refine wpQuiet_step (fun K hK => ?_)); go_simp; (try (rw [if_neg]; rotate_left; · decide)); first | ((with_reducible refine hK _ ?_); clear hK K) | (apply Exists.intro; refine ⟨fun _ => ?_, hK _ ?_⟩; ((go_at_call 24; with_reducible exact Calls.regrown_of (CW.out _))); clear hK K))
        refine wpQuiet_nil (fun w1 hw1 => ?_)
        replace hbel := belStep hbel (bel_of_class hw1)
        clear hw1 kk
        have HA9 := Lib.hid (HA.out.later hbel)
        have HZ9 := Lib.hid (HZW.out.later hbel)
        have HB9 := Lib.hid (belStep HBW.out hbel)
        have s0 := HA9.out.cell (j := 0) rfl
        have s1 := HA9.out.cell (j := 1) rfl
        have s2 := HA9.out.cell (j := 2) rfl
        have s3 := HA9.out.cell (j := 3) rfl
        have sf := HA9.out.frozen
        go_wp2
        have hA9 := HA9.out.set 0 (.int .i64 ((m : Int) + 1))
        have hZ9 := zset (j := 0) HZ9.out hq6b (.int .i64 ((m : Int) + 1))
        have hB9 := belLow6 HB9.out ⟨v1.heap.size, 0, none⟩ (.int .i64 ((m : Int) + 1)) (Nat.le_refl _)
        go_roundw
        case rel => exact ⟨m + 1, by omega, by push_cast; rfl, by rw [HK.out]; exact Lib.hid hA9, Lib.hid hZ9, Lib.hid hB9⟩
        case measure => simp [intOf] <;> omega
      · have HK := Lib.hid (show kkF p1 (m + 1) = kkF p1 m from by rw [kkF, if_neg hk])
        have t5 : (tk.toList == x1.toList) = false := by rw [← htk, ← hx1, bA_toL, bA_toL, beq_eq_false_iff_ne]; exact hk
        clear htk hx1 hk
        go_upto_region 8 with fail
        have kk := fun d os => belStep hbel (below_regrown _ d os)
        refine wp_region_quiet_below (by kernel_rfl) (by kernel_rfl) ?_
        repeat ((with_reducible refine wpQuiet_step (fun K hK => ?_)); go_simp; (try (rw [if_neg]; rotate_left; · decide)); first | ((with_reducible refine hK _ ?_); clear hK K) | (apply Exists.intro; refine ⟨fun _ => ?_, hK _ ?_⟩; ((go_at_call 24; with_reducible exact Calls.regrown_of (CW.out _))); clear hK K))
        refine wpQuiet_nil (fun w1 hw1 => ?_)
        replace hbel := belStep hbel (bel_of_class hw1)
        clear hw1 kk
        have HA9 := Lib.hid (HA.out.later hbel)
        have HZ9 := Lib.hid (HZW.out.later hbel)
        have HB9 := Lib.hid (belStep HBW.out hbel)
        go_wp2
        go_roundw
        case rel => exact ⟨m + 1, by omega, by push_cast; rfl, by rw [HK.out]; exact HA9, HZ9, HB9⟩
        case measure => simp [intOf] <;> omega
    · obtain rfl : m = 16 := by omega
      rw [kk_end] at HA
      have hd : decide (((16 : Nat) : Int) + 1 ≤ 16) = false := rfl
      obtain ⟨kd, hkd⟩ : ∃ k, kq p1 = k := ⟨_, rfl⟩
      have hkb := kq_bd p1
      rw [hkd] at hkb HA HRQ
      clear hkd
      obtain ⟨hkb0, hkb1⟩ := hkb
      have HBZ := Lib.hid (HB.out.trans (HBW.out.mono (show zb ≤ v1.heap.size by omega)))
      obtain ⟨r, hr⟩ : ∃ r, numQ p0 = r := ⟨_, rfl⟩
      have HRI := Lib.hid (show InI r from by rw [← hr]; exact numQ_in _)
      rw [hr] at HRQ
      have X0 := cell_later HBW.out (HC.out 0 _ rfl)
      unfold strB at X0
      have hxl0 : (bA p0).size ≤ 1000000 := by rw [bA_size]; exact HSZ.out _ (by simp)
      have hxt0 : (bA p0).toList = p0 := bA_toL _
      obtain ⟨x0, hx0⟩ : ∃ x, bA p0 = x := ⟨_, rfl⟩
      rw [hx0] at X0 hxl0 hxt0
      have X2 := cell_later HBW.out (HC.out 2 _ rfl)
      unfold strB at X2
      have hxl2 : (bA p2).size ≤ 1000000 := by rw [bA_size]; exact HSZ.out _ (by simp)
      have hxt2 : (bA p2).toList = p2 := bA_toL _
      obtain ⟨x2, hx2⟩ : ∃ x, bA p2 = x := ⟨_, rfl⟩
      rw [hx2] at X2 hxl2 hxt2
      have CN0 := Lib.hid (fun u => rf_number27 x0 u (by unfold maxLen; omega))
      rw [hxt0, hr] at CN0
      clear hr hxt0 hxl0 hx0
      have s0 := HA.out.cell (j := 0) rfl
      have s1 := HA.out.cell (j := 1) rfl
      have s2 := HA.out.cell (j := 2) rfl
      have s3 := HA.out.cell (j := 3) rfl
      have sf := HA.out.frozen
      have z0 := HZW.out.cell (j := 0) rfl
      have z1 := HZW.out.cell (j := 1) rfl
      have z2 := HZW.out.cell (j := 2) rfl
      have z3 := HZW.out.cell (j := 3) rfl
      have zf := HZW.out.frozen
      obtain rfl : n = 5 := HQN.out
      obtain ⟨p3, p4, rfl⟩ : ∃ p3 p4, R = [p3, p4] := by
        have hR2 : R.length = 2 := by have := HRn.out; omega
        match R, hR2 with
        | [x, y], _ => exact ⟨x, y, rfl⟩
      clear HRn HQN
      have hc1 : ¬ c = 3 := by omega
      have hc2 : ¬ c - 2 = 1 := by omega
      have hc3 : ¬ c - 3 = 1 := by omega
      have X3 := cell_later HBW.out (HC.out 3 _ rfl)
      unfold strB at X3
      have hxl3 : (bA p3).size ≤ 1000000 := by rw [bA_size]; exact HSZ.out _ (by simp)
      have hxt3 : (bA p3).toList = p3 := bA_toL _
      obtain ⟨x3, hx3⟩ : ∃ x, bA p3 = x := ⟨_, rfl⟩
      rw [hx3] at X3 hxl3 hxt3
      have X4 := cell_later HBW.out (HC.out 4 _ rfl)
      unfold strB at X4
      have hxl4 : (bA p4).size ≤ 1000000 := by rw [bA_size]; exact HSZ.out _ (by simp)
      have hxt4 : (bA p4).toList = p4 := bA_toL _
      obtain ⟨x4, hx4⟩ : ∃ x, bA p4 = x := ⟨_, rfl⟩
      rw [hx4] at X4 hxl4 hxt4
      by_cases hq3 : kd = 3
      · subst hq3
        by_cases hpq : p3 = pressL
        · have t21 : (x3.toList == [114, 111, 111, 109]) = false := by rw [hxt3, hpq]; rfl
          have t22 : (x3.toList == [112, 114, 101, 115, 115, 117, 114, 101]) = true := by rw [hxt3, hpq]; rfl
          have CSg := Lib.hid (fun u => rf_signal27 x4 u)
          rw [hxt4] at CSg
          obtain ⟨s9, hs9⟩ : ∃ k, idxE sgE p4 3 = k := ⟨_, rfl⟩
          rw [hs9] at CSg
          have HRD := Lib.hid (show readR (p0 :: p1 :: p2 :: [p3, p4]) = some (r, ⟨3, x2, s9, 3⟩, []) from by rw [HRQ.out]; simp [readK, hx2, hpq, hs9])
          have CL := Lib.hid (fun u => rf_Line27 3 s9 3 r x2 u (by unfold maxLen; omega) HRI.out (⟨by decide, by decide⟩))
          clear HRQ
          go_upto_region 33 with (first | (go_at_call 32; (with_reducible refine (CN0.out _).mono ?_); rintro e9 w9 ⟨rfl, rfl⟩) | (go_at_call 33; (with_reducible refine (CSg.out _).mono ?_); rintro e9 w9 ⟨rfl, rfl⟩))
          all_goals
            try generalize (if c - 2 = 1 then some (⟨g, 2, none⟩ : Addr) else some ⟨g, 3, none⟩) = ra
            try generalize (if c - 3 = 1 then some (⟨g, 3, none⟩ : Addr) else some ⟨g, 4, none⟩) = ra
            try generalize (if c - 3 = 2 then some (⟨g, 4, none⟩ : Addr) else some ⟨g, 5, none⟩) = ra
            try generalize (if c = 3 then some (⟨g, 0, none⟩ : Addr) else some ⟨g, 3, none⟩) = ra
            cases hln : lineE r ⟨3, x2, s9, 3⟩ with
            | none =>
              have HN := Lib.hid (rr_no2 HP.out HRD.out (fun q => by rw [hln] at q; cases q.1))
              go_wp2_with (go_at_call 12; (with_reducible refine (CL.out _).mono ?_); rintro e9 w9 ⟨hrl, hb9⟩; obtain ⟨t9, rfl⟩ := rln_no' hln hrl; have HZ9 := Lib.hid (Blk.later ((zset (j := 2) ((zset (j := 3) ((zset (j := 1) (HZW.out) hq6b (.string x2))) hq6b (.int .i64 3))) hq6b (.int .i64 s9))) hb9); have HB9 := Lib.hid (Below.trans ((belLow6 ((belLow6 ((belLow6 (HBZ.out) ⟨v1.heap.size, 1, none⟩ (.string x2) (show zb ≤ v1.heap.size by omega))) ⟨v1.heap.size, 3, none⟩ (.int .i64 3) (show zb ≤ v1.heap.size by omega))) ⟨v1.heap.size, 2, none⟩ (.int .i64 s9) (show zb ≤ v1.heap.size by omega))) (hb9.mono (Nat.le_of_lt (Blk.lt ((zset (j := 2) ((zset (j := 3) ((zset (j := 1) (HZW.out) hq6b (.string x2))) hq6b (.int .i64 3))) hq6b (.int .i64 s9))))))); have y0 := HZ9.out.cell (j := 0) rfl; have y1 := HZ9.out.cell (j := 1) rfl; have y2 := HZ9.out.cell (j := 2) rfl; have y3 := HZ9.out.cell (j := 3) rfl; have yf := HZ9.out.frozen; have HA9 := Lib.hid (Blk.later ((Blk.set ((Blk.set ((Blk.set (HA.out) 1 (.string x2))) 3 (.int .i64 3))) 2 (.int .i64 s9))) hb9); clear hb9 hrl)
              rw [HN.out.1, HN.out.2.1, HN.out.2.2]
              exact bodyPost_ret (read_fin27 (Blk.set ((Blk.set ((Blk.set ((Blk.set (HZ9.out) 0 (.int .i64 0))) 1 (.string ⟨#[]⟩))) 2 (.int .i64 0))) 3 (.int .i64 0)) _ rfl rfl rfl) rfl ⟨rfl, by rw [HZB.out]; exact (belLow6 ((belLow6 ((belLow6 ((belLow6 (HB9.out) ⟨zb, 0, none⟩ (.int .i64 0) (Nat.le_refl _))) ⟨zb, 1, none⟩ (.string ⟨#[]⟩) (Nat.le_refl _))) ⟨zb, 2, none⟩ (.int .i64 0) (Nat.le_refl _))) ⟨zb, 3, none⟩ (.int .i64 0) (Nat.le_refl _))⟩
            | some t =>
              by_cases ht : t = s.data.toList
              · have HN := Lib.hid (rr_yes HP.out HRD.out (by rw [hln, ht]))
                have t11 : ((bA t).toList == s.toList) = true := by rw [bA_toL, sl, beq_iff_eq]; exact ht
                have t12 : ((bA t).toList != s.toList) = false := by rw [bA_toL, sl, bne_eq_false_iff_eq]; exact ht
                go_upto_region 36 with (go_at_call 12; (with_reducible refine (CL.out _).mono ?_); rintro e9 w9 ⟨hrl, hb9⟩; have e9r := rln_yes' hln hrl; subst e9r; have HZ9 := Lib.hid (Blk.later ((zset (j := 2) ((zset (j := 3) ((zset (j := 1) (HZW.out) hq6b (.string x2))) hq6b (.int .i64 3))) hq6b (.int .i64 s9))) hb9); have HB9 := Lib.hid (Below.trans ((belLow6 ((belLow6 ((belLow6 (HBZ.out) ⟨v1.heap.size, 1, none⟩ (.string x2) (show zb ≤ v1.heap.size by omega))) ⟨v1.heap.size, 3, none⟩ (.int .i64 3) (show zb ≤ v1.heap.size by omega))) ⟨v1.heap.size, 2, none⟩ (.int .i64 s9) (show zb ≤ v1.heap.size by omega))) (hb9.mono (Nat.le_of_lt (Blk.lt ((zset (j := 2) ((zset (j := 3) ((zset (j := 1) (HZW.out) hq6b (.string x2))) hq6b (.int .i64 3))) hq6b (.int .i64 s9))))))); have y0 := HZ9.out.cell (j := 0) rfl; have y1 := HZ9.out.cell (j := 1) rfl; have y2 := HZ9.out.cell (j := 2) rfl; have y3 := HZ9.out.cell (j := 3) rfl; have yf := HZ9.out.frozen; have HA9 := Lib.hid (Blk.later ((Blk.set ((Blk.set ((Blk.set (HA.out) 1 (.string x2))) 3 (.int .i64 3))) 2 (.int .i64 s9))) hb9); clear hb9 hrl)
                refine wp_region_upc (S := fun u => Blk u v1.heap.size [.int .i64 3, .string x2, .int .i64 s9, .int .i64 3] 23 ∧ Below w9.heap.size w9 u) [3, 4] (by kernel_rfl) (by exact ⟨HA9.out.later (belDrew (Below.refl _ _)), belDrew (Below.refl _ _)⟩) (fun hHeld => ?_)
                refine UpC.take (i := 0) (oi := ?oi_uc51) (v := ?v_uc51) ?hi_uc51 (by kernel_rfl) ?hf_uc51 ?hr_uc51 (by kernel_rfl) ?hQ_uc51 (Or.inl ⟨?hw_uc51, ?hy_uc51⟩) (by assumption) ?rest_uc51
                case hi_uc51 => ((simp only [List.getElem?_toArray, List.getElem?_cons_succ, List.getElem?_cons_zero]); rfl)
                case hf_uc51 => kernel_rfl
                case hr_uc51 => kernel_rfl
                case hQ_uc51 => exact fun _ _ _ h => h
                case hw_uc51 => rfl
                case hy_uc51 => ((intro w hSw; (try dsimp only at hSw); go_simp); all_goals (with_reducible rfl))
                try simp only [Act.put, List.setIfInBounds_toArray, List.set_cons_zero, List.set_cons_succ]
                refine UpC.take (i := 1) (oi := ?oi_uc52) (v := ?v_uc52) ?hi_uc52 (by kernel_rfl) ?hf_uc52 ?hr_uc52 (by kernel_rfl) ?hQ_uc52 (Or.inl ⟨?hw_uc52, ?hy_uc52⟩) (by assumption) ?rest_uc52
                case hi_uc52 => ((simp only [List.getElem?_toArray, List.getElem?_cons_succ, List.getElem?_cons_zero]); rfl)
                case hf_uc52 => kernel_rfl
                case hr_uc52 => kernel_rfl
                case hQ_uc52 => exact fun _ _ _ h => h
                case hw_uc52 => rfl
                case hy_uc52 => ((intro w hSw; (try dsimp only at hSw); have x50 := hSw.1.cell (j := 0) rfl; have x51 := hSw.1.cell (j := 1) rfl; have x52 := hSw.1.cell (j := 2) rfl; have x53 := hSw.1.cell (j := 3) rfl; go_simp); all_goals (with_reducible rfl))
                try simp only [Act.put, List.setIfInBounds_toArray, List.set_cons_zero, List.set_cons_succ]
                refine UpC.take (i := 2) (oi := ?oi_uc53) (v := ?v_uc53) ?hi_uc53 (by kernel_rfl) ?hf_uc53 ?hr_uc53 (by kernel_rfl) ?hQ_uc53 (Or.inl ⟨?hw_uc53, ?hy_uc53⟩) (by assumption) ?rest_uc53
                case hi_uc53 => ((simp only [List.getElem?_toArray, List.getElem?_cons_succ, List.getElem?_cons_zero]); rfl)
                case hf_uc53 => kernel_rfl
                case hr_uc53 => kernel_rfl
                case hQ_uc53 => exact fun _ _ _ h => h
                case hw_uc53 => rfl
                case hy_uc53 => ((intro w hSw; (try dsimp only at hSw); go_simp); all_goals (with_reducible rfl))
                try simp only [Act.put, List.setIfInBounds_toArray, List.set_cons_zero, List.set_cons_succ]
                have HZ7 := Lib.hid (HZ9.out.later hHeld.2)
                have HB7 := Lib.hid (HB9.out.trans (hHeld.2.mono (Nat.le_of_lt HZ9.out.lt)))
                have k0 := HZ7.out.cell (j := 0) rfl
                have k1 := HZ7.out.cell (j := 1) rfl
                have k2 := HZ7.out.cell (j := 2) rfl
                have k3 := HZ7.out.cell (j := 3) rfl
                have kf := HZ7.out.frozen
                refine UpC.one (i := 3) (o := ?o_uc54) (by kernel_rfl) ?hi_uc54 (fun K hK => ?rest_uc54)
                case hi_uc54 => ((simp only [List.getElem?_toArray, List.getElem?_cons_succ, List.getElem?_cons_zero]); rfl)
                go_simp
                refine hK.out _ _ (fun q => absurd q (by decide)) (fun _ => ?_)
                clear hK K
                try simp only [Act.put, List.setIfInBounds_toArray, List.set_cons_zero, List.set_cons_succ]
                refine UpC.one (i := 4) (o := ?o_uc55) (by kernel_rfl) ?hi_uc55 (fun K hK => ?rest_uc55)
                case hi_uc55 => ((simp only [List.getElem?_toArray, List.getElem?_cons_succ, List.getElem?_cons_zero]); rfl)
                go_simp
                refine hK.out _ _ (fun q => absurd q (by decide)) (fun _ => ?_)
                clear hK K
                try simp only [Act.put, List.setIfInBounds_toArray, List.set_cons_zero, List.set_cons_succ]
                refine UpC.done (by kernel_rfl) ?_ _
                go_wp2
                rw [HN.out.1, HN.out.2.1, HN.out.2.2]
                exact bodyPost_ret (read_fin27 (Blk.set ((Blk.set ((Blk.set ((Blk.set (HZ7.out) 0 (.int .i64 3))) 1 (.string x2))) 2 (.int .i64 s9))) 3 (.int .i64 3)) _ rfl rfl rfl) rfl ⟨rfl, by rw [HZB.out]; exact (belLow6 ((belLow6 ((belLow6 ((belLow6 (HB7.out) ⟨zb, 0, none⟩ (.int .i64 3) (Nat.le_refl _))) ⟨zb, 1, none⟩ (.string x2) (Nat.le_refl _))) ⟨zb, 2, none⟩ (.int .i64 s9) (Nat.le_refl _))) ⟨zb, 3, none⟩ (.int .i64 3) (Nat.le_refl _))⟩
              · have HN := Lib.hid (rr_no2 HP.out HRD.out (fun q => by rw [hln] at q; exact ht (Option.some.inj q.1)))
                have t11 : ((bA t).toList == s.toList) = false := by rw [bA_toL, sl, beq_eq_false_iff_ne]; exact ht
                have t12 : ((bA t).toList != s.toList) = true := by rw [bA_toL, sl, bne_iff_ne]; exact ht
                go_wp2_with (go_at_call 12; (with_reducible refine (CL.out _).mono ?_); rintro e9 w9 ⟨hrl, hb9⟩; have e9r := rln_yes' hln hrl; subst e9r; have HZ9 := Lib.hid (Blk.later ((zset (j := 2) ((zset (j := 3) ((zset (j := 1) (HZW.out) hq6b (.string x2))) hq6b (.int .i64 3))) hq6b (.int .i64 s9))) hb9); have HB9 := Lib.hid (Below.trans ((belLow6 ((belLow6 ((belLow6 (HBZ.out) ⟨v1.heap.size, 1, none⟩ (.string x2) (show zb ≤ v1.heap.size by omega))) ⟨v1.heap.size, 3, none⟩ (.int .i64 3) (show zb ≤ v1.heap.size by omega))) ⟨v1.heap.size, 2, none⟩ (.int .i64 s9) (show zb ≤ v1.heap.size by omega))) (hb9.mono (Nat.le_of_lt (Blk.lt ((zset (j := 2) ((zset (j := 3) ((zset (j := 1) (HZW.out) hq6b (.string x2))) hq6b (.int .i64 3))) hq6b (.int .i64 s9))))))); have y0 := HZ9.out.cell (j := 0) rfl; have y1 := HZ9.out.cell (j := 1) rfl; have y2 := HZ9.out.cell (j := 2) rfl; have y3 := HZ9.out.cell (j := 3) rfl; have yf := HZ9.out.frozen; have HA9 := Lib.hid (Blk.later ((Blk.set ((Blk.set ((Blk.set (HA.out) 1 (.string x2))) 3 (.int .i64 3))) 2 (.int .i64 s9))) hb9); clear hb9 hrl)
                rw [HN.out.1, HN.out.2.1, HN.out.2.2]
                exact bodyPost_ret (read_fin27 (Blk.set ((Blk.set ((Blk.set ((Blk.set (HZ9.out) 0 (.int .i64 0))) 1 (.string ⟨#[]⟩))) 2 (.int .i64 0))) 3 (.int .i64 0)) _ rfl rfl rfl) rfl ⟨rfl, by rw [HZB.out]; exact (belLow6 ((belLow6 ((belLow6 ((belLow6 (HB9.out) ⟨zb, 0, none⟩ (.int .i64 0) (Nat.le_refl _))) ⟨zb, 1, none⟩ (.string ⟨#[]⟩) (Nat.le_refl _))) ⟨zb, 2, none⟩ (.int .i64 0) (Nat.le_refl _))) ⟨zb, 3, none⟩ (.int .i64 0) (Nat.le_refl _))⟩
        · by_cases hrq : p3 = roomL
          · have t21 : (x3.toList == [114, 111, 111, 109]) = true := by rw [hxt3, hrq]; rfl
            have t22 : (x3.toList == [112, 114, 101, 115, 115, 117, 114, 101]) = false := by rw [hxt3, hrq]; rfl
            have hpr : ¬ (roomL = pressL) := fun q => press_ne q.symm
            have hx2b := hx2
            have HRD := Lib.hid (show readR (p0 :: p1 :: p2 :: [p3, p4]) = some (r, ⟨3, x2, 0, 4⟩, [p4]) from by rw [HRQ.out]; simp [readK, hx2, hrq, hpr])
            have CL := Lib.hid (fun u => rf_Line27 3 0 4 r x2 u (by unfold maxLen; omega) HRI.out (⟨by decide, by decide⟩))
            clear HRQ
            go_upto_region 33 with (first | (go_at_call 32; (with_reducible refine (CN0.out _).mono ?_); rintro e9 w9 ⟨rfl, rfl⟩))
            all_goals
              try generalize (if c - 2 = 1 then some (⟨g, 2, none⟩ : Addr) else some ⟨g, 3, none⟩) = ra
              try generalize (if c - 3 = 1 then some (⟨g, 3, none⟩ : Addr) else some ⟨g, 4, none⟩) = ra
              try generalize (if c - 3 = 2 then some (⟨g, 4, none⟩ : Addr) else some ⟨g, 5, none⟩) = ra
              try generalize (if c = 3 then some (⟨g, 0, none⟩ : Addr) else some ⟨g, 3, none⟩) = ra
              cases hln : lineE r ⟨3, x2, 0, 4⟩ with
              | none =>
                have HN := Lib.hid (rr_no2 HP.out HRD.out (fun q => by rw [hln] at q; cases q.1))
                go_wp2_with (go_at_call 12; (with_reducible refine (CL.out _).mono ?_); rintro e9 w9 ⟨hrl, hb9⟩; obtain ⟨t9, rfl⟩ := rln_no' hln hrl; have HZ9 := Lib.hid (Blk.later ((zset (j := 3) ((zset (j := 1) (HZW.out) hq6b (.string x2))) hq6b (.int .i64 4))) hb9); have HB9 := Lib.hid (Below.trans ((belLow6 ((belLow6 (HBZ.out) ⟨v1.heap.size, 1, none⟩ (.string x2) (show zb ≤ v1.heap.size by omega))) ⟨v1.heap.size, 3, none⟩ (.int .i64 4) (show zb ≤ v1.heap.size by omega))) (hb9.mono (Nat.le_of_lt (Blk.lt ((zset (j := 3) ((zset (j := 1) (HZW.out) hq6b (.string x2))) hq6b (.int .i64 4))))))); have y0 := HZ9.out.cell (j := 0) rfl; have y1 := HZ9.out.cell (j := 1) rfl; have y2 := HZ9.out.cell (j := 2) rfl; have y3 := HZ9.out.cell (j := 3) rfl; have yf := HZ9.out.frozen; have HA9 := Lib.hid (Blk.later ((Blk.set ((Blk.set (HA.out) 1 (.string x2))) 3 (.int .i64 4))) hb9); clear hb9 hrl)
                rw [HN.out.1, HN.out.2.1, HN.out.2.2]
                exact bodyPost_ret (read_fin27 (Blk.set ((Blk.set ((Blk.set ((Blk.set (HZ9.out) 0 (.int .i64 0))) 1 (.string ⟨#[]⟩))) 2 (.int .i64 0))) 3 (.int .i64 0)) _ rfl rfl rfl) rfl ⟨rfl, by rw [HZB.out]; exact (belLow6 ((belLow6 ((belLow6 ((belLow6 (HB9.out) ⟨zb, 0, none⟩ (.int .i64 0) (Nat.le_refl _))) ⟨zb, 1, none⟩ (.string ⟨#[]⟩) (Nat.le_refl _))) ⟨zb, 2, none⟩ (.int .i64 0) (Nat.le_refl _))) ⟨zb, 3, none⟩ (.int .i64 0) (Nat.le_refl _))⟩
              | some t =>
                by_cases ht : t = s.data.toList
                · have HN := Lib.hid (rr_no2 HP.out HRD.out (fun q => by cases q.2))
                  have t11 : ((bA t).toList == s.toList) = true := by rw [bA_toL, sl, beq_iff_eq]; exact ht
                  have t12 : ((bA t).toList != s.toList) = false := by rw [bA_toL, sl, bne_eq_false_iff_eq]; exact ht
                  go_wp2_with (go_at_call 12; (with_reducible refine (CL.out _).mono ?_); rintro e9 w9 ⟨hrl, hb9⟩; have e9r := rln_yes' hln hrl; subst e9r; have HZ9 := Lib.hid (Blk.later ((zset (j := 3) ((zset (j := 1) (HZW.out) hq6b (.string x2))) hq6b (.int .i64 4))) hb9); have HB9 := Lib.hid (Below.trans ((belLow6 ((belLow6 (HBZ.out) ⟨v1.heap.size, 1, none⟩ (.string x2) (show zb ≤ v1.heap.size by omega))) ⟨v1.heap.size, 3, none⟩ (.int .i64 4) (show zb ≤ v1.heap.size by omega))) (hb9.mono (Nat.le_of_lt (Blk.lt ((zset (j := 3) ((zset (j := 1) (HZW.out) hq6b (.string x2))) hq6b (.int .i64 4))))))); have y0 := HZ9.out.cell (j := 0) rfl; have y1 := HZ9.out.cell (j := 1) rfl; have y2 := HZ9.out.cell (j := 2) rfl; have y3 := HZ9.out.cell (j := 3) rfl; have yf := HZ9.out.frozen; have HA9 := Lib.hid (Blk.later ((Blk.set ((Blk.set (HA.out) 1 (.string x2))) 3 (.int .i64 4))) hb9); clear hb9 hrl)
                  rw [HN.out.1, HN.out.2.1, HN.out.2.2]
                  exact bodyPost_ret (read_fin27 (Blk.set ((Blk.set ((Blk.set ((Blk.set (HZ9.out) 0 (.int .i64 0))) 1 (.string ⟨#[]⟩))) 2 (.int .i64 0))) 3 (.int .i64 0)) _ rfl rfl rfl) rfl ⟨rfl, by rw [HZB.out]; exact (belLow6 ((belLow6 ((belLow6 ((belLow6 (HB9.out) ⟨zb, 0, none⟩ (.int .i64 0) (Nat.le_refl _))) ⟨zb, 1, none⟩ (.string ⟨#[]⟩) (Nat.le_refl _))) ⟨zb, 2, none⟩ (.int .i64 0) (Nat.le_refl _))) ⟨zb, 3, none⟩ (.int .i64 0) (Nat.le_refl _))⟩
                · have HN := Lib.hid (rr_no2 HP.out HRD.out (fun q => by rw [hln] at q; exact ht (Option.some.inj q.1)))
                  have t11 : ((bA t).toList == s.toList) = false := by rw [bA_toL, sl, beq_eq_false_iff_ne]; exact ht
                  have t12 : ((bA t).toList != s.toList) = true := by rw [bA_toL, sl, bne_iff_ne]; exact ht
                  go_wp2_with (go_at_call 12; (with_reducible refine (CL.out _).mono ?_); rintro e9 w9 ⟨hrl, hb9⟩; have e9r := rln_yes' hln hrl; subst e9r; have HZ9 := Lib.hid (Blk.later ((zset (j := 3) ((zset (j := 1) (HZW.out) hq6b (.string x2))) hq6b (.int .i64 4))) hb9); have HB9 := Lib.hid (Below.trans ((belLow6 ((belLow6 (HBZ.out) ⟨v1.heap.size, 1, none⟩ (.string x2) (show zb ≤ v1.heap.size by omega))) ⟨v1.heap.size, 3, none⟩ (.int .i64 4) (show zb ≤ v1.heap.size by omega))) (hb9.mono (Nat.le_of_lt (Blk.lt ((zset (j := 3) ((zset (j := 1) (HZW.out) hq6b (.string x2))) hq6b (.int .i64 4))))))); have y0 := HZ9.out.cell (j := 0) rfl; have y1 := HZ9.out.cell (j := 1) rfl; have y2 := HZ9.out.cell (j := 2) rfl; have y3 := HZ9.out.cell (j := 3) rfl; have yf := HZ9.out.frozen; have HA9 := Lib.hid (Blk.later ((Blk.set ((Blk.set (HA.out) 1 (.string x2))) 3 (.int .i64 4))) hb9); clear hb9 hrl)
                  rw [HN.out.1, HN.out.2.1, HN.out.2.2]
                  exact bodyPost_ret (read_fin27 (Blk.set ((Blk.set ((Blk.set ((Blk.set (HZ9.out) 0 (.int .i64 0))) 1 (.string ⟨#[]⟩))) 2 (.int .i64 0))) 3 (.int .i64 0)) _ rfl rfl rfl) rfl ⟨rfl, by rw [HZB.out]; exact (belLow6 ((belLow6 ((belLow6 ((belLow6 (HB9.out) ⟨zb, 0, none⟩ (.int .i64 0) (Nat.le_refl _))) ⟨zb, 1, none⟩ (.string ⟨#[]⟩) (Nat.le_refl _))) ⟨zb, 2, none⟩ (.int .i64 0) (Nat.le_refl _))) ⟨zb, 3, none⟩ (.int .i64 0) (Nat.le_refl _))⟩
          · have t21 : (x3.toList == [114, 111, 111, 109]) = false := by rw [hxt3, beq_eq_false_iff_ne]; exact hrq
            have t22 : (x3.toList == [112, 114, 101, 115, 115, 117, 114, 101]) = false := by rw [hxt3, beq_eq_false_iff_ne]; exact hpq
            clear hxt3
            have HRD := Lib.hid (show readR (p0 :: p1 :: p2 :: [p3, p4]) = some (r, ⟨3, x2, 0, 0⟩, [p4]) from by rw [HRQ.out]; simp [readK, hx2, hrq, hpq])
            have CL := Lib.hid (fun u => rf_Line27 3 0 0 r x2 u (by unfold maxLen; omega) HRI.out (⟨by decide, by decide⟩))
            clear HRQ
            go_upto_region 33 with (first | (go_at_call 32; (with_reducible refine (CN0.out _).mono ?_); rintro e9 w9 ⟨rfl, rfl⟩))
            all_goals
              try generalize (if c - 2 = 1 then some (⟨g, 2, none⟩ : Addr) else some ⟨g, 3, none⟩) = ra
              try generalize (if c - 3 = 1 then some (⟨g, 3, none⟩ : Addr) else some ⟨g, 4, none⟩) = ra
              try generalize (if c - 3 = 2 then some (⟨g, 4, none⟩ : Addr) else some ⟨g, 5, none⟩) = ra
              try generalize (if c = 3 then some (⟨g, 0, none⟩ : Addr) else some ⟨g, 3, none⟩) = ra
              cases hln : lineE r ⟨3, x2, 0, 0⟩ with
              | none =>
                have HN := Lib.hid (rr_no2 HP.out HRD.out (fun q => by rw [hln] at q; cases q.1))
                go_wp2_with (go_at_call 12; (with_reducible refine (CL.out _).mono ?_); rintro e9 w9 ⟨hrl, hb9⟩; obtain ⟨t9, rfl⟩ := rln_no' hln hrl; have HZ9 := Lib.hid (Blk.later ((zset (j := 1) (HZW.out) hq6b (.string x2))) hb9); have HB9 := Lib.hid (Below.trans ((belLow6 (HBZ.out) ⟨v1.heap.size, 1, none⟩ (.string x2) (show zb ≤ v1.heap.size by omega))) (hb9.mono (Nat.le_of_lt (Blk.lt ((zset (j := 1) (HZW.out) hq6b (.string x2))))))); have y0 := HZ9.out.cell (j := 0) rfl; have y1 := HZ9.out.cell (j := 1) rfl; have y2 := HZ9.out.cell (j := 2) rfl; have y3 := HZ9.out.cell (j := 3) rfl; have yf := HZ9.out.frozen; have HA9 := Lib.hid (Blk.later ((Blk.set (HA.out) 1 (.string x2))) hb9); clear hb9 hrl)
                rw [HN.out.1, HN.out.2.1, HN.out.2.2]
                exact bodyPost_ret (read_fin27 (Blk.set ((Blk.set ((Blk.set ((Blk.set (HZ9.out) 0 (.int .i64 0))) 1 (.string ⟨#[]⟩))) 2 (.int .i64 0))) 3 (.int .i64 0)) _ rfl rfl rfl) rfl ⟨rfl, by rw [HZB.out]; exact (belLow6 ((belLow6 ((belLow6 ((belLow6 (HB9.out) ⟨zb, 0, none⟩ (.int .i64 0) (Nat.le_refl _))) ⟨zb, 1, none⟩ (.string ⟨#[]⟩) (Nat.le_refl _))) ⟨zb, 2, none⟩ (.int .i64 0) (Nat.le_refl _))) ⟨zb, 3, none⟩ (.int .i64 0) (Nat.le_refl _))⟩
              | some t =>
                by_cases ht : t = s.data.toList
                · have HN := Lib.hid (rr_no2 HP.out HRD.out (fun q => by cases q.2))
                  have t11 : ((bA t).toList == s.toList) = true := by rw [bA_toL, sl, beq_iff_eq]; exact ht
                  have t12 : ((bA t).toList != s.toList) = false := by rw [bA_toL, sl, bne_eq_false_iff_eq]; exact ht
                  go_wp2_with (go_at_call 12; (with_reducible refine (CL.out _).mono ?_); rintro e9 w9 ⟨hrl, hb9⟩; have e9r := rln_yes' hln hrl; subst e9r; have HZ9 := Lib.hid (Blk.later ((zset (j := 1) (HZW.out) hq6b (.string x2))) hb9); have HB9 := Lib.hid (Below.trans ((belLow6 (HBZ.out) ⟨v1.heap.size, 1, none⟩ (.string x2) (show zb ≤ v1.heap.size by omega))) (hb9.mono (Nat.le_of_lt (Blk.lt ((zset (j := 1) (HZW.out) hq6b (.string x2))))))); have y0 := HZ9.out.cell (j := 0) rfl; have y1 := HZ9.out.cell (j := 1) rfl; have y2 := HZ9.out.cell (j := 2) rfl; have y3 := HZ9.out.cell (j := 3) rfl; have yf := HZ9.out.frozen; have HA9 := Lib.hid (Blk.later ((Blk.set (HA.out) 1 (.string x2))) hb9); clear hb9 hrl)
                  rw [HN.out.1, HN.out.2.1, HN.out.2.2]
                  exact bodyPost_ret (read_fin27 (Blk.set ((Blk.set ((Blk.set ((Blk.set (HZ9.out) 0 (.int .i64 0))) 1 (.string ⟨#[]⟩))) 2 (.int .i64 0))) 3 (.int .i64 0)) _ rfl rfl rfl) rfl ⟨rfl, by rw [HZB.out]; exact (belLow6 ((belLow6 ((belLow6 ((belLow6 (HB9.out) ⟨zb, 0, none⟩ (.int .i64 0) (Nat.le_refl _))) ⟨zb, 1, none⟩ (.string ⟨#[]⟩) (Nat.le_refl _))) ⟨zb, 2, none⟩ (.int .i64 0) (Nat.le_refl _))) ⟨zb, 3, none⟩ (.int .i64 0) (Nat.le_refl _))⟩
                · have HN := Lib.hid (rr_no2 HP.out HRD.out (fun q => by rw [hln] at q; exact ht (Option.some.inj q.1)))
                  have t11 : ((bA t).toList == s.toList) = false := by rw [bA_toL, sl, beq_eq_false_iff_ne]; exact ht
                  have t12 : ((bA t).toList != s.toList) = true := by rw [bA_toL, sl, bne_iff_ne]; exact ht
                  go_wp2_with (go_at_call 12; (with_reducible refine (CL.out _).mono ?_); rintro e9 w9 ⟨hrl, hb9⟩; have e9r := rln_yes' hln hrl; subst e9r; have HZ9 := Lib.hid (Blk.later ((zset (j := 1) (HZW.out) hq6b (.string x2))) hb9); have HB9 := Lib.hid (Below.trans ((belLow6 (HBZ.out) ⟨v1.heap.size, 1, none⟩ (.string x2) (show zb ≤ v1.heap.size by omega))) (hb9.mono (Nat.le_of_lt (Blk.lt ((zset (j := 1) (HZW.out) hq6b (.string x2))))))); have y0 := HZ9.out.cell (j := 0) rfl; have y1 := HZ9.out.cell (j := 1) rfl; have y2 := HZ9.out.cell (j := 2) rfl; have y3 := HZ9.out.cell (j := 3) rfl; have yf := HZ9.out.frozen; have HA9 := Lib.hid (Blk.later ((Blk.set (HA.out) 1 (.string x2))) hb9); clear hb9 hrl)
                  rw [HN.out.1, HN.out.2.1, HN.out.2.2]
                  exact bodyPost_ret (read_fin27 (Blk.set ((Blk.set ((Blk.set ((Blk.set (HZ9.out) 0 (.int .i64 0))) 1 (.string ⟨#[]⟩))) 2 (.int .i64 0))) 3 (.int .i64 0)) _ rfl rfl rfl) rfl ⟨rfl, by rw [HZB.out]; exact (belLow6 ((belLow6 ((belLow6 ((belLow6 (HB9.out) ⟨zb, 0, none⟩ (.int .i64 0) (Nat.le_refl _))) ⟨zb, 1, none⟩ (.string ⟨#[]⟩) (Nat.le_refl _))) ⟨zb, 2, none⟩ (.int .i64 0) (Nat.le_refl _))) ⟨zb, 3, none⟩ (.int .i64 0) (Nat.le_refl _))⟩
      · by_cases hq5 : kd = 5
        · subst hq5
          have CSg := Lib.hid (fun u => rf_signal27 x3 u)
          rw [hxt3] at CSg
          obtain ⟨s9, hs9⟩ : ∃ k, idxE sgE p3 3 = k := ⟨_, rfl⟩
          rw [hs9] at CSg
          have HRD := Lib.hid (show readR (p0 :: p1 :: p2 :: [p3, p4]) = some (r, ⟨5, x2, s9, 0⟩, [p4]) from by rw [HRQ.out]; simp [readK, hx2, hs9])
          have CL := Lib.hid (fun u => rf_Line27 5 s9 0 r x2 u (by unfold maxLen; omega) HRI.out (⟨by decide, by decide⟩))
          clear HRQ
          go_upto_region 33 with (first | (go_at_call 32; (with_reducible refine (CN0.out _).mono ?_); rintro e9 w9 ⟨rfl, rfl⟩) | (go_at_call 33; (with_reducible refine (CSg.out _).mono ?_); rintro e9 w9 ⟨rfl, rfl⟩))
          all_goals
            try generalize (if c - 2 = 1 then some (⟨g, 2, none⟩ : Addr) else some ⟨g, 3, none⟩) = ra
            try generalize (if c - 3 = 1 then some (⟨g, 3, none⟩ : Addr) else some ⟨g, 4, none⟩) = ra
            try generalize (if c - 3 = 2 then some (⟨g, 4, none⟩ : Addr) else some ⟨g, 5, none⟩) = ra
            try generalize (if c = 3 then some (⟨g, 0, none⟩ : Addr) else some ⟨g, 3, none⟩) = ra
            cases hln : lineE r ⟨5, x2, s9, 0⟩ with
            | none =>
              have HN := Lib.hid (rr_no2 HP.out HRD.out (fun q => by rw [hln] at q; cases q.1))
              go_wp2_with (go_at_call 12; (with_reducible refine (CL.out _).mono ?_); rintro e9 w9 ⟨hrl, hb9⟩; obtain ⟨t9, rfl⟩ := rln_no' hln hrl; have HZ9 := Lib.hid (Blk.later ((zset (j := 2) ((zset (j := 1) (HZW.out) hq6b (.string x2))) hq6b (.int .i64 s9))) hb9); have HB9 := Lib.hid (Below.trans ((belLow6 ((belLow6 (HBZ.out) ⟨v1.heap.size, 1, none⟩ (.string x2) (show zb ≤ v1.heap.size by omega))) ⟨v1.heap.size, 2, none⟩ (.int .i64 s9) (show zb ≤ v1.heap.size by omega))) (hb9.mono (Nat.le_of_lt (Blk.lt ((zset (j := 2) ((zset (j := 1) (HZW.out) hq6b (.string x2))) hq6b (.int .i64 s9))))))); have y0 := HZ9.out.cell (j := 0) rfl; have y1 := HZ9.out.cell (j := 1) rfl; have y2 := HZ9.out.cell (j := 2) rfl; have y3 := HZ9.out.cell (j := 3) rfl; have yf := HZ9.out.frozen; have HA9 := Lib.hid (Blk.later ((Blk.set ((Blk.set (HA.out) 1 (.string x2))) 2 (.int .i64 s9))) hb9); clear hb9 hrl)
              rw [HN.out.1, HN.out.2.1, HN.out.2.2]
              exact bodyPost_ret (read_fin27 (Blk.set ((Blk.set ((Blk.set ((Blk.set (HZ9.out) 0 (.int .i64 0))) 1 (.string ⟨#[]⟩))) 2 (.int .i64 0))) 3 (.int .i64 0)) _ rfl rfl rfl) rfl ⟨rfl, by rw [HZB.out]; exact (belLow6 ((belLow6 ((belLow6 ((belLow6 (HB9.out) ⟨zb, 0, none⟩ (.int .i64 0) (Nat.le_refl _))) ⟨zb, 1, none⟩ (.string ⟨#[]⟩) (Nat.le_refl _))) ⟨zb, 2, none⟩ (.int .i64 0) (Nat.le_refl _))) ⟨zb, 3, none⟩ (.int .i64 0) (Nat.le_refl _))⟩
            | some t =>
              by_cases ht : t = s.data.toList
              · have HN := Lib.hid (rr_no2 HP.out HRD.out (fun q => by cases q.2))
                have t11 : ((bA t).toList == s.toList) = true := by rw [bA_toL, sl, beq_iff_eq]; exact ht
                have t12 : ((bA t).toList != s.toList) = false := by rw [bA_toL, sl, bne_eq_false_iff_eq]; exact ht
                go_wp2_with (go_at_call 12; (with_reducible refine (CL.out _).mono ?_); rintro e9 w9 ⟨hrl, hb9⟩; have e9r := rln_yes' hln hrl; subst e9r; have HZ9 := Lib.hid (Blk.later ((zset (j := 2) ((zset (j := 1) (HZW.out) hq6b (.string x2))) hq6b (.int .i64 s9))) hb9); have HB9 := Lib.hid (Below.trans ((belLow6 ((belLow6 (HBZ.out) ⟨v1.heap.size, 1, none⟩ (.string x2) (show zb ≤ v1.heap.size by omega))) ⟨v1.heap.size, 2, none⟩ (.int .i64 s9) (show zb ≤ v1.heap.size by omega))) (hb9.mono (Nat.le_of_lt (Blk.lt ((zset (j := 2) ((zset (j := 1) (HZW.out) hq6b (.string x2))) hq6b (.int .i64 s9))))))); have y0 := HZ9.out.cell (j := 0) rfl; have y1 := HZ9.out.cell (j := 1) rfl; have y2 := HZ9.out.cell (j := 2) rfl; have y3 := HZ9.out.cell (j := 3) rfl; have yf := HZ9.out.frozen; have HA9 := Lib.hid (Blk.later ((Blk.set ((Blk.set (HA.out) 1 (.string x2))) 2 (.int .i64 s9))) hb9); clear hb9 hrl)
                rw [HN.out.1, HN.out.2.1, HN.out.2.2]
                exact bodyPost_ret (read_fin27 (Blk.set ((Blk.set ((Blk.set ((Blk.set (HZ9.out) 0 (.int .i64 0))) 1 (.string ⟨#[]⟩))) 2 (.int .i64 0))) 3 (.int .i64 0)) _ rfl rfl rfl) rfl ⟨rfl, by rw [HZB.out]; exact (belLow6 ((belLow6 ((belLow6 ((belLow6 (HB9.out) ⟨zb, 0, none⟩ (.int .i64 0) (Nat.le_refl _))) ⟨zb, 1, none⟩ (.string ⟨#[]⟩) (Nat.le_refl _))) ⟨zb, 2, none⟩ (.int .i64 0) (Nat.le_refl _))) ⟨zb, 3, none⟩ (.int .i64 0) (Nat.le_refl _))⟩
              · have HN := Lib.hid (rr_no2 HP.out HRD.out (fun q => by rw [hln] at q; exact ht (Option.some.inj q.1)))
                have t11 : ((bA t).toList == s.toList) = false := by rw [bA_toL, sl, beq_eq_false_iff_ne]; exact ht
                have t12 : ((bA t).toList != s.toList) = true := by rw [bA_toL, sl, bne_iff_ne]; exact ht
                go_wp2_with (go_at_call 12; (with_reducible refine (CL.out _).mono ?_); rintro e9 w9 ⟨hrl, hb9⟩; have e9r := rln_yes' hln hrl; subst e9r; have HZ9 := Lib.hid (Blk.later ((zset (j := 2) ((zset (j := 1) (HZW.out) hq6b (.string x2))) hq6b (.int .i64 s9))) hb9); have HB9 := Lib.hid (Below.trans ((belLow6 ((belLow6 (HBZ.out) ⟨v1.heap.size, 1, none⟩ (.string x2) (show zb ≤ v1.heap.size by omega))) ⟨v1.heap.size, 2, none⟩ (.int .i64 s9) (show zb ≤ v1.heap.size by omega))) (hb9.mono (Nat.le_of_lt (Blk.lt ((zset (j := 2) ((zset (j := 1) (HZW.out) hq6b (.string x2))) hq6b (.int .i64 s9))))))); have y0 := HZ9.out.cell (j := 0) rfl; have y1 := HZ9.out.cell (j := 1) rfl; have y2 := HZ9.out.cell (j := 2) rfl; have y3 := HZ9.out.cell (j := 3) rfl; have yf := HZ9.out.frozen; have HA9 := Lib.hid (Blk.later ((Blk.set ((Blk.set (HA.out) 1 (.string x2))) 2 (.int .i64 s9))) hb9); clear hb9 hrl)
                rw [HN.out.1, HN.out.2.1, HN.out.2.2]
                exact bodyPost_ret (read_fin27 (Blk.set ((Blk.set ((Blk.set ((Blk.set (HZ9.out) 0 (.int .i64 0))) 1 (.string ⟨#[]⟩))) 2 (.int .i64 0))) 3 (.int .i64 0)) _ rfl rfl rfl) rfl ⟨rfl, by rw [HZB.out]; exact (belLow6 ((belLow6 ((belLow6 ((belLow6 (HB9.out) ⟨zb, 0, none⟩ (.int .i64 0) (Nat.le_refl _))) ⟨zb, 1, none⟩ (.string ⟨#[]⟩) (Nat.le_refl _))) ⟨zb, 2, none⟩ (.int .i64 0) (Nat.le_refl _))) ⟨zb, 3, none⟩ (.int .i64 0) (Nat.le_refl _))⟩
        · by_cases hq6 : kd = 6
          · subst hq6
            have CSg := Lib.hid (fun u => rf_signal27 x2 u)
            rw [hxt2] at CSg
            obtain ⟨s9, hs9⟩ : ∃ k, idxE sgE p2 3 = k := ⟨_, rfl⟩
            rw [hs9] at CSg
            have HRD := Lib.hid (show readR (p0 :: p1 :: p2 :: [p3, p4]) = some (r, ⟨6, ⟨#[]⟩, s9, 0⟩, [p3, p4]) from by rw [HRQ.out]; simp [readK, hs9])
            have CL := Lib.hid (fun u => rf_Line27 6 s9 0 r ⟨#[]⟩ u (by decide) HRI.out (⟨by decide, by decide⟩))
            clear HRQ
            go_upto_region 33 with (first | (go_at_call 32; (with_reducible refine (CN0.out _).mono ?_); rintro e9 w9 ⟨rfl, rfl⟩) | (go_at_call 33; (with_reducible refine (CSg.out _).mono ?_); rintro e9 w9 ⟨rfl, rfl⟩))
            all_goals
              try generalize (if c - 2 = 1 then some (⟨g, 2, none⟩ : Addr) else some ⟨g, 3, none⟩) = ra
              try generalize (if c - 3 = 1 then some (⟨g, 3, none⟩ : Addr) else some ⟨g, 4, none⟩) = ra
              try generalize (if c - 3 = 2 then some (⟨g, 4, none⟩ : Addr) else some ⟨g, 5, none⟩) = ra
              try generalize (if c = 3 then some (⟨g, 0, none⟩ : Addr) else some ⟨g, 3, none⟩) = ra
              cases hln : lineE r ⟨6, ⟨#[]⟩, s9, 0⟩ with
              | none =>
                have HN := Lib.hid (rr_no2 HP.out HRD.out (fun q => by rw [hln] at q; cases q.1))
                go_wp2_with (go_at_call 12; (with_reducible refine (CL.out _).mono ?_); rintro e9 w9 ⟨hrl, hb9⟩; obtain ⟨t9, rfl⟩ := rln_no' hln hrl; have HZ9 := Lib.hid (Blk.later ((zset (j := 2) (HZW.out) hq6b (.int .i64 s9))) hb9); have HB9 := Lib.hid (Below.trans ((belLow6 (HBZ.out) ⟨v1.heap.size, 2, none⟩ (.int .i64 s9) (show zb ≤ v1.heap.size by omega))) (hb9.mono (Nat.le_of_lt (Blk.lt ((zset (j := 2) (HZW.out) hq6b (.int .i64 s9))))))); have y0 := HZ9.out.cell (j := 0) rfl; have y1 := HZ9.out.cell (j := 1) rfl; have y2 := HZ9.out.cell (j := 2) rfl; have y3 := HZ9.out.cell (j := 3) rfl; have yf := HZ9.out.frozen; have HA9 := Lib.hid (Blk.later ((Blk.set (HA.out) 2 (.int .i64 s9))) hb9); clear hb9 hrl)
                rw [HN.out.1, HN.out.2.1, HN.out.2.2]
                exact bodyPost_ret (read_fin27 (Blk.set ((Blk.set ((Blk.set ((Blk.set (HZ9.out) 0 (.int .i64 0))) 1 (.string ⟨#[]⟩))) 2 (.int .i64 0))) 3 (.int .i64 0)) _ rfl rfl rfl) rfl ⟨rfl, by rw [HZB.out]; exact (belLow6 ((belLow6 ((belLow6 ((belLow6 (HB9.out) ⟨zb, 0, none⟩ (.int .i64 0) (Nat.le_refl _))) ⟨zb, 1, none⟩ (.string ⟨#[]⟩) (Nat.le_refl _))) ⟨zb, 2, none⟩ (.int .i64 0) (Nat.le_refl _))) ⟨zb, 3, none⟩ (.int .i64 0) (Nat.le_refl _))⟩
              | some t =>
                by_cases ht : t = s.data.toList
                · have HN := Lib.hid (rr_no2 HP.out HRD.out (fun q => by cases q.2))
                  have t11 : ((bA t).toList == s.toList) = true := by rw [bA_toL, sl, beq_iff_eq]; exact ht
                  have t12 : ((bA t).toList != s.toList) = false := by rw [bA_toL, sl, bne_eq_false_iff_eq]; exact ht
                  go_wp2_with (go_at_call 12; (with_reducible refine (CL.out _).mono ?_); rintro e9 w9 ⟨hrl, hb9⟩; have e9r := rln_yes' hln hrl; subst e9r; have HZ9 := Lib.hid (Blk.later ((zset (j := 2) (HZW.out) hq6b (.int .i64 s9))) hb9); have HB9 := Lib.hid (Below.trans ((belLow6 (HBZ.out) ⟨v1.heap.size, 2, none⟩ (.int .i64 s9) (show zb ≤ v1.heap.size by omega))) (hb9.mono (Nat.le_of_lt (Blk.lt ((zset (j := 2) (HZW.out) hq6b (.int .i64 s9))))))); have y0 := HZ9.out.cell (j := 0) rfl; have y1 := HZ9.out.cell (j := 1) rfl; have y2 := HZ9.out.cell (j := 2) rfl; have y3 := HZ9.out.cell (j := 3) rfl; have yf := HZ9.out.frozen; have HA9 := Lib.hid (Blk.later ((Blk.set (HA.out) 2 (.int .i64 s9))) hb9); clear hb9 hrl)
                  rw [HN.out.1, HN.out.2.1, HN.out.2.2]
                  exact bodyPost_ret (read_fin27 (Blk.set ((Blk.set ((Blk.set ((Blk.set (HZ9.out) 0 (.int .i64 0))) 1 (.string ⟨#[]⟩))) 2 (.int .i64 0))) 3 (.int .i64 0)) _ rfl rfl rfl) rfl ⟨rfl, by rw [HZB.out]; exact (belLow6 ((belLow6 ((belLow6 ((belLow6 (HB9.out) ⟨zb, 0, none⟩ (.int .i64 0) (Nat.le_refl _))) ⟨zb, 1, none⟩ (.string ⟨#[]⟩) (Nat.le_refl _))) ⟨zb, 2, none⟩ (.int .i64 0) (Nat.le_refl _))) ⟨zb, 3, none⟩ (.int .i64 0) (Nat.le_refl _))⟩
                · have HN := Lib.hid (rr_no2 HP.out HRD.out (fun q => by rw [hln] at q; exact ht (Option.some.inj q.1)))
                  have t11 : ((bA t).toList == s.toList) = false := by rw [bA_toL, sl, beq_eq_false_iff_ne]; exact ht
                  have t12 : ((bA t).toList != s.toList) = true := by rw [bA_toL, sl, bne_iff_ne]; exact ht
                  go_wp2_with (go_at_call 12; (with_reducible refine (CL.out _).mono ?_); rintro e9 w9 ⟨hrl, hb9⟩; have e9r := rln_yes' hln hrl; subst e9r; have HZ9 := Lib.hid (Blk.later ((zset (j := 2) (HZW.out) hq6b (.int .i64 s9))) hb9); have HB9 := Lib.hid (Below.trans ((belLow6 (HBZ.out) ⟨v1.heap.size, 2, none⟩ (.int .i64 s9) (show zb ≤ v1.heap.size by omega))) (hb9.mono (Nat.le_of_lt (Blk.lt ((zset (j := 2) (HZW.out) hq6b (.int .i64 s9))))))); have y0 := HZ9.out.cell (j := 0) rfl; have y1 := HZ9.out.cell (j := 1) rfl; have y2 := HZ9.out.cell (j := 2) rfl; have y3 := HZ9.out.cell (j := 3) rfl; have yf := HZ9.out.frozen; have HA9 := Lib.hid (Blk.later ((Blk.set (HA.out) 2 (.int .i64 s9))) hb9); clear hb9 hrl)
                  rw [HN.out.1, HN.out.2.1, HN.out.2.2]
                  exact bodyPost_ret (read_fin27 (Blk.set ((Blk.set ((Blk.set ((Blk.set (HZ9.out) 0 (.int .i64 0))) 1 (.string ⟨#[]⟩))) 2 (.int .i64 0))) 3 (.int .i64 0)) _ rfl rfl rfl) rfl ⟨rfl, by rw [HZB.out]; exact (belLow6 ((belLow6 ((belLow6 ((belLow6 (HB9.out) ⟨zb, 0, none⟩ (.int .i64 0) (Nat.le_refl _))) ⟨zb, 1, none⟩ (.string ⟨#[]⟩) (Nat.le_refl _))) ⟨zb, 2, none⟩ (.int .i64 0) (Nat.le_refl _))) ⟨zb, 3, none⟩ (.int .i64 0) (Nat.le_refl _))⟩
          · by_cases hq7 : kd = 7
            · subst hq7
              have CSg := Lib.hid (fun u => rf_signal27 x2 u)
              rw [hxt2] at CSg
              obtain ⟨s9, hs9⟩ : ∃ k, idxE sgE p2 3 = k := ⟨_, rfl⟩
              rw [hs9] at CSg
              have HRD := Lib.hid (show readR (p0 :: p1 :: p2 :: [p3, p4]) = some (r, ⟨7, ⟨#[]⟩, s9, 0⟩, [p3, p4]) from by rw [HRQ.out]; simp [readK, hs9])
              have CL := Lib.hid (fun u => rf_Line27 7 s9 0 r ⟨#[]⟩ u (by decide) HRI.out (⟨by decide, by decide⟩))
              clear HRQ
              go_upto_region 33 with (first | (go_at_call 32; (with_reducible refine (CN0.out _).mono ?_); rintro e9 w9 ⟨rfl, rfl⟩) | (go_at_call 33; (with_reducible refine (CSg.out _).mono ?_); rintro e9 w9 ⟨rfl, rfl⟩))
              all_goals
                try generalize (if c - 2 = 1 then some (⟨g, 2, none⟩ : Addr) else some ⟨g, 3, none⟩) = ra
                try generalize (if c - 3 = 1 then some (⟨g, 3, none⟩ : Addr) else some ⟨g, 4, none⟩) = ra
                try generalize (if c - 3 = 2 then some (⟨g, 4, none⟩ : Addr) else some ⟨g, 5, none⟩) = ra
                try generalize (if c = 3 then some (⟨g, 0, none⟩ : Addr) else some ⟨g, 3, none⟩) = ra
                cases hln : lineE r ⟨7, ⟨#[]⟩, s9, 0⟩ with
                | none =>
                  have HN := Lib.hid (rr_no2 HP.out HRD.out (fun q => by rw [hln] at q; cases q.1))
                  go_wp2_with (go_at_call 12; (with_reducible refine (CL.out _).mono ?_); rintro e9 w9 ⟨hrl, hb9⟩; obtain ⟨t9, rfl⟩ := rln_no' hln hrl; have HZ9 := Lib.hid (Blk.later ((zset (j := 2) (HZW.out) hq6b (.int .i64 s9))) hb9); have HB9 := Lib.hid (Below.trans ((belLow6 (HBZ.out) ⟨v1.heap.size, 2, none⟩ (.int .i64 s9) (show zb ≤ v1.heap.size by omega))) (hb9.mono (Nat.le_of_lt (Blk.lt ((zset (j := 2) (HZW.out) hq6b (.int .i64 s9))))))); have y0 := HZ9.out.cell (j := 0) rfl; have y1 := HZ9.out.cell (j := 1) rfl; have y2 := HZ9.out.cell (j := 2) rfl; have y3 := HZ9.out.cell (j := 3) rfl; have yf := HZ9.out.frozen; have HA9 := Lib.hid (Blk.later ((Blk.set (HA.out) 2 (.int .i64 s9))) hb9); clear hb9 hrl)
                  rw [HN.out.1, HN.out.2.1, HN.out.2.2]
                  exact bodyPost_ret (read_fin27 (Blk.set ((Blk.set ((Blk.set ((Blk.set (HZ9.out) 0 (.int .i64 0))) 1 (.string ⟨#[]⟩))) 2 (.int .i64 0))) 3 (.int .i64 0)) _ rfl rfl rfl) rfl ⟨rfl, by rw [HZB.out]; exact (belLow6 ((belLow6 ((belLow6 ((belLow6 (HB9.out) ⟨zb, 0, none⟩ (.int .i64 0) (Nat.le_refl _))) ⟨zb, 1, none⟩ (.string ⟨#[]⟩) (Nat.le_refl _))) ⟨zb, 2, none⟩ (.int .i64 0) (Nat.le_refl _))) ⟨zb, 3, none⟩ (.int .i64 0) (Nat.le_refl _))⟩
                | some t =>
                  by_cases ht : t = s.data.toList
                  · have HN := Lib.hid (rr_no2 HP.out HRD.out (fun q => by cases q.2))
                    have t11 : ((bA t).toList == s.toList) = true := by rw [bA_toL, sl, beq_iff_eq]; exact ht
                    have t12 : ((bA t).toList != s.toList) = false := by rw [bA_toL, sl, bne_eq_false_iff_eq]; exact ht
                    go_wp2_with (go_at_call 12; (with_reducible refine (CL.out _).mono ?_); rintro e9 w9 ⟨hrl, hb9⟩; have e9r := rln_yes' hln hrl; subst e9r; have HZ9 := Lib.hid (Blk.later ((zset (j := 2) (HZW.out) hq6b (.int .i64 s9))) hb9); have HB9 := Lib.hid (Below.trans ((belLow6 (HBZ.out) ⟨v1.heap.size, 2, none⟩ (.int .i64 s9) (show zb ≤ v1.heap.size by omega))) (hb9.mono (Nat.le_of_lt (Blk.lt ((zset (j := 2) (HZW.out) hq6b (.int .i64 s9))))))); have y0 := HZ9.out.cell (j := 0) rfl; have y1 := HZ9.out.cell (j := 1) rfl; have y2 := HZ9.out.cell (j := 2) rfl; have y3 := HZ9.out.cell (j := 3) rfl; have yf := HZ9.out.frozen; have HA9 := Lib.hid (Blk.later ((Blk.set (HA.out) 2 (.int .i64 s9))) hb9); clear hb9 hrl)
                    rw [HN.out.1, HN.out.2.1, HN.out.2.2]
                    exact bodyPost_ret (read_fin27 (Blk.set ((Blk.set ((Blk.set ((Blk.set (HZ9.out) 0 (.int .i64 0))) 1 (.string ⟨#[]⟩))) 2 (.int .i64 0))) 3 (.int .i64 0)) _ rfl rfl rfl) rfl ⟨rfl, by rw [HZB.out]; exact (belLow6 ((belLow6 ((belLow6 ((belLow6 (HB9.out) ⟨zb, 0, none⟩ (.int .i64 0) (Nat.le_refl _))) ⟨zb, 1, none⟩ (.string ⟨#[]⟩) (Nat.le_refl _))) ⟨zb, 2, none⟩ (.int .i64 0) (Nat.le_refl _))) ⟨zb, 3, none⟩ (.int .i64 0) (Nat.le_refl _))⟩
                  · have HN := Lib.hid (rr_no2 HP.out HRD.out (fun q => by rw [hln] at q; exact ht (Option.some.inj q.1)))
                    have t11 : ((bA t).toList == s.toList) = false := by rw [bA_toL, sl, beq_eq_false_iff_ne]; exact ht
                    have t12 : ((bA t).toList != s.toList) = true := by rw [bA_toL, sl, bne_iff_ne]; exact ht
                    go_wp2_with (go_at_call 12; (with_reducible refine (CL.out _).mono ?_); rintro e9 w9 ⟨hrl, hb9⟩; have e9r := rln_yes' hln hrl; subst e9r; have HZ9 := Lib.hid (Blk.later ((zset (j := 2) (HZW.out) hq6b (.int .i64 s9))) hb9); have HB9 := Lib.hid (Below.trans ((belLow6 (HBZ.out) ⟨v1.heap.size, 2, none⟩ (.int .i64 s9) (show zb ≤ v1.heap.size by omega))) (hb9.mono (Nat.le_of_lt (Blk.lt ((zset (j := 2) (HZW.out) hq6b (.int .i64 s9))))))); have y0 := HZ9.out.cell (j := 0) rfl; have y1 := HZ9.out.cell (j := 1) rfl; have y2 := HZ9.out.cell (j := 2) rfl; have y3 := HZ9.out.cell (j := 3) rfl; have yf := HZ9.out.frozen; have HA9 := Lib.hid (Blk.later ((Blk.set (HA.out) 2 (.int .i64 s9))) hb9); clear hb9 hrl)
                    rw [HN.out.1, HN.out.2.1, HN.out.2.2]
                    exact bodyPost_ret (read_fin27 (Blk.set ((Blk.set ((Blk.set ((Blk.set (HZ9.out) 0 (.int .i64 0))) 1 (.string ⟨#[]⟩))) 2 (.int .i64 0))) 3 (.int .i64 0)) _ rfl rfl rfl) rfl ⟨rfl, by rw [HZB.out]; exact (belLow6 ((belLow6 ((belLow6 ((belLow6 (HB9.out) ⟨zb, 0, none⟩ (.int .i64 0) (Nat.le_refl _))) ⟨zb, 1, none⟩ (.string ⟨#[]⟩) (Nat.le_refl _))) ⟨zb, 2, none⟩ (.int .i64 0) (Nat.le_refl _))) ⟨zb, 3, none⟩ (.int .i64 0) (Nat.le_refl _))⟩
            · by_cases hq9 : kd = 9
              · subst hq9
                have CNn := Lib.hid (fun u => rf_number27 x3 u (by unfold maxLen; omega))
                rw [hxt3] at CNn
                obtain ⟨n9, hn9⟩ : ∃ k, numQ p3 = k := ⟨_, rfl⟩
                rw [hn9] at CNn
                have HNI := Lib.hid (show InI n9 from by rw [← hn9]; exact numQ_in _)
                have HRD := Lib.hid (show readR (p0 :: p1 :: p2 :: [p3, p4]) = some (r, ⟨9, x2, 0, n9⟩, [p4]) from by rw [HRQ.out]; simp [readK, hx2, hn9])
                have CL := Lib.hid (fun u => rf_Line27 9 0 n9 r x2 u (by unfold maxLen; omega) HRI.out (HNI.out))
                clear HRQ
                go_upto_region 33 with (first | (go_at_call 32; (with_reducible refine (CN0.out _).mono ?_); rintro e9 w9 ⟨rfl, rfl⟩) | (go_at_call 32; (with_reducible refine (CNn.out _).mono ?_); rintro e9 w9 ⟨rfl, rfl⟩))
                all_goals
                  try generalize (if c - 2 = 1 then some (⟨g, 2, none⟩ : Addr) else some ⟨g, 3, none⟩) = ra
                  try generalize (if c - 3 = 1 then some (⟨g, 3, none⟩ : Addr) else some ⟨g, 4, none⟩) = ra
                  try generalize (if c - 3 = 2 then some (⟨g, 4, none⟩ : Addr) else some ⟨g, 5, none⟩) = ra
                  try generalize (if c = 3 then some (⟨g, 0, none⟩ : Addr) else some ⟨g, 3, none⟩) = ra
                  cases hln : lineE r ⟨9, x2, 0, n9⟩ with
                  | none =>
                    have HN := Lib.hid (rr_no2 HP.out HRD.out (fun q => by rw [hln] at q; cases q.1))
                    go_wp2_with (go_at_call 12; (with_reducible refine (CL.out _).mono ?_); rintro e9 w9 ⟨hrl, hb9⟩; obtain ⟨t9, rfl⟩ := rln_no' hln hrl; have HZ9 := Lib.hid (Blk.later ((zset (j := 3) ((zset (j := 1) (HZW.out) hq6b (.string x2))) hq6b (.int .i64 n9))) hb9); have HB9 := Lib.hid (Below.trans ((belLow6 ((belLow6 (HBZ.out) ⟨v1.heap.size, 1, none⟩ (.string x2) (show zb ≤ v1.heap.size by omega))) ⟨v1.heap.size, 3, none⟩ (.int .i64 n9) (show zb ≤ v1.heap.size by omega))) (hb9.mono (Nat.le_of_lt (Blk.lt ((zset (j := 3) ((zset (j := 1) (HZW.out) hq6b (.string x2))) hq6b (.int .i64 n9))))))); have y0 := HZ9.out.cell (j := 0) rfl; have y1 := HZ9.out.cell (j := 1) rfl; have y2 := HZ9.out.cell (j := 2) rfl; have y3 := HZ9.out.cell (j := 3) rfl; have yf := HZ9.out.frozen; have HA9 := Lib.hid (Blk.later ((Blk.set ((Blk.set (HA.out) 1 (.string x2))) 3 (.int .i64 n9))) hb9); clear hb9 hrl)
                    rw [HN.out.1, HN.out.2.1, HN.out.2.2]
                    exact bodyPost_ret (read_fin27 (Blk.set ((Blk.set ((Blk.set ((Blk.set (HZ9.out) 0 (.int .i64 0))) 1 (.string ⟨#[]⟩))) 2 (.int .i64 0))) 3 (.int .i64 0)) _ rfl rfl rfl) rfl ⟨rfl, by rw [HZB.out]; exact (belLow6 ((belLow6 ((belLow6 ((belLow6 (HB9.out) ⟨zb, 0, none⟩ (.int .i64 0) (Nat.le_refl _))) ⟨zb, 1, none⟩ (.string ⟨#[]⟩) (Nat.le_refl _))) ⟨zb, 2, none⟩ (.int .i64 0) (Nat.le_refl _))) ⟨zb, 3, none⟩ (.int .i64 0) (Nat.le_refl _))⟩
                  | some t =>
                    by_cases ht : t = s.data.toList
                    · have HN := Lib.hid (rr_no2 HP.out HRD.out (fun q => by cases q.2))
                      have t11 : ((bA t).toList == s.toList) = true := by rw [bA_toL, sl, beq_iff_eq]; exact ht
                      have t12 : ((bA t).toList != s.toList) = false := by rw [bA_toL, sl, bne_eq_false_iff_eq]; exact ht
                      go_wp2_with (go_at_call 12; (with_reducible refine (CL.out _).mono ?_); rintro e9 w9 ⟨hrl, hb9⟩; have e9r := rln_yes' hln hrl; subst e9r; have HZ9 := Lib.hid (Blk.later ((zset (j := 3) ((zset (j := 1) (HZW.out) hq6b (.string x2))) hq6b (.int .i64 n9))) hb9); have HB9 := Lib.hid (Below.trans ((belLow6 ((belLow6 (HBZ.out) ⟨v1.heap.size, 1, none⟩ (.string x2) (show zb ≤ v1.heap.size by omega))) ⟨v1.heap.size, 3, none⟩ (.int .i64 n9) (show zb ≤ v1.heap.size by omega))) (hb9.mono (Nat.le_of_lt (Blk.lt ((zset (j := 3) ((zset (j := 1) (HZW.out) hq6b (.string x2))) hq6b (.int .i64 n9))))))); have y0 := HZ9.out.cell (j := 0) rfl; have y1 := HZ9.out.cell (j := 1) rfl; have y2 := HZ9.out.cell (j := 2) rfl; have y3 := HZ9.out.cell (j := 3) rfl; have yf := HZ9.out.frozen; have HA9 := Lib.hid (Blk.later ((Blk.set ((Blk.set (HA.out) 1 (.string x2))) 3 (.int .i64 n9))) hb9); clear hb9 hrl)
                      rw [HN.out.1, HN.out.2.1, HN.out.2.2]
                      exact bodyPost_ret (read_fin27 (Blk.set ((Blk.set ((Blk.set ((Blk.set (HZ9.out) 0 (.int .i64 0))) 1 (.string ⟨#[]⟩))) 2 (.int .i64 0))) 3 (.int .i64 0)) _ rfl rfl rfl) rfl ⟨rfl, by rw [HZB.out]; exact (belLow6 ((belLow6 ((belLow6 ((belLow6 (HB9.out) ⟨zb, 0, none⟩ (.int .i64 0) (Nat.le_refl _))) ⟨zb, 1, none⟩ (.string ⟨#[]⟩) (Nat.le_refl _))) ⟨zb, 2, none⟩ (.int .i64 0) (Nat.le_refl _))) ⟨zb, 3, none⟩ (.int .i64 0) (Nat.le_refl _))⟩
                    · have HN := Lib.hid (rr_no2 HP.out HRD.out (fun q => by rw [hln] at q; exact ht (Option.some.inj q.1)))
                      have t11 : ((bA t).toList == s.toList) = false := by rw [bA_toL, sl, beq_eq_false_iff_ne]; exact ht
                      have t12 : ((bA t).toList != s.toList) = true := by rw [bA_toL, sl, bne_iff_ne]; exact ht
                      go_wp2_with (go_at_call 12; (with_reducible refine (CL.out _).mono ?_); rintro e9 w9 ⟨hrl, hb9⟩; have e9r := rln_yes' hln hrl; subst e9r; have HZ9 := Lib.hid (Blk.later ((zset (j := 3) ((zset (j := 1) (HZW.out) hq6b (.string x2))) hq6b (.int .i64 n9))) hb9); have HB9 := Lib.hid (Below.trans ((belLow6 ((belLow6 (HBZ.out) ⟨v1.heap.size, 1, none⟩ (.string x2) (show zb ≤ v1.heap.size by omega))) ⟨v1.heap.size, 3, none⟩ (.int .i64 n9) (show zb ≤ v1.heap.size by omega))) (hb9.mono (Nat.le_of_lt (Blk.lt ((zset (j := 3) ((zset (j := 1) (HZW.out) hq6b (.string x2))) hq6b (.int .i64 n9))))))); have y0 := HZ9.out.cell (j := 0) rfl; have y1 := HZ9.out.cell (j := 1) rfl; have y2 := HZ9.out.cell (j := 2) rfl; have y3 := HZ9.out.cell (j := 3) rfl; have yf := HZ9.out.frozen; have HA9 := Lib.hid (Blk.later ((Blk.set ((Blk.set (HA.out) 1 (.string x2))) 3 (.int .i64 n9))) hb9); clear hb9 hrl)
                      rw [HN.out.1, HN.out.2.1, HN.out.2.2]
                      exact bodyPost_ret (read_fin27 (Blk.set ((Blk.set ((Blk.set ((Blk.set (HZ9.out) 0 (.int .i64 0))) 1 (.string ⟨#[]⟩))) 2 (.int .i64 0))) 3 (.int .i64 0)) _ rfl rfl rfl) rfl ⟨rfl, by rw [HZB.out]; exact (belLow6 ((belLow6 ((belLow6 ((belLow6 (HB9.out) ⟨zb, 0, none⟩ (.int .i64 0) (Nat.le_refl _))) ⟨zb, 1, none⟩ (.string ⟨#[]⟩) (Nat.le_refl _))) ⟨zb, 2, none⟩ (.int .i64 0) (Nat.le_refl _))) ⟨zb, 3, none⟩ (.int .i64 0) (Nat.le_refl _))⟩
              · by_cases hq14 : kd = 14
                · subst hq14
                  have CNn := Lib.hid (fun u => rf_number27 x3 u (by unfold maxLen; omega))
                  rw [hxt3] at CNn
                  obtain ⟨n9, hn9⟩ : ∃ k, numQ p3 = k := ⟨_, rfl⟩
                  rw [hn9] at CNn
                  have HNI := Lib.hid (show InI n9 from by rw [← hn9]; exact numQ_in _)
                  have HRD := Lib.hid (show readR (p0 :: p1 :: p2 :: [p3, p4]) = some (r, ⟨14, x2, 0, n9⟩, [p4]) from by rw [HRQ.out]; simp [readK, hx2, hn9])
                  have CL := Lib.hid (fun u => rf_Line27 14 0 n9 r x2 u (by unfold maxLen; omega) HRI.out (HNI.out))
                  clear HRQ
                  go_upto_region 33 with (first | (go_at_call 32; (with_reducible refine (CN0.out _).mono ?_); rintro e9 w9 ⟨rfl, rfl⟩) | (go_at_call 32; (with_reducible refine (CNn.out _).mono ?_); rintro e9 w9 ⟨rfl, rfl⟩))
                  all_goals
                    try generalize (if c - 2 = 1 then some (⟨g, 2, none⟩ : Addr) else some ⟨g, 3, none⟩) = ra
                    try generalize (if c - 3 = 1 then some (⟨g, 3, none⟩ : Addr) else some ⟨g, 4, none⟩) = ra
                    try generalize (if c - 3 = 2 then some (⟨g, 4, none⟩ : Addr) else some ⟨g, 5, none⟩) = ra
                    try generalize (if c = 3 then some (⟨g, 0, none⟩ : Addr) else some ⟨g, 3, none⟩) = ra
                    cases hln : lineE r ⟨14, x2, 0, n9⟩ with
                    | none =>
                      have HN := Lib.hid (rr_no2 HP.out HRD.out (fun q => by rw [hln] at q; cases q.1))
                      go_wp2_with (go_at_call 12; (with_reducible refine (CL.out _).mono ?_); rintro e9 w9 ⟨hrl, hb9⟩; obtain ⟨t9, rfl⟩ := rln_no' hln hrl; have HZ9 := Lib.hid (Blk.later ((zset (j := 3) ((zset (j := 1) (HZW.out) hq6b (.string x2))) hq6b (.int .i64 n9))) hb9); have HB9 := Lib.hid (Below.trans ((belLow6 ((belLow6 (HBZ.out) ⟨v1.heap.size, 1, none⟩ (.string x2) (show zb ≤ v1.heap.size by omega))) ⟨v1.heap.size, 3, none⟩ (.int .i64 n9) (show zb ≤ v1.heap.size by omega))) (hb9.mono (Nat.le_of_lt (Blk.lt ((zset (j := 3) ((zset (j := 1) (HZW.out) hq6b (.string x2))) hq6b (.int .i64 n9))))))); have y0 := HZ9.out.cell (j := 0) rfl; have y1 := HZ9.out.cell (j := 1) rfl; have y2 := HZ9.out.cell (j := 2) rfl; have y3 := HZ9.out.cell (j := 3) rfl; have yf := HZ9.out.frozen; have HA9 := Lib.hid (Blk.later ((Blk.set ((Blk.set (HA.out) 1 (.string x2))) 3 (.int .i64 n9))) hb9); clear hb9 hrl)
                      rw [HN.out.1, HN.out.2.1, HN.out.2.2]
                      exact bodyPost_ret (read_fin27 (Blk.set ((Blk.set ((Blk.set ((Blk.set (HZ9.out) 0 (.int .i64 0))) 1 (.string ⟨#[]⟩))) 2 (.int .i64 0))) 3 (.int .i64 0)) _ rfl rfl rfl) rfl ⟨rfl, by rw [HZB.out]; exact (belLow6 ((belLow6 ((belLow6 ((belLow6 (HB9.out) ⟨zb, 0, none⟩ (.int .i64 0) (Nat.le_refl _))) ⟨zb, 1, none⟩ (.string ⟨#[]⟩) (Nat.le_refl _))) ⟨zb, 2, none⟩ (.int .i64 0) (Nat.le_refl _))) ⟨zb, 3, none⟩ (.int .i64 0) (Nat.le_refl _))⟩
                    | some t =>
                      by_cases ht : t = s.data.toList
                      · have HN := Lib.hid (rr_no2 HP.out HRD.out (fun q => by cases q.2))
                        have t11 : ((bA t).toList == s.toList) = true := by rw [bA_toL, sl, beq_iff_eq]; exact ht
                        have t12 : ((bA t).toList != s.toList) = false := by rw [bA_toL, sl, bne_eq_false_iff_eq]; exact ht
                        go_wp2_with (go_at_call 12; (with_reducible refine (CL.out _).mono ?_); rintro e9 w9 ⟨hrl, hb9⟩; have e9r := rln_yes' hln hrl; subst e9r; have HZ9 := Lib.hid (Blk.later ((zset (j := 3) ((zset (j := 1) (HZW.out) hq6b (.string x2))) hq6b (.int .i64 n9))) hb9); have HB9 := Lib.hid (Below.trans ((belLow6 ((belLow6 (HBZ.out) ⟨v1.heap.size, 1, none⟩ (.string x2) (show zb ≤ v1.heap.size by omega))) ⟨v1.heap.size, 3, none⟩ (.int .i64 n9) (show zb ≤ v1.heap.size by omega))) (hb9.mono (Nat.le_of_lt (Blk.lt ((zset (j := 3) ((zset (j := 1) (HZW.out) hq6b (.string x2))) hq6b (.int .i64 n9))))))); have y0 := HZ9.out.cell (j := 0) rfl; have y1 := HZ9.out.cell (j := 1) rfl; have y2 := HZ9.out.cell (j := 2) rfl; have y3 := HZ9.out.cell (j := 3) rfl; have yf := HZ9.out.frozen; have HA9 := Lib.hid (Blk.later ((Blk.set ((Blk.set (HA.out) 1 (.string x2))) 3 (.int .i64 n9))) hb9); clear hb9 hrl)
                        rw [HN.out.1, HN.out.2.1, HN.out.2.2]
                        exact bodyPost_ret (read_fin27 (Blk.set ((Blk.set ((Blk.set ((Blk.set (HZ9.out) 0 (.int .i64 0))) 1 (.string ⟨#[]⟩))) 2 (.int .i64 0))) 3 (.int .i64 0)) _ rfl rfl rfl) rfl ⟨rfl, by rw [HZB.out]; exact (belLow6 ((belLow6 ((belLow6 ((belLow6 (HB9.out) ⟨zb, 0, none⟩ (.int .i64 0) (Nat.le_refl _))) ⟨zb, 1, none⟩ (.string ⟨#[]⟩) (Nat.le_refl _))) ⟨zb, 2, none⟩ (.int .i64 0) (Nat.le_refl _))) ⟨zb, 3, none⟩ (.int .i64 0) (Nat.le_refl _))⟩
                      · have HN := Lib.hid (rr_no2 HP.out HRD.out (fun q => by rw [hln] at q; exact ht (Option.some.inj q.1)))
                        have t11 : ((bA t).toList == s.toList) = false := by rw [bA_toL, sl, beq_eq_false_iff_ne]; exact ht
                        have t12 : ((bA t).toList != s.toList) = true := by rw [bA_toL, sl, bne_iff_ne]; exact ht
                        go_wp2_with (go_at_call 12; (with_reducible refine (CL.out _).mono ?_); rintro e9 w9 ⟨hrl, hb9⟩; have e9r := rln_yes' hln hrl; subst e9r; have HZ9 := Lib.hid (Blk.later ((zset (j := 3) ((zset (j := 1) (HZW.out) hq6b (.string x2))) hq6b (.int .i64 n9))) hb9); have HB9 := Lib.hid (Below.trans ((belLow6 ((belLow6 (HBZ.out) ⟨v1.heap.size, 1, none⟩ (.string x2) (show zb ≤ v1.heap.size by omega))) ⟨v1.heap.size, 3, none⟩ (.int .i64 n9) (show zb ≤ v1.heap.size by omega))) (hb9.mono (Nat.le_of_lt (Blk.lt ((zset (j := 3) ((zset (j := 1) (HZW.out) hq6b (.string x2))) hq6b (.int .i64 n9))))))); have y0 := HZ9.out.cell (j := 0) rfl; have y1 := HZ9.out.cell (j := 1) rfl; have y2 := HZ9.out.cell (j := 2) rfl; have y3 := HZ9.out.cell (j := 3) rfl; have yf := HZ9.out.frozen; have HA9 := Lib.hid (Blk.later ((Blk.set ((Blk.set (HA.out) 1 (.string x2))) 3 (.int .i64 n9))) hb9); clear hb9 hrl)
                        rw [HN.out.1, HN.out.2.1, HN.out.2.2]
                        exact bodyPost_ret (read_fin27 (Blk.set ((Blk.set ((Blk.set ((Blk.set (HZ9.out) 0 (.int .i64 0))) 1 (.string ⟨#[]⟩))) 2 (.int .i64 0))) 3 (.int .i64 0)) _ rfl rfl rfl) rfl ⟨rfl, by rw [HZB.out]; exact (belLow6 ((belLow6 ((belLow6 ((belLow6 (HB9.out) ⟨zb, 0, none⟩ (.int .i64 0) (Nat.le_refl _))) ⟨zb, 1, none⟩ (.string ⟨#[]⟩) (Nat.le_refl _))) ⟨zb, 2, none⟩ (.int .i64 0) (Nat.le_refl _))) ⟨zb, 3, none⟩ (.int .i64 0) (Nat.le_refl _))⟩
                · by_cases hq16 : kd = 16
                  · subst hq16
                    have CNn := Lib.hid (fun u => rf_number27 x2 u (by unfold maxLen; omega))
                    rw [hxt2] at CNn
                    obtain ⟨n9, hn9⟩ : ∃ k, numQ p2 = k := ⟨_, rfl⟩
                    rw [hn9] at CNn
                    have HNI := Lib.hid (show InI n9 from by rw [← hn9]; exact numQ_in _)
                    have HRD := Lib.hid (show readR (p0 :: p1 :: p2 :: [p3, p4]) = some (r, ⟨16, ⟨#[]⟩, 0, n9⟩, [p3, p4]) from by rw [HRQ.out]; simp [readK, hn9])
                    have CL := Lib.hid (fun u => rf_Line27 16 0 n9 r ⟨#[]⟩ u (by decide) HRI.out (HNI.out))
                    clear HRQ
                    go_upto_region 33 with (first | (go_at_call 32; (with_reducible refine (CN0.out _).mono ?_); rintro e9 w9 ⟨rfl, rfl⟩) | (go_at_call 32; (with_reducible refine (CNn.out _).mono ?_); rintro e9 w9 ⟨rfl, rfl⟩))
                    all_goals
                      try generalize (if c - 2 = 1 then some (⟨g, 2, none⟩ : Addr) else some ⟨g, 3, none⟩) = ra
                      try generalize (if c - 3 = 1 then some (⟨g, 3, none⟩ : Addr) else some ⟨g, 4, none⟩) = ra
                      try generalize (if c - 3 = 2 then some (⟨g, 4, none⟩ : Addr) else some ⟨g, 5, none⟩) = ra
                      try generalize (if c = 3 then some (⟨g, 0, none⟩ : Addr) else some ⟨g, 3, none⟩) = ra
                      cases hln : lineE r ⟨16, ⟨#[]⟩, 0, n9⟩ with
                      | none =>
                        have HN := Lib.hid (rr_no2 HP.out HRD.out (fun q => by rw [hln] at q; cases q.1))
                        go_wp2_with (go_at_call 12; (with_reducible refine (CL.out _).mono ?_); rintro e9 w9 ⟨hrl, hb9⟩; obtain ⟨t9, rfl⟩ := rln_no' hln hrl; have HZ9 := Lib.hid (Blk.later ((zset (j := 3) (HZW.out) hq6b (.int .i64 n9))) hb9); have HB9 := Lib.hid (Below.trans ((belLow6 (HBZ.out) ⟨v1.heap.size, 3, none⟩ (.int .i64 n9) (show zb ≤ v1.heap.size by omega))) (hb9.mono (Nat.le_of_lt (Blk.lt ((zset (j := 3) (HZW.out) hq6b (.int .i64 n9))))))); have y0 := HZ9.out.cell (j := 0) rfl; have y1 := HZ9.out.cell (j := 1) rfl; have y2 := HZ9.out.cell (j := 2) rfl; have y3 := HZ9.out.cell (j := 3) rfl; have yf := HZ9.out.frozen; have HA9 := Lib.hid (Blk.later ((Blk.set (HA.out) 3 (.int .i64 n9))) hb9); clear hb9 hrl)
                        rw [HN.out.1, HN.out.2.1, HN.out.2.2]
                        exact bodyPost_ret (read_fin27 (Blk.set ((Blk.set ((Blk.set ((Blk.set (HZ9.out) 0 (.int .i64 0))) 1 (.string ⟨#[]⟩))) 2 (.int .i64 0))) 3 (.int .i64 0)) _ rfl rfl rfl) rfl ⟨rfl, by rw [HZB.out]; exact (belLow6 ((belLow6 ((belLow6 ((belLow6 (HB9.out) ⟨zb, 0, none⟩ (.int .i64 0) (Nat.le_refl _))) ⟨zb, 1, none⟩ (.string ⟨#[]⟩) (Nat.le_refl _))) ⟨zb, 2, none⟩ (.int .i64 0) (Nat.le_refl _))) ⟨zb, 3, none⟩ (.int .i64 0) (Nat.le_refl _))⟩
                      | some t =>
                        by_cases ht : t = s.data.toList
                        · have HN := Lib.hid (rr_no2 HP.out HRD.out (fun q => by cases q.2))
                          have t11 : ((bA t).toList == s.toList) = true := by rw [bA_toL, sl, beq_iff_eq]; exact ht
                          have t12 : ((bA t).toList != s.toList) = false := by rw [bA_toL, sl, bne_eq_false_iff_eq]; exact ht
                          go_wp2_with (go_at_call 12; (with_reducible refine (CL.out _).mono ?_); rintro e9 w9 ⟨hrl, hb9⟩; have e9r := rln_yes' hln hrl; subst e9r; have HZ9 := Lib.hid (Blk.later ((zset (j := 3) (HZW.out) hq6b (.int .i64 n9))) hb9); have HB9 := Lib.hid (Below.trans ((belLow6 (HBZ.out) ⟨v1.heap.size, 3, none⟩ (.int .i64 n9) (show zb ≤ v1.heap.size by omega))) (hb9.mono (Nat.le_of_lt (Blk.lt ((zset (j := 3) (HZW.out) hq6b (.int .i64 n9))))))); have y0 := HZ9.out.cell (j := 0) rfl; have y1 := HZ9.out.cell (j := 1) rfl; have y2 := HZ9.out.cell (j := 2) rfl; have y3 := HZ9.out.cell (j := 3) rfl; have yf := HZ9.out.frozen; have HA9 := Lib.hid (Blk.later ((Blk.set (HA.out) 3 (.int .i64 n9))) hb9); clear hb9 hrl)
                          rw [HN.out.1, HN.out.2.1, HN.out.2.2]
                          exact bodyPost_ret (read_fin27 (Blk.set ((Blk.set ((Blk.set ((Blk.set (HZ9.out) 0 (.int .i64 0))) 1 (.string ⟨#[]⟩))) 2 (.int .i64 0))) 3 (.int .i64 0)) _ rfl rfl rfl) rfl ⟨rfl, by rw [HZB.out]; exact (belLow6 ((belLow6 ((belLow6 ((belLow6 (HB9.out) ⟨zb, 0, none⟩ (.int .i64 0) (Nat.le_refl _))) ⟨zb, 1, none⟩ (.string ⟨#[]⟩) (Nat.le_refl _))) ⟨zb, 2, none⟩ (.int .i64 0) (Nat.le_refl _))) ⟨zb, 3, none⟩ (.int .i64 0) (Nat.le_refl _))⟩
                        · have HN := Lib.hid (rr_no2 HP.out HRD.out (fun q => by rw [hln] at q; exact ht (Option.some.inj q.1)))
                          have t11 : ((bA t).toList == s.toList) = false := by rw [bA_toL, sl, beq_eq_false_iff_ne]; exact ht
                          have t12 : ((bA t).toList != s.toList) = true := by rw [bA_toL, sl, bne_iff_ne]; exact ht
                          go_wp2_with (go_at_call 12; (with_reducible refine (CL.out _).mono ?_); rintro e9 w9 ⟨hrl, hb9⟩; have e9r := rln_yes' hln hrl; subst e9r; have HZ9 := Lib.hid (Blk.later ((zset (j := 3) (HZW.out) hq6b (.int .i64 n9))) hb9); have HB9 := Lib.hid (Below.trans ((belLow6 (HBZ.out) ⟨v1.heap.size, 3, none⟩ (.int .i64 n9) (show zb ≤ v1.heap.size by omega))) (hb9.mono (Nat.le_of_lt (Blk.lt ((zset (j := 3) (HZW.out) hq6b (.int .i64 n9))))))); have y0 := HZ9.out.cell (j := 0) rfl; have y1 := HZ9.out.cell (j := 1) rfl; have y2 := HZ9.out.cell (j := 2) rfl; have y3 := HZ9.out.cell (j := 3) rfl; have yf := HZ9.out.frozen; have HA9 := Lib.hid (Blk.later ((Blk.set (HA.out) 3 (.int .i64 n9))) hb9); clear hb9 hrl)
                          rw [HN.out.1, HN.out.2.1, HN.out.2.2]
                          exact bodyPost_ret (read_fin27 (Blk.set ((Blk.set ((Blk.set ((Blk.set (HZ9.out) 0 (.int .i64 0))) 1 (.string ⟨#[]⟩))) 2 (.int .i64 0))) 3 (.int .i64 0)) _ rfl rfl rfl) rfl ⟨rfl, by rw [HZB.out]; exact (belLow6 ((belLow6 ((belLow6 ((belLow6 (HB9.out) ⟨zb, 0, none⟩ (.int .i64 0) (Nat.le_refl _))) ⟨zb, 1, none⟩ (.string ⟨#[]⟩) (Nat.le_refl _))) ⟨zb, 2, none⟩ (.int .i64 0) (Nat.le_refl _))) ⟨zb, 3, none⟩ (.int .i64 0) (Nat.le_refl _))⟩
                  · have v3 : (kd == 3) = false := beq_eq_false_iff_ne.2 hq3
                    have vn3 : (kd != 3) = true := bne_iff_ne.2 hq3
                    have v5 : (kd == 5) = false := beq_eq_false_iff_ne.2 hq5
                    have vn5 : (kd != 5) = true := bne_iff_ne.2 hq5
                    have v6 : (kd == 6) = false := beq_eq_false_iff_ne.2 hq6
                    have vn6 : (kd != 6) = true := bne_iff_ne.2 hq6
                    have v7 : (kd == 7) = false := beq_eq_false_iff_ne.2 hq7
                    have vn7 : (kd != 7) = true := bne_iff_ne.2 hq7
                    have v9 : (kd == 9) = false := beq_eq_false_iff_ne.2 hq9
                    have vn9 : (kd != 9) = true := bne_iff_ne.2 hq9
                    have v14 : (kd == 14) = false := beq_eq_false_iff_ne.2 hq14
                    have vn14 : (kd != 14) = true := bne_iff_ne.2 hq14
                    have v16 : (kd == 16) = false := beq_eq_false_iff_ne.2 hq16
                    have vn16 : (kd != 16) = true := bne_iff_ne.2 hq16
                    by_cases hlo : 5 ≤ kd
                    · have t31 : decide ((5 : Int) ≤ kd) = true := decide_eq_true hlo
                      have t32 : decide (kd ≤ (7 : Int)) = false := decide_eq_false (by omega)
                      have h7 : ¬ kd ≤ 7 := by omega
                      have HRD := Lib.hid (show readR (p0 :: p1 :: p2 :: [p3, p4]) = some (r, ⟨kd, x2, 0, 0⟩, [p3, p4]) from by rw [HRQ.out]; simp [readK, hq3, hq5, hq6, hq7, hq9, hq14, hq16, hx2, h7])
                      have CL := Lib.hid (fun u => rf_Line27 kd 0 0 r x2 u (by unfold maxLen; omega) HRI.out (⟨by decide, by decide⟩))
                      clear HRQ
                      go_upto_region 33 with (first | (go_at_call 32; (with_reducible refine (CN0.out _).mono ?_); rintro e9 w9 ⟨rfl, rfl⟩))
                      all_goals
                        try generalize (if c - 2 = 1 then some (⟨g, 2, none⟩ : Addr) else some ⟨g, 3, none⟩) = ra
                        try generalize (if c - 3 = 1 then some (⟨g, 3, none⟩ : Addr) else some ⟨g, 4, none⟩) = ra
                        try generalize (if c - 3 = 2 then some (⟨g, 4, none⟩ : Addr) else some ⟨g, 5, none⟩) = ra
                        try generalize (if c = 3 then some (⟨g, 0, none⟩ : Addr) else some ⟨g, 3, none⟩) = ra
                        cases hln : lineE r ⟨kd, x2, 0, 0⟩ with
                        | none =>
                          have HN := Lib.hid (rr_no2 HP.out HRD.out (fun q => by rw [hln] at q; cases q.1))
                          go_wp2_with (go_at_call 12; (with_reducible refine (CL.out _).mono ?_); rintro e9 w9 ⟨hrl, hb9⟩; obtain ⟨t9, rfl⟩ := rln_no' hln hrl; have HZ9 := Lib.hid (Blk.later ((zset (j := 1) (HZW.out) hq6b (.string x2))) hb9); have HB9 := Lib.hid (Below.trans ((belLow6 (HBZ.out) ⟨v1.heap.size, 1, none⟩ (.string x2) (show zb ≤ v1.heap.size by omega))) (hb9.mono (Nat.le_of_lt (Blk.lt ((zset (j := 1) (HZW.out) hq6b (.string x2))))))); have y0 := HZ9.out.cell (j := 0) rfl; have y1 := HZ9.out.cell (j := 1) rfl; have y2 := HZ9.out.cell (j := 2) rfl; have y3 := HZ9.out.cell (j := 3) rfl; have yf := HZ9.out.frozen; have HA9 := Lib.hid (Blk.later ((Blk.set (HA.out) 1 (.string x2))) hb9); clear hb9 hrl)
                          rw [HN.out.1, HN.out.2.1, HN.out.2.2]
                          exact bodyPost_ret (read_fin27 (Blk.set ((Blk.set ((Blk.set ((Blk.set (HZ9.out) 0 (.int .i64 0))) 1 (.string ⟨#[]⟩))) 2 (.int .i64 0))) 3 (.int .i64 0)) _ rfl rfl rfl) rfl ⟨rfl, by rw [HZB.out]; exact (belLow6 ((belLow6 ((belLow6 ((belLow6 (HB9.out) ⟨zb, 0, none⟩ (.int .i64 0) (Nat.le_refl _))) ⟨zb, 1, none⟩ (.string ⟨#[]⟩) (Nat.le_refl _))) ⟨zb, 2, none⟩ (.int .i64 0) (Nat.le_refl _))) ⟨zb, 3, none⟩ (.int .i64 0) (Nat.le_refl _))⟩
                        | some t =>
                          by_cases ht : t = s.data.toList
                          · have HN := Lib.hid (rr_no2 HP.out HRD.out (fun q => by cases q.2))
                            have t11 : ((bA t).toList == s.toList) = true := by rw [bA_toL, sl, beq_iff_eq]; exact ht
                            have t12 : ((bA t).toList != s.toList) = false := by rw [bA_toL, sl, bne_eq_false_iff_eq]; exact ht
                            go_wp2_with (go_at_call 12; (with_reducible refine (CL.out _).mono ?_); rintro e9 w9 ⟨hrl, hb9⟩; have e9r := rln_yes' hln hrl; subst e9r; have HZ9 := Lib.hid (Blk.later ((zset (j := 1) (HZW.out) hq6b (.string x2))) hb9); have HB9 := Lib.hid (Below.trans ((belLow6 (HBZ.out) ⟨v1.heap.size, 1, none⟩ (.string x2) (show zb ≤ v1.heap.size by omega))) (hb9.mono (Nat.le_of_lt (Blk.lt ((zset (j := 1) (HZW.out) hq6b (.string x2))))))); have y0 := HZ9.out.cell (j := 0) rfl; have y1 := HZ9.out.cell (j := 1) rfl; have y2 := HZ9.out.cell (j := 2) rfl; have y3 := HZ9.out.cell (j := 3) rfl; have yf := HZ9.out.frozen; have HA9 := Lib.hid (Blk.later ((Blk.set (HA.out) 1 (.string x2))) hb9); clear hb9 hrl)
                            rw [HN.out.1, HN.out.2.1, HN.out.2.2]
                            exact bodyPost_ret (read_fin27 (Blk.set ((Blk.set ((Blk.set ((Blk.set (HZ9.out) 0 (.int .i64 0))) 1 (.string ⟨#[]⟩))) 2 (.int .i64 0))) 3 (.int .i64 0)) _ rfl rfl rfl) rfl ⟨rfl, by rw [HZB.out]; exact (belLow6 ((belLow6 ((belLow6 ((belLow6 (HB9.out) ⟨zb, 0, none⟩ (.int .i64 0) (Nat.le_refl _))) ⟨zb, 1, none⟩ (.string ⟨#[]⟩) (Nat.le_refl _))) ⟨zb, 2, none⟩ (.int .i64 0) (Nat.le_refl _))) ⟨zb, 3, none⟩ (.int .i64 0) (Nat.le_refl _))⟩
                          · have HN := Lib.hid (rr_no2 HP.out HRD.out (fun q => by rw [hln] at q; exact ht (Option.some.inj q.1)))
                            have t11 : ((bA t).toList == s.toList) = false := by rw [bA_toL, sl, beq_eq_false_iff_ne]; exact ht
                            have t12 : ((bA t).toList != s.toList) = true := by rw [bA_toL, sl, bne_iff_ne]; exact ht
                            go_wp2_with (go_at_call 12; (with_reducible refine (CL.out _).mono ?_); rintro e9 w9 ⟨hrl, hb9⟩; have e9r := rln_yes' hln hrl; subst e9r; have HZ9 := Lib.hid (Blk.later ((zset (j := 1) (HZW.out) hq6b (.string x2))) hb9); have HB9 := Lib.hid (Below.trans ((belLow6 (HBZ.out) ⟨v1.heap.size, 1, none⟩ (.string x2) (show zb ≤ v1.heap.size by omega))) (hb9.mono (Nat.le_of_lt (Blk.lt ((zset (j := 1) (HZW.out) hq6b (.string x2))))))); have y0 := HZ9.out.cell (j := 0) rfl; have y1 := HZ9.out.cell (j := 1) rfl; have y2 := HZ9.out.cell (j := 2) rfl; have y3 := HZ9.out.cell (j := 3) rfl; have yf := HZ9.out.frozen; have HA9 := Lib.hid (Blk.later ((Blk.set (HA.out) 1 (.string x2))) hb9); clear hb9 hrl)
                            rw [HN.out.1, HN.out.2.1, HN.out.2.2]
                            exact bodyPost_ret (read_fin27 (Blk.set ((Blk.set ((Blk.set ((Blk.set (HZ9.out) 0 (.int .i64 0))) 1 (.string ⟨#[]⟩))) 2 (.int .i64 0))) 3 (.int .i64 0)) _ rfl rfl rfl) rfl ⟨rfl, by rw [HZB.out]; exact (belLow6 ((belLow6 ((belLow6 ((belLow6 (HB9.out) ⟨zb, 0, none⟩ (.int .i64 0) (Nat.le_refl _))) ⟨zb, 1, none⟩ (.string ⟨#[]⟩) (Nat.le_refl _))) ⟨zb, 2, none⟩ (.int .i64 0) (Nat.le_refl _))) ⟨zb, 3, none⟩ (.int .i64 0) (Nat.le_refl _))⟩
                    · have t31 : decide ((5 : Int) ≤ kd) = false := decide_eq_false hlo
                      have HRD := Lib.hid (show readR (p0 :: p1 :: p2 :: [p3, p4]) = some (r, ⟨kd, x2, 0, 0⟩, [p3, p4]) from by rw [HRQ.out]; simp [readK, hq3, hq5, hq6, hq7, hq9, hq14, hq16, hx2, hlo])
                      have CL := Lib.hid (fun u => rf_Line27 kd 0 0 r x2 u (by unfold maxLen; omega) HRI.out (⟨by decide, by decide⟩))
                      clear HRQ
                      go_upto_region 33 with (first | (go_at_call 32; (with_reducible refine (CN0.out _).mono ?_); rintro e9 w9 ⟨rfl, rfl⟩))
                      all_goals
                        try generalize (if c - 2 = 1 then some (⟨g, 2, none⟩ : Addr) else some ⟨g, 3, none⟩) = ra
                        try generalize (if c - 3 = 1 then some (⟨g, 3, none⟩ : Addr) else some ⟨g, 4, none⟩) = ra
                        try generalize (if c - 3 = 2 then some (⟨g, 4, none⟩ : Addr) else some ⟨g, 5, none⟩) = ra
                        try generalize (if c = 3 then some (⟨g, 0, none⟩ : Addr) else some ⟨g, 3, none⟩) = ra
                        cases hln : lineE r ⟨kd, x2, 0, 0⟩ with
                        | none =>
                          have HN := Lib.hid (rr_no2 HP.out HRD.out (fun q => by rw [hln] at q; cases q.1))
                          go_wp2_with (go_at_call 12; (with_reducible refine (CL.out _).mono ?_); rintro e9 w9 ⟨hrl, hb9⟩; obtain ⟨t9, rfl⟩ := rln_no' hln hrl; have HZ9 := Lib.hid (Blk.later ((zset (j := 1) (HZW.out) hq6b (.string x2))) hb9); have HB9 := Lib.hid (Below.trans ((belLow6 (HBZ.out) ⟨v1.heap.size, 1, none⟩ (.string x2) (show zb ≤ v1.heap.size by omega))) (hb9.mono (Nat.le_of_lt (Blk.lt ((zset (j := 1) (HZW.out) hq6b (.string x2))))))); have y0 := HZ9.out.cell (j := 0) rfl; have y1 := HZ9.out.cell (j := 1) rfl; have y2 := HZ9.out.cell (j := 2) rfl; have y3 := HZ9.out.cell (j := 3) rfl; have yf := HZ9.out.frozen; have HA9 := Lib.hid (Blk.later ((Blk.set (HA.out) 1 (.string x2))) hb9); clear hb9 hrl)
                          rw [HN.out.1, HN.out.2.1, HN.out.2.2]
                          exact bodyPost_ret (read_fin27 (Blk.set ((Blk.set ((Blk.set ((Blk.set (HZ9.out) 0 (.int .i64 0))) 1 (.string ⟨#[]⟩))) 2 (.int .i64 0))) 3 (.int .i64 0)) _ rfl rfl rfl) rfl ⟨rfl, by rw [HZB.out]; exact (belLow6 ((belLow6 ((belLow6 ((belLow6 (HB9.out) ⟨zb, 0, none⟩ (.int .i64 0) (Nat.le_refl _))) ⟨zb, 1, none⟩ (.string ⟨#[]⟩) (Nat.le_refl _))) ⟨zb, 2, none⟩ (.int .i64 0) (Nat.le_refl _))) ⟨zb, 3, none⟩ (.int .i64 0) (Nat.le_refl _))⟩
                        | some t =>
                          by_cases ht : t = s.data.toList
                          · have HN := Lib.hid (rr_no2 HP.out HRD.out (fun q => by cases q.2))
                            have t11 : ((bA t).toList == s.toList) = true := by rw [bA_toL, sl, beq_iff_eq]; exact ht
                            have t12 : ((bA t).toList != s.toList) = false := by rw [bA_toL, sl, bne_eq_false_iff_eq]; exact ht
                            go_wp2_with (go_at_call 12; (with_reducible refine (CL.out _).mono ?_); rintro e9 w9 ⟨hrl, hb9⟩; have e9r := rln_yes' hln hrl; subst e9r; have HZ9 := Lib.hid (Blk.later ((zset (j := 1) (HZW.out) hq6b (.string x2))) hb9); have HB9 := Lib.hid (Below.trans ((belLow6 (HBZ.out) ⟨v1.heap.size, 1, none⟩ (.string x2) (show zb ≤ v1.heap.size by omega))) (hb9.mono (Nat.le_of_lt (Blk.lt ((zset (j := 1) (HZW.out) hq6b (.string x2))))))); have y0 := HZ9.out.cell (j := 0) rfl; have y1 := HZ9.out.cell (j := 1) rfl; have y2 := HZ9.out.cell (j := 2) rfl; have y3 := HZ9.out.cell (j := 3) rfl; have yf := HZ9.out.frozen; have HA9 := Lib.hid (Blk.later ((Blk.set (HA.out) 1 (.string x2))) hb9); clear hb9 hrl)
                            rw [HN.out.1, HN.out.2.1, HN.out.2.2]
                            exact bodyPost_ret (read_fin27 (Blk.set ((Blk.set ((Blk.set ((Blk.set (HZ9.out) 0 (.int .i64 0))) 1 (.string ⟨#[]⟩))) 2 (.int .i64 0))) 3 (.int .i64 0)) _ rfl rfl rfl) rfl ⟨rfl, by rw [HZB.out]; exact (belLow6 ((belLow6 ((belLow6 ((belLow6 (HB9.out) ⟨zb, 0, none⟩ (.int .i64 0) (Nat.le_refl _))) ⟨zb, 1, none⟩ (.string ⟨#[]⟩) (Nat.le_refl _))) ⟨zb, 2, none⟩ (.int .i64 0) (Nat.le_refl _))) ⟨zb, 3, none⟩ (.int .i64 0) (Nat.le_refl _))⟩
                          · have HN := Lib.hid (rr_no2 HP.out HRD.out (fun q => by rw [hln] at q; exact ht (Option.some.inj q.1)))
                            have t11 : ((bA t).toList == s.toList) = false := by rw [bA_toL, sl, beq_eq_false_iff_ne]; exact ht
                            have t12 : ((bA t).toList != s.toList) = true := by rw [bA_toL, sl, bne_iff_ne]; exact ht
                            go_wp2_with (go_at_call 12; (with_reducible refine (CL.out _).mono ?_); rintro e9 w9 ⟨hrl, hb9⟩; have e9r := rln_yes' hln hrl; subst e9r; have HZ9 := Lib.hid (Blk.later ((zset (j := 1) (HZW.out) hq6b (.string x2))) hb9); have HB9 := Lib.hid (Below.trans ((belLow6 (HBZ.out) ⟨v1.heap.size, 1, none⟩ (.string x2) (show zb ≤ v1.heap.size by omega))) (hb9.mono (Nat.le_of_lt (Blk.lt ((zset (j := 1) (HZW.out) hq6b (.string x2))))))); have y0 := HZ9.out.cell (j := 0) rfl; have y1 := HZ9.out.cell (j := 1) rfl; have y2 := HZ9.out.cell (j := 2) rfl; have y3 := HZ9.out.cell (j := 3) rfl; have yf := HZ9.out.frozen; have HA9 := Lib.hid (Blk.later ((Blk.set (HA.out) 1 (.string x2))) hb9); clear hb9 hrl)
                            rw [HN.out.1, HN.out.2.1, HN.out.2.2]
                            exact bodyPost_ret (read_fin27 (Blk.set ((Blk.set ((Blk.set ((Blk.set (HZ9.out) 0 (.int .i64 0))) 1 (.string ⟨#[]⟩))) 2 (.int .i64 0))) 3 (.int .i64 0)) _ rfl rfl rfl) rfl ⟨rfl, by rw [HZB.out]; exact (belLow6 ((belLow6 ((belLow6 ((belLow6 (HB9.out) ⟨zb, 0, none⟩ (.int .i64 0) (Nat.le_refl _))) ⟨zb, 1, none⟩ (.string ⟨#[]⟩) (Nat.le_refl _))) ⟨zb, 2, none⟩ (.int .i64 0) (Nat.le_refl _))) ⟨zb, 3, none⟩ (.int .i64 0) (Nat.le_refl _))⟩
end Go.Proofs.YtekakalhknjdaaaDoor
