
/- Stage 27: the reference: Read of 3 pieces: contract. -/
import Derived.Test.YtekakalhknjdaaaDoorLgF
namespace Go.Proofs.YtekakalhknjdaaaDoor
open Go.RowKit
set_option linter.unusedVariables false
set_option linter.unusedSimpArgs false
set_option maxRecDepth 100000 in
set_option maxHeartbeats 64000000 in
theorem rf_Read27_3 (s : ByteArray) (w : World) (hs : s.size ≤ 1000000) (hq : (cutsL 32 s.data.toList).length = 3) :
    Calls Tryd.prog 15 #[.string s] w fun e0 w' => e0 = .returned (.tuple #[.int .i64 (rdR s), (rdE s).v, .bool (rdB s)]) ∧ Below w.heap.size w w' := by
  have HS := Lib.hid hs
  obtain ⟨P, hP⟩ : ∃ P, cutsL 32 s.data.toList = P := ⟨_, rfl⟩
  have hlen := cuts_len 32 s.data.toList
  have CS := Lib.hid (fun u => rf_split27 s u hs)
  rw [hP] at hlen CS
  have hsz : s.data.toList.length = s.size := rfl
  rw [hsz] at hlen
  have hL : P.length ≤ maxLen := by unfold maxLen; omega
  have HP := Lib.hid hP
  have hP0 : 0 < P.length := by have := cuts_ne 32 s.data.toList; rw [hP] at this; exact List.length_pos_iff.2 this
  have HSZ := Lib.hid (fun x hx => Nat.le_trans (hlen.2 x hx) hs)
  rw [hP] at hq
  clear hP hs hsz hlen
  go_enter Tryd.func15, Tryd.ntmps15
  go_upto_region 2 with (go_at_call 31; (with_reducible refine (CS.out _).mono ?_); rintro e9 v1 ⟨⟨a, c, rfl, hO⟩, hb1⟩; have HO := Lib.hid hO; have HB1 := Lib.hid hb1; clear hO hb1 CS)
  have hs0 : (w.alloc (.cells #[.int .i64 0, .string ⟨#[]⟩, .int .i64 0, .int .i64 0] 23)).heap.size = w.heap.size + 1 := by simp
  have HZ := Lib.hid ((Blk.new w [.int .i64 0, .string ⟨#[]⟩, .int .i64 0, .int .i64 0] 23).later HB1.out)
  have HB := Lib.hid ((belAlloc (Below.refl w.heap.size w) (.cells #[.int .i64 0, .string ⟨#[]⟩, .int .i64 0, .int .i64 0] 23)).trans (HB1.out.mono (by omega)))
  have hzl := HZ.out.lt
  obtain ⟨g, rfl, hgl, hgB, hnc, hcm, hcel⟩ := own_at HO.out hP0
  rw [hs0] at hgB
  have HC := Lib.hid hcel
  clear hcel hs0 HB1 HO
  generalize hzb : w.heap.size = zb at *
  have HZB := Lib.hid hzb
  clear hzb
  unfold maxLen at hcm hL
  have t1 : decide ((P.length : Int) < 3) = false := decide_eq_false (by omega)
  have t2 : decide ((5 : Int) < (P.length : Int)) = false := decide_eq_false (by omega)
  have hn3 : 3 ≤ P.length := by omega
  have hn5 : P.length ≤ 5 := by omega
  clear hP0
  generalize hn : P.length = n at *
  obtain ⟨p0, p1, p2, R, rfl⟩ : ∃ p0 p1 p2 R, P = p0 :: p1 :: p2 :: R := by
    match P, hn with
    | [], h => exact absurd h.symm (by simp; omega)
    | [x], h => exact absurd h.symm (by simp; omega)
    | [x, y], h => exact absurd h.symm (by simp; omega)
    | x :: y :: z :: R, _ => exact ⟨x, y, z, R, rfl⟩
  have hRn0 : R.length + 3 = n := by rw [← hn]; rfl
  have HRQ := Lib.hid (readR_eq p0 p1 p2 R (by omega))
  have HRn := Lib.hid hRn0
  clear hn hRn0
  have HQN := Lib.hid hq
  clear hq
  have HX1 := Lib.hid (HC.out 1 _ rfl)
  unfold strB at HX1
  have n3i : (3 : Int) ≤ (n : Int) := by omega
  have n1a : 1 < n := by omega
  have n1b : (1 : Int) < (n : Int) := by omega
  go_upto_region 5 with fail
  have hq6 : v1.heap.size ≠ zb := by omega
  have hq6b : zb ≠ v1.heap.size := by omega
  have hq7 : v1.heap.size ≠ g := by omega
  have hq8 : g ≠ v1.heap.size := by omega
  have HA := Lib.hid (Blk.new v1 [.int .i64 0, .string ⟨#[]⟩, .int .i64 0, .int .i64 0] 23)
  have HZ5 := Lib.hid (HZ.out.later (belAlloc (Below.refl _ _) (.cells #[.int .i64 0, .string ⟨#[]⟩, .int .i64 0, .int .i64 0] 23)))
  have HB5 := Lib.hid (belAlloc (Below.refl v1.heap.size v1) (.cells #[.int .i64 0, .string ⟨#[]⟩, .int .i64 0, .int .i64 0] 23))
  generalize v1.alloc (.cells #[.int .i64 0, .string ⟨#[]⟩, .int .i64 0, .int .i64 0] 23) = w5 at *
  go_wp2
  go_loopw [7] (fun iv wr => ∃ m : Nat, m ≤ 16 ∧ iv = .int .i64 ((m : Int) + 1) ∧ Hid (Blk wr v1.heap.size [.int .i64 (kkF p1 m), .string ⟨#[]⟩, .int .i64 0, .int .i64 0] 23) ∧ Hid (Blk wr zb [.int .i64 0, .string ⟨#[]⟩, .int .i64 0, .int .i64 0] 23) ∧ Hid (Below v1.heap.size v1 wr)) (fun iv _ => 17 - (intOf iv).toNat)
  case atStart => exact ⟨0, by omega, rfl, HA, HZ5, HB5⟩
  case round =>
    clear HA HZ5 HB5
    obtain ⟨m, hm, rfl, HA, HZW, HBW⟩ := hrel
    by_cases hlt : m < 16
    · have hd : decide ((m : Int) + 1 ≤ 16) = true := decide_eq_true (by omega)
      have CW := Lib.hid (fun u => rf_Word27 ((m : Int) + 1) u)
      rw [kwI_good (show 1 ≤ (m : Int) + 1 ∧ (m : Int) + 1 ≤ 16 by omega), show ((m : Int) + 1).toNat = m + 1 by omega] at CW
      obtain ⟨x1, hx1⟩ : ∃ x, bA p1 = x := ⟨_, rfl⟩
      obtain ⟨tk, htk⟩ : ∃ x, bA (kwE (m + 1)) = x := ⟨_, rfl⟩
      rw [htk] at CW
      have hxw := cell_later HBW.out HX1.out
      rw [hx1] at hxw
      have c1 := keep hxw
      clear hxw
      have hbel : Below wr.heap.size wr wr := Below.refl _ _
      by_cases hk : kwE (m + 1) = p1
      · have HK := Lib.hid (show kkF p1 (m + 1) = (m : Int) + 1 from by rw [kkF, if_pos hk]; push_cast; rfl)
        have t5 : (tk.toList == x1.toList) = true := by rw [← htk, ← hx1, bA_toL, bA_toL, beq_iff_eq]; exact hk
        clear htk hx1 hk
        go_upto_region 8 with fail
        have kk := fun d os => belStep hbel (below_regrown _ d os)
        refine wp_region_quiet_below (by kernel_rfl) (by kernel_rfl) ?_
        repeat ((with_reducible refine wpQuiet_step (fun K hK => ?_)); go_simp; (try (rw [if_neg]; rotate_left; · decide)); first | ((with_reducible refine hK _ ?_); clear hK K) | (apply Exists.intro; refine ⟨fun _ => ?_, hK _ ?_⟩; ((go_at_call 24; with_reducible exact Calls.regrown_of (CW.out _))); clear hK K))
        refine wpQuiet_nil (fun w1 hw1 => ?_)
        replace hbel := belStep hbel (bel_of_class hw1)
        clear hw1 kk
        have HA9 := Lib.hid (HA.out.later hbel)
        have HZ9 := Lib.hid (HZW.out.later hbel)
        have HB9 := Lib.hid (belStep HBW.out hbel)
        have s0 := HA9.out.cell (j := 0) rfl
        have s1 := HA9.out.cell (j := 1) rfl
        have s2 := HA9.out.cell (j := 2) rfl
        have s3 := HA9.out.cell (j := 3) rfl
        have sf := HA9.out.frozen
        go_wp2
        have hA9 := HA9.out.set 0 (.int .i64 ((m : Int) + 1))
        have hZ9 := zset (j := 0) HZ9.out hq6b (.int .i64 ((m : Int) + 1))
        have hB9 := belLow6 HB9.out ⟨v1.heap.size, 0, none⟩ (.int .i64 ((m : Int) + 1)) (Nat.le_refl _)
        go_roundw
        case rel => exact ⟨m + 1, by omega, by push_cast; rfl, by rw [HK.out]; exact Lib.hid hA9, Lib.hid hZ9, Lib.hid hB9⟩
        case measure => simp [intOf] <;> omega
      · have HK := Lib.hid (show kkF p1 (m + 1) = kkF p1 m from by rw [kkF, if_neg hk])
        have t5 : (tk.toList == x1.toList) = false := by rw [← htk, ← hx1, bA_toL, bA_toL, beq_eq_false_iff_ne]; exact hk
        clear htk hx1 hk
        go_upto_region 8 with fail
        have kk := fun d os => belStep hbel (below_regrown _ d os)
        refine wp_region_quiet_below (by kernel_rfl) (by kernel_rfl) ?_
        repeat ((with_reducible refine wpQuiet_step (fun K hK => ?_)); go_simp; (try (rw [if_neg]; rotate_left; · decide)); first | ((with_reducible refine hK _ ?_); clear hK K) | (apply Exists.intro; refine ⟨fun _ => ?_, hK _ ?_⟩; ((go_at_call 24; with_reducible exact Calls.regrown_of (CW.out _))); clear hK K))
        refine wpQuiet_nil (fun w1 hw1 => ?_)
        replace hbel := belStep hbel (bel_of_class hw1)
        clear hw1 kk
        have HA9 := Lib.hid (HA.out.later hbel)
        have HZ9 := Lib.hid (HZW.out.later hbel)
        have HB9 := Lib.hid (belStep HBW.out hbel)
        go_wp2
        go_roundw
        case rel => exact ⟨m + 1, by omega, by push_cast; rfl, by rw [HK.out]; exact HA9, HZ9, HB9⟩
        case measure => simp [intOf] <;> omega
    · obtain rfl : m = 16 := by omega
      rw [kk_end] at HA
      have hd : decide (((16 : Nat) : Int) + 1 ≤ 16) = false := rfl
      obtain ⟨kd, hkd⟩ : ∃ k, kq p1 = k := ⟨_, rfl⟩
      have hkb := kq_bd p1
      rw [hkd] at hkb HA HRQ
      clear hkd
      obtain ⟨hkb0, hkb1⟩ := hkb
      have HBZ := Lib.hid (HB.out.trans (HBW.out.mono (show zb ≤ v1.heap.size by omega)))
      obtain ⟨r, hr⟩ : ∃ r, numQ p0 = r := ⟨_, rfl⟩
      have HRI := Lib.hid (show InI r from by rw [← hr]; exact numQ_in _)
      rw [hr] at HRQ
      have X0 := cell_later HBW.out (HC.out 0 _ rfl)
      unfold strB at X0
      have hxl0 : (bA p0).size ≤ 1000000 := by rw [bA_size]; exact HSZ.out _ (by simp)
      have hxt0 : (bA p0).toList = p0 := bA_toL _
      obtain ⟨x0, hx0⟩ : ∃ x, bA p0 = x := ⟨_, rfl⟩
      rw [hx0] at X0 hxl0 hxt0
      have X2 := cell_later HBW.out (HC.out 2 _ rfl)
      unfold strB at X2
      have hxl2 : (bA p2).size ≤ 1000000 := by rw [bA_size]; exact HSZ.out _ (by simp)
      have hxt2 : (bA p2).toList = p2 := bA_toL _
      obtain ⟨x2, hx2⟩ : ∃ x, bA p2 = x := ⟨_, rfl⟩
      rw [hx2] at X2 hxl2 hxt2
      have CN0 := Lib.hid (fun u => rf_number27 x0 u (by unfold maxLen; omega))
      rw [hxt0, hr] at CN0
      clear hr hxt0 hxl0 hx0
      have s0 := HA.out.cell (j := 0) rfl
      have s1 := HA.out.cell (j := 1) rfl
      have s2 := HA.out.cell (j := 2) rfl
      have s3 := HA.out.cell (j := 3) rfl
      have sf := HA.out.frozen
      have z0 := HZW.out.cell (j := 0) rfl
      have z1 := HZW.out.cell (j := 1) rfl
      have z2 := HZW.out.cell (j := 2) rfl
      have z3 := HZW.out.cell (j := 3) rfl
      have zf := HZW.out.frozen
      obtain rfl : n = 3 := HQN.out
      obtain rfl : R = [] := List.eq_nil_of_length_eq_zero (by have := HRn.out; omega)
      clear HRn HQN
      by_cases hq3 : kd = 3
      · subst hq3
        have HN := Lib.hid (rr_no1 HP.out (by rw [HRQ.out]; simp [readK, hx2]))
        go_wp2_with (first | (go_at_call 32; (with_reducible refine (CN0.out _).mono ?_); rintro e9 w9 ⟨rfl, rfl⟩))
        all_goals
          rw [HN.out.1, HN.out.2.1, HN.out.2.2]
          exact bodyPost_ret (read_fin27 (Blk.set ((Blk.set ((Blk.set ((Blk.set ((zset (j := 1) (HZW.out) hq6b (.string x2))) 0 (.int .i64 0))) 1 (.string ⟨#[]⟩))) 2 (.int .i64 0))) 3 (.int .i64 0)) _ rfl rfl rfl) rfl ⟨rfl, by rw [HZB.out]; exact (belLow6 ((belLow6 ((belLow6 ((belLow6 ((belLow6 (HBZ.out) ⟨v1.heap.size, 1, none⟩ (.string x2) (show zb ≤ v1.heap.size by omega))) ⟨zb, 0, none⟩ (.int .i64 0) (Nat.le_refl _))) ⟨zb, 1, none⟩ (.string ⟨#[]⟩) (Nat.le_refl _))) ⟨zb, 2, none⟩ (.int .i64 0) (Nat.le_refl _))) ⟨zb, 3, none⟩ (.int .i64 0) (Nat.le_refl _))⟩
      · by_cases hq5 : kd = 5
        · subst hq5
          have HN := Lib.hid (rr_no1 HP.out (by rw [HRQ.out]; simp [readK]))
          go_wp2_with (first | (go_at_call 32; (with_reducible refine (CN0.out _).mono ?_); rintro e9 w9 ⟨rfl, rfl⟩))
          all_goals
            rw [HN.out.1, HN.out.2.1, HN.out.2.2]
            exact bodyPost_ret (read_fin27 (Blk.set ((Blk.set ((Blk.set ((Blk.set ((zset (j := 1) (HZW.out) hq6b (.string x2))) 0 (.int .i64 0))) 1 (.string ⟨#[]⟩))) 2 (.int .i64 0))) 3 (.int .i64 0)) _ rfl rfl rfl) rfl ⟨rfl, by rw [HZB.out]; exact (belLow6 ((belLow6 ((belLow6 ((belLow6 ((belLow6 (HBZ.out) ⟨v1.heap.size, 1, none⟩ (.string x2) (show zb ≤ v1.heap.size by omega))) ⟨zb, 0, none⟩ (.int .i64 0) (Nat.le_refl _))) ⟨zb, 1, none⟩ (.string ⟨#[]⟩) (Nat.le_refl _))) ⟨zb, 2, none⟩ (.int .i64 0) (Nat.le_refl _))) ⟨zb, 3, none⟩ (.int .i64 0) (Nat.le_refl _))⟩
        · by_cases hq6 : kd = 6
          · subst hq6
            have CSg := Lib.hid (fun u => rf_signal27 x2 u)
            rw [hxt2] at CSg
            obtain ⟨s9, hs9⟩ : ∃ k, idxE sgE p2 3 = k := ⟨_, rfl⟩
            rw [hs9] at CSg
            have HRD := Lib.hid (show readR (p0 :: p1 :: p2 :: []) = some (r, ⟨6, ⟨#[]⟩, s9, 0⟩, []) from by rw [HRQ.out]; simp [readK, hs9])
            have CL := Lib.hid (fun u => rf_Line27 6 s9 0 r ⟨#[]⟩ u (by decide) HRI.out (⟨by decide, by decide⟩))
            clear HRQ
            go_upto_region 33 with (first | (go_at_call 32; (with_reducible refine (CN0.out _).mono ?_); rintro e9 w9 ⟨rfl, rfl⟩) | (go_at_call 33; (with_reducible refine (CSg.out _).mono ?_); rintro e9 w9 ⟨rfl, rfl⟩))
            all_goals
              try generalize (if c - 2 = 1 then some (⟨g, 2, none⟩ : Addr) else some ⟨g, 3, none⟩) = ra
              try generalize (if c - 3 = 1 then some (⟨g, 3, none⟩ : Addr) else some ⟨g, 4, none⟩) = ra
              try generalize (if c - 3 = 2 then some (⟨g, 4, none⟩ : Addr) else some ⟨g, 5, none⟩) = ra
              try generalize (if c = 3 then some (⟨g, 0, none⟩ : Addr) else some ⟨g, 3, none⟩) = ra
              cases hln : lineE r ⟨6, ⟨#[]⟩, s9, 0⟩ with
              | none =>
                have HN := Lib.hid (rr_no2 HP.out HRD.out (fun q => by rw [hln] at q; cases q.1))
                go_wp2_with (go_at_call 12; (with_reducible refine (CL.out _).mono ?_); rintro e9 w9 ⟨hrl, hb9⟩; obtain ⟨t9, rfl⟩ := rln_no' hln hrl; have HZ9 := Lib.hid (Blk.later ((zset (j := 2) (HZW.out) hq6b (.int .i64 s9))) hb9); have HB9 := Lib.hid (Below.trans ((belLow6 (HBZ.out) ⟨v1.heap.size, 2, none⟩ (.int .i64 s9) (show zb ≤ v1.heap.size by omega))) (hb9.mono (Nat.le_of_lt (Blk.lt ((zset (j := 2) (HZW.out) hq6b (.int .i64 s9))))))); have y0 := HZ9.out.cell (j := 0) rfl; have y1 := HZ9.out.cell (j := 1) rfl; have y2 := HZ9.out.cell (j := 2) rfl; have y3 := HZ9.out.cell (j := 3) rfl; have yf := HZ9.out.frozen; have HA9 := Lib.hid (Blk.later ((Blk.set (HA.out) 2 (.int .i64 s9))) hb9); clear hb9 hrl)
                rw [HN.out.1, HN.out.2.1, HN.out.2.2]
                exact bodyPost_ret (read_fin27 (Blk.set ((Blk.set ((Blk.set ((Blk.set (HZ9.out) 0 (.int .i64 0))) 1 (.string ⟨#[]⟩))) 2 (.int .i64 0))) 3 (.int .i64 0)) _ rfl rfl rfl) rfl ⟨rfl, by rw [HZB.out]; exact (belLow6 ((belLow6 ((belLow6 ((belLow6 (HB9.out) ⟨zb, 0, none⟩ (.int .i64 0) (Nat.le_refl _))) ⟨zb, 1, none⟩ (.string ⟨#[]⟩) (Nat.le_refl _))) ⟨zb, 2, none⟩ (.int .i64 0) (Nat.le_refl _))) ⟨zb, 3, none⟩ (.int .i64 0) (Nat.le_refl _))⟩
              | some t =>
                by_cases ht : t = s.data.toList
                · have HN := Lib.hid (rr_yes HP.out HRD.out (by rw [hln, ht]))
                  have t11 : ((bA t).toList == s.toList) = true := by rw [bA_toL, sl, beq_iff_eq]; exact ht
                  have t12 : ((bA t).toList != s.toList) = false := by rw [bA_toL, sl, bne_eq_false_iff_eq]; exact ht
                  go_upto_region 36 with (go_at_call 12; (with_reducible refine (CL.out _).mono ?_); rintro e9 w9 ⟨hrl, hb9⟩; have e9r := rln_yes' hln hrl; subst e9r; have HZ9 := Lib.hid (Blk.later ((zset (j := 2) (HZW.out) hq6b (.int .i64 s9))) hb9); have HB9 := Lib.hid (Below.trans ((belLow6 (HBZ.out) ⟨v1.heap.size, 2, none⟩ (.int .i64 s9) (show zb ≤ v1.heap.size by omega))) (hb9.mono (Nat.le_of_lt (Blk.lt ((zset (j := 2) (HZW.out) hq6b (.int .i64 s9))))))); have y0 := HZ9.out.cell (j := 0) rfl; have y1 := HZ9.out.cell (j := 1) rfl; have y2 := HZ9.out.cell (j := 2) rfl; have y3 := HZ9.out.cell (j := 3) rfl; have yf := HZ9.out.frozen; have HA9 := Lib.hid (Blk.later ((Blk.set (HA.out) 2 (.int .i64 s9))) hb9); clear hb9 hrl)
                  refine wp_region_upc (S := fun u => Blk u v1.heap.size [.int .i64 6, .string ⟨#[]⟩, .int .i64 s9, .int .i64 0] 23 ∧ Below w9.heap.size w9 u) [3, 4] (by kernel_rfl) (by exact ⟨HA9.out.later (belDrew (Below.refl _ _)), belDrew (Below.refl _ _)⟩) (fun hHeld => ?_)
                  refine UpC.take (i := 0) (oi := ?oi_uc1) (v := ?v_uc1) ?hi_uc1 (by kernel_rfl) ?hf_uc1 ?hr_uc1 (by kernel_rfl) ?hQ_uc1 (Or.inl ⟨?hw_uc1, ?hy_uc1⟩) (by assumption) ?rest_uc1
                  case hi_uc1 => ((simp only [List.getElem?_toArray, List.getElem?_cons_succ, List.getElem?_cons_zero]); rfl)
                  case hf_uc1 => kernel_rfl
                  case hr_uc1 => kernel_rfl
                  case hQ_uc1 => exact fun _ _ _ h => h
                  case hw_uc1 => rfl
                  case hy_uc1 => ((intro w hSw; (try dsimp only at hSw); go_simp); all_goals (with_reducible rfl))
                  try simp only [Act.put, List.setIfInBounds_toArray, List.set_cons_zero, List.set_cons_succ]
                  refine UpC.take (i := 1) (oi := ?oi_uc2) (v := ?v_uc2) ?hi_uc2 (by kernel_rfl) ?hf_uc2 ?hr_uc2 (by kernel_rfl) ?hQ_uc2 (Or.inl ⟨?hw_uc2, ?hy_uc2⟩) (by assumption) ?rest_uc2
                  case hi_uc2 => ((simp only [List.getElem?_toArray, List.getElem?_cons_succ, List.getElem?_cons_zero]); rfl)
                  case hf_uc2 => kernel_rfl
                  case hr_uc2 => kernel_rfl
                  case hQ_uc2 => exact fun _ _ _ h => h
                  case hw_uc2 => rfl
                  case hy_uc2 => ((intro w hSw; (try dsimp only at hSw); have x50 := hSw.1.cell (j := 0) rfl; have x51 := hSw.1.cell (j := 1) rfl; have x52 := hSw.1.cell (j := 2) rfl; have x53 := hSw.1.cell (j := 3) rfl; go_simp); all_goals (with_reducible rfl))
                  try simp only [Act.put, List.setIfInBounds_toArray, List.set_cons_zero, List.set_cons_succ]
                  refine UpC.take (i := 2) (oi := ?oi_uc3) (v := ?v_uc3) ?hi_uc3 (by kernel_rfl) ?hf_uc3 ?hr_uc3 (by kernel_rfl) ?hQ_uc3 (Or.inl ⟨?hw_uc3, ?hy_uc3⟩) (by assumption) ?rest_uc3
                  case hi_uc3 => ((simp only [List.getElem?_toArray, List.getElem?_cons_succ, List.getElem?_cons_zero]); rfl)
                  case hf_uc3 => kernel_rfl
                  case hr_uc3 => kernel_rfl
                  case hQ_uc3 => exact fun _ _ _ h => h
                  case hw_uc3 => rfl
                  case hy_uc3 => ((intro w hSw; (try dsimp only at hSw); go_simp); all_goals (with_reducible rfl))
                  try simp only [Act.put, List.setIfInBounds_toArray, List.set_cons_zero, List.set_cons_succ]
                  have HZ7 := Lib.hid (HZ9.out.later hHeld.2)
                  have HB7 := Lib.hid (HB9.out.trans (hHeld.2.mono (Nat.le_of_lt HZ9.out.lt)))
                  have k0 := HZ7.out.cell (j := 0) rfl
                  have k1 := HZ7.out.cell (j := 1) rfl
                  have k2 := HZ7.out.cell (j := 2) rfl
                  have k3 := HZ7.out.cell (j := 3) rfl
                  have kf := HZ7.out.frozen
                  refine UpC.one (i := 3) (o := ?o_uc4) (by kernel_rfl) ?hi_uc4 (fun K hK => ?rest_uc4)
                  case hi_uc4 => ((simp only [List.getElem?_toArray, List.getElem?_cons_succ, List.getElem?_cons_zero]); rfl)
                  go_simp
                  refine hK.out _ _ (fun q => absurd q (by decide)) (fun _ => ?_)
                  clear hK K
                  try simp only [Act.put, List.setIfInBounds_toArray, List.set_cons_zero, List.set_cons_succ]
                  refine UpC.one (i := 4) (o := ?o_uc5) (by kernel_rfl) ?hi_uc5 (fun K hK => ?rest_uc5)
                  case hi_uc5 => ((simp only [List.getElem?_toArray, List.getElem?_cons_succ, List.getElem?_cons_zero]); rfl)
                  go_simp
                  refine hK.out _ _ (fun q => absurd q (by decide)) (fun _ => ?_)
                  clear hK K
                  try simp only [Act.put, List.setIfInBounds_toArray, List.set_cons_zero, List.set_cons_succ]
                  refine UpC.done (by kernel_rfl) ?_ _
                  go_wp2
                  rw [HN.out.1, HN.out.2.1, HN.out.2.2]
                  exact bodyPost_ret (read_fin27 (Blk.set ((Blk.set ((Blk.set ((Blk.set (HZ7.out) 0 (.int .i64 6))) 1 (.string ⟨#[]⟩))) 2 (.int .i64 s9))) 3 (.int .i64 0)) _ rfl rfl rfl) rfl ⟨rfl, by rw [HZB.out]; exact (belLow6 ((belLow6 ((belLow6 ((belLow6 (HB7.out) ⟨zb, 0, none⟩ (.int .i64 6) (Nat.le_refl _))) ⟨zb, 1, none⟩ (.string ⟨#[]⟩) (Nat.le_refl _))) ⟨zb, 2, none⟩ (.int .i64 s9) (Nat.le_refl _))) ⟨zb, 3, none⟩ (.int .i64 0) (Nat.le_refl _))⟩
                · have HN := Lib.hid (rr_no2 HP.out HRD.out (fun q => by rw [hln] at q; exact ht (Option.some.inj q.1)))
                  have t11 : ((bA t).toList == s.toList) = false := by rw [bA_toL, sl, beq_eq_false_iff_ne]; exact ht
                  have t12 : ((bA t).toList != s.toList) = true := by rw [bA_toL, sl, bne_iff_ne]; exact ht
                  go_wp2_with (go_at_call 12; (with_reducible refine (CL.out _).mono ?_); rintro e9 w9 ⟨hrl, hb9⟩; have e9r := rln_yes' hln hrl; subst e9r; have HZ9 := Lib.hid (Blk.later ((zset (j := 2) (HZW.out) hq6b (.int .i64 s9))) hb9); have HB9 := Lib.hid (Below.trans ((belLow6 (HBZ.out) ⟨v1.heap.size, 2, none⟩ (.int .i64 s9) (show zb ≤ v1.heap.size by omega))) (hb9.mono (Nat.le_of_lt (Blk.lt ((zset (j := 2) (HZW.out) hq6b (.int .i64 s9))))))); have y0 := HZ9.out.cell (j := 0) rfl; have y1 := HZ9.out.cell (j := 1) rfl; have y2 := HZ9.out.cell (j := 2) rfl; have y3 := HZ9.out.cell (j := 3) rfl; have yf := HZ9.out.frozen; have HA9 := Lib.hid (Blk.later ((Blk.set (HA.out) 2 (.int .i64 s9))) hb9); clear hb9 hrl)
                  rw [HN.out.1, HN.out.2.1, HN.out.2.2]
                  exact bodyPost_ret (read_fin27 (Blk.set ((Blk.set ((Blk.set ((Blk.set (HZ9.out) 0 (.int .i64 0))) 1 (.string ⟨#[]⟩))) 2 (.int .i64 0))) 3 (.int .i64 0)) _ rfl rfl rfl) rfl ⟨rfl, by rw [HZB.out]; exact (belLow6 ((belLow6 ((belLow6 ((belLow6 (HB9.out) ⟨zb, 0, none⟩ (.int .i64 0) (Nat.le_refl _))) ⟨zb, 1, none⟩ (.string ⟨#[]⟩) (Nat.le_refl _))) ⟨zb, 2, none⟩ (.int .i64 0) (Nat.le_refl _))) ⟨zb, 3, none⟩ (.int .i64 0) (Nat.le_refl _))⟩
          · by_cases hq7 : kd = 7
            · subst hq7
              have CSg := Lib.hid (fun u => rf_signal27 x2 u)
              rw [hxt2] at CSg
              obtain ⟨s9, hs9⟩ : ∃ k, idxE sgE p2 3 = k := ⟨_, rfl⟩
              rw [hs9] at CSg
              have HRD := Lib.hid (show readR (p0 :: p1 :: p2 :: []) = some (r, ⟨7, ⟨#[]⟩, s9, 0⟩, []) from by rw [HRQ.out]; simp [readK, hs9])
              have CL := Lib.hid (fun u => rf_Line27 7 s9 0 r ⟨#[]⟩ u (by decide) HRI.out (⟨by decide, by decide⟩))
              clear HRQ
              go_upto_region 33 with (first | (go_at_call 32; (with_reducible refine (CN0.out _).mono ?_); rintro e9 w9 ⟨rfl, rfl⟩) | (go_at_call 33; (with_reducible refine (CSg.out _).mono ?_); rintro e9 w9 ⟨rfl, rfl⟩))
              all_goals
                try generalize (if c - 2 = 1 then some (⟨g, 2, none⟩ : Addr) else some ⟨g, 3, none⟩) = ra
                try generalize (if c - 3 = 1 then some (⟨g, 3, none⟩ : Addr) else some ⟨g, 4, none⟩) = ra
                try generalize (if c - 3 = 2 then some (⟨g, 4, none⟩ : Addr) else some ⟨g, 5, none⟩) = ra
                try generalize (if c = 3 then some (⟨g, 0, none⟩ : Addr) else some ⟨g, 3, none⟩) = ra
                cases hln : lineE r ⟨7, ⟨#[]⟩, s9, 0⟩ with
                | none =>
                  have HN := Lib.hid (rr_no2 HP.out HRD.out (fun q => by rw [hln] at q; cases q.1))
                  go_wp2_with (go_at_call 12; (with_reducible refine (CL.out _).mono ?_); rintro e9 w9 ⟨hrl, hb9⟩; obtain ⟨t9, rfl⟩ := rln_no' hln hrl; have HZ9 := Lib.hid (Blk.later ((zset (j := 2) (HZW.out) hq6b (.int .i64 s9))) hb9); have HB9 := Lib.hid (Below.trans ((belLow6 (HBZ.out) ⟨v1.heap.size, 2, none⟩ (.int .i64 s9) (show zb ≤ v1.heap.size by omega))) (hb9.mono (Nat.le_of_lt (Blk.lt ((zset (j := 2) (HZW.out) hq6b (.int .i64 s9))))))); have y0 := HZ9.out.cell (j := 0) rfl; have y1 := HZ9.out.cell (j := 1) rfl; have y2 := HZ9.out.cell (j := 2) rfl; have y3 := HZ9.out.cell (j := 3) rfl; have yf := HZ9.out.frozen; have HA9 := Lib.hid (Blk.later ((Blk.set (HA.out) 2 (.int .i64 s9))) hb9); clear hb9 hrl)
                  rw [HN.out.1, HN.out.2.1, HN.out.2.2]
                  exact bodyPost_ret (read_fin27 (Blk.set ((Blk.set ((Blk.set ((Blk.set (HZ9.out) 0 (.int .i64 0))) 1 (.string ⟨#[]⟩))) 2 (.int .i64 0))) 3 (.int .i64 0)) _ rfl rfl rfl) rfl ⟨rfl, by rw [HZB.out]; exact (belLow6 ((belLow6 ((belLow6 ((belLow6 (HB9.out) ⟨zb, 0, none⟩ (.int .i64 0) (Nat.le_refl _))) ⟨zb, 1, none⟩ (.string ⟨#[]⟩) (Nat.le_refl _))) ⟨zb, 2, none⟩ (.int .i64 0) (Nat.le_refl _))) ⟨zb, 3, none⟩ (.int .i64 0) (Nat.le_refl _))⟩
                | some t =>
                  by_cases ht : t = s.data.toList
                  · have HN := Lib.hid (rr_yes HP.out HRD.out (by rw [hln, ht]))
                    have t11 : ((bA t).toList == s.toList) = true := by rw [bA_toL, sl, beq_iff_eq]; exact ht
                    have t12 : ((bA t).toList != s.toList) = false := by rw [bA_toL, sl, bne_eq_false_iff_eq]; exact ht
                    go_upto_region 36 with (go_at_call 12; (with_reducible refine (CL.out _).mono ?_); rintro e9 w9 ⟨hrl, hb9⟩; have e9r := rln_yes' hln hrl; subst e9r; have HZ9 := Lib.hid (Blk.later ((zset (j := 2) (HZW.out) hq6b (.int .i64 s9))) hb9); have HB9 := Lib.hid (Below.trans ((belLow6 (HBZ.out) ⟨v1.heap.size, 2, none⟩ (.int .i64 s9) (show zb ≤ v1.heap.size by omega))) (hb9.mono (Nat.le_of_lt (Blk.lt ((zset (j := 2) (HZW.out) hq6b (.int .i64 s9))))))); have y0 := HZ9.out.cell (j := 0) rfl; have y1 := HZ9.out.cell (j := 1) rfl; have y2 := HZ9.out.cell (j := 2) rfl; have y3 := HZ9.out.cell (j := 3) rfl; have yf := HZ9.out.frozen; have HA9 := Lib.hid (Blk.later ((Blk.set (HA.out) 2 (.int .i64 s9))) hb9); clear hb9 hrl)
                    refine wp_region_upc (S := fun u => Blk u v1.heap.size [.int .i64 7, .string ⟨#[]⟩, .int .i64 s9, .int .i64 0] 23 ∧ Below w9.heap.size w9 u) [3, 4] (by kernel_rfl) (by exact ⟨HA9.out.later (belDrew (Below.refl _ _)), belDrew (Below.refl _ _)⟩) (fun hHeld => ?_)
                    refine UpC.take (i := 0) (oi := ?oi_uc6) (v := ?v_uc6) ?hi_uc6 (by kernel_rfl) ?hf_uc6 ?hr_uc6 (by kernel_rfl) ?hQ_uc6 (Or.inl ⟨?hw_uc6, ?hy_uc6⟩) (by assumption) ?rest_uc6
                    case hi_uc6 => ((simp only [List.getElem?_toArray, List.getElem?_cons_succ, List.getElem?_cons_zero]); rfl)
                    case hf_uc6 => kernel_rfl
                    case hr_uc6 => kernel_rfl
                    case hQ_uc6 => exact fun _ _ _ h => h
                    case hw_uc6 => rfl
                    case hy_uc6 => ((intro w hSw; (try dsimp only at hSw); go_simp); all_goals (with_reducible rfl))
                    try simp only [Act.put, List.setIfInBounds_toArray, List.set_cons_zero, List.set_cons_succ]
                    refine UpC.take (i := 1) (oi := ?oi_uc7) (v := ?v_uc7) ?hi_uc7 (by kernel_rfl) ?hf_uc7 ?hr_uc7 (by kernel_rfl) ?hQ_uc7 (Or.inl ⟨?hw_uc7, ?hy_uc7⟩) (by assumption) ?rest_uc7
                    case hi_uc7 => ((simp only [List.getElem?_toArray, List.getElem?_cons_succ, List.getElem?_cons_zero]); rfl)
                    case hf_uc7 => kernel_rfl
                    case hr_uc7 => kernel_rfl
                    case hQ_uc7 => exact fun _ _ _ h => h
                    case hw_uc7 => rfl
                    case hy_uc7 => ((intro w hSw; (try dsimp only at hSw); have x50 := hSw.1.cell (j := 0) rfl; have x51 := hSw.1.cell (j := 1) rfl; have x52 := hSw.1.cell (j := 2) rfl; have x53 := hSw.1.cell (j := 3) rfl; go_simp); all_goals (with_reducible rfl))
                    try simp only [Act.put, List.setIfInBounds_toArray, List.set_cons_zero, List.set_cons_succ]
                    refine UpC.take (i := 2) (oi := ?oi_uc8) (v := ?v_uc8) ?hi_uc8 (by kernel_rfl) ?hf_uc8 ?hr_uc8 (by kernel_rfl) ?hQ_uc8 (Or.inl ⟨?hw_uc8, ?hy_uc8⟩) (by assumption) ?rest_uc8
                    case hi_uc8 => ((simp only [List.getElem?_toArray, List.getElem?_cons_succ, List.getElem?_cons_zero]); rfl)
                    case hf_uc8 => kernel_rfl
                    case hr_uc8 => kernel_rfl
                    case hQ_uc8 => exact fun _ _ _ h => h
                    case hw_uc8 => rfl
                    case hy_uc8 => ((intro w hSw; (try dsimp only at hSw); go_simp); all_goals (with_reducible rfl))
                    try simp only [Act.put, List.setIfInBounds_toArray, List.set_cons_zero, List.set_cons_succ]
                    have HZ7 := Lib.hid (HZ9.out.later hHeld.2)
                    have HB7 := Lib.hid (HB9.out.trans (hHeld.2.mono (Nat.le_of_lt HZ9.out.lt)))
                    have k0 := HZ7.out.cell (j := 0) rfl
                    have k1 := HZ7.out.cell (j := 1) rfl
                    have k2 := HZ7.out.cell (j := 2) rfl
                    have k3 := HZ7.out.cell (j := 3) rfl
                    have kf := HZ7.out.frozen
                    refine UpC.one (i := 3) (o := ?o_uc9) (by kernel_rfl) ?hi_uc9 (fun K hK => ?rest_uc9)
                    case hi_uc9 => ((simp only [List.getElem?_toArray, List.getElem?_cons_succ, List.getElem?_cons_zero]); rfl)
                    go_simp
                    refine hK.out _ _ (fun q => absurd q (by decide)) (fun _ => ?_)
                    clear hK K
                    try simp only [Act.put, List.setIfInBounds_toArray, List.set_cons_zero, List.set_cons_succ]
                    refine UpC.one (i := 4) (o := ?o_uc10) (by kernel_rfl) ?hi_uc10 (fun K hK => ?rest_uc10)
                    case hi_uc10 => ((simp only [List.getElem?_toArray, List.getElem?_cons_succ, List.getElem?_cons_zero]); rfl)
                    go_simp
                    refine hK.out _ _ (fun q => absurd q (by decide)) (fun _ => ?_)
                    clear hK K
                    try simp only [Act.put, List.setIfInBounds_toArray, List.set_cons_zero, List.set_cons_succ]
                    refine UpC.done (by kernel_rfl) ?_ _
                    go_wp2
                    rw [HN.out.1, HN.out.2.1, HN.out.2.2]
                    exact bodyPost_ret (read_fin27 (Blk.set ((Blk.set ((Blk.set ((Blk.set (HZ7.out) 0 (.int .i64 7))) 1 (.string ⟨#[]⟩))) 2 (.int .i64 s9))) 3 (.int .i64 0)) _ rfl rfl rfl) rfl ⟨rfl, by rw [HZB.out]; exact (belLow6 ((belLow6 ((belLow6 ((belLow6 (HB7.out) ⟨zb, 0, none⟩ (.int .i64 7) (Nat.le_refl _))) ⟨zb, 1, none⟩ (.string ⟨#[]⟩) (Nat.le_refl _))) ⟨zb, 2, none⟩ (.int .i64 s9) (Nat.le_refl _))) ⟨zb, 3, none⟩ (.int .i64 0) (Nat.le_refl _))⟩
                  · have HN := Lib.hid (rr_no2 HP.out HRD.out (fun q => by rw [hln] at q; exact ht (Option.some.inj q.1)))
                    have t11 : ((bA t).toList == s.toList) = false := by rw [bA_toL, sl, beq_eq_false_iff_ne]; exact ht
                    have t12 : ((bA t).toList != s.toList) = true := by rw [bA_toL, sl, bne_iff_ne]; exact ht
                    go_wp2_with (go_at_call 12; (with_reducible refine (CL.out _).mono ?_); rintro e9 w9 ⟨hrl, hb9⟩; have e9r := rln_yes' hln hrl; subst e9r; have HZ9 := Lib.hid (Blk.later ((zset (j := 2) (HZW.out) hq6b (.int .i64 s9))) hb9); have HB9 := Lib.hid (Below.trans ((belLow6 (HBZ.out) ⟨v1.heap.size, 2, none⟩ (.int .i64 s9) (show zb ≤ v1.heap.size by omega))) (hb9.mono (Nat.le_of_lt (Blk.lt ((zset (j := 2) (HZW.out) hq6b (.int .i64 s9))))))); have y0 := HZ9.out.cell (j := 0) rfl; have y1 := HZ9.out.cell (j := 1) rfl; have y2 := HZ9.out.cell (j := 2) rfl; have y3 := HZ9.out.cell (j := 3) rfl; have yf := HZ9.out.frozen; have HA9 := Lib.hid (Blk.later ((Blk.set (HA.out) 2 (.int .i64 s9))) hb9); clear hb9 hrl)
                    rw [HN.out.1, HN.out.2.1, HN.out.2.2]
                    exact bodyPost_ret (read_fin27 (Blk.set ((Blk.set ((Blk.set ((Blk.set (HZ9.out) 0 (.int .i64 0))) 1 (.string ⟨#[]⟩))) 2 (.int .i64 0))) 3 (.int .i64 0)) _ rfl rfl rfl) rfl ⟨rfl, by rw [HZB.out]; exact (belLow6 ((belLow6 ((belLow6 ((belLow6 (HB9.out) ⟨zb, 0, none⟩ (.int .i64 0) (Nat.le_refl _))) ⟨zb, 1, none⟩ (.string ⟨#[]⟩) (Nat.le_refl _))) ⟨zb, 2, none⟩ (.int .i64 0) (Nat.le_refl _))) ⟨zb, 3, none⟩ (.int .i64 0) (Nat.le_refl _))⟩
            · by_cases hq9 : kd = 9
              · subst hq9
                have HN := Lib.hid (rr_no1 HP.out (by rw [HRQ.out]; simp [readK]))
                go_wp2_with (first | (go_at_call 32; (with_reducible refine (CN0.out _).mono ?_); rintro e9 w9 ⟨rfl, rfl⟩))
                all_goals
                  rw [HN.out.1, HN.out.2.1, HN.out.2.2]
                  exact bodyPost_ret (read_fin27 (Blk.set ((Blk.set ((Blk.set ((Blk.set ((zset (j := 1) (HZW.out) hq6b (.string x2))) 0 (.int .i64 0))) 1 (.string ⟨#[]⟩))) 2 (.int .i64 0))) 3 (.int .i64 0)) _ rfl rfl rfl) rfl ⟨rfl, by rw [HZB.out]; exact (belLow6 ((belLow6 ((belLow6 ((belLow6 ((belLow6 (HBZ.out) ⟨v1.heap.size, 1, none⟩ (.string x2) (show zb ≤ v1.heap.size by omega))) ⟨zb, 0, none⟩ (.int .i64 0) (Nat.le_refl _))) ⟨zb, 1, none⟩ (.string ⟨#[]⟩) (Nat.le_refl _))) ⟨zb, 2, none⟩ (.int .i64 0) (Nat.le_refl _))) ⟨zb, 3, none⟩ (.int .i64 0) (Nat.le_refl _))⟩
              · by_cases hq14 : kd = 14
                · subst hq14
                  have HN := Lib.hid (rr_no1 HP.out (by rw [HRQ.out]; simp [readK]))
                  go_wp2_with (first | (go_at_call 32; (with_reducible refine (CN0.out _).mono ?_); rintro e9 w9 ⟨rfl, rfl⟩))
                  all_goals
                    rw [HN.out.1, HN.out.2.1, HN.out.2.2]
                    exact bodyPost_ret (read_fin27 (Blk.set ((Blk.set ((Blk.set ((Blk.set ((zset (j := 1) (HZW.out) hq6b (.string x2))) 0 (.int .i64 0))) 1 (.string ⟨#[]⟩))) 2 (.int .i64 0))) 3 (.int .i64 0)) _ rfl rfl rfl) rfl ⟨rfl, by rw [HZB.out]; exact (belLow6 ((belLow6 ((belLow6 ((belLow6 ((belLow6 (HBZ.out) ⟨v1.heap.size, 1, none⟩ (.string x2) (show zb ≤ v1.heap.size by omega))) ⟨zb, 0, none⟩ (.int .i64 0) (Nat.le_refl _))) ⟨zb, 1, none⟩ (.string ⟨#[]⟩) (Nat.le_refl _))) ⟨zb, 2, none⟩ (.int .i64 0) (Nat.le_refl _))) ⟨zb, 3, none⟩ (.int .i64 0) (Nat.le_refl _))⟩
                · by_cases hq16 : kd = 16
                  · subst hq16
                    have CNn := Lib.hid (fun u => rf_number27 x2 u (by unfold maxLen; omega))
                    rw [hxt2] at CNn
                    obtain ⟨n9, hn9⟩ : ∃ k, numQ p2 = k := ⟨_, rfl⟩
                    rw [hn9] at CNn
                    have HNI := Lib.hid (show InI n9 from by rw [← hn9]; exact numQ_in _)
                    have HRD := Lib.hid (show readR (p0 :: p1 :: p2 :: []) = some (r, ⟨16, ⟨#[]⟩, 0, n9⟩, []) from by rw [HRQ.out]; simp [readK, hn9])
                    have CL := Lib.hid (fun u => rf_Line27 16 0 n9 r ⟨#[]⟩ u (by decide) HRI.out (HNI.out))
                    clear HRQ
                    go_upto_region 33 with (first | (go_at_call 32; (with_reducible refine (CN0.out _).mono ?_); rintro e9 w9 ⟨rfl, rfl⟩) | (go_at_call 32; (with_reducible refine (CNn.out _).mono ?_); rintro e9 w9 ⟨rfl, rfl⟩))
                    all_goals
                      try generalize (if c - 2 = 1 then some (⟨g, 2, none⟩ : Addr) else some ⟨g, 3, none⟩) = ra
                      try generalize (if c - 3 = 1 then some (⟨g, 3, none⟩ : Addr) else some ⟨g, 4, none⟩) = ra
                      try generalize (if c - 3 = 2 then some (⟨g, 4, none⟩ : Addr) else some ⟨g, 5, none⟩) = ra
                      try generalize (if c = 3 then some (⟨g, 0, none⟩ : Addr) else some ⟨g, 3, none⟩) = ra
                      cases hln : lineE r ⟨16, ⟨#[]⟩, 0, n9⟩ with
                      | none =>
                        have HN := Lib.hid (rr_no2 HP.out HRD.out (fun q => by rw [hln] at q; cases q.1))
                        go_wp2_with (go_at_call 12; (with_reducible refine (CL.out _).mono ?_); rintro e9 w9 ⟨hrl, hb9⟩; obtain ⟨t9, rfl⟩ := rln_no' hln hrl; have HZ9 := Lib.hid (Blk.later ((zset (j := 3) (HZW.out) hq6b (.int .i64 n9))) hb9); have HB9 := Lib.hid (Below.trans ((belLow6 (HBZ.out) ⟨v1.heap.size, 3, none⟩ (.int .i64 n9) (show zb ≤ v1.heap.size by omega))) (hb9.mono (Nat.le_of_lt (Blk.lt ((zset (j := 3) (HZW.out) hq6b (.int .i64 n9))))))); have y0 := HZ9.out.cell (j := 0) rfl; have y1 := HZ9.out.cell (j := 1) rfl; have y2 := HZ9.out.cell (j := 2) rfl; have y3 := HZ9.out.cell (j := 3) rfl; have yf := HZ9.out.frozen; have HA9 := Lib.hid (Blk.later ((Blk.set (HA.out) 3 (.int .i64 n9))) hb9); clear hb9 hrl)
                        rw [HN.out.1, HN.out.2.1, HN.out.2.2]
                        exact bodyPost_ret (read_fin27 (Blk.set ((Blk.set ((Blk.set ((Blk.set (HZ9.out) 0 (.int .i64 0))) 1 (.string ⟨#[]⟩))) 2 (.int .i64 0))) 3 (.int .i64 0)) _ rfl rfl rfl) rfl ⟨rfl, by rw [HZB.out]; exact (belLow6 ((belLow6 ((belLow6 ((belLow6 (HB9.out) ⟨zb, 0, none⟩ (.int .i64 0) (Nat.le_refl _))) ⟨zb, 1, none⟩ (.string ⟨#[]⟩) (Nat.le_refl _))) ⟨zb, 2, none⟩ (.int .i64 0) (Nat.le_refl _))) ⟨zb, 3, none⟩ (.int .i64 0) (Nat.le_refl _))⟩
                      | some t =>
                        by_cases ht : t = s.data.toList
                        · have HN := Lib.hid (rr_yes HP.out HRD.out (by rw [hln, ht]))
                          have t11 : ((bA t).toList == s.toList) = true := by rw [bA_toL, sl, beq_iff_eq]; exact ht
                          have t12 : ((bA t).toList != s.toList) = false := by rw [bA_toL, sl, bne_eq_false_iff_eq]; exact ht
                          go_upto_region 36 with (go_at_call 12; (with_reducible refine (CL.out _).mono ?_); rintro e9 w9 ⟨hrl, hb9⟩; have e9r := rln_yes' hln hrl; subst e9r; have HZ9 := Lib.hid (Blk.later ((zset (j := 3) (HZW.out) hq6b (.int .i64 n9))) hb9); have HB9 := Lib.hid (Below.trans ((belLow6 (HBZ.out) ⟨v1.heap.size, 3, none⟩ (.int .i64 n9) (show zb ≤ v1.heap.size by omega))) (hb9.mono (Nat.le_of_lt (Blk.lt ((zset (j := 3) (HZW.out) hq6b (.int .i64 n9))))))); have y0 := HZ9.out.cell (j := 0) rfl; have y1 := HZ9.out.cell (j := 1) rfl; have y2 := HZ9.out.cell (j := 2) rfl; have y3 := HZ9.out.cell (j := 3) rfl; have yf := HZ9.out.frozen; have HA9 := Lib.hid (Blk.later ((Blk.set (HA.out) 3 (.int .i64 n9))) hb9); clear hb9 hrl)
                          refine wp_region_upc (S := fun u => Blk u v1.heap.size [.int .i64 16, .string ⟨#[]⟩, .int .i64 0, .int .i64 n9] 23 ∧ Below w9.heap.size w9 u) [3, 4] (by kernel_rfl) (by exact ⟨HA9.out.later (belDrew (Below.refl _ _)), belDrew (Below.refl _ _)⟩) (fun hHeld => ?_)
                          refine UpC.take (i := 0) (oi := ?oi_uc11) (v := ?v_uc11) ?hi_uc11 (by kernel_rfl) ?hf_uc11 ?hr_uc11 (by kernel_rfl) ?hQ_uc11 (Or.inl ⟨?hw_uc11, ?hy_uc11⟩) (by assumption) ?rest_uc11
                          case hi_uc11 => ((simp only [List.getElem?_toArray, List.getElem?_cons_succ, List.getElem?_cons_zero]); rfl)
                          case hf_uc11 => kernel_rfl
                          case hr_uc11 => kernel_rfl
                          case hQ_uc11 => exact fun _ _ _ h => h
                          case hw_uc11 => rfl
                          case hy_uc11 => ((intro w hSw; (try dsimp only at hSw); go_simp); all_goals (with_reducible rfl))
                          try simp only [Act.put, List.setIfInBounds_toArray, List.set_cons_zero, List.set_cons_succ]
                          refine UpC.take (i := 1) (oi := ?oi_uc12) (v := ?v_uc12) ?hi_uc12 (by kernel_rfl) ?hf_uc12 ?hr_uc12 (by kernel_rfl) ?hQ_uc12 (Or.inl ⟨?hw_uc12, ?hy_uc12⟩) (by assumption) ?rest_uc12
                          case hi_uc12 => ((simp only [List.getElem?_toArray, List.getElem?_cons_succ, List.getElem?_cons_zero]); rfl)
                          case hf_uc12 => kernel_rfl
                          case hr_uc12 => kernel_rfl
                          case hQ_uc12 => exact fun _ _ _ h => h
                          case hw_uc12 => rfl
                          case hy_uc12 => ((intro w hSw; (try dsimp only at hSw); have x50 := hSw.1.cell (j := 0) rfl; have x51 := hSw.1.cell (j := 1) rfl; have x52 := hSw.1.cell (j := 2) rfl; have x53 := hSw.1.cell (j := 3) rfl; go_simp); all_goals (with_reducible rfl))
                          try simp only [Act.put, List.setIfInBounds_toArray, List.set_cons_zero, List.set_cons_succ]
                          refine UpC.take (i := 2) (oi := ?oi_uc13) (v := ?v_uc13) ?hi_uc13 (by kernel_rfl) ?hf_uc13 ?hr_uc13 (by kernel_rfl) ?hQ_uc13 (Or.inl ⟨?hw_uc13, ?hy_uc13⟩) (by assumption) ?rest_uc13
                          case hi_uc13 => ((simp only [List.getElem?_toArray, List.getElem?_cons_succ, List.getElem?_cons_zero]); rfl)
                          case hf_uc13 => kernel_rfl
                          case hr_uc13 => kernel_rfl
                          case hQ_uc13 => exact fun _ _ _ h => h
                          case hw_uc13 => rfl
                          case hy_uc13 => ((intro w hSw; (try dsimp only at hSw); go_simp); all_goals (with_reducible rfl))
                          try simp only [Act.put, List.setIfInBounds_toArray, List.set_cons_zero, List.set_cons_succ]
                          have HZ7 := Lib.hid (HZ9.out.later hHeld.2)
                          have HB7 := Lib.hid (HB9.out.trans (hHeld.2.mono (Nat.le_of_lt HZ9.out.lt)))
                          have k0 := HZ7.out.cell (j := 0) rfl
                          have k1 := HZ7.out.cell (j := 1) rfl
                          have k2 := HZ7.out.cell (j := 2) rfl
                          have k3 := HZ7.out.cell (j := 3) rfl
                          have kf := HZ7.out.frozen
                          refine UpC.one (i := 3) (o := ?o_uc14) (by kernel_rfl) ?hi_uc14 (fun K hK => ?rest_uc14)
                          case hi_uc14 => ((simp only [List.getElem?_toArray, List.getElem?_cons_succ, List.getElem?_cons_zero]); rfl)
                          go_simp
                          refine hK.out _ _ (fun q => absurd q (by decide)) (fun _ => ?_)
                          clear hK K
                          try simp only [Act.put, List.setIfInBounds_toArray, List.set_cons_zero, List.set_cons_succ]
                          refine UpC.one (i := 4) (o := ?o_uc15) (by kernel_rfl) ?hi_uc15 (fun K hK => ?rest_uc15)
                          case hi_uc15 => ((simp only [List.getElem?_toArray, List.getElem?_cons_succ, List.getElem?_cons_zero]); rfl)
                          go_simp
                          refine hK.out _ _ (fun q => absurd q (by decide)) (fun _ => ?_)
                          clear hK K
                          try simp only [Act.put, List.setIfInBounds_toArray, List.set_cons_zero, List.set_cons_succ]
                          refine UpC.done (by kernel_rfl) ?_ _
                          go_wp2
                          rw [HN.out.1, HN.out.2.1, HN.out.2.2]
                          exact bodyPost_ret (read_fin27 (Blk.set ((Blk.set ((Blk.set ((Blk.set (HZ7.out) 0 (.int .i64 16))) 1 (.string ⟨#[]⟩))) 2 (.int .i64 0))) 3 (.int .i64 n9)) _ rfl rfl rfl) rfl ⟨rfl, by rw [HZB.out]; exact (belLow6 ((belLow6 ((belLow6 ((belLow6 (HB7.out) ⟨zb, 0, none⟩ (.int .i64 16) (Nat.le_refl _))) ⟨zb, 1, none⟩ (.string ⟨#[]⟩) (Nat.le_refl _))) ⟨zb, 2, none⟩ (.int .i64 0) (Nat.le_refl _))) ⟨zb, 3, none⟩ (.int .i64 n9) (Nat.le_refl _))⟩
                        · have HN := Lib.hid (rr_no2 HP.out HRD.out (fun q => by rw [hln] at q; exact ht (Option.some.inj q.1)))
                          have t11 : ((bA t).toList == s.toList) = false := by rw [bA_toL, sl, beq_eq_false_iff_ne]; exact ht
                          have t12 : ((bA t).toList != s.toList) = true := by rw [bA_toL, sl, bne_iff_ne]; exact ht
                          go_wp2_with (go_at_call 12; (with_reducible refine (CL.out _).mono ?_); rintro e9 w9 ⟨hrl, hb9⟩; have e9r := rln_yes' hln hrl; subst e9r; have HZ9 := Lib.hid (Blk.later ((zset (j := 3) (HZW.out) hq6b (.int .i64 n9))) hb9); have HB9 := Lib.hid (Below.trans ((belLow6 (HBZ.out) ⟨v1.heap.size, 3, none⟩ (.int .i64 n9) (show zb ≤ v1.heap.size by omega))) (hb9.mono (Nat.le_of_lt (Blk.lt ((zset (j := 3) (HZW.out) hq6b (.int .i64 n9))))))); have y0 := HZ9.out.cell (j := 0) rfl; have y1 := HZ9.out.cell (j := 1) rfl; have y2 := HZ9.out.cell (j := 2) rfl; have y3 := HZ9.out.cell (j := 3) rfl; have yf := HZ9.out.frozen; have HA9 := Lib.hid (Blk.later ((Blk.set (HA.out) 3 (.int .i64 n9))) hb9); clear hb9 hrl)
                          rw [HN.out.1, HN.out.2.1, HN.out.2.2]
                          exact bodyPost_ret (read_fin27 (Blk.set ((Blk.set ((Blk.set ((Blk.set (HZ9.out) 0 (.int .i64 0))) 1 (.string ⟨#[]⟩))) 2 (.int .i64 0))) 3 (.int .i64 0)) _ rfl rfl rfl) rfl ⟨rfl, by rw [HZB.out]; exact (belLow6 ((belLow6 ((belLow6 ((belLow6 (HB9.out) ⟨zb, 0, none⟩ (.int .i64 0) (Nat.le_refl _))) ⟨zb, 1, none⟩ (.string ⟨#[]⟩) (Nat.le_refl _))) ⟨zb, 2, none⟩ (.int .i64 0) (Nat.le_refl _))) ⟨zb, 3, none⟩ (.int .i64 0) (Nat.le_refl _))⟩
                  · have v3 : (kd == 3) = false := beq_eq_false_iff_ne.2 hq3
                    have vn3 : (kd != 3) = true := bne_iff_ne.2 hq3
                    have v5 : (kd == 5) = false := beq_eq_false_iff_ne.2 hq5
                    have vn5 : (kd != 5) = true := bne_iff_ne.2 hq5
                    have v6 : (kd == 6) = false := beq_eq_false_iff_ne.2 hq6
                    have vn6 : (kd != 6) = true := bne_iff_ne.2 hq6
                    have v7 : (kd == 7) = false := beq_eq_false_iff_ne.2 hq7
                    have vn7 : (kd != 7) = true := bne_iff_ne.2 hq7
                    have v9 : (kd == 9) = false := beq_eq_false_iff_ne.2 hq9
                    have vn9 : (kd != 9) = true := bne_iff_ne.2 hq9
                    have v14 : (kd == 14) = false := beq_eq_false_iff_ne.2 hq14
                    have vn14 : (kd != 14) = true := bne_iff_ne.2 hq14
                    have v16 : (kd == 16) = false := beq_eq_false_iff_ne.2 hq16
                    have vn16 : (kd != 16) = true := bne_iff_ne.2 hq16
                    by_cases hlo : 5 ≤ kd
                    · have t31 : decide ((5 : Int) ≤ kd) = true := decide_eq_true hlo
                      have t32 : decide (kd ≤ (7 : Int)) = false := decide_eq_false (by omega)
                      have h7 : ¬ kd ≤ 7 := by omega
                      have HRD := Lib.hid (show readR (p0 :: p1 :: p2 :: []) = some (r, ⟨kd, x2, 0, 0⟩, []) from by rw [HRQ.out]; simp [readK, hq3, hq5, hq6, hq7, hq9, hq14, hq16, hx2, h7])
                      have CL := Lib.hid (fun u => rf_Line27 kd 0 0 r x2 u (by unfold maxLen; omega) HRI.out (⟨by decide, by decide⟩))
                      clear HRQ
                      go_upto_region 33 with (first | (go_at_call 32; (with_reducible refine (CN0.out _).mono ?_); rintro e9 w9 ⟨rfl, rfl⟩))
                      all_goals
                        try generalize (if c - 2 = 1 then some (⟨g, 2, none⟩ : Addr) else some ⟨g, 3, none⟩) = ra
                        try generalize (if c - 3 = 1 then some (⟨g, 3, none⟩ : Addr) else some ⟨g, 4, none⟩) = ra
                        try generalize (if c - 3 = 2 then some (⟨g, 4, none⟩ : Addr) else some ⟨g, 5, none⟩) = ra
                        try generalize (if c = 3 then some (⟨g, 0, none⟩ : Addr) else some ⟨g, 3, none⟩) = ra
                        cases hln : lineE r ⟨kd, x2, 0, 0⟩ with
                        | none =>
                          have HN := Lib.hid (rr_no2 HP.out HRD.out (fun q => by rw [hln] at q; cases q.1))
                          go_wp2_with (go_at_call 12; (with_reducible refine (CL.out _).mono ?_); rintro e9 w9 ⟨hrl, hb9⟩; obtain ⟨t9, rfl⟩ := rln_no' hln hrl; have HZ9 := Lib.hid (Blk.later ((zset (j := 1) (HZW.out) hq6b (.string x2))) hb9); have HB9 := Lib.hid (Below.trans ((belLow6 (HBZ.out) ⟨v1.heap.size, 1, none⟩ (.string x2) (show zb ≤ v1.heap.size by omega))) (hb9.mono (Nat.le_of_lt (Blk.lt ((zset (j := 1) (HZW.out) hq6b (.string x2))))))); have y0 := HZ9.out.cell (j := 0) rfl; have y1 := HZ9.out.cell (j := 1) rfl; have y2 := HZ9.out.cell (j := 2) rfl; have y3 := HZ9.out.cell (j := 3) rfl; have yf := HZ9.out.frozen; have HA9 := Lib.hid (Blk.later ((Blk.set (HA.out) 1 (.string x2))) hb9); clear hb9 hrl)
                          rw [HN.out.1, HN.out.2.1, HN.out.2.2]
                          exact bodyPost_ret (read_fin27 (Blk.set ((Blk.set ((Blk.set ((Blk.set (HZ9.out) 0 (.int .i64 0))) 1 (.string ⟨#[]⟩))) 2 (.int .i64 0))) 3 (.int .i64 0)) _ rfl rfl rfl) rfl ⟨rfl, by rw [HZB.out]; exact (belLow6 ((belLow6 ((belLow6 ((belLow6 (HB9.out) ⟨zb, 0, none⟩ (.int .i64 0) (Nat.le_refl _))) ⟨zb, 1, none⟩ (.string ⟨#[]⟩) (Nat.le_refl _))) ⟨zb, 2, none⟩ (.int .i64 0) (Nat.le_refl _))) ⟨zb, 3, none⟩ (.int .i64 0) (Nat.le_refl _))⟩
                        | some t =>
                          by_cases ht : t = s.data.toList
                          · have HN := Lib.hid (rr_yes HP.out HRD.out (by rw [hln, ht]))
                            have t11 : ((bA t).toList == s.toList) = true := by rw [bA_toL, sl, beq_iff_eq]; exact ht
                            have t12 : ((bA t).toList != s.toList) = false := by rw [bA_toL, sl, bne_eq_false_iff_eq]; exact ht
                            go_upto_region 36 with (go_at_call 12; (with_reducible refine (CL.out _).mono ?_); rintro e9 w9 ⟨hrl, hb9⟩; have e9r := rln_yes' hln hrl; subst e9r; have HZ9 := Lib.hid (Blk.later ((zset (j := 1) (HZW.out) hq6b (.string x2))) hb9); have HB9 := Lib.hid (Below.trans ((belLow6 (HBZ.out) ⟨v1.heap.size, 1, none⟩ (.string x2) (show zb ≤ v1.heap.size by omega))) (hb9.mono (Nat.le_of_lt (Blk.lt ((zset (j := 1) (HZW.out) hq6b (.string x2))))))); have y0 := HZ9.out.cell (j := 0) rfl; have y1 := HZ9.out.cell (j := 1) rfl; have y2 := HZ9.out.cell (j := 2) rfl; have y3 := HZ9.out.cell (j := 3) rfl; have yf := HZ9.out.frozen; have HA9 := Lib.hid (Blk.later ((Blk.set (HA.out) 1 (.string x2))) hb9); clear hb9 hrl)
                            refine wp_region_upc (S := fun u => Blk u v1.heap.size [.int .i64 kd, .string x2, .int .i64 0, .int .i64 0] 23 ∧ Below w9.heap.size w9 u) [3, 4] (by kernel_rfl) (by exact ⟨HA9.out.later (belDrew (Below.refl _ _)), belDrew (Below.refl _ _)⟩) (fun hHeld => ?_)
                            refine UpC.take (i := 0) (oi := ?oi_uc16) (v := ?v_uc16) ?hi_uc16 (by kernel_rfl) ?hf_uc16 ?hr_uc16 (by kernel_rfl) ?hQ_uc16 (Or.inl ⟨?hw_uc16, ?hy_uc16⟩) (by assumption) ?rest_uc16
                            case hi_uc16 => ((simp only [List.getElem?_toArray, List.getElem?_cons_succ, List.getElem?_cons_zero]); rfl)
                            case hf_uc16 => kernel_rfl
                            case hr_uc16 => kernel_rfl
                            case hQ_uc16 => exact fun _ _ _ h => h
                            case hw_uc16 => rfl
                            case hy_uc16 => ((intro w hSw; (try dsimp only at hSw); go_simp); all_goals (with_reducible rfl))
                            try simp only [Act.put, List.setIfInBounds_toArray, List.set_cons_zero, List.set_cons_succ]
                            refine UpC.take (i := 1) (oi := ?oi_uc17) (v := ?v_uc17) ?hi_uc17 (by kernel_rfl) ?hf_uc17 ?hr_uc17 (by kernel_rfl) ?hQ_uc17 (Or.inl ⟨?hw_uc17, ?hy_uc17⟩) (by assumption) ?rest_uc17
                            case hi_uc17 => ((simp only [List.getElem?_toArray, List.getElem?_cons_succ, List.getElem?_cons_zero]); rfl)
                            case hf_uc17 => kernel_rfl
                            case hr_uc17 => kernel_rfl
                            case hQ_uc17 => exact fun _ _ _ h => h
                            case hw_uc17 => rfl
                            case hy_uc17 => ((intro w hSw; (try dsimp only at hSw); have x50 := hSw.1.cell (j := 0) rfl; have x51 := hSw.1.cell (j := 1) rfl; have x52 := hSw.1.cell (j := 2) rfl; have x53 := hSw.1.cell (j := 3) rfl; go_simp); all_goals (with_reducible rfl))
                            try simp only [Act.put, List.setIfInBounds_toArray, List.set_cons_zero, List.set_cons_succ]
                            refine UpC.take (i := 2) (oi := ?oi_uc18) (v := ?v_uc18) ?hi_uc18 (by kernel_rfl) ?hf_uc18 ?hr_uc18 (by kernel_rfl) ?hQ_uc18 (Or.inl ⟨?hw_uc18, ?hy_uc18⟩) (by assumption) ?rest_uc18
                            case hi_uc18 => ((simp only [List.getElem?_toArray, List.getElem?_cons_succ, List.getElem?_cons_zero]); rfl)
                            case hf_uc18 => kernel_rfl
                            case hr_uc18 => kernel_rfl
                            case hQ_uc18 => exact fun _ _ _ h => h
                            case hw_uc18 => rfl
                            case hy_uc18 => ((intro w hSw; (try dsimp only at hSw); go_simp); all_goals (with_reducible rfl))
                            try simp only [Act.put, List.setIfInBounds_toArray, List.set_cons_zero, List.set_cons_succ]
                            have HZ7 := Lib.hid (HZ9.out.later hHeld.2)
                            have HB7 := Lib.hid (HB9.out.trans (hHeld.2.mono (Nat.le_of_lt HZ9.out.lt)))
                            have k0 := HZ7.out.cell (j := 0) rfl
                            have k1 := HZ7.out.cell (j := 1) rfl
                            have k2 := HZ7.out.cell (j := 2) rfl
                            have k3 := HZ7.out.cell (j := 3) rfl
                            have kf := HZ7.out.frozen
                            refine UpC.one (i := 3) (o := ?o_uc19) (by kernel_rfl) ?hi_uc19 (fun K hK => ?rest_uc19)
                            case hi_uc19 => ((simp only [List.getElem?_toArray, List.getElem?_cons_succ, List.getElem?_cons_zero]); rfl)
                            go_simp
                            refine hK.out _ _ (fun q => absurd q (by decide)) (fun _ => ?_)
                            clear hK K
                            try simp only [Act.put, List.setIfInBounds_toArray, List.set_cons_zero, List.set_cons_succ]
                            refine UpC.one (i := 4) (o := ?o_uc20) (by kernel_rfl) ?hi_uc20 (fun K hK => ?rest_uc20)
                            case hi_uc20 => ((simp only [List.getElem?_toArray, List.getElem?_cons_succ, List.getElem?_cons_zero]); rfl)
                            go_simp
                            refine hK.out _ _ (fun q => absurd q (by decide)) (fun _ => ?_)
                            clear hK K
                            try simp only [Act.put, List.setIfInBounds_toArray, List.set_cons_zero, List.set_cons_succ]
                            refine UpC.done (by kernel_rfl) ?_ _
                            go_wp2
                            rw [HN.out.1, HN.out.2.1, HN.out.2.2]
                            exact bodyPost_ret (read_fin27 (Blk.set ((Blk.set ((Blk.set ((Blk.set (HZ7.out) 0 (.int .i64 kd))) 1 (.string x2))) 2 (.int .i64 0))) 3 (.int .i64 0)) _ rfl rfl rfl) rfl ⟨rfl, by rw [HZB.out]; exact (belLow6 ((belLow6 ((belLow6 ((belLow6 (HB7.out) ⟨zb, 0, none⟩ (.int .i64 kd) (Nat.le_refl _))) ⟨zb, 1, none⟩ (.string x2) (Nat.le_refl _))) ⟨zb, 2, none⟩ (.int .i64 0) (Nat.le_refl _))) ⟨zb, 3, none⟩ (.int .i64 0) (Nat.le_refl _))⟩
                          · have HN := Lib.hid (rr_no2 HP.out HRD.out (fun q => by rw [hln] at q; exact ht (Option.some.inj q.1)))
                            have t11 : ((bA t).toList == s.toList) = false := by rw [bA_toL, sl, beq_eq_false_iff_ne]; exact ht
                            have t12 : ((bA t).toList != s.toList) = true := by rw [bA_toL, sl, bne_iff_ne]; exact ht
                            go_wp2_with (go_at_call 12; (with_reducible refine (CL.out _).mono ?_); rintro e9 w9 ⟨hrl, hb9⟩; have e9r := rln_yes' hln hrl; subst e9r; have HZ9 := Lib.hid (Blk.later ((zset (j := 1) (HZW.out) hq6b (.string x2))) hb9); have HB9 := Lib.hid (Below.trans ((belLow6 (HBZ.out) ⟨v1.heap.size, 1, none⟩ (.string x2) (show zb ≤ v1.heap.size by omega))) (hb9.mono (Nat.le_of_lt (Blk.lt ((zset (j := 1) (HZW.out) hq6b (.string x2))))))); have y0 := HZ9.out.cell (j := 0) rfl; have y1 := HZ9.out.cell (j := 1) rfl; have y2 := HZ9.out.cell (j := 2) rfl; have y3 := HZ9.out.cell (j := 3) rfl; have yf := HZ9.out.frozen; have HA9 := Lib.hid (Blk.later ((Blk.set (HA.out) 1 (.string x2))) hb9); clear hb9 hrl)
                            rw [HN.out.1, HN.out.2.1, HN.out.2.2]
                            exact bodyPost_ret (read_fin27 (Blk.set ((Blk.set ((Blk.set ((Blk.set (HZ9.out) 0 (.int .i64 0))) 1 (.string ⟨#[]⟩))) 2 (.int .i64 0))) 3 (.int .i64 0)) _ rfl rfl rfl) rfl ⟨rfl, by rw [HZB.out]; exact (belLow6 ((belLow6 ((belLow6 ((belLow6 (HB9.out) ⟨zb, 0, none⟩ (.int .i64 0) (Nat.le_refl _))) ⟨zb, 1, none⟩ (.string ⟨#[]⟩) (Nat.le_refl _))) ⟨zb, 2, none⟩ (.int .i64 0) (Nat.le_refl _))) ⟨zb, 3, none⟩ (.int .i64 0) (Nat.le_refl _))⟩
                    · have t31 : decide ((5 : Int) ≤ kd) = false := decide_eq_false hlo
                      have HRD := Lib.hid (show readR (p0 :: p1 :: p2 :: []) = some (r, ⟨kd, x2, 0, 0⟩, []) from by rw [HRQ.out]; simp [readK, hq3, hq5, hq6, hq7, hq9, hq14, hq16, hx2, hlo])
                      have CL := Lib.hid (fun u => rf_Line27 kd 0 0 r x2 u (by unfold maxLen; omega) HRI.out (⟨by decide, by decide⟩))
                      clear HRQ
                      go_upto_region 33 with (first | (go_at_call 32; (with_reducible refine (CN0.out _).mono ?_); rintro e9 w9 ⟨rfl, rfl⟩))
                      all_goals
                        try generalize (if c - 2 = 1 then some (⟨g, 2, none⟩ : Addr) else some ⟨g, 3, none⟩) = ra
                        try generalize (if c - 3 = 1 then some (⟨g, 3, none⟩ : Addr) else some ⟨g, 4, none⟩) = ra
                        try generalize (if c - 3 = 2 then some (⟨g, 4, none⟩ : Addr) else some ⟨g, 5, none⟩) = ra
                        try generalize (if c = 3 then some (⟨g, 0, none⟩ : Addr) else some ⟨g, 3, none⟩) = ra
                        cases hln : lineE r ⟨kd, x2, 0, 0⟩ with
                        | none =>
                          have HN := Lib.hid (rr_no2 HP.out HRD.out (fun q => by rw [hln] at q; cases q.1))
                          go_wp2_with (go_at_call 12; (with_reducible refine (CL.out _).mono ?_); rintro e9 w9 ⟨hrl, hb9⟩; obtain ⟨t9, rfl⟩ := rln_no' hln hrl; have HZ9 := Lib.hid (Blk.later ((zset (j := 1) (HZW.out) hq6b (.string x2))) hb9); have HB9 := Lib.hid (Below.trans ((belLow6 (HBZ.out) ⟨v1.heap.size, 1, none⟩ (.string x2) (show zb ≤ v1.heap.size by omega))) (hb9.mono (Nat.le_of_lt (Blk.lt ((zset (j := 1) (HZW.out) hq6b (.string x2))))))); have y0 := HZ9.out.cell (j := 0) rfl; have y1 := HZ9.out.cell (j := 1) rfl; have y2 := HZ9.out.cell (j := 2) rfl; have y3 := HZ9.out.cell (j := 3) rfl; have yf := HZ9.out.frozen; have HA9 := Lib.hid (Blk.later ((Blk.set (HA.out) 1 (.string x2))) hb9); clear hb9 hrl)
                          rw [HN.out.1, HN.out.2.1, HN.out.2.2]
                          exact bodyPost_ret (read_fin27 (Blk.set ((Blk.set ((Blk.set ((Blk.set (HZ9.out) 0 (.int .i64 0))) 1 (.string ⟨#[]⟩))) 2 (.int .i64 0))) 3 (.int .i64 0)) _ rfl rfl rfl) rfl ⟨rfl, by rw [HZB.out]; exact (belLow6 ((belLow6 ((belLow6 ((belLow6 (HB9.out) ⟨zb, 0, none⟩ (.int .i64 0) (Nat.le_refl _))) ⟨zb, 1, none⟩ (.string ⟨#[]⟩) (Nat.le_refl _))) ⟨zb, 2, none⟩ (.int .i64 0) (Nat.le_refl _))) ⟨zb, 3, none⟩ (.int .i64 0) (Nat.le_refl _))⟩
                        | some t =>
                          by_cases ht : t = s.data.toList
                          · have HN := Lib.hid (rr_yes HP.out HRD.out (by rw [hln, ht]))
                            have t11 : ((bA t).toList == s.toList) = true := by rw [bA_toL, sl, beq_iff_eq]; exact ht
                            have t12 : ((bA t).toList != s.toList) = false := by rw [bA_toL, sl, bne_eq_false_iff_eq]; exact ht
                            go_upto_region 36 with (go_at_call 12; (with_reducible refine (CL.out _).mono ?_); rintro e9 w9 ⟨hrl, hb9⟩; have e9r := rln_yes' hln hrl; subst e9r; have HZ9 := Lib.hid (Blk.later ((zset (j := 1) (HZW.out) hq6b (.string x2))) hb9); have HB9 := Lib.hid (Below.trans ((belLow6 (HBZ.out) ⟨v1.heap.size, 1, none⟩ (.string x2) (show zb ≤ v1.heap.size by omega))) (hb9.mono (Nat.le_of_lt (Blk.lt ((zset (j := 1) (HZW.out) hq6b (.string x2))))))); have y0 := HZ9.out.cell (j := 0) rfl; have y1 := HZ9.out.cell (j := 1) rfl; have y2 := HZ9.out.cell (j := 2) rfl; have y3 := HZ9.out.cell (j := 3) rfl; have yf := HZ9.out.frozen; have HA9 := Lib.hid (Blk.later ((Blk.set (HA.out) 1 (.string x2))) hb9); clear hb9 hrl)
                            refine wp_region_upc (S := fun u => Blk u v1.heap.size [.int .i64 kd, .string x2, .int .i64 0, .int .i64 0] 23 ∧ Below w9.heap.size w9 u) [3, 4] (by kernel_rfl) (by exact ⟨HA9.out.later (belDrew (Below.refl _ _)), belDrew (Below.refl _ _)⟩) (fun hHeld => ?_)
                            refine UpC.take (i := 0) (oi := ?oi_uc21) (v := ?v_uc21) ?hi_uc21 (by kernel_rfl) ?hf_uc21 ?hr_uc21 (by kernel_rfl) ?hQ_uc21 (Or.inl ⟨?hw_uc21, ?hy_uc21⟩) (by assumption) ?rest_uc21
                            case hi_uc21 => ((simp only [List.getElem?_toArray, List.getElem?_cons_succ, List.getElem?_cons_zero]); rfl)
                            case hf_uc21 => kernel_rfl
                            case hr_uc21 => kernel_rfl
                            case hQ_uc21 => exact fun _ _ _ h => h
                            case hw_uc21 => rfl
                            case hy_uc21 => ((intro w hSw; (try dsimp only at hSw); go_simp); all_goals (with_reducible rfl))
                            try simp only [Act.put, List.setIfInBounds_toArray, List.set_cons_zero, List.set_cons_succ]
                            refine UpC.take (i := 1) (oi := ?oi_uc22) (v := ?v_uc22) ?hi_uc22 (by kernel_rfl) ?hf_uc22 ?hr_uc22 (by kernel_rfl) ?hQ_uc22 (Or.inl ⟨?hw_uc22, ?hy_uc22⟩) (by assumption) ?rest_uc22
                            case hi_uc22 => ((simp only [List.getElem?_toArray, List.getElem?_cons_succ, List.getElem?_cons_zero]); rfl)
                            case hf_uc22 => kernel_rfl
                            case hr_uc22 => kernel_rfl
                            case hQ_uc22 => exact fun _ _ _ h => h
                            case hw_uc22 => rfl
                            case hy_uc22 => ((intro w hSw; (try dsimp only at hSw); have x50 := hSw.1.cell (j := 0) rfl; have x51 := hSw.1.cell (j := 1) rfl; have x52 := hSw.1.cell (j := 2) rfl; have x53 := hSw.1.cell (j := 3) rfl; go_simp); all_goals (with_reducible rfl))
                            try simp only [Act.put, List.setIfInBounds_toArray, List.set_cons_zero, List.set_cons_succ]
                            refine UpC.take (i := 2) (oi := ?oi_uc23) (v := ?v_uc23) ?hi_uc23 (by kernel_rfl) ?hf_uc23 ?hr_uc23 (by kernel_rfl) ?hQ_uc23 (Or.inl ⟨?hw_uc23, ?hy_uc23⟩) (by assumption) ?rest_uc23
                            case hi_uc23 => ((simp only [List.getElem?_toArray, List.getElem?_cons_succ, List.getElem?_cons_zero]); rfl)
                            case hf_uc23 => kernel_rfl
                            case hr_uc23 => kernel_rfl
                            case hQ_uc23 => exact fun _ _ _ h => h
                            case hw_uc23 => rfl
                            case hy_uc23 => ((intro w hSw; (try dsimp only at hSw); go_simp); all_goals (with_reducible rfl))
                            try simp only [Act.put, List.setIfInBounds_toArray, List.set_cons_zero, List.set_cons_succ]
                            have HZ7 := Lib.hid (HZ9.out.later hHeld.2)
                            have HB7 := Lib.hid (HB9.out.trans (hHeld.2.mono (Nat.le_of_lt HZ9.out.lt)))
                            have k0 := HZ7.out.cell (j := 0) rfl
                            have k1 := HZ7.out.cell (j := 1) rfl
                            have k2 := HZ7.out.cell (j := 2) rfl
                            have k3 := HZ7.out.cell (j := 3) rfl
                            have kf := HZ7.out.frozen
                            refine UpC.one (i := 3) (o := ?o_uc24) (by kernel_rfl) ?hi_uc24 (fun K hK => ?rest_uc24)
                            case hi_uc24 => ((simp only [List.getElem?_toArray, List.getElem?_cons_succ, List.getElem?_cons_zero]); rfl)
                            go_simp
                            refine hK.out _ _ (fun q => absurd q (by decide)) (fun _ => ?_)
                            clear hK K
                            try simp only [Act.put, List.setIfInBounds_toArray, List.set_cons_zero, List.set_cons_succ]
                            refine UpC.one (i := 4) (o := ?o_uc25) (by kernel_rfl) ?hi_uc25 (fun K hK => ?rest_uc25)
                            case hi_uc25 => ((simp only [List.getElem?_toArray, List.getElem?_cons_succ, List.getElem?_cons_zero]); rfl)
                            go_simp
                            refine hK.out _ _ (fun q => absurd q (by decide)) (fun _ => ?_)
                            clear hK K
                            try simp only [Act.put, List.setIfInBounds_toArray, List.set_cons_zero, List.set_cons_succ]
                            refine UpC.done (by kernel_rfl) ?_ _
                            go_wp2
                            rw [HN.out.1, HN.out.2.1, HN.out.2.2]
                            exact bodyPost_ret (read_fin27 (Blk.set ((Blk.set ((Blk.set ((Blk.set (HZ7.out) 0 (.int .i64 kd))) 1 (.string x2))) 2 (.int .i64 0))) 3 (.int .i64 0)) _ rfl rfl rfl) rfl ⟨rfl, by rw [HZB.out]; exact (belLow6 ((belLow6 ((belLow6 ((belLow6 (HB7.out) ⟨zb, 0, none⟩ (.int .i64 kd) (Nat.le_refl _))) ⟨zb, 1, none⟩ (.string x2) (Nat.le_refl _))) ⟨zb, 2, none⟩ (.int .i64 0) (Nat.le_refl _))) ⟨zb, 3, none⟩ (.int .i64 0) (Nat.le_refl _))⟩
                          · have HN := Lib.hid (rr_no2 HP.out HRD.out (fun q => by rw [hln] at q; exact ht (Option.some.inj q.1)))
                            have t11 : ((bA t).toList == s.toList) = false := by rw [bA_toL, sl, beq_eq_false_iff_ne]; exact ht
                            have t12 : ((bA t).toList != s.toList) = true := by rw [bA_toL, sl, bne_iff_ne]; exact ht
                            go_wp2_with (go_at_call 12; (with_reducible refine (CL.out _).mono ?_); rintro e9 w9 ⟨hrl, hb9⟩; have e9r := rln_yes' hln hrl; subst e9r; have HZ9 := Lib.hid (Blk.later ((zset (j := 1) (HZW.out) hq6b (.string x2))) hb9); have HB9 := Lib.hid (Below.trans ((belLow6 (HBZ.out) ⟨v1.heap.size, 1, none⟩ (.string x2) (show zb ≤ v1.heap.size by omega))) (hb9.mono (Nat.le_of_lt (Blk.lt ((zset (j := 1) (HZW.out) hq6b (.string x2))))))); have y0 := HZ9.out.cell (j := 0) rfl; have y1 := HZ9.out.cell (j := 1) rfl; have y2 := HZ9.out.cell (j := 2) rfl; have y3 := HZ9.out.cell (j := 3) rfl; have yf := HZ9.out.frozen; have HA9 := Lib.hid (Blk.later ((Blk.set (HA.out) 1 (.string x2))) hb9); clear hb9 hrl)
                            rw [HN.out.1, HN.out.2.1, HN.out.2.2]
                            exact bodyPost_ret (read_fin27 (Blk.set ((Blk.set ((Blk.set ((Blk.set (HZ9.out) 0 (.int .i64 0))) 1 (.string ⟨#[]⟩))) 2 (.int .i64 0))) 3 (.int .i64 0)) _ rfl rfl rfl) rfl ⟨rfl, by rw [HZB.out]; exact (belLow6 ((belLow6 ((belLow6 ((belLow6 (HB9.out) ⟨zb, 0, none⟩ (.int .i64 0) (Nat.le_refl _))) ⟨zb, 1, none⟩ (.string ⟨#[]⟩) (Nat.le_refl _))) ⟨zb, 2, none⟩ (.int .i64 0) (Nat.le_refl _))) ⟨zb, 3, none⟩ (.int .i64 0) (Nat.le_refl _))⟩
end Go.Proofs.YtekakalhknjdaaaDoor
