
/- DiskModel holds for every list of acts. No conditions. -/
import Derived.Test.YtcnjcldfbidkmaaDkMd
import Derived.Lib.SlBytesConst
namespace Go.Proofs.Ytcnjcldfbidkmaa.diskModel
open Go.ChangeShapes Go.WideShapes Go.ChangeAt Go.RowKit
open Go.ChangeMaps (open_string shut_string)
set_option linter.unusedVariables false
open Go.RowKit Go.Sort Go.Maps Go.WideMaps
set_option linter.unusedSimpArgs false
set_option maxRecDepth 100000 in
set_option maxHeartbeats 32000000 in
theorem walk (a : Option Addr) (n c : Nat) (L : List ActD) (w : World) (hl : L.length = n) (hg : ∀ x ∈ L, x.good w) (hR : Row w a n c 6 (L.flatMap ActD.cells)) :
    Calls Try.prog 6 #[.slice a n c] w fun e w' => e = .returned (.bool true) ∧ Below w.heap.size w w' := by
  have hw : Below w.heap.size w w := Below.refl _ _
  have hbel := hw
  have hbd_a : n ≤ c ∧ c ≤ 9223372036854775807 := by obtain ⟨_, h1, h2, _⟩ := hR; unfold maxLen at h2; exact ⟨h1, h2⟩
  obtain ⟨hbd1_a, hbd2_a⟩ := hbd_a
  subst hl
  obtain ⟨f0, hf0⟩ : ∃ q, fewD L = q := ⟨_, rfl⟩
  have CF0 := Lib.hid (fun u (hu : Below w.heap.size w u) => hf0 ▸ few_10D a L.length c L u rfl (Row.later hR hu) (fun y hy => ⟨(hg y hy).1, (hg y hy).2.1.later hu, (hg y hy).2.2.later hu⟩))
  have HF0 := Lib.hid hf0
  have HR := Lib.hid hR
  have HG := Lib.hid hg
  clear hR hg hf0
  go_enter Try.func6, Try.ntmps6
  cases f0 with
  | false =>
    go_wp2_with (first | (go_at_call 30; (with_reducible refine (awake_10 _).mono ?_); rintro e wa ⟨rfl, ha⟩; replace hbel := belStep hbel ha; clear ha) | (go_at_call 31; (with_reducible refine (CF0.out _ hbel).mono ?_); rintro e wf0 ⟨rfl, hf⟩; replace hbel := belStep hbel hf; clear hf))
    go_ret
    exact ⟨rfl, hbel⟩
  | true =>
    have hn50 : L.length ≤ 50 := fewD_len HF0.out
    go_upto_region 6 with (first | (go_at_call 30; (with_reducible refine (awake_10 _).mono ?_); rintro e wa ⟨rfl, ha⟩; replace hbel := belStep hbel ha; clear ha) | (go_at_call 31; (with_reducible refine (CF0.out _ hbel).mono ?_); rintro e wf0 ⟨rfl, hf⟩; replace hbel := belStep hbel hf; clear hf) | (go_at_call 32; (with_reducible refine (pl_New w.heap.size [] [] _ (Pool.nil _ _ _) (fun b hb => absurd hb List.not_mem_nil) hbel.size).mono ?_); rintro e w1 ⟨M, rfl, hp_, hb_⟩; have HP := Lib.hid hp_; replace hbel := belStep hbel hb_; clear hp_ hb_))
    clear hw CF0
    have HM := Lib.hid (show MemS w w1 [] w1.heap.size (.slice none 0 0) (.slice none 0 0) [] [] [(M, ⟨[], [], 0⟩)] from ⟨HP.out, ⟨none, 0, rfl, ⟨rfl, Nat.le_refl _, by unfold maxLen; omega, fun _ => ⟨rfl, rfl⟩, .inl rfl⟩, fun z => absurd rfl z, fun f hf => absurd hf List.not_mem_nil⟩, fun b hb => absurd hb List.not_mem_nil, Nat.le_refl _, OwnR.nil _ _ _ _, hbel.size, hbel⟩)
    have HD := Lib.hid (show ModM w ⟨[], [], 0⟩ [] [] 0 from ⟨rfl, rfl, GoodD.new, Nat.le_refl _, Nat.le_refl _, fun o ho => absurd ho List.not_mem_nil⟩)
    clear HP hbel
    go_wp2
    go_loopw [3, 4, 5, 6] (fun dv fv ov iv wr => ∃ (k M : Nat) (d : DiskV) (K : List FileV) (T : List OpV) (XF : List Nat) (Bo : Nat), k ≤ L.length ∧ dv = .pointer (some ⟨M, 0, none⟩) ∧ iv = .int .i64 k ∧ Hid (MemS w wr XF Bo fv ov K T [(M, d)]) ∧ Hid (ModM w d K T k)) (fun _ _ _ iv _ => L.length - (intOf iv).toNat)
    case atStart => exact ⟨0, M, _, [], [], [], _, Nat.zero_le _, rfl, rfl, HM, HD⟩
    case round =>
      clear HM HD
      obtain ⟨k, M, d, K, T, XF, Bo, hk, rfl, rfl, HM, HD⟩ := hrel
      by_cases hlt : k < L.length
      · have hd : decide ((k : Int) < (L.length : Int)) = true := decide_eq_true (by omega)
        have hki : (k : Int) < (L.length : Int) := by omega
        have hk0 : (0 : Int) ≤ (k : Int) := by omega
        have hbel := HM.out.bel
        obtain ⟨x, hx⟩ : ∃ x, L[k]? = some x := ⟨L[k], List.getElem?_eq_getElem hlt⟩
        obtain ⟨bc, oc, ec, _, hcc⟩ := (HR.out).elem ActD.cells_len (by omega) hx
        subst ec
        have c0 := keep (hcc 0 _ rfl)
        have c1 := keep (hcc 1 _ rfl)
        have c2 := keep (hcc 2 _ rfl)
        have c3 := keep (hcc 3 _ rfl)
        have c4 := keep (hcc 4 _ rfl)
        have c5 := keep (hcc 5 _ rfl)
        rw [Nat.add_zero] at c0
        have HGX := Lib.hid (HG.out x (List.mem_of_getElem? hx))
        have hact := fewD_act HF0.out (List.mem_of_getElem? hx)
        unfold actDB at hact
        rw [Bool.and_eq_true] at hact
        have hzl := opB_Z hact.1
        have hkl := of_decide_eq_true hact.2
        clear hact hx hcc
        have hzb1 : x.op.Z.length ≤ x.op.bc := HGX.out.2.1.1.1.2.1
        have hzb2 : x.op.bc ≤ 9223372036854775807 := by have := HGX.out.2.1.1.1.2.2.1; unfold maxLen at this; omega
        have hkb1 : x.K.length ≤ x.kc := HGX.out.2.2.1.2.1
        have hkb2 : x.kc ≤ 9223372036854775807 := by have := HGX.out.2.2.1.2.2.1; unfold maxLen at this; omega
        obtain ⟨oa, oc, rfl, hor⟩ := rowR_of_own HM.out.own
        have hot : T.length ≤ oc := hor.2.1
        have hoc : oc ≤ 9223372036854775807 := by have := hor.2.2.1; unfold maxLen at this; omega
        obtain ⟨fa, fc, rfl, hfr⟩ := HM.out.fin.row
        have hcn := HD.out.cnt
        have htl := HD.out.tlen
        have hkn := HD.out.klen
        have hT50 : T.length ≤ 50 := by omega
        have hcn2 : d.cap + d.done.length ≤ 100000 := by omega
        clear hor hfr hcn
        go_upto_region 12 with fail
        have kB := belAlloc (Below.refl wr.heap.size wr) (.cells #[.int .i64 x.kind, .int .i64 x.op.kind, .string x.op.name, .string x.op.dst, .slice x.op.ba x.op.Z.length x.op.bc, .slice x.ka x.K.length x.kc] 73)
        have HAB := Lib.hid (Blk.new wr [.int .i64 x.kind, .int .i64 x.op.kind, .string x.op.name, .string x.op.dst, .slice x.op.ba x.op.Z.length x.op.bc, .slice x.ka x.K.length x.kc] 73)
        have HM5 := Lib.hid (HM.out.later kB)
        have HPX := Lib.hid ((HM.out.pool.more (Y := wr.heap.size :: (XF ++ (Value.slice oa T.length oc).ownBlock.toList)) (fun b hb => (List.mem_cons.1 hb).elim (fun z => .inr (by omega)) .inl)).later kB)
        clear kB hbel HM c0 c1 c2 c3 c4 c5
        generalize wr.alloc (.cells #[.int .i64 x.kind, .int .i64 x.op.kind, .string x.op.name, .string x.op.dst, .slice x.op.ba x.op.Z.length x.op.bc, .slice x.ka x.K.length x.kc] 73) = W5 at *
        generalize wr.heap.size = ab at *
        have hbel := HM5.out.bel
        have y0 := HAB.out.cell (j := 0) rfl
        have y1 := HAB.out.cell (j := 1) rfl
        have y2 := HAB.out.cell (j := 2) rfl
        have y3 := HAB.out.cell (j := 3) rfl
        have y4 := HAB.out.cell (j := 4) rfl
        have y5 := HAB.out.cell (j := 5) rfl
        by_cases k0 : x.kind = 0
        · have d0 : (x.kind == (0 : Int)) = true := by rw [k0]; rfl
          have CA := Lib.hid (pl_Do w.heap.size M _ d [] W5 HPX.out (fun b hb => (List.mem_cons.1 hb).elim (fun z => by subst z; exact HAB.out.lt) (HM5.out.xall b)) hbel.size hcn2 x.op (HGX.out.2.1.1.later hbel) (by omega) HGX.out.2.1.2)
          have CR := Lib.hid (fun u => fr_Right x.op u HGX.out.2.1.2)
          obtain ⟨rt, hrt⟩ : ∃ q, rightM x.op.m = q := ⟨_, rfl⟩
          have HRT := Lib.hid hrt
          rw [hrt] at CR
          have hde : doE x.op.m = if rt = true then 0 else 1 := by unfold doE; rw [hrt]
          rw [hde] at CA
          clear hrt hde
          have HDG := Lib.hid (fun h : rightM x.op.m = true => HD.out.do x.op h HGX.out.2.1 (by omega))
          clear hbel
          cases rt with
          | false =>
            go_upto_region 14 with (go_at_call 33; (with_reducible refine (CA.out).mono ?_); rintro e w6 ⟨rfl, hp_, hb_, hf_⟩; have HM6 := Lib.hid (HM5.out.act (hp_.more (fun b hb => .inl (List.mem_cons_of_mem _ hb))) hb_ (Free.sub hf_ (fun b hb => List.mem_cons_of_mem _ hb))); have HAB6 := Lib.hid (Free.blkM hf_ HAB.out List.mem_cons_self); clear hp_ hb_ hf_)
            clear CA HM5 y0 y1 y2 y3 y4 y5
            have y0 := HAB6.out.cell (j := 0) rfl
            have y1 := HAB6.out.cell (j := 1) rfl
            have y2 := HAB6.out.cell (j := 2) rfl
            have y3 := HAB6.out.cell (j := 3) rfl
            have y4 := HAB6.out.cell (j := 4) rfl
            have y5 := HAB6.out.cell (j := 5) rfl
            rw [do_wrong HRT.out] at HM6
            have HD7 := Lib.hid HD.out.up
            go_upto_region 32 with (go_at_call 34; (with_reducible refine (CR.out _).mono ?_); rintro e w7 ⟨rfl, hb_⟩; have HM7 := Lib.hid (HM6.out.later hb_); have HAB7 := Lib.hid (HAB6.out.later hb_); clear hb_)
            clear CR HM6 HAB6 y0 y1 y2 y3 y4 y5
            have hcn9 : d.cap + d.done.length ≤ 100000 := by have := HD7.out.cnt; omega
            have hkl9 := HD7.out.klen
            have HSO := Lib.hid (show SortedF (K.map FileV.m) by rw [← HD7.out.files]; exact HD7.out.good.1)
            obtain ⟨oq, ocq, eo, hor⟩ := rowR_of_own HM7.out.own
            simp only [Value.slice.injEq, true_and] at eo
            obtain ⟨rfl, rfl⟩ := eo
            have CL := Lib.hid (fr_Look fa K.length fc K _ T.length _ T _ w7 HM7.out.fin HSO.out (by omega) rfl hor (fun o ho => OpOK.later (HD7.out.ops o ho).2 HM7.out.bel) (by omega))
            clear hor
            go_wp2_with (first | (go_at_call 36; (with_reducible refine (CL.out).mono ?_); rintro e wl ⟨v, rfl, KL9, ⟨Z9, hz9, _⟩, hmap9, hb9⟩; obtain ⟨la, lc, rfl, hlr⟩ := hz9.row; have HML := Lib.hid (MemS.later HM7.out hb9); have CS := Lib.hid (dl_same w.heap.size M _ d la KL9.length lc KL9 wl HML.out.pool.dk HML.out.bel.size hcn9 HD7.out.good.1 ⟨la, lc, rfl, hlr⟩ (HD7.out.look.trans hmap9.symm)); clear hz9 hmap9 hb9 hlr) | (go_at_call 40; (with_reducible refine (CS.out).mono ?_); rintro e ws ⟨rfl, hb9⟩; have HMS := Lib.hid (HML.out.later hb9); have CO := Lib.hid (show Calls Try.prog 41 #[.pointer (some ⟨M, 0, none⟩)] ws (fun e w' => e = .returned (.int .i64 (T.length : Int)) ∧ w' = ws) from by have z := dl_Open w.heap.size M _ d ws HMS.out.pool.dk HMS.out.bel.size; rw [HD7.out.tlen] at z; exact z); clear hb9) | (go_at_call 41; (with_reducible refine (CO.out).mono ?_); rintro e wo ⟨rfl, hy9⟩; have hy8 := hy9.symm; subst hy8))
            go_roundw
            case rel => exact ⟨k + 1, M, d, K, T, XF, Bo, by omega, rfl, by push_cast; rfl, HMS, HD7⟩
            case measure => simp [intOf] <;> omega
          | true =>
            go_upto_region 14 with (go_at_call 33; (with_reducible refine (CA.out).mono ?_); rintro e w6 ⟨rfl, hp_, hb_, hf_⟩; have HM6 := Lib.hid (HM5.out.act (hp_.more (fun b hb => .inl (List.mem_cons_of_mem _ hb))) hb_ (Free.sub hf_ (fun b hb => List.mem_cons_of_mem _ hb))); have HAB6 := Lib.hid (Free.blkM hf_ HAB.out List.mem_cons_self); clear hp_ hb_ hf_)
            clear CA HM5 y0 y1 y2 y3 y4 y5
            have y0 := HAB6.out.cell (j := 0) rfl
            have y1 := HAB6.out.cell (j := 1) rfl
            have y2 := HAB6.out.cell (j := 2) rfl
            have y3 := HAB6.out.cell (j := 3) rfl
            have y4 := HAB6.out.cell (j := 4) rfl
            have y5 := HAB6.out.cell (j := 5) rfl
            have HD7 := Lib.hid (HDG.out HRT.out)
            obtain ⟨d2, hd2⟩ : ∃ q, doW d x.op.m = q := ⟨_, rfl⟩
            rw [hd2] at HM6 HD7
            clear hd2
            go_upto_region 17 with (go_at_call 34; (with_reducible refine (CR.out _).mono ?_); rintro e w7 ⟨rfl, hb_⟩; have HM7 := Lib.hid (HM6.out.later hb_); have HAB7 := Lib.hid (HAB6.out.later hb_); clear hb_)
            clear CR HM6 HAB6 y0 y1 y2 y3 y4 y5
            have y0 := HAB7.out.cell (j := 0) rfl
            have y1 := HAB7.out.cell (j := 1) rfl
            have y2 := HAB7.out.cell (j := 2) rfl
            have y3 := HAB7.out.cell (j := 3) rfl
            have y4 := HAB7.out.cell (j := 4) rfl
            have y5 := HAB7.out.cell (j := 5) rfl
            have k8 := belAlloc (Below.refl w7.heap.size w7) (.cells #[.int .i64 x.op.kind, .string x.op.name, .string x.op.dst, .slice x.op.ba x.op.Z.length x.op.bc] 70)
            have HM8 := Lib.hid (HM7.out.later k8)
            have HRX := Lib.hid (row_new w7 [.int .i64 x.op.kind, .string x.op.name, .string x.op.dst, .slice x.op.ba x.op.Z.length x.op.bc] 70 1 4 rfl (by unfold maxLen; omega))
            have HBO := Lib.hid HM8.out.bo
            clear k8 HM7
            go_upto_region 32 with (at_builtin; refine wpList_app_sep rfl _ _ 67 rfl Bo 70 _ 4 64 Try.underlying67 info_opI rfl (by decide) _ _ _ rfl HM8.out.own _ 1 1 [.int .i64 x.op.kind, .string x.op.name, .string x.op.dst, .slice x.op.ba x.op.Z.length x.op.bc] rfl HRX.out (op_one x.op) (by unfold maxLen; omega) (by omega) HBO.out ?_; intro v9 w9 ho9 hb9 hg9 hm9; have HO9 := Lib.hid (own_snocG (enc := OpV.cells) (x := x.op) ho9); obtain ⟨oa9, oc9, rfl, _⟩ := rowR_of_own HO9.out; have HM9 := Lib.hid (HM8.out.app HO9.out hg9 hm9 hb9); clear ho9 hb9 hg9 hm9)
            clear HM8 HRX y0 y1 y2 y3 y4 y5
            have hoq : (T ++ [x.op]).length ≤ oc9 ∧ oc9 ≤ 9223372036854775807 := by obtain ⟨a0, c0, e0, h0⟩ := rowR_of_own HO9.out; simp only [Value.slice.injEq, true_and] at e0; obtain ⟨rfl, rfl⟩ := e0; have h1 := h0.2.1; have h2 := h0.2.2.1; unfold maxLen at h2; exact ⟨h1, h2⟩
            obtain ⟨hoq1, hoq2⟩ := hoq
            have hT2 : (T ++ [x.op]).length ≤ 60 := by rw [List.length_append, List.length_singleton]; omega
            obtain ⟨T2, hT2e⟩ : ∃ q, T ++ [x.op] = q := ⟨_, rfl⟩
            rw [hT2e] at HM9 HO9 HD7 hoq1 hT2
            have htl2 : T.length + 1 = T2.length := by rw [← hT2e, List.length_append, List.length_singleton]
            simp only [htl2]
            clear hT2e
            have hcn9 : d2.cap + d2.done.length ≤ 100000 := by have := HD7.out.cnt; omega
            have hkl9 := HD7.out.klen
            have HSO := Lib.hid (show SortedF (K.map FileV.m) by rw [← HD7.out.files]; exact HD7.out.good.1)
            obtain ⟨oq, ocq, eo, hor⟩ := rowR_of_own HM9.out.own
            simp only [Value.slice.injEq, true_and] at eo
            obtain ⟨rfl, rfl⟩ := eo
            have CL := Lib.hid (fr_Look fa K.length fc K _ T2.length _ T2 _ w9 HM9.out.fin HSO.out (by omega) rfl hor (fun o ho => OpOK.later (HD7.out.ops o ho).2 HM9.out.bel) (by omega))
            clear hor
            go_wp2_with (first | (go_at_call 36; (with_reducible refine (CL.out).mono ?_); rintro e wl ⟨v, rfl, KL9, ⟨Z9, hz9, _⟩, hmap9, hb9⟩; obtain ⟨la, lc, rfl, hlr⟩ := hz9.row; have HML := Lib.hid (MemS.later HM9.out hb9); have CS := Lib.hid (dl_same w.heap.size M _ d2 la KL9.length lc KL9 wl HML.out.pool.dk HML.out.bel.size hcn9 HD7.out.good.1 ⟨la, lc, rfl, hlr⟩ (HD7.out.look.trans hmap9.symm)); clear hz9 hmap9 hb9 hlr) | (go_at_call 40; (with_reducible refine (CS.out).mono ?_); rintro e ws ⟨rfl, hb9⟩; have HMS := Lib.hid (HML.out.later hb9); have CO := Lib.hid (show Calls Try.prog 41 #[.pointer (some ⟨M, 0, none⟩)] ws (fun e w' => e = .returned (.int .i64 (T2.length : Int)) ∧ w' = ws) from by have z := dl_Open w.heap.size M _ d2 ws HMS.out.pool.dk HMS.out.bel.size; rw [HD7.out.tlen] at z; exact z); clear hb9) | (go_at_call 41; (with_reducible refine (CO.out).mono ?_); rintro e wo ⟨rfl, hy9⟩; have hy8 := hy9.symm; subst hy8))
            go_roundw
            case rel => exact ⟨k + 1, M, d2, K, T2, XF, Bo, by omega, rfl, by push_cast; rfl, HMS, HD7⟩
            case measure => simp [intOf] <;> omega
        · by_cases k1 : x.kind = 1
          · have d0 : (x.kind == (0 : Int)) = false := by rw [beq_eq_false_iff_ne]; exact k0
            have d1 : (x.kind == (1 : Int)) = true := by rw [k1]; rfl
            have CA := Lib.hid (pl_Sync w.heap.size M _ d [] W5 HM5.out.pool HM5.out.xall hbel.size hcn2)
            have HB5 := Lib.hid hbel
            clear hbel
            go_upto_region 20 with (go_at_call 35; (with_reducible refine (CA.out).mono ?_); rintro e w6 ⟨rfl, hp_, hb_, hf_⟩; have HM6 := Lib.hid (HM5.out.act hp_ hb_ hf_); clear hp_ hb_ hf_)
            clear CA HM5
            have HSO := Lib.hid (show SortedF (K.map FileV.m) by rw [← HD.out.files]; exact HD.out.good.1)
            obtain ⟨oq, ocq, eo, hor⟩ := rowR_of_own HM6.out.own
            simp only [Value.slice.injEq, true_and] at eo
            obtain ⟨rfl, rfl⟩ := eo
            have hbel := HM6.out.bel
            have CL := Lib.hid (fr_Look fa K.length fc K _ T.length _ T _ w6 HM6.out.fin HSO.out (by omega) rfl hor (fun o ho => OpOK.later (HD.out.ops o ho).2 hbel) (by omega))
            clear hor
            go_upto_region 21 with (go_at_call 36; (with_reducible refine (CL.out).mono ?_); rintro e w7 ⟨v, rfl, KL, hz_, hmap_, hb_⟩; obtain ⟨Z, hm7⟩ := HM6.out.reset hz_ hb_; obtain ⟨fa2, fc2, rfl, _⟩ := hm7.fin.row; have HM7 := Lib.hid hm7; have HMP := Lib.hid hmap_; clear hz_ hmap_ hb_ hm7)
            clear CL HM6 HSO
            have hln := congrArg List.length HMP.out
            rw [List.length_map] at hln
            have HD7 := Lib.hid (show ModM w (syncW d) KL [] (k + 1) from ⟨HD.out.look.trans HMP.out.symm, rfl, HD.out.good.sync, (by have := HD.out.cnt; show d.cap + d.done.length + 0 ≤ k + 1; omega), (by have h1 := HD.out.klen; have h2 := len_foldA (T.map OpV.m) (K.map FileV.m); rw [List.length_map, List.length_map] at h2; simp only [List.length_nil]; omega), fun o ho => absurd ho List.not_mem_nil⟩)
            obtain ⟨d2, hd2⟩ : ∃ q, syncW d = q := ⟨_, rfl⟩
            rw [hd2] at HM7 HD7
            clear hd2 hln HMP
            have hcn9 : d2.cap + d2.done.length ≤ 100000 := by have := HD7.out.cnt; omega
            have hkl9 := HD7.out.klen
            have HSO := Lib.hid (show SortedF (KL.map FileV.m) by rw [← HD7.out.files]; exact HD7.out.good.1)
            have hor : Row w7 none 0 0 4 ([] : List Value) := ⟨rfl, Nat.le_refl _, by unfold maxLen; omega, fun _ => ⟨rfl, rfl⟩, .inl rfl⟩
            have CL := Lib.hid (fr_Look fa2 KL.length fc2 KL none 0 0 [] _ w7 HM7.out.fin HSO.out (by simp only [List.length_nil] at hkl9; omega) rfl hor (fun o ho => absurd ho List.not_mem_nil) (by omega))
            clear hor
            go_wp2_with (first | (go_at_call 36; (with_reducible refine (CL.out).mono ?_); rintro e wl ⟨v, rfl, KL9, ⟨Z9, hz9, _⟩, hmap9, hb9⟩; obtain ⟨la, lc, rfl, hlr⟩ := hz9.row; have HML := Lib.hid (MemS.later HM7.out hb9); have CS := Lib.hid (dl_same w.heap.size M _ d2 la KL9.length lc KL9 wl HML.out.pool.dk HML.out.bel.size hcn9 HD7.out.good.1 ⟨la, lc, rfl, hlr⟩ (HD7.out.look.trans hmap9.symm)); clear hz9 hmap9 hb9 hlr) | (go_at_call 40; (with_reducible refine (CS.out).mono ?_); rintro e ws ⟨rfl, hb9⟩; have HMS := Lib.hid (HML.out.later hb9); have CO := Lib.hid (show Calls Try.prog 41 #[.pointer (some ⟨M, 0, none⟩)] ws (fun e w' => e = .returned (.int .i64 (((0 : Nat) : Int) : Int)) ∧ w' = ws) from by have z := dl_Open w.heap.size M _ d2 ws HMS.out.pool.dk HMS.out.bel.size; rw [HD7.out.tlen] at z; exact z); clear hb9) | (go_at_call 41; (with_reducible refine (CO.out).mono ?_); rintro e wo ⟨rfl, hy9⟩; have hy8 := hy9.symm; subst hy8))
            go_roundw
            case rel => exact ⟨k + 1, M, d2, KL, [], Z, _, by omega, rfl, by push_cast; rfl, HMS, HD7⟩
            case measure => simp [intOf] <;> omega
          · by_cases k2 : x.kind = 2
            · have d0 : (x.kind == (0 : Int)) = false := by rw [beq_eq_false_iff_ne]; exact k0
              have d1 : (x.kind == (1 : Int)) = false := by rw [beq_eq_false_iff_ne]; exact k1
              have d2 : (x.kind == (2 : Int)) = true := by rw [k2]; rfl
              have CA := Lib.hid (pl_Crash w.heap.size M _ d [] W5 HPX.out (fun b hb => (List.mem_cons.1 hb).elim (fun z => by subst z; exact HAB.out.lt) (HM5.out.xall b)) hbel.size hcn2 x.ka x.K.length x.kc x.K (HGX.out.2.2.later hbel))
              have HB5 := Lib.hid hbel
              clear hbel
              go_upto_region 24 with (go_at_call 37; (with_reducible refine (CA.out).mono ?_); rintro e w6 ⟨rfl, hp_, hb_, hf_⟩; have HM6 := Lib.hid (HM5.out.act (hp_.more (fun b hb => .inl (List.mem_cons_of_mem _ hb))) hb_ (Free.sub hf_ (fun b hb => List.mem_cons_of_mem _ hb))); have HAB6 := Lib.hid (Free.blkM hf_ HAB.out List.mem_cons_self); clear hp_ hb_ hf_)
              clear CA HM5 y0 y1 y2 y3 y4 y5
              have y0 := HAB6.out.cell (j := 0) rfl
              have y1 := HAB6.out.cell (j := 1) rfl
              have y2 := HAB6.out.cell (j := 2) rfl
              have y3 := HAB6.out.cell (j := 3) rfl
              have y4 := HAB6.out.cell (j := 4) rfl
              have y5 := HAB6.out.cell (j := 5) rfl
              have HSO := Lib.hid (show SortedF (K.map FileV.m) by rw [← HD.out.files]; exact HD.out.good.1)
              obtain ⟨oq, ocq, eo, hor⟩ := rowR_of_own HM6.out.own
              simp only [Value.slice.injEq, true_and] at eo
              obtain ⟨rfl, rfl⟩ := eo
              have hbel := HM6.out.bel
              have CL := Lib.hid (fr_Crash fa K.length fc K _ T.length _ T _ x.ka x.K.length x.kc x.K w6 HM6.out.fin HSO.out (by omega) rfl hor (fun o ho => OpOK.later (HD.out.ops o ho).2 hbel) (by omega) (HGX.out.2.2.later hbel))
              clear hor
              go_upto_region 25 with (go_at_call 38; (with_reducible refine (CL.out).mono ?_); rintro e w7 ⟨v, rfl, KL, hz_, hmap_, hb_⟩; obtain ⟨Z, hm7⟩ := HM6.out.reset hz_ hb_; obtain ⟨fa2, fc2, rfl, _⟩ := hm7.fin.row; have HM7 := Lib.hid hm7; have HMP := Lib.hid hmap_; clear hz_ hmap_ hb_ hm7)
              clear CL HM6 HSO
              have hln := congrArg List.length HMP.out
              rw [List.length_map] at hln
              have HD7 := Lib.hid (show ModM w (crashW d x.K) KL [] (k + 1) from ⟨(by rw [HMP.out, ← owns_crash T x.K _ (fun o ho => (HD.out.ops o ho).1), ← HD.out.files, ← HD.out.done]; rfl), rfl, HD.out.good.crash _, (by have := HD.out.cnt; show d.cap + d.done.length + 0 ≤ k + 1; omega), (by have h1 := HD.out.klen; have h2 := len_foldC ((T.map OpV.m).zip x.K) (K.map FileV.m); rw [List.length_map, List.length_zip, List.length_map] at h2; unfold crashF at hln; simp only [List.length_nil]; omega), fun o ho => absurd ho List.not_mem_nil⟩)
              obtain ⟨d2, hd2⟩ : ∃ q, crashW d x.K = q := ⟨_, rfl⟩
              rw [hd2] at HM7 HD7
              clear hd2 hln HMP
              have hcn9 : d2.cap + d2.done.length ≤ 100000 := by have := HD7.out.cnt; omega
              have hkl9 := HD7.out.klen
              have HSO := Lib.hid (show SortedF (KL.map FileV.m) by rw [← HD7.out.files]; exact HD7.out.good.1)
              have hor : Row w7 none 0 0 4 ([] : List Value) := ⟨rfl, Nat.le_refl _, by unfold maxLen; omega, fun _ => ⟨rfl, rfl⟩, .inl rfl⟩
              have CL := Lib.hid (fr_Look fa2 KL.length fc2 KL none 0 0 [] _ w7 HM7.out.fin HSO.out (by simp only [List.length_nil] at hkl9; omega) rfl hor (fun o ho => absurd ho List.not_mem_nil) (by omega))
              clear hor
              go_wp2_with (first | (go_at_call 36; (with_reducible refine (CL.out).mono ?_); rintro e wl ⟨v, rfl, KL9, ⟨Z9, hz9, _⟩, hmap9, hb9⟩; obtain ⟨la, lc, rfl, hlr⟩ := hz9.row; have HML := Lib.hid (MemS.later HM7.out hb9); have CS := Lib.hid (dl_same w.heap.size M _ d2 la KL9.length lc KL9 wl HML.out.pool.dk HML.out.bel.size hcn9 HD7.out.good.1 ⟨la, lc, rfl, hlr⟩ (HD7.out.look.trans hmap9.symm)); clear hz9 hmap9 hb9 hlr) | (go_at_call 40; (with_reducible refine (CS.out).mono ?_); rintro e ws ⟨rfl, hb9⟩; have HMS := Lib.hid (HML.out.later hb9); have CO := Lib.hid (show Calls Try.prog 41 #[.pointer (some ⟨M, 0, none⟩)] ws (fun e w' => e = .returned (.int .i64 (((0 : Nat) : Int) : Int)) ∧ w' = ws) from by have z := dl_Open w.heap.size M _ d2 ws HMS.out.pool.dk HMS.out.bel.size; rw [HD7.out.tlen] at z; exact z); clear hb9) | (go_at_call 41; (with_reducible refine (CO.out).mono ?_); rintro e wo ⟨rfl, hy9⟩; have hy8 := hy9.symm; subst hy8))
              go_roundw
              case rel => exact ⟨k + 1, M, d2, KL, [], Z, _, by omega, rfl, by push_cast; rfl, HMS, HD7⟩
              case measure => simp [intOf] <;> omega
            · have d0 : (x.kind == (0 : Int)) = false := by rw [beq_eq_false_iff_ne]; exact k0
              have d1 : (x.kind == (1 : Int)) = false := by rw [beq_eq_false_iff_ne]; exact k1
              have d2 : (x.kind == (2 : Int)) = false := by rw [beq_eq_false_iff_ne]; exact k2
              have hcb := fun (v : World) (C : Array Value) (n c : Nat) => Lib.run_convert_bytes_const (P := Try.prog) v 68 5 C n c Try.underlying68 Try.underlying5
              have CA := Lib.hid (pl_Copy w.heap.size M _ d [] W5 HM5.out.pool HM5.out.xall hbel.size hcn2 HD.out.good)
              clear hbel
              go_upto_region 29 with (go_at_call 39; (with_reducible refine (CA.out).mono ?_); rintro e w6 ⟨N, rfl, hp_, hb_⟩; have HM6 := Lib.hid (HM5.out.grow hp_ hb_); clear hp_ hb_)
              clear CA HM5
              have k7 := belAlloc (Below.refl w6.heap.size w6) (.cells #[.int .u8 120] 5 (1, 2))
              have HM7 := Lib.hid (HM6.out.later k7)
              have hz : Ints .u8 (w6.alloc (.cells #[.int .u8 120] 5 (1, 2))) (some ⟨w6.heap.size, 0, none⟩) 1 1 [120] := ints_new (k := .u8) w6 [120] 5 (1, 2) (by unfold maxLen; simp) (fun m hm => by simp at hm; subst hm; exact WalkArith.wf_u8 ⟨by omega, by omega⟩)
              have CD := Lib.hid (show Calls Try.prog 33 #[.pointer (some ⟨M, 0, none⟩), .agg #[.int .i64 1, .string ⟨#[111, 116, 104, 101, 114]⟩, .string ⟨#[]⟩, .slice (some ⟨w6.heap.size, 0, none⟩) 1 1]] (w6.alloc (.cells #[.int .u8 120] 5 (1, 2))) _ from pl_Do w.heap.size M _ d [(N, d)] _ (Pool.swap HM7.out.pool) HM7.out.xall HM7.out.bel.size hcn2 ⟨1, ⟨#[111, 116, 104, 101, 114]⟩, ⟨#[]⟩, some ⟨w6.heap.size, 0, none⟩, 1, [120]⟩ hz (show 1 ≤ 1000000 by omega) ⟨show (⟨#[111, 116, 104, 101, 114]⟩ : ByteArray).size ≤ maxLen by decide +kernel, show (⟨#[]⟩ : ByteArray).size ≤ maxLen by decide +kernel, ⟨show (-9223372036854775808 : Int) ≤ 1 by omega, show (1 : Int) ≤ 9223372036854775807 by omega⟩⟩)
              clear k7 hz HM6
              go_upto_region 30 with (go_at_call 33; (with_reducible refine (CD.out).mono ?_); rintro e w8 ⟨rfl, hp_, hb_, hf_⟩; have HM8 := Lib.hid (HM7.out.act hp_ hb_ hf_); clear hp_ hb_ hf_)
              clear CD HM7
              generalize hd8 : doW d _ = d8 at HM8
              have hc8 : d8.cap + d8.done.length ≤ 100000 := by rw [← hd8]; exact Nat.le_trans (doW_cnt _ _) (by have := HD.out.cnt; omega)
              clear hd8
              have CS9 := Lib.hid (pl_Sync w.heap.size M _ d8 [(N, d)] w8 HM8.out.pool HM8.out.xall HM8.out.bel.size hc8)
              go_upto_region 32 with (go_at_call 35; (with_reducible refine (CS9.out).mono ?_); rintro e w9 ⟨rfl, hp_, hb_, hf_⟩; have HM9 := Lib.hid (HM8.out.act (l2 := [(N, d)]) (Pool.tail hp_) hb_ hf_); clear hp_ hb_ hf_)
              clear CS9 HM8
              have HD7 := Lib.hid HD.out.up
              have hcn9 : d.cap + d.done.length ≤ 100000 := by have := HD7.out.cnt; omega
              have hkl9 := HD7.out.klen
              have HSO := Lib.hid (show SortedF (K.map FileV.m) by rw [← HD7.out.files]; exact HD7.out.good.1)
              obtain ⟨oq, ocq, eo, hor⟩ := rowR_of_own HM9.out.own
              simp only [Value.slice.injEq, true_and] at eo
              obtain ⟨rfl, rfl⟩ := eo
              have CL := Lib.hid (fr_Look fa K.length fc K _ T.length _ T _ w9 HM9.out.fin HSO.out (by omega) rfl hor (fun o ho => OpOK.later (HD7.out.ops o ho).2 HM9.out.bel) (by omega))
              clear hor
              go_wp2_with (first | (go_at_call 36; (with_reducible refine (CL.out).mono ?_); rintro e wl ⟨v, rfl, KL9, ⟨Z9, hz9, _⟩, hmap9, hb9⟩; obtain ⟨la, lc, rfl, hlr⟩ := hz9.row; have HML := Lib.hid (MemS.later HM9.out hb9); have CS := Lib.hid (dl_same w.heap.size N _ d la KL9.length lc KL9 wl HML.out.pool.dk HML.out.bel.size hcn9 HD7.out.good.1 ⟨la, lc, rfl, hlr⟩ (HD7.out.look.trans hmap9.symm)); clear hz9 hmap9 hb9 hlr) | (go_at_call 40; (with_reducible refine (CS.out).mono ?_); rintro e ws ⟨rfl, hb9⟩; have HMS := Lib.hid (HML.out.later hb9); have CO := Lib.hid (show Calls Try.prog 41 #[.pointer (some ⟨N, 0, none⟩)] ws (fun e w' => e = .returned (.int .i64 (T.length : Int)) ∧ w' = ws) from by have z := dl_Open w.heap.size N _ d ws HMS.out.pool.dk HMS.out.bel.size; rw [HD7.out.tlen] at z; exact z); clear hb9) | (go_at_call 41; (with_reducible refine (CO.out).mono ?_); rintro e wo ⟨rfl, hy9⟩; have hy8 := hy9.symm; subst hy8))
              go_roundw
              case rel => exact ⟨k + 1, N, d, K, T, XF, Bo, by omega, rfl, by push_cast; rfl, HMS, HD7⟩
              case measure => simp [intOf] <;> omega
      · obtain rfl : k = L.length := by omega
        have hd : decide ((L.length : Int) < (L.length : Int)) = false := decide_eq_false (by omega)
        go_wp2
        go_ret
        exact ⟨rfl, HM.out.bel⟩

set_option maxRecDepth 100000 in
theorem lifted (os : Os) (started : os.Started) (H : Type) (enc : TypeId × Value → H) :
    ReturnsInHanded {} Try.checked os 6 .any (Rows.diskModelSpec.pre6 enc Try.prog Try.f6 Rows.diskModelRow.domain false) (Rows.diskModelSpec.post enc Try.prog Try.f6 false true false false) := by
  refine returnsInHanded_of_change (C := Try.checked) own started (by kernel_rfl) Try.func6
    (ChangeSpec.witness6 (enc := enc) (C := Try.checked) false ⟨#[], #[.slice none 0 0], []⟩ 8 (by kernel_rfl) (by kernel_rfl) (by kernel_rfl) (by kernel_rfl)) ?_
  intro W base args ds gs before hval0 hW hcnd _
  have hval : ∀ (j : Nat) t v, Try.f6.params[j]? = some t → args[j]? = some v → Value.okWide Try.prog W .any base t v := hval0
  have hW' := hW
  obtain ⟨p, q, hA0, hV, rfl, hfz, hnd⟩ := hW
  have hA : DataW.TrodAll enc Try.prog W 0 (fun _ => true) true Try.f6.params.toList args.toList ds p := hA0
  rw [Try.params6] at hA hval
  obtain ⟨v0, vs0, d0, ds0, p0, q0, hargs, rfl, rfl, h0, r0⟩ := trodAll_cons hA
  obtain ⟨rfl, rfl, rfl⟩ := trodAll_nil r0
  obtain rfl : args = #[v0] := by cases args; simp_all
  obtain ⟨rfl, rfl⟩ := trodVars_none hV
  have k0 := h0
  have lt0 : ∀ x ∈ p0, x.block < W.heap.size := by obtain ⟨m, hm⟩ := k0; exact DataW.trod_lt m _ _ _ hm
  have o0 : Value.okWide Try.prog W .any base 62 v0 := hval 0 62 v0 rfl rfl
  obtain ⟨xa0, xn0, xc0, xl0, rfl, fl0, fo0, fr0⟩ := open_actsD o0 h0
  clear hA0 hval0
  refine (walk xa0 xn0 xc0 xl0 W fl0 fo0 fr0).mono fun e W' ⟨he, bel⟩ => ?_
  subst he
  exact ⟨_, rfl, _, _, _, [], _, [], hW', trodAll_mk1 (shut_bool Try.underlying4 _), (trodAll_cons_mk (Below.trod laidOut (by kernel_rfl) (of_decide_eq_true (by kernel_rfl)) k0 bel lt0) trodAll_mk0), rfl, bel.frame _, fun h => by cases h⟩

theorem over : Rows.diskModelRow.holds Try.pinned (OpenSpec.ofChange Rows.diskModelSpec) :=
  OpenClaim.holds_of_wide 6 Try.f6 rfl rfl rfl rfl rfl rfl rfl ⟨rfl, rfl, rfl, rfl, rfl⟩ rfl rfl rfl rfl rfl (by kernel_rfl) Try.func6 (by kernel_rfl)
    (of_decide_eq_true (by kernel_rfl)) (by unfold Func.isWrapper; first | (rw [if_pos (by decide +kernel)]; kernel_rfl) | (rw [if_neg (by decide +kernel)]; exact ⟨rfl, rfl⟩))
    (fun os started H enc _ => lifted os started H enc)

/-- The statement. -/
theorem proved : Rows.DiskModelSaid := over
#print axioms proved

end Go.Proofs.Ytcnjcldfbidkmaa.diskModel
