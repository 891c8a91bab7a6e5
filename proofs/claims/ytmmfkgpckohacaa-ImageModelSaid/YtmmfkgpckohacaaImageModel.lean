
/- ImageModel holds for all its arguments. No conditions. -/
import Derived.Test.YtmmfkgpckohacaaImAct
namespace Go.Proofs.Ytmmfkgpckohacaa.imageModel
open Go.ChangeShapes Go.WideShapes Go.ChangeAt Go.RowKit
open Go.ChangeMaps (open_string shut_string)
set_option linter.unusedVariables false
set_option linter.unusedSimpArgs false
open Go.Sort
theorem good_later {w w' : World} {x : ActV} (h : x.good w) (hb : Below w.heap.size w w') : x.good w' := ⟨h.1, h.2.later hb⟩
theorem place_yes {M : List ImgV} (hr : Rises M) {s : ByteArray} (ht : thereB M s = true) : ∃ p, p < M.length ∧ placeR M s = (p : Int) ∧ M[p]? = some (fndV M s) := by
  obtain ⟨x, hx, he⟩ := there_at hr ht
  have hb : (x.name.toList == s.toList) = true := by rw [he]; exact beq_self_eq_true _
  have hf : fndV M s = x := by unfold fndV; rw [find_there hr hx he]; rfl
  have hp := (List.getElem?_eq_some_iff.1 hx).1
  refine ⟨placeF M s, hp, placeR_at hx hb ?_, by rw [hf]; exact hx⟩
  unfold thereB
  rw [List.any_eq_false]
  intro y hy
  obtain ⟨i, hi⟩ := List.getElem?_of_mem hy
  have hip : i < placeF M s := by
    rcases Nat.lt_or_ge i (placeF M s) with q | q
    · exact q
    · rw [List.getElem?_eq_none (by rw [List.length_take]; omega)] at hi; cases hi
  rw [List.getElem?_take_of_lt hip] at hi
  have h := hr.lt hi hx hip
  rw [he] at h
  intro e
  rw [beq_iff_eq] at e
  rw [e] at h
  exact List.lt_irrefl _ h
theorem eq_self (x : ImgV) (w : World) : (Op.equalIn 10000 31 (.agg #[.string x.name, .int .i64 x.size, .int .i64 x.last]) (.agg #[.string x.name, .int .i64 x.size, .int .i64 x.last])).run Try.prog w = .ok true w := by
  have h := eq_img x x w
  rw [(eqImg_iff x x).2 rfl] at h
  exact h
set_option maxRecDepth 100000 in
set_option maxHeartbeats 16000000 in
theorem walk (a : Option Addr) (n c : Nat) (L : List ActV) (w : World) (hl : L.length = n) (hg : ∀ x ∈ L, x.good w) (hR : Row w a n c 5 (L.flatMap ActV.cells)) :
    Calls Try.prog 3 #[.slice a n c] w fun e w' => e = .returned (.bool true) ∧ Below w.heap.size w w' := by
  have hw : Below w.heap.size w w := Below.refl _ _
  have hbel := hw
  have hbd_a : n ≤ c ∧ c ≤ 9223372036854775807 := by obtain ⟨_, h1, h2, _⟩ := hR; unfold maxLen at h2; exact ⟨h1, h2⟩
  obtain ⟨hbd1_a, hbd2_a⟩ := hbd_a
  subst hl
  obtain ⟨fw, hfw⟩ : ∃ q, fewA L = q := ⟨_, rfl⟩
  have CFW := Lib.hid (fun u (hu : Below w.heap.size w u) => hfw ▸ iact_few a L.length c L u rfl (hR.later hu) (fun y hy => good_later (hg y hy) hu))
  have HFW := Lib.hid hfw
  have HR := Lib.hid hR
  have HG := Lib.hid hg
  clear hR hg hfw
  go_enter Try.func3, Try.ntmps3
  go_upto_region 3 with (first | (go_at_call 17; (with_reducible refine (awake15 _).mono ?_); rintro e w1 ⟨rfl, hb1⟩; replace hbel := belStep hbel hb1; clear hb1) | (go_at_call 18; (with_reducible refine (CFW.out _ hbel).mono ?_); rintro e wf1 ⟨rfl, hb_wf1⟩; replace hbel := belStep hbel hb_wf1; clear hb_wf1; rcases fw with _ | _))
  · go_ret
    exact ⟨rfl, hbel⟩
  have hn50 : L.length ≤ 50 := fewA_len HFW.out
  clear hw CFW HFW
  go_wp2
  go_loopw [3, 4] (fun v i wr => ∃ k : Nat, k ≤ L.length ∧ i = .int .i64 k ∧ OwnR wr w.heap.size 31 3 v (afterA (L.take k)).length ((afterA (L.take k)).flatMap ImgV.cells) ∧ Below w.heap.size w wr) (fun _ i _ => L.length - (intOf i).toNat)
  case atStart => exact ⟨0, Nat.zero_le _, rfl, OwnR.nil _ _ _ _, hbel⟩
  case round =>
    clear hbel
    obtain ⟨k, hk, rfl, hO, hbr⟩ := hrel
    by_cases hlt : k < L.length
    · have hd : decide ((k : Int) < (L.length : Int)) = true := decide_eq_true (by omega)
      have hki : (k : Int) < (L.length : Int) := by omega
      have hk0 : (0 : Int) ≤ (k : Int) := by omega
      obtain ⟨x, hx⟩ : ∃ x, L[k]? = some x := ⟨L[k], List.getElem?_eq_getElem hlt⟩
      obtain ⟨bc, oc, ec, _, hcc⟩ := (HR.out.later hbr).elem ActV.cells_len (by omega) hx
      subst ec
      have c0 := keep (hcc 0 _ rfl)
      have c1 := keep (hcc 1 _ rfl)
      have c2 := keep (hcc 2 _ rfl)
      have c3 := keep (hcc 3 _ rfl)
      have c4 := keep (hcc 4 _ rfl)
      rw [Nat.add_zero] at c0
      have HX0 := Lib.hid hx
      have HNX := Lib.hid (after_next hx)
      obtain ⟨⟨_, _, _, _, hul, _⟩, hRU⟩ := HG.out _ (List.mem_of_getElem? hx)
      have HRU := Lib.hid hRU
      have HUN := Lib.hid hul
      clear hx hcc hRU hul
      have hml := after_len (L.take k)
      have hmr := after_rises (L.take k)
      have hnl := after_len (L.take (k + 1))
      have hnr := after_rises (L.take (k + 1))
      have hnk := after_ok (W := w) (L := L.take (k + 1)) (fun y hy => HG.out y (List.mem_of_mem_take hy))
      obtain ⟨D, hD⟩ : ∃ D, k + 1 = D := ⟨_, rfl⟩
      have hDi : (k : Int) + 1 = (D : Int) := by omega
      have hD2 : IntKind.i64.wrap (D : Int) = (D : Int) := IntWalk.i64_in _ (by omega)
      have hDn : (D : Int) ≤ (L.length : Int) := by omega
      have hDc : (D : Int) ≤ (c : Int) := by omega
      have hD0 : (0 : Int) ≤ (D : Int) := by omega
      rw [hD] at HNX hnl hnr hnk
      obtain ⟨M, hM⟩ : ∃ M, afterA (L.take k) = M := ⟨_, rfl⟩
      obtain ⟨N, hN⟩ : ∃ N, afterA (L.take D) = N := ⟨_, rfl⟩
      rw [hM] at hO HNX hml hmr
      rw [hN] at HNX hnl hnr hnk
      have HSTEP := Lib.hid (show stepA M x = N from HNX.out.symm)
      have HNN := Lib.hid (show afterA (L.take (k + 1)) = N by rw [hD]; exact hN)
      have hm50 : M.length ≤ 50 := by rw [List.length_take] at hml; omega
      have hn51 : N.length ≤ 50 := by rw [List.length_take] at hnl; omega
      have HRI := Lib.hid hmr
      have HRN := Lib.hid hnr
      have HNK := Lib.hid hnk
      have hDL : D ≤ L.length := by omega
      have CA := Lib.hid (fun u (hu : Below w.heap.size w u) => show Calls Try.prog 24 #[.slice (some ⟨bc, oc, none⟩) D c] u fun e w' => ∃ v, e = .returned v ∧ OwnR w' u.heap.size 31 3 v N.length (N.flatMap ImgV.cells) ∧ Below u.heap.size u w' from by have h := iact_after (some ⟨bc, oc, none⟩) D c (L.take D) u (by rw [List.length_take]; omega) (row_takeG ActV.cells_len (by omega) (HR.out.later hu) hDL) (fun y hy => good_later (HG.out y (List.mem_of_mem_take hy)) hu) (by omega); rw [hN] at h; exact h)
      clear hM hN hml hmr hnl hnr hnk HNX HX0
      obtain ⟨ma, mc, rfl, hrm⟩ := rowR_of_own hO
      have HM := Lib.hid hrm
      have HB := Lib.hid hbr
      clear hO hrm
      obtain ⟨S, hS⟩ : ∃ S, sumI N = S := ⟨_, rfl⟩
      obtain ⟨O, hO⟩ : ∃ O, orderI N x.U = O := ⟨_, rfl⟩
      have hss : (S != S) = false := by simp
      have CS := Lib.hid (fun u a1 c1 a2 c2 (h1 : Row u a1 N.length c1 3 (N.flatMap ImgV.cells)) (h2 : Row u a2 N.length c2 3 (N.flatMap ImgV.cells)) => ((sameI_iff N N).2 rfl) ▸ iref_Same a1 N.length c1 N a2 N.length c2 N u rfl h1 rfl h2)
      have CSO := Lib.hid (fun u a1 c1 a2 c2 (h1 : Row u a1 O.length c1 3 (O.flatMap ImgV.cells)) (h2 : Row u a2 O.length c2 3 (O.flatMap ImgV.cells)) => ((sameI_iff O O).2 rfl) ▸ iref_Same a1 O.length c1 O a2 O.length c2 O u rfl h1 rfl h2)
      have CT1 := Lib.hid (fun u a1 c1 (h1 : Row u a1 N.length c1 3 (N.flatMap ImgV.cells)) => hS ▸ im_Total a1 N.length c1 N u rfl HNK.out h1)
      have CT2 := Lib.hid (fun u a1 c1 (h1 : Row u a1 N.length c1 3 (N.flatMap ImgV.cells)) => hS ▸ iref_Total a1 N.length c1 N u rfl h1 HNK.out)
      have CO1 := Lib.hid (fun u a1 c1 (h1 : Row u a1 N.length c1 3 (N.flatMap ImgV.cells)) (hu : Below w.heap.size w u) => hO ▸ im_Order a1 N.length c1 N x.ua x.un x.uc x.U u rfl h1 HRN.out HUN.out (HRU.out.later hu) (by omega))
      have CO2 := Lib.hid (fun u a1 c1 (h1 : Row u a1 N.length c1 3 (N.flatMap ImgV.cells)) (hu : Below w.heap.size w u) => hO ▸ iref_Order a1 N.length c1 N x.ua x.un x.uc x.U u rfl h1 HRN.out HUN.out (HRU.out.later hu) (by omega))
      clear hS hO HNK HRN
      have hbel : Below wr.heap.size wr wr := Below.refl _ _
      go_upto_region 8 with fail
      clear c0 c1 c2 c3 c4 hbel
      have hbel := hbr
      clear hbr
      have k1 : Below wr.heap.size wr (wr.alloc (.cells #[.int .i64 x.op, .string x.name, .int .i64 x.size, .int .i64 x.round, .slice x.ua x.un x.uc] 28)) := belAlloc (Below.refl _ _) _
      have hn_ := Blk.new wr [.int .i64 x.op, .string x.name, .int .i64 x.size, .int .i64 x.round, .slice x.ua x.un x.uc] 28
      replace HM := Lib.hid (HM.out.later k1)
      replace HB := Lib.hid (belStep HB.out k1)
      have HXB := Lib.hid (show Blk (wr.alloc (.cells #[.int .i64 x.op, .string x.name, .int .i64 x.size, .int .i64 x.round, .slice x.ua x.un x.uc] 28)) wr.heap.size [.int .i64 x.op, .string x.name, .int .i64 x.size, .int .i64 x.round, .slice x.ua x.un x.uc] 28 from hn_)
      clear hn_ k1 hbel
      generalize wr.alloc (.cells #[.int .i64 x.op, .string x.name, .int .i64 x.size, .int .i64 x.round, .slice x.ua x.un x.uc] 28) = W7 at *
      have hbel := HB.out
      have q0 := HXB.out.cell (j := 0) rfl
      have q1 := HXB.out.cell (j := 1) rfl
      have q2 := HXB.out.cell (j := 2) rfl
      have q3 := HXB.out.cell (j := 3) rfl
      have q4 := HXB.out.cell (j := 4) rfl
      cases ht : thereB M x.name with
      | true =>
        have HT := Lib.hid ht
        clear ht
        obtain ⟨p, hpl, hpr, hpx⟩ := place_yes HRI.out HT.out
        obtain ⟨X, hX⟩ : ∃ X, fndV M x.name = X := ⟨_, rfl⟩
        rw [hX] at hpx
        have CPL := Lib.hid (fun u (hr : Row u ma M.length mc 3 (M.flatMap ImgV.cells)) => show Calls Try.prog 19 #[.slice ma M.length mc, .string x.name] u fun e w' => e = .returned (.int .i64 (p : Int)) ∧ Below u.heap.size u w' from by have h := iref_Place ma M.length mc M x.name u rfl hr; rw [hpr] at h; exact h)
        have CF := Lib.hid (fun u (hr : Row u ma M.length mc 3 (M.flatMap ImgV.cells)) => show Calls Try.prog 20 #[.slice ma M.length mc, .string x.name] u fun e w' => e = .returned (.tuple #[.agg #[.string X.name, .int .i64 X.size, .int .i64 X.last], .bool true]) ∧ Below u.heap.size u w' from by have h := im_Find ma M.length mc M x.name u rfl hr HRI.out; rw [HT.out, hX] at h; exact h)
        have HPX := Lib.hid hpx
        have hpi : (p : Int) < (M.length : Int) := by omega
        have hp0 : (0 : Int) ≤ (p : Int) := by omega
        have hpd : decide ((0 : Int) ≤ (p : Int)) = true := decide_eq_true hp0
        clear hpr hX hpx
        go_upto_region 9 with (go_at_call 19; (with_reducible refine (CPL.out _ HM.out).mono ?_); rintro e w8 ⟨rfl, hb_⟩; replace HM := Lib.hid (HM.out.later hb_); replace HXB := Lib.hid (HXB.out.later hb_); replace HB := Lib.hid (belStep HB.out hb_); replace hbel := HB.out; clear hb_)
        clear q0 q1 q2 q3 q4
        have q0 := HXB.out.cell (j := 0) rfl
        have q1 := HXB.out.cell (j := 1) rfl
        have q2 := HXB.out.cell (j := 2) rfl
        have q3 := HXB.out.cell (j := 3) rfl
        have q4 := HXB.out.cell (j := 4) rfl
        go_upto_region 10 with (go_at_call 20; (with_reducible refine (CF.out _ HM.out).mono ?_); rintro e w9 ⟨rfl, hb_⟩; replace HM := Lib.hid (HM.out.later hb_); replace HXB := Lib.hid (HXB.out.later hb_); replace HB := Lib.hid (belStep HB.out hb_); replace hbel := HB.out; clear hb_)
        clear q0 q1 q2 q3 q4
        have k1 : Below w9.heap.size w9 (w9.alloc (.cells #[.string X.name, .int .i64 X.size, .int .i64 X.last] 31)) := belAlloc (Below.refl _ _) _
        have hn_ := Blk.new w9 [.string X.name, .int .i64 X.size, .int .i64 X.last] 31
        replace HM := Lib.hid (HM.out.later k1)
        replace HXB := Lib.hid (HXB.out.later k1)
        replace HB := Lib.hid (belStep HB.out k1)
        have HFB := Lib.hid (show Blk (w9.alloc (.cells #[.string X.name, .int .i64 X.size, .int .i64 X.last] 31)) w9.heap.size [.string X.name, .int .i64 X.size, .int .i64 X.last] 31 from hn_)
        clear hn_ k1 hbel
        generalize w9.alloc (.cells #[.string X.name, .int .i64 X.size, .int .i64 X.last] 31) = W9 at *
        have hbel := HB.out
        clear hbel
        have hbel : Below W9.heap.size W9 W9 := Below.refl _ _
        have q0 := keep (HXB.out.cell (j := 0) rfl)
        have q1 := keep (HXB.out.cell (j := 1) rfl)
        have q2 := keep (HXB.out.cell (j := 2) rfl)
        have q3 := keep (HXB.out.cell (j := 3) rfl)
        have q4 := keep (HXB.out.cell (j := 4) rfl)
        have z0 := keep (HFB.out.cell (j := 0) rfl)
        have z1 := keep (HFB.out.cell (j := 1) rfl)
        have z2 := keep (HFB.out.cell (j := 2) rfl)
        obtain ⟨bm, om, em, _, hcm⟩ := HM.out.elem ImgV.cells_len (by omega) HPX.out
        subst em
        have m0 := keep (hcm 0 _ rfl)
        have m1 := keep (hcm 1 _ rfl)
        have m2 := keep (hcm 2 _ rfl)
        rw [Nat.add_zero] at m0
        clear hcm
        have heq := fun u : World => eq_self X u
        have CP9 := Lib.hid (fun u (hu : Below W9.heap.size W9 u) => CPL.out u (HM.out.later hu))
        have kk := fun d os => belStep hbel (below_regrown _ d os)
        refine wp_region_quiet_below (by kernel_rfl) (by kernel_rfl) ?_
        repeat ((with_reducible refine wpQuiet_step (fun K hK => ?_)); go_simp; (try (rw [if_neg]; rotate_left; · decide)); first | ((with_reducible refine hK _ ?_); clear hK K) | (apply Exists.intro; refine ⟨fun _ => ?_, hK _ ?_⟩; (first | (go_at_call 19; with_reducible exact Calls.regrown_of (CP9.out _ (kk _ _)))); clear hK K))
        refine wpQuiet_nil (fun w1 hw1 => ?_)
        replace hbel := belStep hbel (bel_of_class hw1)
        clear hw1 kk
        clear m0 m1 m2 CP9 HPX hpi
        replace HM := Lib.hid (HM.out.later hbel)
        replace HXB := Lib.hid (HXB.out.later hbel)
        replace HB := Lib.hid (belStep HB.out hbel)
        clear q0 q1 q2 q3 q4 z0 z1 z2 hbel heq CPL CF hpd
        have hbel := HB.out
        have q0 := HXB.out.cell (j := 0) rfl
        have q1 := HXB.out.cell (j := 1) rfl
        have q2 := HXB.out.cell (j := 2) rfl
        have q3 := HXB.out.cell (j := 3) rfl
        have q4 := HXB.out.cell (j := 4) rfl
        by_cases ho0 : x.op = 0
        · have d0 : (x.op == (0 : Int)) = true := by rw [ho0]; rfl
          have HSN := Lib.hid (show putI M x.name x.size x.round = N from (show stepA M x = _ by unfold stepA; rw [if_pos ho0]).symm.trans HSTEP.out)
          have CG := Lib.hid (fun u (hr : Row u (some ⟨bm, om, none⟩) M.length mc 3 (M.flatMap ImgV.cells)) => show Calls Try.prog 21 #[.slice (some ⟨bm, om, none⟩) M.length mc, .string x.name, .int .i64 x.size, .int .i64 x.round] u fun e w' => ∃ v, e = .returned v ∧ OwnR w' u.heap.size 31 3 v N.length (N.flatMap ImgV.cells) ∧ Below u.heap.size u w' from by have h := im_Put (some ⟨bm, om, none⟩) M.length mc M x.name x.size x.round u rfl hr HRI.out (by omega); rw [HSN.out] at h; exact h)
          go_upto_region 19 with (go_at_call 21; (with_reducible refine (CG.out _ HM.out).mono ?_); rintro e w15 ⟨vg, rfl, hog, hb_⟩; replace HM := Lib.hid (HM.out.later hb_); replace HXB := Lib.hid (HXB.out.later hb_); replace HB := Lib.hid (belStep HB.out hb_); replace hbel := HB.out; obtain ⟨ga, gc, rfl, hrg⟩ := rowR_of_own hog; have HG9 := Lib.hid hrg; clear hrg hog; clear hb_)
          clear q0 q1 q2 q3 q4
          have HB15 := Lib.hid HB.out
          go_upto_region 20 with (go_at_call 24; (with_reducible refine (CA.out _ HB.out).mono ?_); rintro e w19 ⟨va, rfl, hoa, hb_⟩; replace HG9 := Lib.hid (HG9.out.later hb_); replace HXB := Lib.hid (HXB.out.later hb_); replace HB := Lib.hid (belStep HB.out hb_); replace hbel := HB.out; have HOA := Lib.hid (OwnR.mono hoa HB15.out.size); obtain ⟨na, nc, rfl, hra⟩ := rowR_of_own hoa; have HA := Lib.hid hra; clear hra hoa; clear hb_)
          have q4 := keep (HXB.out.cell (j := 4) rfl)
          refine wp_region_held_drew (S := fun u => Below w19.heap.size w19 u) (by kernel_rfl) (by exact (show Below w19.heap.size w19 _ by repeat (first | assumption | exact Below.refl _ _ | refine belDrew ?_ | refine belAlloc ?_ _ | refine belStep ?_ (by assumption)))) (fun hHeld => ?_)
          refine wpAnyH_take (i := 0) (oi := ?oi_k1) (v := ?v_k1) ?hi_k1 (by kernel_rfl) ?hf_k1 ?hr_k1 ?hQ_k1 (Or.inl ⟨?hw_k1, ?hy_k1⟩) (by assumption) ?rest_k1
          case hi_k1 => ((simp only [List.getElem?_toArray, List.getElem?_cons_succ, List.getElem?_cons_zero]); rfl)
          case hf_k1 => kernel_rfl
          case hr_k1 => kernel_rfl
          case hQ_k1 => exact fun _ _ _ h => h
          case hw_k1 => rfl
          case hy_k1 => ((intro w hSw; (try dsimp only at hSw); go_simp); all_goals (with_reducible rfl))
          try simp only [Act.put, List.setIfInBounds_toArray, List.set_cons_zero, List.set_cons_succ]
          refine wpAnyH_take (i := 1) (oi := ?oi_k2) (v := ?v_k2) ?hi_k2 (by kernel_rfl) ?hf_k2 ?hr_k2 ?hQ_k2 (Or.inl ⟨?hw_k2, ?hy_k2⟩) (by assumption) ?rest_k2
          case hi_k2 => ((simp only [List.getElem?_toArray, List.getElem?_cons_succ, List.getElem?_cons_zero]); rfl)
          case hf_k2 => kernel_rfl
          case hr_k2 => kernel_rfl
          case hQ_k2 => exact fun _ _ _ h => h
          case hw_k2 => rfl
          case hy_k2 => ((intro w hSw; (try dsimp only at hSw); go_simp); all_goals (with_reducible rfl))
          try simp only [Act.put, List.setIfInBounds_toArray, List.set_cons_zero, List.set_cons_succ]
          refine wpAnyH_take (i := 2) (oi := ?oi_k3) (v := ?v_k3) ?hi_k3 (by kernel_rfl) ?hf_k3 ?hr_k3 ?hQ_k3 (Or.inl ⟨?hw_k3, ?hy_k3⟩) (by assumption) ?rest_k3
          case hi_k3 => ((simp only [List.getElem?_toArray, List.getElem?_cons_succ, List.getElem?_cons_zero]); rfl)
          case hf_k3 => kernel_rfl
          case hr_k3 => kernel_rfl
          case hQ_k3 => exact fun _ _ _ h => h
          case hw_k3 => rfl
          case hy_k3 => ((intro w hSw; (try dsimp only at hSw); go_simp); all_goals (with_reducible rfl))
          try simp only [Act.put, List.setIfInBounds_toArray, List.set_cons_zero, List.set_cons_succ]
          refine wpAnyH_take (i := 3) (oi := ?oi_k4) (v := ?v_k4) ?hi_k4 (by kernel_rfl) ?hf_k4 ?hr_k4 ?hQ_k4 (Or.inl ⟨?hw_k4, ?hy_k4⟩) (by assumption) ?rest_k4
          case hi_k4 => ((simp only [List.getElem?_toArray, List.getElem?_cons_succ, List.getElem?_cons_zero]); rfl)
          case hf_k4 => kernel_rfl
          case hr_k4 => kernel_rfl
          case hQ_k4 => exact fun _ _ _ h => h
          case hw_k4 => rfl
          case hy_k4 => ((intro w hSw; (try dsimp only at hSw); go_simp); all_goals (with_reducible rfl))
          try simp only [Act.put, List.setIfInBounds_toArray, List.set_cons_zero, List.set_cons_succ]
          refine wpAnyH_take (i := 4) (oi := ?oi_k5) (v := ?v_k5) ?hi_k5 (by kernel_rfl) ?hf_k5 ?hr_k5 ?hQ_k5 (Or.inl ⟨?hw_k5, ?hy_k5⟩) (by assumption) ?rest_k5
          case hi_k5 => ((simp only [List.getElem?_toArray, List.getElem?_cons_succ, List.getElem?_cons_zero]); rfl)
          case hf_k5 => kernel_rfl
          case hr_k5 => kernel_rfl
          case hQ_k5 => exact fun _ _ _ h => h
          case hw_k5 => rfl
          case hy_k5 => ((intro w hSw; (try dsimp only at hSw); go_simp); all_goals (with_reducible rfl))
          try simp only [Act.put, List.setIfInBounds_toArray, List.set_cons_zero, List.set_cons_succ]
          refine wpAnyH_take (i := 5) (oi := ?oi_k6) (v := ?v_k6) ?hi_k6 (by kernel_rfl) ?hf_k6 ?hr_k6 ?hQ_k6 (Or.inl ⟨?hw_k6, ?hy_k6⟩) (by assumption) ?rest_k6
          case hi_k6 => ((simp only [List.getElem?_toArray, List.getElem?_cons_succ, List.getElem?_cons_zero]); rfl)
          case hf_k6 => kernel_rfl
          case hr_k6 => kernel_rfl
          case hQ_k6 => exact fun _ _ _ h => h
          case hw_k6 => rfl
          case hy_k6 => ((intro w hSw; (try dsimp only at hSw); go_simp); all_goals (with_reducible rfl))
          try simp only [Act.put, List.setIfInBounds_toArray, List.set_cons_zero, List.set_cons_succ]
          refine wpAnyH_ready (rs := [6]) (by kernel_rfl) (by simp) ?_
          refine AllReadyH.cons (o := ?o1_k7) ?hi_k7 (fun K hK => ?rest_k7) AllReadyH.nil
          case hi_k7 => ((simp only [List.getElem?_toArray, List.getElem?_cons_succ, List.getElem?_cons_zero]); rfl)
          go_simp
          (go_at_call 25; (with_reducible refine (CS.out _ ga gc na nc (HG9.out.later hHeld) (HA.out.later hHeld)).mono ?_); rintro e wq6 ⟨rfl, hbq⟩)
          have hu6 : Below w19.heap.size w19 wq6 := belStep hHeld hbq
          clear hbq
          try go_simp
          refine hK.out _ _ (by exact hu6) (fun hHeld => ?_)
          clear hK K
          try simp only [Act.put, List.setIfInBounds_toArray, List.set_cons_zero, List.set_cons_succ]
          refine wpAnyH_take (i := 7) (oi := ?oi_k8) (v := ?v_k8) ?hi_k8 (by kernel_rfl) ?hf_k8 ?hr_k8 ?hQ_k8 (Or.inl ⟨?hw_k8, ?hy_k8⟩) (by assumption) ?rest_k8
          case hi_k8 => ((simp only [List.getElem?_toArray, List.getElem?_cons_succ, List.getElem?_cons_zero]); rfl)
          case hf_k8 => kernel_rfl
          case hr_k8 => kernel_rfl
          case hQ_k8 => exact fun _ _ _ h => h
          case hw_k8 => rfl
          case hy_k8 => ((intro w hSw; (try dsimp only at hSw); go_simp); all_goals (with_reducible rfl))
          try simp only [Act.put, List.setIfInBounds_toArray, List.set_cons_zero, List.set_cons_succ]
          refine wpAnyH_take (i := 8) (oi := ?oi_k9) (v := ?v_k9) ?hi_k9 (by kernel_rfl) ?hf_k9 ?hr_k9 ?hQ_k9 (Or.inl ⟨?hw_k9, ?hy_k9⟩) (by assumption) ?rest_k9
          case hi_k9 => ((simp only [List.getElem?_toArray, List.getElem?_cons_succ, List.getElem?_cons_zero]); rfl)
          case hf_k9 => kernel_rfl
          case hr_k9 => kernel_rfl
          case hQ_k9 => exact fun _ _ _ h => h
          case hw_k9 => rfl
          case hy_k9 => ((intro w hSw; (try dsimp only at hSw); go_simp); all_goals (with_reducible rfl))
          try simp only [Act.put, List.setIfInBounds_toArray, List.set_cons_zero, List.set_cons_succ]
          refine wpAnyH_take (i := 9) (oi := ?oi_k10) (v := ?v_k10) ?hi_k10 (by kernel_rfl) ?hf_k10 ?hr_k10 ?hQ_k10 (Or.inl ⟨?hw_k10, ?hy_k10⟩) (by assumption) ?rest_k10
          case hi_k10 => ((simp only [List.getElem?_toArray, List.getElem?_cons_succ, List.getElem?_cons_zero]); rfl)
          case hf_k10 => kernel_rfl
          case hr_k10 => kernel_rfl
          case hQ_k10 => exact fun _ _ _ h => h
          case hw_k10 => rfl
          case hy_k10 => ((intro w hSw; (try dsimp only at hSw); go_simp); all_goals (with_reducible rfl))
          try simp only [Act.put, List.setIfInBounds_toArray, List.set_cons_zero, List.set_cons_succ]
          refine wpAnyH_take (i := 10) (oi := ?oi_k11) (v := ?v_k11) ?hi_k11 (by kernel_rfl) ?hf_k11 ?hr_k11 ?hQ_k11 (Or.inl ⟨?hw_k11, ?hy_k11⟩) (by assumption) ?rest_k11
          case hi_k11 => ((simp only [List.getElem?_toArray, List.getElem?_cons_succ, List.getElem?_cons_zero]); rfl)
          case hf_k11 => kernel_rfl
          case hr_k11 => kernel_rfl
          case hQ_k11 => exact fun _ _ _ h => h
          case hw_k11 => rfl
          case hy_k11 => ((intro w hSw; (try dsimp only at hSw); go_simp); all_goals (with_reducible rfl))
          try simp only [Act.put, List.setIfInBounds_toArray, List.set_cons_zero, List.set_cons_succ]
          refine wpAnyH_take (i := 12) (oi := ?oi_k12) (v := ?v_k12) ?hi_k12 (by kernel_rfl) ?hf_k12 ?hr_k12 ?hQ_k12 (Or.inl ⟨?hw_k12, ?hy_k12⟩) (by assumption) ?rest_k12
          case hi_k12 => ((simp only [List.getElem?_toArray, List.getElem?_cons_succ, List.getElem?_cons_zero]); rfl)
          case hf_k12 => kernel_rfl
          case hr_k12 => kernel_rfl
          case hQ_k12 => exact fun _ _ _ h => h
          case hw_k12 => rfl
          case hy_k12 => ((intro w hSw; (try dsimp only at hSw); go_simp); all_goals (with_reducible rfl))
          try simp only [Act.put, List.setIfInBounds_toArray, List.set_cons_zero, List.set_cons_succ]
          refine wpAnyH_ready (rs := [11]) (by kernel_rfl) (by simp) ?_
          refine AllReadyH.cons (o := ?o1_k13) ?hi_k13 (fun K hK => ?rest_k13) AllReadyH.nil
          case hi_k13 => ((simp only [List.getElem?_toArray, List.getElem?_cons_succ, List.getElem?_cons_zero]); rfl)
          go_simp
          (go_at_call 26; (with_reducible refine (CT1.out _ ga gc (HG9.out.later hHeld)).mono ?_); rintro e wq11 ⟨rfl, hbq⟩)
          have hu11 : Below w19.heap.size w19 wq11 := belStep hHeld hbq
          clear hbq
          try go_simp
          refine hK.out _ _ (by exact hu11) (fun hHeld => ?_)
          clear hK K
          try simp only [Act.put, List.setIfInBounds_toArray, List.set_cons_zero, List.set_cons_succ]
          refine wpAnyH_ready (rs := [13]) (by kernel_rfl) (by simp) ?_
          refine AllReadyH.cons (o := ?o1_k14) ?hi_k14 (fun K hK => ?rest_k14) AllReadyH.nil
          case hi_k14 => ((simp only [List.getElem?_toArray, List.getElem?_cons_succ, List.getElem?_cons_zero]); rfl)
          go_simp
          (go_at_call 27; (with_reducible refine (CT2.out _ na nc (HA.out.later hHeld)).mono ?_); rintro e wq13 ⟨rfl, hbq⟩)
          have hu13 : Below w19.heap.size w19 wq13 := belStep hHeld hbq
          clear hbq
          try go_simp
          refine hK.out _ _ (by exact hu13) (fun hHeld => ?_)
          clear hK K
          try simp only [Act.put, List.setIfInBounds_toArray, List.set_cons_zero, List.set_cons_succ]
          refine wpAnyH_take (i := 14) (oi := ?oi_k15) (v := ?v_k15) ?hi_k15 (by kernel_rfl) ?hf_k15 ?hr_k15 ?hQ_k15 (Or.inl ⟨?hw_k15, ?hy_k15⟩) (by assumption) ?rest_k15
          case hi_k15 => ((simp only [List.getElem?_toArray, List.getElem?_cons_succ, List.getElem?_cons_zero]); rfl)
          case hf_k15 => kernel_rfl
          case hr_k15 => kernel_rfl
          case hQ_k15 => exact fun _ _ _ h => h
          case hw_k15 => rfl
          case hy_k15 => ((intro w hSw; (try dsimp only at hSw); go_simp); all_goals (with_reducible rfl))
          try simp only [Act.put, List.setIfInBounds_toArray, List.set_cons_zero, List.set_cons_succ]
          refine wpAnyH_take (i := 15) (oi := ?oi_k16) (v := ?v_k16) ?hi_k16 (by kernel_rfl) ?hf_k16 ?hr_k16 ?hQ_k16 (Or.inl ⟨?hw_k16, ?hy_k16⟩) (by assumption) ?rest_k16
          case hi_k16 => ((simp only [List.getElem?_toArray, List.getElem?_cons_succ, List.getElem?_cons_zero]); rfl)
          case hf_k16 => kernel_rfl
          case hr_k16 => kernel_rfl
          case hQ_k16 => exact fun _ _ _ h => h
          case hw_k16 => rfl
          case hy_k16 => ((intro w hSw; (try dsimp only at hSw); go_simp); all_goals (with_reducible rfl))
          try simp only [Act.put, List.setIfInBounds_toArray, List.set_cons_zero, List.set_cons_succ]
          refine wpAnyH_take (i := 16) (oi := ?oi_k17) (v := ?v_k17) ?hi_k17 (by kernel_rfl) ?hf_k17 ?hr_k17 ?hQ_k17 (Or.inl ⟨?hw_k17, ?hy_k17⟩) (by assumption) ?rest_k17
          case hi_k17 => ((simp only [List.getElem?_toArray, List.getElem?_cons_succ, List.getElem?_cons_zero]); rfl)
          case hf_k17 => kernel_rfl
          case hr_k17 => kernel_rfl
          case hQ_k17 => exact fun _ _ _ h => h
          case hw_k17 => rfl
          case hy_k17 => ((intro w hSw; (try dsimp only at hSw); go_simp); all_goals (with_reducible rfl))
          try simp only [Act.put, List.setIfInBounds_toArray, List.set_cons_zero, List.set_cons_succ]
          refine wpAnyH_take (i := 17) (oi := ?oi_k18) (v := ?v_k18) ?hi_k18 (by kernel_rfl) ?hf_k18 ?hr_k18 ?hQ_k18 (Or.inl ⟨?hw_k18, ?hy_k18⟩) (by assumption) ?rest_k18
          case hi_k18 => ((simp only [List.getElem?_toArray, List.getElem?_cons_succ, List.getElem?_cons_zero]); rfl)
          case hf_k18 => kernel_rfl
          case hr_k18 => kernel_rfl
          case hQ_k18 => exact fun _ _ _ h => h
          case hw_k18 => rfl
          case hy_k18 => ((intro w hSw; (try dsimp only at hSw); go_simp); all_goals (with_reducible rfl))
          try simp only [Act.put, List.setIfInBounds_toArray, List.set_cons_zero, List.set_cons_succ]
          refine wpAnyH_take (i := 18) (oi := ?oi_k19) (v := ?v_k19) ?hi_k19 (by kernel_rfl) ?hf_k19 ?hr_k19 ?hQ_k19 (Or.inl ⟨?hw_k19, ?hy_k19⟩) (by assumption) ?rest_k19
          case hi_k19 => ((simp only [List.getElem?_toArray, List.getElem?_cons_succ, List.getElem?_cons_zero]); rfl)
          case hf_k19 => kernel_rfl
          case hr_k19 => kernel_rfl
          case hQ_k19 => exact fun _ _ _ h => h
          case hw_k19 => rfl
          case hy_k19 => ((intro w hSw; (try dsimp only at hSw); go_simp); all_goals (with_reducible rfl))
          try simp only [Act.put, List.setIfInBounds_toArray, List.set_cons_zero, List.set_cons_succ]
          refine wpAnyH_take (i := 19) (oi := ?oi_k20) (v := ?v_k20) ?hi_k20 (by kernel_rfl) ?hf_k20 ?hr_k20 ?hQ_k20 (Or.inl ⟨?hw_k20, ?hy_k20⟩) (by assumption) ?rest_k20
          case hi_k20 => ((simp only [List.getElem?_toArray, List.getElem?_cons_succ, List.getElem?_cons_zero]); rfl)
          case hf_k20 => kernel_rfl
          case hr_k20 => kernel_rfl
          case hQ_k20 => exact fun _ _ _ h => h
          case hw_k20 => rfl
          case hy_k20 => ((intro w hSw; (try dsimp only at hSw); go_simp); all_goals (with_reducible rfl))
          try simp only [Act.put, List.setIfInBounds_toArray, List.set_cons_zero, List.set_cons_succ]
          refine wpAnyH_take (i := 21) (oi := ?oi_k21) (v := ?v_k21) ?hi_k21 (by kernel_rfl) ?hf_k21 ?hr_k21 ?hQ_k21 (Or.inl ⟨?hw_k21, ?hy_k21⟩) (by assumption) ?rest_k21
          case hi_k21 => ((simp only [List.getElem?_toArray, List.getElem?_cons_succ, List.getElem?_cons_zero]); rfl)
          case hf_k21 => kernel_rfl
          case hr_k21 => kernel_rfl
          case hQ_k21 => exact fun _ _ _ h => h
          case hw_k21 => rfl
          case hy_k21 => ((intro w hSw; (try dsimp only at hSw); go_simp); all_goals (with_reducible rfl))
          try simp only [Act.put, List.setIfInBounds_toArray, List.set_cons_zero, List.set_cons_succ]
          refine wpAnyH_take (i := 22) (oi := ?oi_k22) (v := ?v_k22) ?hi_k22 (by kernel_rfl) ?hf_k22 ?hr_k22 ?hQ_k22 (Or.inl ⟨?hw_k22, ?hy_k22⟩) (by assumption) ?rest_k22
          case hi_k22 => ((simp only [List.getElem?_toArray, List.getElem?_cons_succ, List.getElem?_cons_zero]); rfl)
          case hf_k22 => kernel_rfl
          case hr_k22 => kernel_rfl
          case hQ_k22 => exact fun _ _ _ h => h
          case hw_k22 => rfl
          case hy_k22 => ((intro w hSw; (try dsimp only at hSw); go_simp); all_goals (with_reducible rfl))
          try simp only [Act.put, List.setIfInBounds_toArray, List.set_cons_zero, List.set_cons_succ]
          refine wpAnyH_take (i := 23) (oi := ?oi_k23) (v := ?v_k23) ?hi_k23 (by kernel_rfl) ?hf_k23 ?hr_k23 ?hQ_k23 (Or.inl ⟨?hw_k23, ?hy_k23⟩) (by assumption) ?rest_k23
          case hi_k23 => ((simp only [List.getElem?_toArray, List.getElem?_cons_succ, List.getElem?_cons_zero]); rfl)
          case hf_k23 => kernel_rfl
          case hr_k23 => kernel_rfl
          case hQ_k23 => exact fun _ _ _ h => h
          case hw_k23 => rfl
          case hy_k23 => ((intro w hSw; (try dsimp only at hSw); go_simp); all_goals (with_reducible rfl))
          try simp only [Act.put, List.setIfInBounds_toArray, List.set_cons_zero, List.set_cons_succ]
          refine wpAnyH_ready (rs := [20]) (by kernel_rfl) (by simp) ?_
          refine AllReadyH.cons (o := ?o1_k24) ?hi_k24 (fun K hK => ?rest_k24) AllReadyH.nil
          case hi_k24 => ((simp only [List.getElem?_toArray, List.getElem?_cons_succ, List.getElem?_cons_zero]); rfl)
          go_simp
          (go_at_call 28; (with_reducible refine (CO1.out _ ga gc (HG9.out.later hHeld) (belStep HB.out hHeld)).mono ?_); rintro e wq20 ⟨y20, rfl, ho20, hbq⟩)
          obtain ⟨oa, oc9, rfl, hr20⟩ := rowR_of_own ho20
          have hu20 : Below w19.heap.size w19 wq20 := belStep hHeld hbq
          clear hbq
          try go_simp
          refine hK.out _ _ (by exact hu20) (fun hHeld => ?_)
          clear hK K
          try simp only [Act.put, List.setIfInBounds_toArray, List.set_cons_zero, List.set_cons_succ]
          refine wpAnyH_ready (rs := [24]) (by kernel_rfl) (by simp) ?_
          refine AllReadyH.cons (o := ?o1_k25) ?hi_k25 (fun K hK => ?rest_k25) AllReadyH.nil
          case hi_k25 => ((simp only [List.getElem?_toArray, List.getElem?_cons_succ, List.getElem?_cons_zero]); rfl)
          go_simp
          (go_at_call 29; (with_reducible refine (CO2.out _ na nc (HA.out.later hHeld) (belStep HB.out hHeld)).mono ?_); rintro e wq24 ⟨y24, rfl, ho24, hbq⟩)
          obtain ⟨oa2, oc2, rfl, hr24⟩ := rowR_of_own ho24
          have hr20b := hr20.later hbq
          have hu24 : Below w19.heap.size w19 wq24 := belStep hHeld hbq
          clear hbq
          try go_simp
          refine hK.out _ _ (by exact hu24) (fun hHeld => ?_)
          clear hK K
          try simp only [Act.put, List.setIfInBounds_toArray, List.set_cons_zero, List.set_cons_succ]
          refine wpAnyH_ready (rs := [25]) (by kernel_rfl) (by simp) ?_
          refine AllReadyH.cons (o := ?o1_k26) ?hi_k26 (fun K hK => ?rest_k26) AllReadyH.nil
          case hi_k26 => ((simp only [List.getElem?_toArray, List.getElem?_cons_succ, List.getElem?_cons_zero]); rfl)
          go_simp
          (go_at_call 25; (with_reducible refine (CSO.out _ oa oc9 oa2 oc2 hr20b hr24).mono ?_); rintro e wq25 ⟨rfl, hbq⟩)
          have hu25 : Below w19.heap.size w19 wq25 := belStep hHeld hbq
          clear hbq
          try go_simp
          refine hK.out _ _ (by exact hu25) (fun hHeld => ?_)
          clear hK K
          try simp only [Act.put, List.setIfInBounds_toArray, List.set_cons_zero, List.set_cons_succ]
          refine wpAnyH_take (i := 26) (oi := ?oi_k27) (v := ?v_k27) ?hi_k27 (by kernel_rfl) ?hf_k27 ?hr_k27 ?hQ_k27 (Or.inl ⟨?hw_k27, ?hy_k27⟩) (by assumption) ?rest_k27
          case hi_k27 => ((simp only [List.getElem?_toArray, List.getElem?_cons_succ, List.getElem?_cons_zero]); rfl)
          case hf_k27 => kernel_rfl
          case hr_k27 => kernel_rfl
          case hQ_k27 => exact fun _ _ _ h => h
          case hw_k27 => rfl
          case hy_k27 => ((intro w hSw; (try dsimp only at hSw); go_simp); all_goals (with_reducible rfl))
          try simp only [Act.put, List.setIfInBounds_toArray, List.set_cons_zero, List.set_cons_succ]
          refine wpAnyH_take (i := 27) (oi := ?oi_k28) (v := ?v_k28) ?hi_k28 (by kernel_rfl) ?hf_k28 ?hr_k28 ?hQ_k28 (Or.inl ⟨?hw_k28, ?hy_k28⟩) (by assumption) ?rest_k28
          case hi_k28 => ((simp only [List.getElem?_toArray, List.getElem?_cons_succ, List.getElem?_cons_zero]); rfl)
          case hf_k28 => kernel_rfl
          case hr_k28 => kernel_rfl
          case hQ_k28 => exact fun _ _ _ h => h
          case hw_k28 => rfl
          case hy_k28 => ((intro w hSw; (try dsimp only at hSw); go_simp); all_goals (with_reducible rfl))
          try simp only [Act.put, List.setIfInBounds_toArray, List.set_cons_zero, List.set_cons_succ]
          refine wpAnyH_done (by kernel_rfl) ?_ _
          go_wp2
          go_roundw
          case rel => exact ⟨k + 1, by omega, by rw [← hDi]; push_cast; rfl, by rw [HNN.out]; exact OwnR.later HOA.out hHeld, belStep HB.out hHeld⟩
          case measure => simp [intOf] <;> omega
        · have d0 : (x.op == (0 : Int)) = false := by rw [beq_eq_false_iff_ne]; exact ho0
          by_cases ho1 : x.op = 1
          · have d1 : (x.op == (1 : Int)) = true := by rw [ho1]; rfl
            have HSN := Lib.hid (show touchI M x.U x.round = N from (show stepA M x = _ by unfold stepA; rw [if_neg ho0, if_pos ho1]).symm.trans HSTEP.out)
            have CG := Lib.hid (fun u (hr : Row u (some ⟨bm, om, none⟩) M.length mc 3 (M.flatMap ImgV.cells)) (hu : Below w.heap.size w u) => show Calls Try.prog 22 #[.slice (some ⟨bm, om, none⟩) M.length mc, .slice x.ua x.un x.uc, .int .i64 x.round] u fun e w' => ∃ v, e = .returned v ∧ OwnR w' u.heap.size 31 3 v N.length (N.flatMap ImgV.cells) ∧ Below u.heap.size u w' from by have h := im_Touch (some ⟨bm, om, none⟩) M.length mc M x.ua x.un x.uc x.U x.round u rfl hr HRI.out HUN.out (HRU.out.later hu) (by omega); rw [HSN.out] at h; exact h)
            go_upto_region 19 with (go_at_call 22; (with_reducible refine (CG.out _ HM.out HB.out).mono ?_); rintro e w15 ⟨vg, rfl, hog, hb_⟩; replace HM := Lib.hid (HM.out.later hb_); replace HXB := Lib.hid (HXB.out.later hb_); replace HB := Lib.hid (belStep HB.out hb_); replace hbel := HB.out; obtain ⟨ga, gc, rfl, hrg⟩ := rowR_of_own hog; have HG9 := Lib.hid hrg; clear hrg hog; clear hb_)
            clear q0 q1 q2 q3 q4
            have HB15 := Lib.hid HB.out
            go_upto_region 20 with (go_at_call 24; (with_reducible refine (CA.out _ HB.out).mono ?_); rintro e w19 ⟨va, rfl, hoa, hb_⟩; replace HG9 := Lib.hid (HG9.out.later hb_); replace HXB := Lib.hid (HXB.out.later hb_); replace HB := Lib.hid (belStep HB.out hb_); replace hbel := HB.out; have HOA := Lib.hid (OwnR.mono hoa HB15.out.size); obtain ⟨na, nc, rfl, hra⟩ := rowR_of_own hoa; have HA := Lib.hid hra; clear hra hoa; clear hb_)
            have q4 := keep (HXB.out.cell (j := 4) rfl)
            refine wp_region_held_drew (S := fun u => Below w19.heap.size w19 u) (by kernel_rfl) (by exact (show Below w19.heap.size w19 _ by repeat (first | assumption | exact Below.refl _ _ | refine belDrew ?_ | refine belAlloc ?_ _ | refine belStep ?_ (by assumption)))) (fun hHeld => ?_)
            refine wpAnyH_take (i := 0) (oi := ?oi_k29) (v := ?v_k29) ?hi_k29 (by kernel_rfl) ?hf_k29 ?hr_k29 ?hQ_k29 (Or.inl ⟨?hw_k29, ?hy_k29⟩) (by assumption) ?rest_k29
            case hi_k29 => ((simp only [List.getElem?_toArray, List.getElem?_cons_succ, List.getElem?_cons_zero]); rfl)
            case hf_k29 => kernel_rfl
            case hr_k29 => kernel_rfl
            case hQ_k29 => exact fun _ _ _ h => h
            case hw_k29 => rfl
            case hy_k29 => ((intro w hSw; (try dsimp only at hSw); go_simp); all_goals (with_reducible rfl))
            try simp only [Act.put, List.setIfInBounds_toArray, List.set_cons_zero, List.set_cons_succ]
            refine wpAnyH_take (i := 1) (oi := ?oi_k30) (v := ?v_k30) ?hi_k30 (by kernel_rfl) ?hf_k30 ?hr_k30 ?hQ_k30 (Or.inl ⟨?hw_k30, ?hy_k30⟩) (by assumption) ?rest_k30
            case hi_k30 => ((simp only [List.getElem?_toArray, List.getElem?_cons_succ, List.getElem?_cons_zero]); rfl)
            case hf_k30 => kernel_rfl
            case hr_k30 => kernel_rfl
            case hQ_k30 => exact fun _ _ _ h => h
            case hw_k30 => rfl
            case hy_k30 => ((intro w hSw; (try dsimp only at hSw); go_simp); all_goals (with_reducible rfl))
            try simp only [Act.put, List.setIfInBounds_toArray, List.set_cons_zero, List.set_cons_succ]
            refine wpAnyH_take (i := 2) (oi := ?oi_k31) (v := ?v_k31) ?hi_k31 (by kernel_rfl) ?hf_k31 ?hr_k31 ?hQ_k31 (Or.inl ⟨?hw_k31, ?hy_k31⟩) (by assumption) ?rest_k31
            case hi_k31 => ((simp only [List.getElem?_toArray, List.getElem?_cons_succ, List.getElem?_cons_zero]); rfl)
            case hf_k31 => kernel_rfl
            case hr_k31 => kernel_rfl
            case hQ_k31 => exact fun _ _ _ h => h
            case hw_k31 => rfl
            case hy_k31 => ((intro w hSw; (try dsimp only at hSw); go_simp); all_goals (with_reducible rfl))
            try simp only [Act.put, List.setIfInBounds_toArray, List.set_cons_zero, List.set_cons_succ]
            refine wpAnyH_take (i := 3) (oi := ?oi_k32) (v := ?v_k32) ?hi_k32 (by kernel_rfl) ?hf_k32 ?hr_k32 ?hQ_k32 (Or.inl ⟨?hw_k32, ?hy_k32⟩) (by assumption) ?rest_k32
            case hi_k32 => ((simp only [List.getElem?_toArray, List.getElem?_cons_succ, List.getElem?_cons_zero]); rfl)
            case hf_k32 => kernel_rfl
            case hr_k32 => kernel_rfl
            case hQ_k32 => exact fun _ _ _ h => h
            case hw_k32 => rfl
            case hy_k32 => ((intro w hSw; (try dsimp only at hSw); go_simp); all_goals (with_reducible rfl))
            try simp only [Act.put, List.setIfInBounds_toArray, List.set_cons_zero, List.set_cons_succ]
            refine wpAnyH_take (i := 4) (oi := ?oi_k33) (v := ?v_k33) ?hi_k33 (by kernel_rfl) ?hf_k33 ?hr_k33 ?hQ_k33 (Or.inl ⟨?hw_k33, ?hy_k33⟩) (by assumption) ?rest_k33
            case hi_k33 => ((simp only [List.getElem?_toArray, List.getElem?_cons_succ, List.getElem?_cons_zero]); rfl)
            case hf_k33 => kernel_rfl
            case hr_k33 => kernel_rfl
            case hQ_k33 => exact fun _ _ _ h => h
            case hw_k33 => rfl
            case hy_k33 => ((intro w hSw; (try dsimp only at hSw); go_simp); all_goals (with_reducible rfl))
            try simp only [Act.put, List.setIfInBounds_toArray, List.set_cons_zero, List.set_cons_succ]
            refine wpAnyH_take (i := 5) (oi := ?oi_k34) (v := ?v_k34) ?hi_k34 (by kernel_rfl) ?hf_k34 ?hr_k34 ?hQ_k34 (Or.inl ⟨?hw_k34, ?hy_k34⟩) (by assumption) ?rest_k34
            case hi_k34 => ((simp only [List.getElem?_toArray, List.getElem?_cons_succ, List.getElem?_cons_zero]); rfl)
            case hf_k34 => kernel_rfl
            case hr_k34 => kernel_rfl
            case hQ_k34 => exact fun _ _ _ h => h
            case hw_k34 => rfl
            case hy_k34 => ((intro w hSw; (try dsimp only at hSw); go_simp); all_goals (with_reducible rfl))
            try simp only [Act.put, List.setIfInBounds_toArray, List.set_cons_zero, List.set_cons_succ]
            refine wpAnyH_ready (rs := [6]) (by kernel_rfl) (by simp) ?_
            refine AllReadyH.cons (o := ?o1_k35) ?hi_k35 (fun K hK => ?rest_k35) AllReadyH.nil
            case hi_k35 => ((simp only [List.getElem?_toArray, List.getElem?_cons_succ, List.getElem?_cons_zero]); rfl)
            go_simp
            (go_at_call 25; (with_reducible refine (CS.out _ ga gc na nc (HG9.out.later hHeld) (HA.out.later hHeld)).mono ?_); rintro e wq6 ⟨rfl, hbq⟩)
            have hu6 : Below w19.heap.size w19 wq6 := belStep hHeld hbq
            clear hbq
            try go_simp
            refine hK.out _ _ (by exact hu6) (fun hHeld => ?_)
            clear hK K
            try simp only [Act.put, List.setIfInBounds_toArray, List.set_cons_zero, List.set_cons_succ]
            refine wpAnyH_take (i := 7) (oi := ?oi_k36) (v := ?v_k36) ?hi_k36 (by kernel_rfl) ?hf_k36 ?hr_k36 ?hQ_k36 (Or.inl ⟨?hw_k36, ?hy_k36⟩) (by assumption) ?rest_k36
            case hi_k36 => ((simp only [List.getElem?_toArray, List.getElem?_cons_succ, List.getElem?_cons_zero]); rfl)
            case hf_k36 => kernel_rfl
            case hr_k36 => kernel_rfl
            case hQ_k36 => exact fun _ _ _ h => h
            case hw_k36 => rfl
            case hy_k36 => ((intro w hSw; (try dsimp only at hSw); go_simp); all_goals (with_reducible rfl))
            try simp only [Act.put, List.setIfInBounds_toArray, List.set_cons_zero, List.set_cons_succ]
            refine wpAnyH_take (i := 8) (oi := ?oi_k37) (v := ?v_k37) ?hi_k37 (by kernel_rfl) ?hf_k37 ?hr_k37 ?hQ_k37 (Or.inl ⟨?hw_k37, ?hy_k37⟩) (by assumption) ?rest_k37
            case hi_k37 => ((simp only [List.getElem?_toArray, List.getElem?_cons_succ, List.getElem?_cons_zero]); rfl)
            case hf_k37 => kernel_rfl
            case hr_k37 => kernel_rfl
            case hQ_k37 => exact fun _ _ _ h => h
            case hw_k37 => rfl
            case hy_k37 => ((intro w hSw; (try dsimp only at hSw); go_simp); all_goals (with_reducible rfl))
            try simp only [Act.put, List.setIfInBounds_toArray, List.set_cons_zero, List.set_cons_succ]
            refine wpAnyH_take (i := 9) (oi := ?oi_k38) (v := ?v_k38) ?hi_k38 (by kernel_rfl) ?hf_k38 ?hr_k38 ?hQ_k38 (Or.inl ⟨?hw_k38, ?hy_k38⟩) (by assumption) ?rest_k38
            case hi_k38 => ((simp only [List.getElem?_toArray, List.getElem?_cons_succ, List.getElem?_cons_zero]); rfl)
            case hf_k38 => kernel_rfl
            case hr_k38 => kernel_rfl
            case hQ_k38 => exact fun _ _ _ h => h
            case hw_k38 => rfl
            case hy_k38 => ((intro w hSw; (try dsimp only at hSw); go_simp); all_goals (with_reducible rfl))
            try simp only [Act.put, List.setIfInBounds_toArray, List.set_cons_zero, List.set_cons_succ]
            refine wpAnyH_take (i := 10) (oi := ?oi_k39) (v := ?v_k39) ?hi_k39 (by kernel_rfl) ?hf_k39 ?hr_k39 ?hQ_k39 (Or.inl ⟨?hw_k39, ?hy_k39⟩) (by assumption) ?rest_k39
            case hi_k39 => ((simp only [List.getElem?_toArray, List.getElem?_cons_succ, List.getElem?_cons_zero]); rfl)
            case hf_k39 => kernel_rfl
            case hr_k39 => kernel_rfl
            case hQ_k39 => exact fun _ _ _ h => h
            case hw_k39 => rfl
            case hy_k39 => ((intro w hSw; (try dsimp only at hSw); go_simp); all_goals (with_reducible rfl))
            try simp only [Act.put, List.setIfInBounds_toArray, List.set_cons_zero, List.set_cons_succ]
            refine wpAnyH_take (i := 12) (oi := ?oi_k40) (v := ?v_k40) ?hi_k40 (by kernel_rfl) ?hf_k40 ?hr_k40 ?hQ_k40 (Or.inl ⟨?hw_k40, ?hy_k40⟩) (by assumption) ?rest_k40
            case hi_k40 => ((simp only [List.getElem?_toArray, List.getElem?_cons_succ, List.getElem?_cons_zero]); rfl)
            case hf_k40 => kernel_rfl
            case hr_k40 => kernel_rfl
            case hQ_k40 => exact fun _ _ _ h => h
            case hw_k40 => rfl
            case hy_k40 => ((intro w hSw; (try dsimp only at hSw); go_simp); all_goals (with_reducible rfl))
            try simp only [Act.put, List.setIfInBounds_toArray, List.set_cons_zero, List.set_cons_succ]
            refine wpAnyH_ready (rs := [11]) (by kernel_rfl) (by simp) ?_
            refine AllReadyH.cons (o := ?o1_k41) ?hi_k41 (fun K hK => ?rest_k41) AllReadyH.nil
            case hi_k41 => ((simp only [List.getElem?_toArray, List.getElem?_cons_succ, List.getElem?_cons_zero]); rfl)
            go_simp
            (go_at_call 26; (with_reducible refine (CT1.out _ ga gc (HG9.out.later hHeld)).mono ?_); rintro e wq11 ⟨rfl, hbq⟩)
            have hu11 : Below w19.heap.size w19 wq11 := belStep hHeld hbq
            clear hbq
            try go_simp
            refine hK.out _ _ (by exact hu11) (fun hHeld => ?_)
            clear hK K
            try simp only [Act.put, List.setIfInBounds_toArray, List.set_cons_zero, List.set_cons_succ]
            refine wpAnyH_ready (rs := [13]) (by kernel_rfl) (by simp) ?_
            refine AllReadyH.cons (o := ?o1_k42) ?hi_k42 (fun K hK => ?rest_k42) AllReadyH.nil
            case hi_k42 => ((simp only [List.getElem?_toArray, List.getElem?_cons_succ, List.getElem?_cons_zero]); rfl)
            go_simp
            (go_at_call 27; (with_reducible refine (CT2.out _ na nc (HA.out.later hHeld)).mono ?_); rintro e wq13 ⟨rfl, hbq⟩)
            have hu13 : Below w19.heap.size w19 wq13 := belStep hHeld hbq
            clear hbq
            try go_simp
            refine hK.out _ _ (by exact hu13) (fun hHeld => ?_)
            clear hK K
            try simp only [Act.put, List.setIfInBounds_toArray, List.set_cons_zero, List.set_cons_succ]
            refine wpAnyH_take (i := 14) (oi := ?oi_k43) (v := ?v_k43) ?hi_k43 (by kernel_rfl) ?hf_k43 ?hr_k43 ?hQ_k43 (Or.inl ⟨?hw_k43, ?hy_k43⟩) (by assumption) ?rest_k43
            case hi_k43 => ((simp only [List.getElem?_toArray, List.getElem?_cons_succ, List.getElem?_cons_zero]); rfl)
            case hf_k43 => kernel_rfl
            case hr_k43 => kernel_rfl
            case hQ_k43 => exact fun _ _ _ h => h
            case hw_k43 => rfl
            case hy_k43 => ((intro w hSw; (try dsimp only at hSw); go_simp); all_goals (with_reducible rfl))
            try simp only [Act.put, List.setIfInBounds_toArray, List.set_cons_zero, List.set_cons_succ]
            refine wpAnyH_take (i := 15) (oi := ?oi_k44) (v := ?v_k44) ?hi_k44 (by kernel_rfl) ?hf_k44 ?hr_k44 ?hQ_k44 (Or.inl ⟨?hw_k44, ?hy_k44⟩) (by assumption) ?rest_k44
            case hi_k44 => ((simp only [List.getElem?_toArray, List.getElem?_cons_succ, List.getElem?_cons_zero]); rfl)
            case hf_k44 => kernel_rfl
            case hr_k44 => kernel_rfl
            case hQ_k44 => exact fun _ _ _ h => h
            case hw_k44 => rfl
            case hy_k44 => ((intro w hSw; (try dsimp only at hSw); go_simp); all_goals (with_reducible rfl))
            try simp only [Act.put, List.setIfInBounds_toArray, List.set_cons_zero, List.set_cons_succ]
            refine wpAnyH_take (i := 16) (oi := ?oi_k45) (v := ?v_k45) ?hi_k45 (by kernel_rfl) ?hf_k45 ?hr_k45 ?hQ_k45 (Or.inl ⟨?hw_k45, ?hy_k45⟩) (by assumption) ?rest_k45
            case hi_k45 => ((simp only [List.getElem?_toArray, List.getElem?_cons_succ, List.getElem?_cons_zero]); rfl)
            case hf_k45 => kernel_rfl
            case hr_k45 => kernel_rfl
            case hQ_k45 => exact fun _ _ _ h => h
            case hw_k45 => rfl
            case hy_k45 => ((intro w hSw; (try dsimp only at hSw); go_simp); all_goals (with_reducible rfl))
            try simp only [Act.put, List.setIfInBounds_toArray, List.set_cons_zero, List.set_cons_succ]
            refine wpAnyH_take (i := 17) (oi := ?oi_k46) (v := ?v_k46) ?hi_k46 (by kernel_rfl) ?hf_k46 ?hr_k46 ?hQ_k46 (Or.inl ⟨?hw_k46, ?hy_k46⟩) (by assumption) ?rest_k46
            case hi_k46 => ((simp only [List.getElem?_toArray, List.getElem?_cons_succ, List.getElem?_cons_zero]); rfl)
            case hf_k46 => kernel_rfl
            case hr_k46 => kernel_rfl
            case hQ_k46 => exact fun _ _ _ h => h
            case hw_k46 => rfl
            case hy_k46 => ((intro w hSw; (try dsimp only at hSw); go_simp); all_goals (with_reducible rfl))
            try simp only [Act.put, List.setIfInBounds_toArray, List.set_cons_zero, List.set_cons_succ]
            refine wpAnyH_take (i := 18) (oi := ?oi_k47) (v := ?v_k47) ?hi_k47 (by kernel_rfl) ?hf_k47 ?hr_k47 ?hQ_k47 (Or.inl ⟨?hw_k47, ?hy_k47⟩) (by assumption) ?rest_k47
            case hi_k47 => ((simp only [List.getElem?_toArray, List.getElem?_cons_succ, List.getElem?_cons_zero]); rfl)
            case hf_k47 => kernel_rfl
            case hr_k47 => kernel_rfl
            case hQ_k47 => exact fun _ _ _ h => h
            case hw_k47 => rfl
            case hy_k47 => ((intro w hSw; (try dsimp only at hSw); go_simp); all_goals (with_reducible rfl))
            try simp only [Act.put, List.setIfInBounds_toArray, List.set_cons_zero, List.set_cons_succ]
            refine wpAnyH_take (i := 19) (oi := ?oi_k48) (v := ?v_k48) ?hi_k48 (by kernel_rfl) ?hf_k48 ?hr_k48 ?hQ_k48 (Or.inl ⟨?hw_k48, ?hy_k48⟩) (by assumption) ?rest_k48
            case hi_k48 => ((simp only [List.getElem?_toArray, List.getElem?_cons_succ, List.getElem?_cons_zero]); rfl)
            case hf_k48 => kernel_rfl
            case hr_k48 => kernel_rfl
            case hQ_k48 => exact fun _ _ _ h => h
            case hw_k48 => rfl
            case hy_k48 => ((intro w hSw; (try dsimp only at hSw); go_simp); all_goals (with_reducible rfl))
            try simp only [Act.put, List.setIfInBounds_toArray, List.set_cons_zero, List.set_cons_succ]
            refine wpAnyH_take (i := 21) (oi := ?oi_k49) (v := ?v_k49) ?hi_k49 (by kernel_rfl) ?hf_k49 ?hr_k49 ?hQ_k49 (Or.inl ⟨?hw_k49, ?hy_k49⟩) (by assumption) ?rest_k49
            case hi_k49 => ((simp only [List.getElem?_toArray, List.getElem?_cons_succ, List.getElem?_cons_zero]); rfl)
            case hf_k49 => kernel_rfl
            case hr_k49 => kernel_rfl
            case hQ_k49 => exact fun _ _ _ h => h
            case hw_k49 => rfl
            case hy_k49 => ((intro w hSw; (try dsimp only at hSw); go_simp); all_goals (with_reducible rfl))
            try simp only [Act.put, List.setIfInBounds_toArray, List.set_cons_zero, List.set_cons_succ]
            refine wpAnyH_take (i := 22) (oi := ?oi_k50) (v := ?v_k50) ?hi_k50 (by kernel_rfl) ?hf_k50 ?hr_k50 ?hQ_k50 (Or.inl ⟨?hw_k50, ?hy_k50⟩) (by assumption) ?rest_k50
            case hi_k50 => ((simp only [List.getElem?_toArray, List.getElem?_cons_succ, List.getElem?_cons_zero]); rfl)
            case hf_k50 => kernel_rfl
            case hr_k50 => kernel_rfl
            case hQ_k50 => exact fun _ _ _ h => h
            case hw_k50 => rfl
            case hy_k50 => ((intro w hSw; (try dsimp only at hSw); go_simp); all_goals (with_reducible rfl))
            try simp only [Act.put, List.setIfInBounds_toArray, List.set_cons_zero, List.set_cons_succ]
            refine wpAnyH_take (i := 23) (oi := ?oi_k51) (v := ?v_k51) ?hi_k51 (by kernel_rfl) ?hf_k51 ?hr_k51 ?hQ_k51 (Or.inl ⟨?hw_k51, ?hy_k51⟩) (by assumption) ?rest_k51
            case hi_k51 => ((simp only [List.getElem?_toArray, List.getElem?_cons_succ, List.getElem?_cons_zero]); rfl)
            case hf_k51 => kernel_rfl
            case hr_k51 => kernel_rfl
            case hQ_k51 => exact fun _ _ _ h => h
            case hw_k51 => rfl
            case hy_k51 => ((intro w hSw; (try dsimp only at hSw); go_simp); all_goals (with_reducible rfl))
            try simp only [Act.put, List.setIfInBounds_toArray, List.set_cons_zero, List.set_cons_succ]
            refine wpAnyH_ready (rs := [20]) (by kernel_rfl) (by simp) ?_
            refine AllReadyH.cons (o := ?o1_k52) ?hi_k52 (fun K hK => ?rest_k52) AllReadyH.nil
            case hi_k52 => ((simp only [List.getElem?_toArray, List.getElem?_cons_succ, List.getElem?_cons_zero]); rfl)
            go_simp
            (go_at_call 28; (with_reducible refine (CO1.out _ ga gc (HG9.out.later hHeld) (belStep HB.out hHeld)).mono ?_); rintro e wq20 ⟨y20, rfl, ho20, hbq⟩)
            obtain ⟨oa, oc9, rfl, hr20⟩ := rowR_of_own ho20
            have hu20 : Below w19.heap.size w19 wq20 := belStep hHeld hbq
            clear hbq
            try go_simp
            refine hK.out _ _ (by exact hu20) (fun hHeld => ?_)
            clear hK K
            try simp only [Act.put, List.setIfInBounds_toArray, List.set_cons_zero, List.set_cons_succ]
            refine wpAnyH_ready (rs := [24]) (by kernel_rfl) (by simp) ?_
            refine AllReadyH.cons (o := ?o1_k53) ?hi_k53 (fun K hK => ?rest_k53) AllReadyH.nil
            case hi_k53 => ((simp only [List.getElem?_toArray, List.getElem?_cons_succ, List.getElem?_cons_zero]); rfl)
            go_simp
            (go_at_call 29; (with_reducible refine (CO2.out _ na nc (HA.out.later hHeld) (belStep HB.out hHeld)).mono ?_); rintro e wq24 ⟨y24, rfl, ho24, hbq⟩)
            obtain ⟨oa2, oc2, rfl, hr24⟩ := rowR_of_own ho24
            have hr20b := hr20.later hbq
            have hu24 : Below w19.heap.size w19 wq24 := belStep hHeld hbq
            clear hbq
            try go_simp
            refine hK.out _ _ (by exact hu24) (fun hHeld => ?_)
            clear hK K
            try simp only [Act.put, List.setIfInBounds_toArray, List.set_cons_zero, List.set_cons_succ]
            refine wpAnyH_ready (rs := [25]) (by kernel_rfl) (by simp) ?_
            refine AllReadyH.cons (o := ?o1_k54) ?hi_k54 (fun K hK => ?rest_k54) AllReadyH.nil
            case hi_k54 => ((simp only [List.getElem?_toArray, List.getElem?_cons_succ, List.getElem?_cons_zero]); rfl)
            go_simp
            (go_at_call 25; (with_reducible refine (CSO.out _ oa oc9 oa2 oc2 hr20b hr24).mono ?_); rintro e wq25 ⟨rfl, hbq⟩)
            have hu25 : Below w19.heap.size w19 wq25 := belStep hHeld hbq
            clear hbq
            try go_simp
            refine hK.out _ _ (by exact hu25) (fun hHeld => ?_)
            clear hK K
            try simp only [Act.put, List.setIfInBounds_toArray, List.set_cons_zero, List.set_cons_succ]
            refine wpAnyH_take (i := 26) (oi := ?oi_k55) (v := ?v_k55) ?hi_k55 (by kernel_rfl) ?hf_k55 ?hr_k55 ?hQ_k55 (Or.inl ⟨?hw_k55, ?hy_k55⟩) (by assumption) ?rest_k55
            case hi_k55 => ((simp only [List.getElem?_toArray, List.getElem?_cons_succ, List.getElem?_cons_zero]); rfl)
            case hf_k55 => kernel_rfl
            case hr_k55 => kernel_rfl
            case hQ_k55 => exact fun _ _ _ h => h
            case hw_k55 => rfl
            case hy_k55 => ((intro w hSw; (try dsimp only at hSw); go_simp); all_goals (with_reducible rfl))
            try simp only [Act.put, List.setIfInBounds_toArray, List.set_cons_zero, List.set_cons_succ]
            refine wpAnyH_take (i := 27) (oi := ?oi_k56) (v := ?v_k56) ?hi_k56 (by kernel_rfl) ?hf_k56 ?hr_k56 ?hQ_k56 (Or.inl ⟨?hw_k56, ?hy_k56⟩) (by assumption) ?rest_k56
            case hi_k56 => ((simp only [List.getElem?_toArray, List.getElem?_cons_succ, List.getElem?_cons_zero]); rfl)
            case hf_k56 => kernel_rfl
            case hr_k56 => kernel_rfl
            case hQ_k56 => exact fun _ _ _ h => h
            case hw_k56 => rfl
            case hy_k56 => ((intro w hSw; (try dsimp only at hSw); go_simp); all_goals (with_reducible rfl))
            try simp only [Act.put, List.setIfInBounds_toArray, List.set_cons_zero, List.set_cons_succ]
            refine wpAnyH_done (by kernel_rfl) ?_ _
            go_wp2
            go_roundw
            case rel => exact ⟨k + 1, by omega, by rw [← hDi]; push_cast; rfl, by rw [HNN.out]; exact OwnR.later HOA.out hHeld, belStep HB.out hHeld⟩
            case measure => simp [intOf] <;> omega
          · have d1 : (x.op == (1 : Int)) = false := by rw [beq_eq_false_iff_ne]; exact ho1
            have HSN := Lib.hid (show dropI M x.name = N from (show stepA M x = _ by unfold stepA; rw [if_neg ho0, if_neg ho1]).symm.trans HSTEP.out)
            have CG := Lib.hid (fun u (hr : Row u (some ⟨bm, om, none⟩) M.length mc 3 (M.flatMap ImgV.cells)) => show Calls Try.prog 23 #[.slice (some ⟨bm, om, none⟩) M.length mc, .string x.name] u fun e w' => ∃ v, e = .returned (.tuple #[v, .bool true]) ∧ OwnR w' u.heap.size 31 3 v N.length (N.flatMap ImgV.cells) ∧ Below u.heap.size u w' from by have h := im_Drop (some ⟨bm, om, none⟩) M.length mc M x.name u rfl hr HRI.out (by omega); rw [HSN.out, HT.out] at h; exact h)
            go_upto_region 19 with (go_at_call 23; (with_reducible refine (CG.out _ HM.out).mono ?_); rintro e w15 ⟨vg, rfl, hog, hb_⟩; replace HM := Lib.hid (HM.out.later hb_); replace HXB := Lib.hid (HXB.out.later hb_); replace HB := Lib.hid (belStep HB.out hb_); replace hbel := HB.out; obtain ⟨ga, gc, rfl, hrg⟩ := rowR_of_own hog; have HG9 := Lib.hid hrg; clear hrg hog; clear hb_)
            clear q0 q1 q2 q3 q4
            have HB15 := Lib.hid HB.out
            go_upto_region 20 with (go_at_call 24; (with_reducible refine (CA.out _ HB.out).mono ?_); rintro e w19 ⟨va, rfl, hoa, hb_⟩; replace HG9 := Lib.hid (HG9.out.later hb_); replace HXB := Lib.hid (HXB.out.later hb_); replace HB := Lib.hid (belStep HB.out hb_); replace hbel := HB.out; have HOA := Lib.hid (OwnR.mono hoa HB15.out.size); obtain ⟨na, nc, rfl, hra⟩ := rowR_of_own hoa; have HA := Lib.hid hra; clear hra hoa; clear hb_)
            have q4 := keep (HXB.out.cell (j := 4) rfl)
            refine wp_region_held_drew (S := fun u => Below w19.heap.size w19 u) (by kernel_rfl) (by exact (show Below w19.heap.size w19 _ by repeat (first | assumption | exact Below.refl _ _ | refine belDrew ?_ | refine belAlloc ?_ _ | refine belStep ?_ (by assumption)))) (fun hHeld => ?_)
            refine wpAnyH_take (i := 0) (oi := ?oi_k57) (v := ?v_k57) ?hi_k57 (by kernel_rfl) ?hf_k57 ?hr_k57 ?hQ_k57 (Or.inl ⟨?hw_k57, ?hy_k57⟩) (by assumption) ?rest_k57
            case hi_k57 => ((simp only [List.getElem?_toArray, List.getElem?_cons_succ, List.getElem?_cons_zero]); rfl)
            case hf_k57 => kernel_rfl
            case hr_k57 => kernel_rfl
            case hQ_k57 => exact fun _ _ _ h => h
            case hw_k57 => rfl
            case hy_k57 => ((intro w hSw; (try dsimp only at hSw); go_simp); all_goals (with_reducible rfl))
            try simp only [Act.put, List.setIfInBounds_toArray, List.set_cons_zero, List.set_cons_succ]
            refine wpAnyH_take (i := 1) (oi := ?oi_k58) (v := ?v_k58) ?hi_k58 (by kernel_rfl) ?hf_k58 ?hr_k58 ?hQ_k58 (Or.inl ⟨?hw_k58, ?hy_k58⟩) (by assumption) ?rest_k58
            case hi_k58 => ((simp only [List.getElem?_toArray, List.getElem?_cons_succ, List.getElem?_cons_zero]); rfl)
            case hf_k58 => kernel_rfl
            case hr_k58 => kernel_rfl
            case hQ_k58 => exact fun _ _ _ h => h
            case hw_k58 => rfl
            case hy_k58 => ((intro w hSw; (try dsimp only at hSw); go_simp); all_goals (with_reducible rfl))
            try simp only [Act.put, List.setIfInBounds_toArray, List.set_cons_zero, List.set_cons_succ]
            refine wpAnyH_take (i := 2) (oi := ?oi_k59) (v := ?v_k59) ?hi_k59 (by kernel_rfl) ?hf_k59 ?hr_k59 ?hQ_k59 (Or.inl ⟨?hw_k59, ?hy_k59⟩) (by assumption) ?rest_k59
            case hi_k59 => ((simp only [List.getElem?_toArray, List.getElem?_cons_succ, List.getElem?_cons_zero]); rfl)
            case hf_k59 => kernel_rfl
            case hr_k59 => kernel_rfl
            case hQ_k59 => exact fun _ _ _ h => h
            case hw_k59 => rfl
            case hy_k59 => ((intro w hSw; (try dsimp only at hSw); go_simp); all_goals (with_reducible rfl))
            try simp only [Act.put, List.setIfInBounds_toArray, List.set_cons_zero, List.set_cons_succ]
            refine wpAnyH_take (i := 3) (oi := ?oi_k60) (v := ?v_k60) ?hi_k60 (by kernel_rfl) ?hf_k60 ?hr_k60 ?hQ_k60 (Or.inl ⟨?hw_k60, ?hy_k60⟩) (by assumption) ?rest_k60
            case hi_k60 => ((simp only [List.getElem?_toArray, List.getElem?_cons_succ, List.getElem?_cons_zero]); rfl)
            case hf_k60 => kernel_rfl
            case hr_k60 => kernel_rfl
            case hQ_k60 => exact fun _ _ _ h => h
            case hw_k60 => rfl
            case hy_k60 => ((intro w hSw; (try dsimp only at hSw); go_simp); all_goals (with_reducible rfl))
            try simp only [Act.put, List.setIfInBounds_toArray, List.set_cons_zero, List.set_cons_succ]
            refine wpAnyH_take (i := 4) (oi := ?oi_k61) (v := ?v_k61) ?hi_k61 (by kernel_rfl) ?hf_k61 ?hr_k61 ?hQ_k61 (Or.inl ⟨?hw_k61, ?hy_k61⟩) (by assumption) ?rest_k61
            case hi_k61 => ((simp only [List.getElem?_toArray, List.getElem?_cons_succ, List.getElem?_cons_zero]); rfl)
            case hf_k61 => kernel_rfl
            case hr_k61 => kernel_rfl
            case hQ_k61 => exact fun _ _ _ h => h
            case hw_k61 => rfl
            case hy_k61 => ((intro w hSw; (try dsimp only at hSw); go_simp); all_goals (with_reducible rfl))
            try simp only [Act.put, List.setIfInBounds_toArray, List.set_cons_zero, List.set_cons_succ]
            refine wpAnyH_take (i := 5) (oi := ?oi_k62) (v := ?v_k62) ?hi_k62 (by kernel_rfl) ?hf_k62 ?hr_k62 ?hQ_k62 (Or.inl ⟨?hw_k62, ?hy_k62⟩) (by assumption) ?rest_k62
            case hi_k62 => ((simp only [List.getElem?_toArray, List.getElem?_cons_succ, List.getElem?_cons_zero]); rfl)
            case hf_k62 => kernel_rfl
            case hr_k62 => kernel_rfl
            case hQ_k62 => exact fun _ _ _ h => h
            case hw_k62 => rfl
            case hy_k62 => ((intro w hSw; (try dsimp only at hSw); go_simp); all_goals (with_reducible rfl))
            try simp only [Act.put, List.setIfInBounds_toArray, List.set_cons_zero, List.set_cons_succ]
            refine wpAnyH_ready (rs := [6]) (by kernel_rfl) (by simp) ?_
            refine AllReadyH.cons (o := ?o1_k63) ?hi_k63 (fun K hK => ?rest_k63) AllReadyH.nil
            case hi_k63 => ((simp only [List.getElem?_toArray, List.getElem?_cons_succ, List.getElem?_cons_zero]); rfl)
            go_simp
            (go_at_call 25; (with_reducible refine (CS.out _ ga gc na nc (HG9.out.later hHeld) (HA.out.later hHeld)).mono ?_); rintro e wq6 ⟨rfl, hbq⟩)
            have hu6 : Below w19.heap.size w19 wq6 := belStep hHeld hbq
            clear hbq
            try go_simp
            refine hK.out _ _ (by exact hu6) (fun hHeld => ?_)
            clear hK K
            try simp only [Act.put, List.setIfInBounds_toArray, List.set_cons_zero, List.set_cons_succ]
            refine wpAnyH_take (i := 7) (oi := ?oi_k64) (v := ?v_k64) ?hi_k64 (by kernel_rfl) ?hf_k64 ?hr_k64 ?hQ_k64 (Or.inl ⟨?hw_k64, ?hy_k64⟩) (by assumption) ?rest_k64
            case hi_k64 => ((simp only [List.getElem?_toArray, List.getElem?_cons_succ, List.getElem?_cons_zero]); rfl)
            case hf_k64 => kernel_rfl
            case hr_k64 => kernel_rfl
            case hQ_k64 => exact fun _ _ _ h => h
            case hw_k64 => rfl
            case hy_k64 => ((intro w hSw; (try dsimp only at hSw); go_simp); all_goals (with_reducible rfl))
            try simp only [Act.put, List.setIfInBounds_toArray, List.set_cons_zero, List.set_cons_succ]
            refine wpAnyH_take (i := 8) (oi := ?oi_k65) (v := ?v_k65) ?hi_k65 (by kernel_rfl) ?hf_k65 ?hr_k65 ?hQ_k65 (Or.inl ⟨?hw_k65, ?hy_k65⟩) (by assumption) ?rest_k65
            case hi_k65 => ((simp only [List.getElem?_toArray, List.getElem?_cons_succ, List.getElem?_cons_zero]); rfl)
            case hf_k65 => kernel_rfl
            case hr_k65 => kernel_rfl
            case hQ_k65 => exact fun _ _ _ h => h
            case hw_k65 => rfl
            case hy_k65 => ((intro w hSw; (try dsimp only at hSw); go_simp); all_goals (with_reducible rfl))
            try simp only [Act.put, List.setIfInBounds_toArray, List.set_cons_zero, List.set_cons_succ]
            refine wpAnyH_take (i := 9) (oi := ?oi_k66) (v := ?v_k66) ?hi_k66 (by kernel_rfl) ?hf_k66 ?hr_k66 ?hQ_k66 (Or.inl ⟨?hw_k66, ?hy_k66⟩) (by assumption) ?rest_k66
            case hi_k66 => ((simp only [List.getElem?_toArray, List.getElem?_cons_succ, List.getElem?_cons_zero]); rfl)
            case hf_k66 => kernel_rfl
            case hr_k66 => kernel_rfl
            case hQ_k66 => exact fun _ _ _ h => h
            case hw_k66 => rfl
            case hy_k66 => ((intro w hSw; (try dsimp only at hSw); go_simp); all_goals (with_reducible rfl))
            try simp only [Act.put, List.setIfInBounds_toArray, List.set_cons_zero, List.set_cons_succ]
            refine wpAnyH_take (i := 10) (oi := ?oi_k67) (v := ?v_k67) ?hi_k67 (by kernel_rfl) ?hf_k67 ?hr_k67 ?hQ_k67 (Or.inl ⟨?hw_k67, ?hy_k67⟩) (by assumption) ?rest_k67
            case hi_k67 => ((simp only [List.getElem?_toArray, List.getElem?_cons_succ, List.getElem?_cons_zero]); rfl)
            case hf_k67 => kernel_rfl
            case hr_k67 => kernel_rfl
            case hQ_k67 => exact fun _ _ _ h => h
            case hw_k67 => rfl
            case hy_k67 => ((intro w hSw; (try dsimp only at hSw); go_simp); all_goals (with_reducible rfl))
            try simp only [Act.put, List.setIfInBounds_toArray, List.set_cons_zero, List.set_cons_succ]
            refine wpAnyH_take (i := 12) (oi := ?oi_k68) (v := ?v_k68) ?hi_k68 (by kernel_rfl) ?hf_k68 ?hr_k68 ?hQ_k68 (Or.inl ⟨?hw_k68, ?hy_k68⟩) (by assumption) ?rest_k68
            case hi_k68 => ((simp only [List.getElem?_toArray, List.getElem?_cons_succ, List.getElem?_cons_zero]); rfl)
            case hf_k68 => kernel_rfl
            case hr_k68 => kernel_rfl
            case hQ_k68 => exact fun _ _ _ h => h
            case hw_k68 => rfl
            case hy_k68 => ((intro w hSw; (try dsimp only at hSw); go_simp); all_goals (with_reducible rfl))
            try simp only [Act.put, List.setIfInBounds_toArray, List.set_cons_zero, List.set_cons_succ]
            refine wpAnyH_ready (rs := [11]) (by kernel_rfl) (by simp) ?_
            refine AllReadyH.cons (o := ?o1_k69) ?hi_k69 (fun K hK => ?rest_k69) AllReadyH.nil
            case hi_k69 => ((simp only [List.getElem?_toArray, List.getElem?_cons_succ, List.getElem?_cons_zero]); rfl)
            go_simp
            (go_at_call 26; (with_reducible refine (CT1.out _ ga gc (HG9.out.later hHeld)).mono ?_); rintro e wq11 ⟨rfl, hbq⟩)
            have hu11 : Below w19.heap.size w19 wq11 := belStep hHeld hbq
            clear hbq
            try go_simp
            refine hK.out _ _ (by exact hu11) (fun hHeld => ?_)
            clear hK K
            try simp only [Act.put, List.setIfInBounds_toArray, List.set_cons_zero, List.set_cons_succ]
            refine wpAnyH_ready (rs := [13]) (by kernel_rfl) (by simp) ?_
            refine AllReadyH.cons (o := ?o1_k70) ?hi_k70 (fun K hK => ?rest_k70) AllReadyH.nil
            case hi_k70 => ((simp only [List.getElem?_toArray, List.getElem?_cons_succ, List.getElem?_cons_zero]); rfl)
            go_simp
            (go_at_call 27; (with_reducible refine (CT2.out _ na nc (HA.out.later hHeld)).mono ?_); rintro e wq13 ⟨rfl, hbq⟩)
            have hu13 : Below w19.heap.size w19 wq13 := belStep hHeld hbq
            clear hbq
            try go_simp
            refine hK.out _ _ (by exact hu13) (fun hHeld => ?_)
            clear hK K
            try simp only [Act.put, List.setIfInBounds_toArray, List.set_cons_zero, List.set_cons_succ]
            refine wpAnyH_take (i := 14) (oi := ?oi_k71) (v := ?v_k71) ?hi_k71 (by kernel_rfl) ?hf_k71 ?hr_k71 ?hQ_k71 (Or.inl ⟨?hw_k71, ?hy_k71⟩) (by assumption) ?rest_k71
            case hi_k71 => ((simp only [List.getElem?_toArray, List.getElem?_cons_succ, List.getElem?_cons_zero]); rfl)
            case hf_k71 => kernel_rfl
            case hr_k71 => kernel_rfl
            case hQ_k71 => exact fun _ _ _ h => h
            case hw_k71 => rfl
            case hy_k71 => ((intro w hSw; (try dsimp only at hSw); go_simp); all_goals (with_reducible rfl))
            try simp only [Act.put, List.setIfInBounds_toArray, List.set_cons_zero, List.set_cons_succ]
            refine wpAnyH_take (i := 15) (oi := ?oi_k72) (v := ?v_k72) ?hi_k72 (by kernel_rfl) ?hf_k72 ?hr_k72 ?hQ_k72 (Or.inl ⟨?hw_k72, ?hy_k72⟩) (by assumption) ?rest_k72
            case hi_k72 => ((simp only [List.getElem?_toArray, List.getElem?_cons_succ, List.getElem?_cons_zero]); rfl)
            case hf_k72 => kernel_rfl
            case hr_k72 => kernel_rfl
            case hQ_k72 => exact fun _ _ _ h => h
            case hw_k72 => rfl
            case hy_k72 => ((intro w hSw; (try dsimp only at hSw); go_simp); all_goals (with_reducible rfl))
            try simp only [Act.put, List.setIfInBounds_toArray, List.set_cons_zero, List.set_cons_succ]
            refine wpAnyH_take (i := 16) (oi := ?oi_k73) (v := ?v_k73) ?hi_k73 (by kernel_rfl) ?hf_k73 ?hr_k73 ?hQ_k73 (Or.inl ⟨?hw_k73, ?hy_k73⟩) (by assumption) ?rest_k73
            case hi_k73 => ((simp only [List.getElem?_toArray, List.getElem?_cons_succ, List.getElem?_cons_zero]); rfl)
            case hf_k73 => kernel_rfl
            case hr_k73 => kernel_rfl
            case hQ_k73 => exact fun _ _ _ h => h
            case hw_k73 => rfl
            case hy_k73 => ((intro w hSw; (try dsimp only at hSw); go_simp); all_goals (with_reducible rfl))
            try simp only [Act.put, List.setIfInBounds_toArray, List.set_cons_zero, List.set_cons_succ]
            refine wpAnyH_take (i := 17) (oi := ?oi_k74) (v := ?v_k74) ?hi_k74 (by kernel_rfl) ?hf_k74 ?hr_k74 ?hQ_k74 (Or.inl ⟨?hw_k74, ?hy_k74⟩) (by assumption) ?rest_k74
            case hi_k74 => ((simp only [List.getElem?_toArray, List.getElem?_cons_succ, List.getElem?_cons_zero]); rfl)
            case hf_k74 => kernel_rfl
            case hr_k74 => kernel_rfl
            case hQ_k74 => exact fun _ _ _ h => h
            case hw_k74 => rfl
            case hy_k74 => ((intro w hSw; (try dsimp only at hSw); go_simp); all_goals (with_reducible rfl))
            try simp only [Act.put, List.setIfInBounds_toArray, List.set_cons_zero, List.set_cons_succ]
            refine wpAnyH_take (i := 18) (oi := ?oi_k75) (v := ?v_k75) ?hi_k75 (by kernel_rfl) ?hf_k75 ?hr_k75 ?hQ_k75 (Or.inl ⟨?hw_k75, ?hy_k75⟩) (by assumption) ?rest_k75
            case hi_k75 => ((simp only [List.getElem?_toArray, List.getElem?_cons_succ, List.getElem?_cons_zero]); rfl)
            case hf_k75 => kernel_rfl
            case hr_k75 => kernel_rfl
            case hQ_k75 => exact fun _ _ _ h => h
            case hw_k75 => rfl
            case hy_k75 => ((intro w hSw; (try dsimp only at hSw); go_simp); all_goals (with_reducible rfl))
            try simp only [Act.put, List.setIfInBounds_toArray, List.set_cons_zero, List.set_cons_succ]
            refine wpAnyH_take (i := 19) (oi := ?oi_k76) (v := ?v_k76) ?hi_k76 (by kernel_rfl) ?hf_k76 ?hr_k76 ?hQ_k76 (Or.inl ⟨?hw_k76, ?hy_k76⟩) (by assumption) ?rest_k76
            case hi_k76 => ((simp only [List.getElem?_toArray, List.getElem?_cons_succ, List.getElem?_cons_zero]); rfl)
            case hf_k76 => kernel_rfl
            case hr_k76 => kernel_rfl
            case hQ_k76 => exact fun _ _ _ h => h
            case hw_k76 => rfl
            case hy_k76 => ((intro w hSw; (try dsimp only at hSw); go_simp); all_goals (with_reducible rfl))
            try simp only [Act.put, List.setIfInBounds_toArray, List.set_cons_zero, List.set_cons_succ]
            refine wpAnyH_take (i := 21) (oi := ?oi_k77) (v := ?v_k77) ?hi_k77 (by kernel_rfl) ?hf_k77 ?hr_k77 ?hQ_k77 (Or.inl ⟨?hw_k77, ?hy_k77⟩) (by assumption) ?rest_k77
            case hi_k77 => ((simp only [List.getElem?_toArray, List.getElem?_cons_succ, List.getElem?_cons_zero]); rfl)
            case hf_k77 => kernel_rfl
            case hr_k77 => kernel_rfl
            case hQ_k77 => exact fun _ _ _ h => h
            case hw_k77 => rfl
            case hy_k77 => ((intro w hSw; (try dsimp only at hSw); go_simp); all_goals (with_reducible rfl))
            try simp only [Act.put, List.setIfInBounds_toArray, List.set_cons_zero, List.set_cons_succ]
            refine wpAnyH_take (i := 22) (oi := ?oi_k78) (v := ?v_k78) ?hi_k78 (by kernel_rfl) ?hf_k78 ?hr_k78 ?hQ_k78 (Or.inl ⟨?hw_k78, ?hy_k78⟩) (by assumption) ?rest_k78
            case hi_k78 => ((simp only [List.getElem?_toArray, List.getElem?_cons_succ, List.getElem?_cons_zero]); rfl)
            case hf_k78 => kernel_rfl
            case hr_k78 => kernel_rfl
            case hQ_k78 => exact fun _ _ _ h => h
            case hw_k78 => rfl
            case hy_k78 => ((intro w hSw; (try dsimp only at hSw); go_simp); all_goals (with_reducible rfl))
            try simp only [Act.put, List.setIfInBounds_toArray, List.set_cons_zero, List.set_cons_succ]
            refine wpAnyH_take (i := 23) (oi := ?oi_k79) (v := ?v_k79) ?hi_k79 (by kernel_rfl) ?hf_k79 ?hr_k79 ?hQ_k79 (Or.inl ⟨?hw_k79, ?hy_k79⟩) (by assumption) ?rest_k79
            case hi_k79 => ((simp only [List.getElem?_toArray, List.getElem?_cons_succ, List.getElem?_cons_zero]); rfl)
            case hf_k79 => kernel_rfl
            case hr_k79 => kernel_rfl
            case hQ_k79 => exact fun _ _ _ h => h
            case hw_k79 => rfl
            case hy_k79 => ((intro w hSw; (try dsimp only at hSw); go_simp); all_goals (with_reducible rfl))
            try simp only [Act.put, List.setIfInBounds_toArray, List.set_cons_zero, List.set_cons_succ]
            refine wpAnyH_ready (rs := [20]) (by kernel_rfl) (by simp) ?_
            refine AllReadyH.cons (o := ?o1_k80) ?hi_k80 (fun K hK => ?rest_k80) AllReadyH.nil
            case hi_k80 => ((simp only [List.getElem?_toArray, List.getElem?_cons_succ, List.getElem?_cons_zero]); rfl)
            go_simp
            (go_at_call 28; (with_reducible refine (CO1.out _ ga gc (HG9.out.later hHeld) (belStep HB.out hHeld)).mono ?_); rintro e wq20 ⟨y20, rfl, ho20, hbq⟩)
            obtain ⟨oa, oc9, rfl, hr20⟩ := rowR_of_own ho20
            have hu20 : Below w19.heap.size w19 wq20 := belStep hHeld hbq
            clear hbq
            try go_simp
            refine hK.out _ _ (by exact hu20) (fun hHeld => ?_)
            clear hK K
            try simp only [Act.put, List.setIfInBounds_toArray, List.set_cons_zero, List.set_cons_succ]
            refine wpAnyH_ready (rs := [24]) (by kernel_rfl) (by simp) ?_
            refine AllReadyH.cons (o := ?o1_k81) ?hi_k81 (fun K hK => ?rest_k81) AllReadyH.nil
            case hi_k81 => ((simp only [List.getElem?_toArray, List.getElem?_cons_succ, List.getElem?_cons_zero]); rfl)
            go_simp
            (go_at_call 29; (with_reducible refine (CO2.out _ na nc (HA.out.later hHeld) (belStep HB.out hHeld)).mono ?_); rintro e wq24 ⟨y24, rfl, ho24, hbq⟩)
            obtain ⟨oa2, oc2, rfl, hr24⟩ := rowR_of_own ho24
            have hr20b := hr20.later hbq
            have hu24 : Below w19.heap.size w19 wq24 := belStep hHeld hbq
            clear hbq
            try go_simp
            refine hK.out _ _ (by exact hu24) (fun hHeld => ?_)
            clear hK K
            try simp only [Act.put, List.setIfInBounds_toArray, List.set_cons_zero, List.set_cons_succ]
            refine wpAnyH_ready (rs := [25]) (by kernel_rfl) (by simp) ?_
            refine AllReadyH.cons (o := ?o1_k82) ?hi_k82 (fun K hK => ?rest_k82) AllReadyH.nil
            case hi_k82 => ((simp only [List.getElem?_toArray, List.getElem?_cons_succ, List.getElem?_cons_zero]); rfl)
            go_simp
            (go_at_call 25; (with_reducible refine (CSO.out _ oa oc9 oa2 oc2 hr20b hr24).mono ?_); rintro e wq25 ⟨rfl, hbq⟩)
            have hu25 : Below w19.heap.size w19 wq25 := belStep hHeld hbq
            clear hbq
            try go_simp
            refine hK.out _ _ (by exact hu25) (fun hHeld => ?_)
            clear hK K
            try simp only [Act.put, List.setIfInBounds_toArray, List.set_cons_zero, List.set_cons_succ]
            refine wpAnyH_take (i := 26) (oi := ?oi_k83) (v := ?v_k83) ?hi_k83 (by kernel_rfl) ?hf_k83 ?hr_k83 ?hQ_k83 (Or.inl ⟨?hw_k83, ?hy_k83⟩) (by assumption) ?rest_k83
            case hi_k83 => ((simp only [List.getElem?_toArray, List.getElem?_cons_succ, List.getElem?_cons_zero]); rfl)
            case hf_k83 => kernel_rfl
            case hr_k83 => kernel_rfl
            case hQ_k83 => exact fun _ _ _ h => h
            case hw_k83 => rfl
            case hy_k83 => ((intro w hSw; (try dsimp only at hSw); go_simp); all_goals (with_reducible rfl))
            try simp only [Act.put, List.setIfInBounds_toArray, List.set_cons_zero, List.set_cons_succ]
            refine wpAnyH_take (i := 27) (oi := ?oi_k84) (v := ?v_k84) ?hi_k84 (by kernel_rfl) ?hf_k84 ?hr_k84 ?hQ_k84 (Or.inl ⟨?hw_k84, ?hy_k84⟩) (by assumption) ?rest_k84
            case hi_k84 => ((simp only [List.getElem?_toArray, List.getElem?_cons_succ, List.getElem?_cons_zero]); rfl)
            case hf_k84 => kernel_rfl
            case hr_k84 => kernel_rfl
            case hQ_k84 => exact fun _ _ _ h => h
            case hw_k84 => rfl
            case hy_k84 => ((intro w hSw; (try dsimp only at hSw); go_simp); all_goals (with_reducible rfl))
            try simp only [Act.put, List.setIfInBounds_toArray, List.set_cons_zero, List.set_cons_succ]
            refine wpAnyH_done (by kernel_rfl) ?_ _
            go_wp2
            go_roundw
            case rel => exact ⟨k + 1, by omega, by rw [← hDi]; push_cast; rfl, by rw [HNN.out]; exact OwnR.later HOA.out hHeld, belStep HB.out hHeld⟩
            case measure => simp [intOf] <;> omega
      | false =>
        have HT := Lib.hid ht
        clear ht
        have CPL := Lib.hid (fun u (hr : Row u ma M.length mc 3 (M.flatMap ImgV.cells)) => show Calls Try.prog 19 #[.slice ma M.length mc, .string x.name] u fun e w' => e = .returned (.int .i64 (-1)) ∧ Below u.heap.size u w' from by have h := iref_Place ma M.length mc M x.name u rfl hr; rw [placeR_no HT.out] at h; exact h)
        have CF := Lib.hid (fun u (hr : Row u ma M.length mc 3 (M.flatMap ImgV.cells)) => show Calls Try.prog 20 #[.slice ma M.length mc, .string x.name] u fun e w' => e = .returned (.tuple #[.agg #[.string ⟨#[]⟩, .int .i64 0, .int .i64 0], .bool false]) ∧ Below u.heap.size u w' from by have h := im_Find ma M.length mc M x.name u rfl hr HRI.out; rw [HT.out, show fndV M x.name = zeroI from by unfold fndV; rw [find_no HT.out]; rfl] at h; exact h)
        have hpd : decide ((0 : Int) ≤ (-1 : Int)) = false := rfl
        go_upto_region 9 with (go_at_call 19; (with_reducible refine (CPL.out _ HM.out).mono ?_); rintro e w8 ⟨rfl, hb_⟩; replace HM := Lib.hid (HM.out.later hb_); replace HXB := Lib.hid (HXB.out.later hb_); replace HB := Lib.hid (belStep HB.out hb_); replace hbel := HB.out; clear hb_)
        clear q0 q1 q2 q3 q4
        have q0 := HXB.out.cell (j := 0) rfl
        have q1 := HXB.out.cell (j := 1) rfl
        have q2 := HXB.out.cell (j := 2) rfl
        have q3 := HXB.out.cell (j := 3) rfl
        have q4 := HXB.out.cell (j := 4) rfl
        go_upto_region 10 with (go_at_call 20; (with_reducible refine (CF.out _ HM.out).mono ?_); rintro e w9 ⟨rfl, hb_⟩; replace HM := Lib.hid (HM.out.later hb_); replace HXB := Lib.hid (HXB.out.later hb_); replace HB := Lib.hid (belStep HB.out hb_); replace hbel := HB.out; clear hb_)
        clear q0 q1 q2 q3 q4
        have k1 : Below w9.heap.size w9 (w9.alloc (.cells #[.string ⟨#[]⟩, .int .i64 0, .int .i64 0] 31)) := belAlloc (Below.refl _ _) _
        have hn_ := Blk.new w9 [.string ⟨#[]⟩, .int .i64 0, .int .i64 0] 31
        replace HM := Lib.hid (HM.out.later k1)
        replace HXB := Lib.hid (HXB.out.later k1)
        replace HB := Lib.hid (belStep HB.out k1)
        have HFB := Lib.hid (show Blk (w9.alloc (.cells #[.string ⟨#[]⟩, .int .i64 0, .int .i64 0] 31)) w9.heap.size [.string ⟨#[]⟩, .int .i64 0, .int .i64 0] 31 from hn_)
        clear hn_ k1 hbel
        generalize w9.alloc (.cells #[.string ⟨#[]⟩, .int .i64 0, .int .i64 0] 31) = W9 at *
        have hbel := HB.out
        clear hbel
        have hbel : Below W9.heap.size W9 W9 := Below.refl _ _
        have q0 := keep (HXB.out.cell (j := 0) rfl)
        have q1 := keep (HXB.out.cell (j := 1) rfl)
        have q2 := keep (HXB.out.cell (j := 2) rfl)
        have q3 := keep (HXB.out.cell (j := 3) rfl)
        have q4 := keep (HXB.out.cell (j := 4) rfl)
        have z0 := keep (HFB.out.cell (j := 0) rfl)
        have z1 := keep (HFB.out.cell (j := 1) rfl)
        have z2 := keep (HFB.out.cell (j := 2) rfl)
        have heq : ∀ u : World, (Op.equalIn 10000 31 (.agg #[.string ⟨#[]⟩, .int .i64 0, .int .i64 0]) (.agg #[.string ⟨#[]⟩, .int .i64 0, .int .i64 0])).run Try.prog u = .ok true u := fun u => eq_self zeroI u
        have kk := fun d os => belStep hbel (below_regrown _ d os)
        refine wp_region_quiet_below (by kernel_rfl) (by kernel_rfl) ?_
        repeat ((with_reducible refine wpQuiet_step (fun K hK => ?_)); go_simp; (try (rw [if_neg]; rotate_left; · decide)); first | ((with_reducible refine hK _ ?_); clear hK K) | (apply Exists.intro; refine ⟨fun _ => ?_, hK _ ?_⟩; (fail); clear hK K))
        refine wpQuiet_nil (fun w1 hw1 => ?_)
        replace hbel := belStep hbel (bel_of_class hw1)
        clear hw1 kk
        replace HM := Lib.hid (HM.out.later hbel)
        replace HXB := Lib.hid (HXB.out.later hbel)
        replace HB := Lib.hid (belStep HB.out hbel)
        clear q0 q1 q2 q3 q4 z0 z1 z2 hbel heq CPL CF hpd
        have hbel := HB.out
        have q0 := HXB.out.cell (j := 0) rfl
        have q1 := HXB.out.cell (j := 1) rfl
        have q2 := HXB.out.cell (j := 2) rfl
        have q3 := HXB.out.cell (j := 3) rfl
        have q4 := HXB.out.cell (j := 4) rfl
        by_cases ho0 : x.op = 0
        · have d0 : (x.op == (0 : Int)) = true := by rw [ho0]; rfl
          have HSN := Lib.hid (show putI M x.name x.size x.round = N from (show stepA M x = _ by unfold stepA; rw [if_pos ho0]).symm.trans HSTEP.out)
          have CG := Lib.hid (fun u (hr : Row u ma M.length mc 3 (M.flatMap ImgV.cells)) => show Calls Try.prog 21 #[.slice ma M.length mc, .string x.name, .int .i64 x.size, .int .i64 x.round] u fun e w' => ∃ v, e = .returned v ∧ OwnR w' u.heap.size 31 3 v N.length (N.flatMap ImgV.cells) ∧ Below u.heap.size u w' from by have h := im_Put ma M.length mc M x.name x.size x.round u rfl hr HRI.out (by omega); rw [HSN.out] at h; exact h)
          go_upto_region 19 with (go_at_call 21; (with_reducible refine (CG.out _ HM.out).mono ?_); rintro e w15 ⟨vg, rfl, hog, hb_⟩; replace HM := Lib.hid (HM.out.later hb_); replace HXB := Lib.hid (HXB.out.later hb_); replace HB := Lib.hid (belStep HB.out hb_); replace hbel := HB.out; obtain ⟨ga, gc, rfl, hrg⟩ := rowR_of_own hog; have HG9 := Lib.hid hrg; clear hrg hog; clear hb_)
          clear q0 q1 q2 q3 q4
          have HB15 := Lib.hid HB.out
          go_upto_region 20 with (go_at_call 24; (with_reducible refine (CA.out _ HB.out).mono ?_); rintro e w19 ⟨va, rfl, hoa, hb_⟩; replace HG9 := Lib.hid (HG9.out.later hb_); replace HXB := Lib.hid (HXB.out.later hb_); replace HB := Lib.hid (belStep HB.out hb_); replace hbel := HB.out; have HOA := Lib.hid (OwnR.mono hoa HB15.out.size); obtain ⟨na, nc, rfl, hra⟩ := rowR_of_own hoa; have HA := Lib.hid hra; clear hra hoa; clear hb_)
          have q4 := keep (HXB.out.cell (j := 4) rfl)
          refine wp_region_held_drew (S := fun u => Below w19.heap.size w19 u) (by kernel_rfl) (by exact (show Below w19.heap.size w19 _ by repeat (first | assumption | exact Below.refl _ _ | refine belDrew ?_ | refine belAlloc ?_ _ | refine belStep ?_ (by assumption)))) (fun hHeld => ?_)
          refine wpAnyH_take (i := 0) (oi := ?oi_k85) (v := ?v_k85) ?hi_k85 (by kernel_rfl) ?hf_k85 ?hr_k85 ?hQ_k85 (Or.inl ⟨?hw_k85, ?hy_k85⟩) (by assumption) ?rest_k85
          case hi_k85 => ((simp only [List.getElem?_toArray, List.getElem?_cons_succ, List.getElem?_cons_zero]); rfl)
          case hf_k85 => kernel_rfl
          case hr_k85 => kernel_rfl
          case hQ_k85 => exact fun _ _ _ h => h
          case hw_k85 => rfl
          case hy_k85 => ((intro w hSw; (try dsimp only at hSw); go_simp); all_goals (with_reducible rfl))
          try simp only [Act.put, List.setIfInBounds_toArray, List.set_cons_zero, List.set_cons_succ]
          refine wpAnyH_take (i := 1) (oi := ?oi_k86) (v := ?v_k86) ?hi_k86 (by kernel_rfl) ?hf_k86 ?hr_k86 ?hQ_k86 (Or.inl ⟨?hw_k86, ?hy_k86⟩) (by assumption) ?rest_k86
          case hi_k86 => ((simp only [List.getElem?_toArray, List.getElem?_cons_succ, List.getElem?_cons_zero]); rfl)
          case hf_k86 => kernel_rfl
          case hr_k86 => kernel_rfl
          case hQ_k86 => exact fun _ _ _ h => h
          case hw_k86 => rfl
          case hy_k86 => ((intro w hSw; (try dsimp only at hSw); go_simp); all_goals (with_reducible rfl))
          try simp only [Act.put, List.setIfInBounds_toArray, List.set_cons_zero, List.set_cons_succ]
          refine wpAnyH_take (i := 2) (oi := ?oi_k87) (v := ?v_k87) ?hi_k87 (by kernel_rfl) ?hf_k87 ?hr_k87 ?hQ_k87 (Or.inl ⟨?hw_k87, ?hy_k87⟩) (by assumption) ?rest_k87
          case hi_k87 => ((simp only [List.getElem?_toArray, List.getElem?_cons_succ, List.getElem?_cons_zero]); rfl)
          case hf_k87 => kernel_rfl
          case hr_k87 => kernel_rfl
          case hQ_k87 => exact fun _ _ _ h => h
          case hw_k87 => rfl
          case hy_k87 => ((intro w hSw; (try dsimp only at hSw); go_simp); all_goals (with_reducible rfl))
          try simp only [Act.put, List.setIfInBounds_toArray, List.set_cons_zero, List.set_cons_succ]
          refine wpAnyH_take (i := 3) (oi := ?oi_k88) (v := ?v_k88) ?hi_k88 (by kernel_rfl) ?hf_k88 ?hr_k88 ?hQ_k88 (Or.inl ⟨?hw_k88, ?hy_k88⟩) (by assumption) ?rest_k88
          case hi_k88 => ((simp only [List.getElem?_toArray, List.getElem?_cons_succ, List.getElem?_cons_zero]); rfl)
          case hf_k88 => kernel_rfl
          case hr_k88 => kernel_rfl
          case hQ_k88 => exact fun _ _ _ h => h
          case hw_k88 => rfl
          case hy_k88 => ((intro w hSw; (try dsimp only at hSw); go_simp); all_goals (with_reducible rfl))
          try simp only [Act.put, List.setIfInBounds_toArray, List.set_cons_zero, List.set_cons_succ]
          refine wpAnyH_take (i := 4) (oi := ?oi_k89) (v := ?v_k89) ?hi_k89 (by kernel_rfl) ?hf_k89 ?hr_k89 ?hQ_k89 (Or.inl ⟨?hw_k89, ?hy_k89⟩) (by assumption) ?rest_k89
          case hi_k89 => ((simp only [List.getElem?_toArray, List.getElem?_cons_succ, List.getElem?_cons_zero]); rfl)
          case hf_k89 => kernel_rfl
          case hr_k89 => kernel_rfl
          case hQ_k89 => exact fun _ _ _ h => h
          case hw_k89 => rfl
          case hy_k89 => ((intro w hSw; (try dsimp only at hSw); go_simp); all_goals (with_reducible rfl))
          try simp only [Act.put, List.setIfInBounds_toArray, List.set_cons_zero, List.set_cons_succ]
          refine wpAnyH_take (i := 5) (oi := ?oi_k90) (v := ?v_k90) ?hi_k90 (by kernel_rfl) ?hf_k90 ?hr_k90 ?hQ_k90 (Or.inl ⟨?hw_k90, ?hy_k90⟩) (by assumption) ?rest_k90
          case hi_k90 => ((simp only [List.getElem?_toArray, List.getElem?_cons_succ, List.getElem?_cons_zero]); rfl)
          case hf_k90 => kernel_rfl
          case hr_k90 => kernel_rfl
          case hQ_k90 => exact fun _ _ _ h => h
          case hw_k90 => rfl
          case hy_k90 => ((intro w hSw; (try dsimp only at hSw); go_simp); all_goals (with_reducible rfl))
          try simp only [Act.put, List.setIfInBounds_toArray, List.set_cons_zero, List.set_cons_succ]
          refine wpAnyH_ready (rs := [6]) (by kernel_rfl) (by simp) ?_
          refine AllReadyH.cons (o := ?o1_k91) ?hi_k91 (fun K hK => ?rest_k91) AllReadyH.nil
          case hi_k91 => ((simp only [List.getElem?_toArray, List.getElem?_cons_succ, List.getElem?_cons_zero]); rfl)
          go_simp
          (go_at_call 25; (with_reducible refine (CS.out _ ga gc na nc (HG9.out.later hHeld) (HA.out.later hHeld)).mono ?_); rintro e wq6 ⟨rfl, hbq⟩)
          have hu6 : Below w19.heap.size w19 wq6 := belStep hHeld hbq
          clear hbq
          try go_simp
          refine hK.out _ _ (by exact hu6) (fun hHeld => ?_)
          clear hK K
          try simp only [Act.put, List.setIfInBounds_toArray, List.set_cons_zero, List.set_cons_succ]
          refine wpAnyH_take (i := 7) (oi := ?oi_k92) (v := ?v_k92) ?hi_k92 (by kernel_rfl) ?hf_k92 ?hr_k92 ?hQ_k92 (Or.inl ⟨?hw_k92, ?hy_k92⟩) (by assumption) ?rest_k92
          case hi_k92 => ((simp only [List.getElem?_toArray, List.getElem?_cons_succ, List.getElem?_cons_zero]); rfl)
          case hf_k92 => kernel_rfl
          case hr_k92 => kernel_rfl
          case hQ_k92 => exact fun _ _ _ h => h
          case hw_k92 => rfl
          case hy_k92 => ((intro w hSw; (try dsimp only at hSw); go_simp); all_goals (with_reducible rfl))
          try simp only [Act.put, List.setIfInBounds_toArray, List.set_cons_zero, List.set_cons_succ]
          refine wpAnyH_take (i := 8) (oi := ?oi_k93) (v := ?v_k93) ?hi_k93 (by kernel_rfl) ?hf_k93 ?hr_k93 ?hQ_k93 (Or.inl ⟨?hw_k93, ?hy_k93⟩) (by assumption) ?rest_k93
          case hi_k93 => ((simp only [List.getElem?_toArray, List.getElem?_cons_succ, List.getElem?_cons_zero]); rfl)
          case hf_k93 => kernel_rfl
          case hr_k93 => kernel_rfl
          case hQ_k93 => exact fun _ _ _ h => h
          case hw_k93 => rfl
          case hy_k93 => ((intro w hSw; (try dsimp only at hSw); go_simp); all_goals (with_reducible rfl))
          try simp only [Act.put, List.setIfInBounds_toArray, List.set_cons_zero, List.set_cons_succ]
          refine wpAnyH_take (i := 9) (oi := ?oi_k94) (v := ?v_k94) ?hi_k94 (by kernel_rfl) ?hf_k94 ?hr_k94 ?hQ_k94 (Or.inl ⟨?hw_k94, ?hy_k94⟩) (by assumption) ?rest_k94
          case hi_k94 => ((simp only [List.getElem?_toArray, List.getElem?_cons_succ, List.getElem?_cons_zero]); rfl)
          case hf_k94 => kernel_rfl
          case hr_k94 => kernel_rfl
          case hQ_k94 => exact fun _ _ _ h => h
          case hw_k94 => rfl
          case hy_k94 => ((intro w hSw; (try dsimp only at hSw); go_simp); all_goals (with_reducible rfl))
          try simp only [Act.put, List.setIfInBounds_toArray, List.set_cons_zero, List.set_cons_succ]
          refine wpAnyH_take (i := 10) (oi := ?oi_k95) (v := ?v_k95) ?hi_k95 (by kernel_rfl) ?hf_k95 ?hr_k95 ?hQ_k95 (Or.inl ⟨?hw_k95, ?hy_k95⟩) (by assumption) ?rest_k95
          case hi_k95 => ((simp only [List.getElem?_toArray, List.getElem?_cons_succ, List.getElem?_cons_zero]); rfl)
          case hf_k95 => kernel_rfl
          case hr_k95 => kernel_rfl
          case hQ_k95 => exact fun _ _ _ h => h
          case hw_k95 => rfl
          case hy_k95 => ((intro w hSw; (try dsimp only at hSw); go_simp); all_goals (with_reducible rfl))
          try simp only [Act.put, List.setIfInBounds_toArray, List.set_cons_zero, List.set_cons_succ]
          refine wpAnyH_take (i := 12) (oi := ?oi_k96) (v := ?v_k96) ?hi_k96 (by kernel_rfl) ?hf_k96 ?hr_k96 ?hQ_k96 (Or.inl ⟨?hw_k96, ?hy_k96⟩) (by assumption) ?rest_k96
          case hi_k96 => ((simp only [List.getElem?_toArray, List.getElem?_cons_succ, List.getElem?_cons_zero]); rfl)
          case hf_k96 => kernel_rfl
          case hr_k96 => kernel_rfl
          case hQ_k96 => exact fun _ _ _ h => h
          case hw_k96 => rfl
          case hy_k96 => ((intro w hSw; (try dsimp only at hSw); go_simp); all_goals (with_reducible rfl))
          try simp only [Act.put, List.setIfInBounds_toArray, List.set_cons_zero, List.set_cons_succ]
          refine wpAnyH_ready (rs := [11]) (by kernel_rfl) (by simp) ?_
          refine AllReadyH.cons (o := ?o1_k97) ?hi_k97 (fun K hK => ?rest_k97) AllReadyH.nil
          case hi_k97 => ((simp only [List.getElem?_toArray, List.getElem?_cons_succ, List.getElem?_cons_zero]); rfl)
          go_simp
          (go_at_call 26; (with_reducible refine (CT1.out _ ga gc (HG9.out.later hHeld)).mono ?_); rintro e wq11 ⟨rfl, hbq⟩)
          have hu11 : Below w19.heap.size w19 wq11 := belStep hHeld hbq
          clear hbq
          try go_simp
          refine hK.out _ _ (by exact hu11) (fun hHeld => ?_)
          clear hK K
          try simp only [Act.put, List.setIfInBounds_toArray, List.set_cons_zero, List.set_cons_succ]
          refine wpAnyH_ready (rs := [13]) (by kernel_rfl) (by simp) ?_
          refine AllReadyH.cons (o := ?o1_k98) ?hi_k98 (fun K hK => ?rest_k98) AllReadyH.nil
          case hi_k98 => ((simp only [List.getElem?_toArray, List.getElem?_cons_succ, List.getElem?_cons_zero]); rfl)
          go_simp
          (go_at_call 27; (with_reducible refine (CT2.out _ na nc (HA.out.later hHeld)).mono ?_); rintro e wq13 ⟨rfl, hbq⟩)
          have hu13 : Below w19.heap.size w19 wq13 := belStep hHeld hbq
          clear hbq
          try go_simp
          refine hK.out _ _ (by exact hu13) (fun hHeld => ?_)
          clear hK K
          try simp only [Act.put, List.setIfInBounds_toArray, List.set_cons_zero, List.set_cons_succ]
          refine wpAnyH_take (i := 14) (oi := ?oi_k99) (v := ?v_k99) ?hi_k99 (by kernel_rfl) ?hf_k99 ?hr_k99 ?hQ_k99 (Or.inl ⟨?hw_k99, ?hy_k99⟩) (by assumption) ?rest_k99
          case hi_k99 => ((simp only [List.getElem?_toArray, List.getElem?_cons_succ, List.getElem?_cons_zero]); rfl)
          case hf_k99 => kernel_rfl
          case hr_k99 => kernel_rfl
          case hQ_k99 => exact fun _ _ _ h => h
          case hw_k99 => rfl
          case hy_k99 => ((intro w hSw; (try dsimp only at hSw); go_simp); all_goals (with_reducible rfl))
          try simp only [Act.put, List.setIfInBounds_toArray, List.set_cons_zero, List.set_cons_succ]
          refine wpAnyH_take (i := 15) (oi := ?oi_k100) (v := ?v_k100) ?hi_k100 (by kernel_rfl) ?hf_k100 ?hr_k100 ?hQ_k100 (Or.inl ⟨?hw_k100, ?hy_k100⟩) (by assumption) ?rest_k100
          case hi_k100 => ((simp only [List.getElem?_toArray, List.getElem?_cons_succ, List.getElem?_cons_zero]); rfl)
          case hf_k100 => kernel_rfl
          case hr_k100 => kernel_rfl
          case hQ_k100 => exact fun _ _ _ h => h
          case hw_k100 => rfl
          case hy_k100 => ((intro w hSw; (try dsimp only at hSw); go_simp); all_goals (with_reducible rfl))
          try simp only [Act.put, List.setIfInBounds_toArray, List.set_cons_zero, List.set_cons_succ]
          refine wpAnyH_take (i := 16) (oi := ?oi_k101) (v := ?v_k101) ?hi_k101 (by kernel_rfl) ?hf_k101 ?hr_k101 ?hQ_k101 (Or.inl ⟨?hw_k101, ?hy_k101⟩) (by assumption) ?rest_k101
          case hi_k101 => ((simp only [List.getElem?_toArray, List.getElem?_cons_succ, List.getElem?_cons_zero]); rfl)
          case hf_k101 => kernel_rfl
          case hr_k101 => kernel_rfl
          case hQ_k101 => exact fun _ _ _ h => h
          case hw_k101 => rfl
          case hy_k101 => ((intro w hSw; (try dsimp only at hSw); go_simp); all_goals (with_reducible rfl))
          try simp only [Act.put, List.setIfInBounds_toArray, List.set_cons_zero, List.set_cons_succ]
          refine wpAnyH_take (i := 17) (oi := ?oi_k102) (v := ?v_k102) ?hi_k102 (by kernel_rfl) ?hf_k102 ?hr_k102 ?hQ_k102 (Or.inl ⟨?hw_k102, ?hy_k102⟩) (by assumption) ?rest_k102
          case hi_k102 => ((simp only [List.getElem?_toArray, List.getElem?_cons_succ, List.getElem?_cons_zero]); rfl)
          case hf_k102 => kernel_rfl
          case hr_k102 => kernel_rfl
          case hQ_k102 => exact fun _ _ _ h => h
          case hw_k102 => rfl
          case hy_k102 => ((intro w hSw; (try dsimp only at hSw); go_simp); all_goals (with_reducible rfl))
          try simp only [Act.put, List.setIfInBounds_toArray, List.set_cons_zero, List.set_cons_succ]
          refine wpAnyH_take (i := 18) (oi := ?oi_k103) (v := ?v_k103) ?hi_k103 (by kernel_rfl) ?hf_k103 ?hr_k103 ?hQ_k103 (Or.inl ⟨?hw_k103, ?hy_k103⟩) (by assumption) ?rest_k103
          case hi_k103 => ((simp only [List.getElem?_toArray, List.getElem?_cons_succ, List.getElem?_cons_zero]); rfl)
          case hf_k103 => kernel_rfl
          case hr_k103 => kernel_rfl
          case hQ_k103 => exact fun _ _ _ h => h
          case hw_k103 => rfl
          case hy_k103 => ((intro w hSw; (try dsimp only at hSw); go_simp); all_goals (with_reducible rfl))
          try simp only [Act.put, List.setIfInBounds_toArray, List.set_cons_zero, List.set_cons_succ]
          refine wpAnyH_take (i := 19) (oi := ?oi_k104) (v := ?v_k104) ?hi_k104 (by kernel_rfl) ?hf_k104 ?hr_k104 ?hQ_k104 (Or.inl ⟨?hw_k104, ?hy_k104⟩) (by assumption) ?rest_k104
          case hi_k104 => ((simp only [List.getElem?_toArray, List.getElem?_cons_succ, List.getElem?_cons_zero]); rfl)
          case hf_k104 => kernel_rfl
          case hr_k104 => kernel_rfl
          case hQ_k104 => exact fun _ _ _ h => h
          case hw_k104 => rfl
          case hy_k104 => ((intro w hSw; (try dsimp only at hSw); go_simp); all_goals (with_reducible rfl))
          try simp only [Act.put, List.setIfInBounds_toArray, List.set_cons_zero, List.set_cons_succ]
          refine wpAnyH_take (i := 21) (oi := ?oi_k105) (v := ?v_k105) ?hi_k105 (by kernel_rfl) ?hf_k105 ?hr_k105 ?hQ_k105 (Or.inl ⟨?hw_k105, ?hy_k105⟩) (by assumption) ?rest_k105
          case hi_k105 => ((simp only [List.getElem?_toArray, List.getElem?_cons_succ, List.getElem?_cons_zero]); rfl)
          case hf_k105 => kernel_rfl
          case hr_k105 => kernel_rfl
          case hQ_k105 => exact fun _ _ _ h => h
          case hw_k105 => rfl
          case hy_k105 => ((intro w hSw; (try dsimp only at hSw); go_simp); all_goals (with_reducible rfl))
          try simp only [Act.put, List.setIfInBounds_toArray, List.set_cons_zero, List.set_cons_succ]
          refine wpAnyH_take (i := 22) (oi := ?oi_k106) (v := ?v_k106) ?hi_k106 (by kernel_rfl) ?hf_k106 ?hr_k106 ?hQ_k106 (Or.inl ⟨?hw_k106, ?hy_k106⟩) (by assumption) ?rest_k106
          case hi_k106 => ((simp only [List.getElem?_toArray, List.getElem?_cons_succ, List.getElem?_cons_zero]); rfl)
          case hf_k106 => kernel_rfl
          case hr_k106 => kernel_rfl
          case hQ_k106 => exact fun _ _ _ h => h
          case hw_k106 => rfl
          case hy_k106 => ((intro w hSw; (try dsimp only at hSw); go_simp); all_goals (with_reducible rfl))
          try simp only [Act.put, List.setIfInBounds_toArray, List.set_cons_zero, List.set_cons_succ]
          refine wpAnyH_take (i := 23) (oi := ?oi_k107) (v := ?v_k107) ?hi_k107 (by kernel_rfl) ?hf_k107 ?hr_k107 ?hQ_k107 (Or.inl ⟨?hw_k107, ?hy_k107⟩) (by assumption) ?rest_k107
          case hi_k107 => ((simp only [List.getElem?_toArray, List.getElem?_cons_succ, List.getElem?_cons_zero]); rfl)
          case hf_k107 => kernel_rfl
          case hr_k107 => kernel_rfl
          case hQ_k107 => exact fun _ _ _ h => h
          case hw_k107 => rfl
          case hy_k107 => ((intro w hSw; (try dsimp only at hSw); go_simp); all_goals (with_reducible rfl))
          try simp only [Act.put, List.setIfInBounds_toArray, List.set_cons_zero, List.set_cons_succ]
          refine wpAnyH_ready (rs := [20]) (by kernel_rfl) (by simp) ?_
          refine AllReadyH.cons (o := ?o1_k108) ?hi_k108 (fun K hK => ?rest_k108) AllReadyH.nil
          case hi_k108 => ((simp only [List.getElem?_toArray, List.getElem?_cons_succ, List.getElem?_cons_zero]); rfl)
          go_simp
          (go_at_call 28; (with_reducible refine (CO1.out _ ga gc (HG9.out.later hHeld) (belStep HB.out hHeld)).mono ?_); rintro e wq20 ⟨y20, rfl, ho20, hbq⟩)
          obtain ⟨oa, oc9, rfl, hr20⟩ := rowR_of_own ho20
          have hu20 : Below w19.heap.size w19 wq20 := belStep hHeld hbq
          clear hbq
          try go_simp
          refine hK.out _ _ (by exact hu20) (fun hHeld => ?_)
          clear hK K
          try simp only [Act.put, List.setIfInBounds_toArray, List.set_cons_zero, List.set_cons_succ]
          refine wpAnyH_ready (rs := [24]) (by kernel_rfl) (by simp) ?_
          refine AllReadyH.cons (o := ?o1_k109) ?hi_k109 (fun K hK => ?rest_k109) AllReadyH.nil
          case hi_k109 => ((simp only [List.getElem?_toArray, List.getElem?_cons_succ, List.getElem?_cons_zero]); rfl)
          go_simp
          (go_at_call 29; (with_reducible refine (CO2.out _ na nc (HA.out.later hHeld) (belStep HB.out hHeld)).mono ?_); rintro e wq24 ⟨y24, rfl, ho24, hbq⟩)
          obtain ⟨oa2, oc2, rfl, hr24⟩ := rowR_of_own ho24
          have hr20b := hr20.later hbq
          have hu24 : Below w19.heap.size w19 wq24 := belStep hHeld hbq
          clear hbq
          try go_simp
          refine hK.out _ _ (by exact hu24) (fun hHeld => ?_)
          clear hK K
          try simp only [Act.put, List.setIfInBounds_toArray, List.set_cons_zero, List.set_cons_succ]
          refine wpAnyH_ready (rs := [25]) (by kernel_rfl) (by simp) ?_
          refine AllReadyH.cons (o := ?o1_k110) ?hi_k110 (fun K hK => ?rest_k110) AllReadyH.nil
          case hi_k110 => ((simp only [List.getElem?_toArray, List.getElem?_cons_succ, List.getElem?_cons_zero]); rfl)
          go_simp
          (go_at_call 25; (with_reducible refine (CSO.out _ oa oc9 oa2 oc2 hr20b hr24).mono ?_); rintro e wq25 ⟨rfl, hbq⟩)
          have hu25 : Below w19.heap.size w19 wq25 := belStep hHeld hbq
          clear hbq
          try go_simp
          refine hK.out _ _ (by exact hu25) (fun hHeld => ?_)
          clear hK K
          try simp only [Act.put, List.setIfInBounds_toArray, List.set_cons_zero, List.set_cons_succ]
          refine wpAnyH_take (i := 26) (oi := ?oi_k111) (v := ?v_k111) ?hi_k111 (by kernel_rfl) ?hf_k111 ?hr_k111 ?hQ_k111 (Or.inl ⟨?hw_k111, ?hy_k111⟩) (by assumption) ?rest_k111
          case hi_k111 => ((simp only [List.getElem?_toArray, List.getElem?_cons_succ, List.getElem?_cons_zero]); rfl)
          case hf_k111 => kernel_rfl
          case hr_k111 => kernel_rfl
          case hQ_k111 => exact fun _ _ _ h => h
          case hw_k111 => rfl
          case hy_k111 => ((intro w hSw; (try dsimp only at hSw); go_simp); all_goals (with_reducible rfl))
          try simp only [Act.put, List.setIfInBounds_toArray, List.set_cons_zero, List.set_cons_succ]
          refine wpAnyH_take (i := 27) (oi := ?oi_k112) (v := ?v_k112) ?hi_k112 (by kernel_rfl) ?hf_k112 ?hr_k112 ?hQ_k112 (Or.inl ⟨?hw_k112, ?hy_k112⟩) (by assumption) ?rest_k112
          case hi_k112 => ((simp only [List.getElem?_toArray, List.getElem?_cons_succ, List.getElem?_cons_zero]); rfl)
          case hf_k112 => kernel_rfl
          case hr_k112 => kernel_rfl
          case hQ_k112 => exact fun _ _ _ h => h
          case hw_k112 => rfl
          case hy_k112 => ((intro w hSw; (try dsimp only at hSw); go_simp); all_goals (with_reducible rfl))
          try simp only [Act.put, List.setIfInBounds_toArray, List.set_cons_zero, List.set_cons_succ]
          refine wpAnyH_done (by kernel_rfl) ?_ _
          go_wp2
          go_roundw
          case rel => exact ⟨k + 1, by omega, by rw [← hDi]; push_cast; rfl, by rw [HNN.out]; exact OwnR.later HOA.out hHeld, belStep HB.out hHeld⟩
          case measure => simp [intOf] <;> omega
        · have d0 : (x.op == (0 : Int)) = false := by rw [beq_eq_false_iff_ne]; exact ho0
          by_cases ho1 : x.op = 1
          · have d1 : (x.op == (1 : Int)) = true := by rw [ho1]; rfl
            have HSN := Lib.hid (show touchI M x.U x.round = N from (show stepA M x = _ by unfold stepA; rw [if_neg ho0, if_pos ho1]).symm.trans HSTEP.out)
            have CG := Lib.hid (fun u (hr : Row u ma M.length mc 3 (M.flatMap ImgV.cells)) (hu : Below w.heap.size w u) => show Calls Try.prog 22 #[.slice ma M.length mc, .slice x.ua x.un x.uc, .int .i64 x.round] u fun e w' => ∃ v, e = .returned v ∧ OwnR w' u.heap.size 31 3 v N.length (N.flatMap ImgV.cells) ∧ Below u.heap.size u w' from by have h := im_Touch ma M.length mc M x.ua x.un x.uc x.U x.round u rfl hr HRI.out HUN.out (HRU.out.later hu) (by omega); rw [HSN.out] at h; exact h)
            go_upto_region 19 with (go_at_call 22; (with_reducible refine (CG.out _ HM.out HB.out).mono ?_); rintro e w15 ⟨vg, rfl, hog, hb_⟩; replace HM := Lib.hid (HM.out.later hb_); replace HXB := Lib.hid (HXB.out.later hb_); replace HB := Lib.hid (belStep HB.out hb_); replace hbel := HB.out; obtain ⟨ga, gc, rfl, hrg⟩ := rowR_of_own hog; have HG9 := Lib.hid hrg; clear hrg hog; clear hb_)
            clear q0 q1 q2 q3 q4
            have HB15 := Lib.hid HB.out
            go_upto_region 20 with (go_at_call 24; (with_reducible refine (CA.out _ HB.out).mono ?_); rintro e w19 ⟨va, rfl, hoa, hb_⟩; replace HG9 := Lib.hid (HG9.out.later hb_); replace HXB := Lib.hid (HXB.out.later hb_); replace HB := Lib.hid (belStep HB.out hb_); replace hbel := HB.out; have HOA := Lib.hid (OwnR.mono hoa HB15.out.size); obtain ⟨na, nc, rfl, hra⟩ := rowR_of_own hoa; have HA := Lib.hid hra; clear hra hoa; clear hb_)
            have q4 := keep (HXB.out.cell (j := 4) rfl)
            refine wp_region_held_drew (S := fun u => Below w19.heap.size w19 u) (by kernel_rfl) (by exact (show Below w19.heap.size w19 _ by repeat (first | assumption | exact Below.refl _ _ | refine belDrew ?_ | refine belAlloc ?_ _ | refine belStep ?_ (by assumption)))) (fun hHeld => ?_)
            refine wpAnyH_take (i := 0) (oi := ?oi_k113) (v := ?v_k113) ?hi_k113 (by kernel_rfl) ?hf_k113 ?hr_k113 ?hQ_k113 (Or.inl ⟨?hw_k113, ?hy_k113⟩) (by assumption) ?rest_k113
            case hi_k113 => ((simp only [List.getElem?_toArray, List.getElem?_cons_succ, List.getElem?_cons_zero]); rfl)
            case hf_k113 => kernel_rfl
            case hr_k113 => kernel_rfl
            case hQ_k113 => exact fun _ _ _ h => h
            case hw_k113 => rfl
            case hy_k113 => ((intro w hSw; (try dsimp only at hSw); go_simp); all_goals (with_reducible rfl))
            try simp only [Act.put, List.setIfInBounds_toArray, List.set_cons_zero, List.set_cons_succ]
            refine wpAnyH_take (i := 1) (oi := ?oi_k114) (v := ?v_k114) ?hi_k114 (by kernel_rfl) ?hf_k114 ?hr_k114 ?hQ_k114 (Or.inl ⟨?hw_k114, ?hy_k114⟩) (by assumption) ?rest_k114
            case hi_k114 => ((simp only [List.getElem?_toArray, List.getElem?_cons_succ, List.getElem?_cons_zero]); rfl)
            case hf_k114 => kernel_rfl
            case hr_k114 => kernel_rfl
            case hQ_k114 => exact fun _ _ _ h => h
            case hw_k114 => rfl
            case hy_k114 => ((intro w hSw; (try dsimp only at hSw); go_simp); all_goals (with_reducible rfl))
            try simp only [Act.put, List.setIfInBounds_toArray, List.set_cons_zero, List.set_cons_succ]
            refine wpAnyH_take (i := 2) (oi := ?oi_k115) (v := ?v_k115) ?hi_k115 (by kernel_rfl) ?hf_k115 ?hr_k115 ?hQ_k115 (Or.inl ⟨?hw_k115, ?hy_k115⟩) (by assumption) ?rest_k115
            case hi_k115 => ((simp only [List.getElem?_toArray, List.getElem?_cons_succ, List.getElem?_cons_zero]); rfl)
            case hf_k115 => kernel_rfl
            case hr_k115 => kernel_rfl
            case hQ_k115 => exact fun _ _ _ h => h
            case hw_k115 => rfl
            case hy_k115 => ((intro w hSw; (try dsimp only at hSw); go_simp); all_goals (with_reducible rfl))
            try simp only [Act.put, List.setIfInBounds_toArray, List.set_cons_zero, List.set_cons_succ]
            refine wpAnyH_take (i := 3) (oi := ?oi_k116) (v := ?v_k116) ?hi_k116 (by kernel_rfl) ?hf_k116 ?hr_k116 ?hQ_k116 (Or.inl ⟨?hw_k116, ?hy_k116⟩) (by assumption) ?rest_k116
            case hi_k116 => ((simp only [List.getElem?_toArray, List.getElem?_cons_succ, List.getElem?_cons_zero]); rfl)
            case hf_k116 => kernel_rfl
            case hr_k116 => kernel_rfl
            case hQ_k116 => exact fun _ _ _ h => h
            case hw_k116 => rfl
            case hy_k116 => ((intro w hSw; (try dsimp only at hSw); go_simp); all_goals (with_reducible rfl))
            try simp only [Act.put, List.setIfInBounds_toArray, List.set_cons_zero, List.set_cons_succ]
            refine wpAnyH_take (i := 4) (oi := ?oi_k117) (v := ?v_k117) ?hi_k117 (by kernel_rfl) ?hf_k117 ?hr_k117 ?hQ_k117 (Or.inl ⟨?hw_k117, ?hy_k117⟩) (by assumption) ?rest_k117
            case hi_k117 => ((simp only [List.getElem?_toArray, List.getElem?_cons_succ, List.getElem?_cons_zero]); rfl)
            case hf_k117 => kernel_rfl
            case hr_k117 => kernel_rfl
            case hQ_k117 => exact fun _ _ _ h => h
            case hw_k117 => rfl
            case hy_k117 => ((intro w hSw; (try dsimp only at hSw); go_simp); all_goals (with_reducible rfl))
            try simp only [Act.put, List.setIfInBounds_toArray, List.set_cons_zero, List.set_cons_succ]
            refine wpAnyH_take (i := 5) (oi := ?oi_k118) (v := ?v_k118) ?hi_k118 (by kernel_rfl) ?hf_k118 ?hr_k118 ?hQ_k118 (Or.inl ⟨?hw_k118, ?hy_k118⟩) (by assumption) ?rest_k118
            case hi_k118 => ((simp only [List.getElem?_toArray, List.getElem?_cons_succ, List.getElem?_cons_zero]); rfl)
            case hf_k118 => kernel_rfl
            case hr_k118 => kernel_rfl
            case hQ_k118 => exact fun _ _ _ h => h
            case hw_k118 => rfl
            case hy_k118 => ((intro w hSw; (try dsimp only at hSw); go_simp); all_goals (with_reducible rfl))
            try simp only [Act.put, List.setIfInBounds_toArray, List.set_cons_zero, List.set_cons_succ]
            refine wpAnyH_ready (rs := [6]) (by kernel_rfl) (by simp) ?_
            refine AllReadyH.cons (o := ?o1_k119) ?hi_k119 (fun K hK => ?rest_k119) AllReadyH.nil
            case hi_k119 => ((simp only [List.getElem?_toArray, List.getElem?_cons_succ, List.getElem?_cons_zero]); rfl)
            go_simp
            (go_at_call 25; (with_reducible refine (CS.out _ ga gc na nc (HG9.out.later hHeld) (HA.out.later hHeld)).mono ?_); rintro e wq6 ⟨rfl, hbq⟩)
            have hu6 : Below w19.heap.size w19 wq6 := belStep hHeld hbq
            clear hbq
            try go_simp
            refine hK.out _ _ (by exact hu6) (fun hHeld => ?_)
            clear hK K
            try simp only [Act.put, List.setIfInBounds_toArray, List.set_cons_zero, List.set_cons_succ]
            refine wpAnyH_take (i := 7) (oi := ?oi_k120) (v := ?v_k120) ?hi_k120 (by kernel_rfl) ?hf_k120 ?hr_k120 ?hQ_k120 (Or.inl ⟨?hw_k120, ?hy_k120⟩) (by assumption) ?rest_k120
            case hi_k120 => ((simp only [List.getElem?_toArray, List.getElem?_cons_succ, List.getElem?_cons_zero]); rfl)
            case hf_k120 => kernel_rfl
            case hr_k120 => kernel_rfl
            case hQ_k120 => exact fun _ _ _ h => h
            case hw_k120 => rfl
            case hy_k120 => ((intro w hSw; (try dsimp only at hSw); go_simp); all_goals (with_reducible rfl))
            try simp only [Act.put, List.setIfInBounds_toArray, List.set_cons_zero, List.set_cons_succ]
            refine wpAnyH_take (i := 8) (oi := ?oi_k121) (v := ?v_k121) ?hi_k121 (by kernel_rfl) ?hf_k121 ?hr_k121 ?hQ_k121 (Or.inl ⟨?hw_k121, ?hy_k121⟩) (by assumption) ?rest_k121
            case hi_k121 => ((simp only [List.getElem?_toArray, List.getElem?_cons_succ, List.getElem?_cons_zero]); rfl)
            case hf_k121 => kernel_rfl
            case hr_k121 => kernel_rfl
            case hQ_k121 => exact fun _ _ _ h => h
            case hw_k121 => rfl
            case hy_k121 => ((intro w hSw; (try dsimp only at hSw); go_simp); all_goals (with_reducible rfl))
            try simp only [Act.put, List.setIfInBounds_toArray, List.set_cons_zero, List.set_cons_succ]
            refine wpAnyH_take (i := 9) (oi := ?oi_k122) (v := ?v_k122) ?hi_k122 (by kernel_rfl) ?hf_k122 ?hr_k122 ?hQ_k122 (Or.inl ⟨?hw_k122, ?hy_k122⟩) (by assumption) ?rest_k122
            case hi_k122 => ((simp only [List.getElem?_toArray, List.getElem?_cons_succ, List.getElem?_cons_zero]); rfl)
            case hf_k122 => kernel_rfl
            case hr_k122 => kernel_rfl
            case hQ_k122 => exact fun _ _ _ h => h
            case hw_k122 => rfl
            case hy_k122 => ((intro w hSw; (try dsimp only at hSw); go_simp); all_goals (with_reducible rfl))
            try simp only [Act.put, List.setIfInBounds_toArray, List.set_cons_zero, List.set_cons_succ]
            refine wpAnyH_take (i := 10) (oi := ?oi_k123) (v := ?v_k123) ?hi_k123 (by kernel_rfl) ?hf_k123 ?hr_k123 ?hQ_k123 (Or.inl ⟨?hw_k123, ?hy_k123⟩) (by assumption) ?rest_k123
            case hi_k123 => ((simp only [List.getElem?_toArray, List.getElem?_cons_succ, List.getElem?_cons_zero]); rfl)
            case hf_k123 => kernel_rfl
            case hr_k123 => kernel_rfl
            case hQ_k123 => exact fun _ _ _ h => h
            case hw_k123 => rfl
            case hy_k123 => ((intro w hSw; (try dsimp only at hSw); go_simp); all_goals (with_reducible rfl))
            try simp only [Act.put, List.setIfInBounds_toArray, List.set_cons_zero, List.set_cons_succ]
            refine wpAnyH_take (i := 12) (oi := ?oi_k124) (v := ?v_k124) ?hi_k124 (by kernel_rfl) ?hf_k124 ?hr_k124 ?hQ_k124 (Or.inl ⟨?hw_k124, ?hy_k124⟩) (by assumption) ?rest_k124
            case hi_k124 => ((simp only [List.getElem?_toArray, List.getElem?_cons_succ, List.getElem?_cons_zero]); rfl)
            case hf_k124 => kernel_rfl
            case hr_k124 => kernel_rfl
            case hQ_k124 => exact fun _ _ _ h => h
            case hw_k124 => rfl
            case hy_k124 => ((intro w hSw; (try dsimp only at hSw); go_simp); all_goals (with_reducible rfl))
            try simp only [Act.put, List.setIfInBounds_toArray, List.set_cons_zero, List.set_cons_succ]
            refine wpAnyH_ready (rs := [11]) (by kernel_rfl) (by simp) ?_
            refine AllReadyH.cons (o := ?o1_k125) ?hi_k125 (fun K hK => ?rest_k125) AllReadyH.nil
            case hi_k125 => ((simp only [List.getElem?_toArray, List.getElem?_cons_succ, List.getElem?_cons_zero]); rfl)
            go_simp
            (go_at_call 26; (with_reducible refine (CT1.out _ ga gc (HG9.out.later hHeld)).mono ?_); rintro e wq11 ⟨rfl, hbq⟩)
            have hu11 : Below w19.heap.size w19 wq11 := belStep hHeld hbq
            clear hbq
            try go_simp
            refine hK.out _ _ (by exact hu11) (fun hHeld => ?_)
            clear hK K
            try simp only [Act.put, List.setIfInBounds_toArray, List.set_cons_zero, List.set_cons_succ]
            refine wpAnyH_ready (rs := [13]) (by kernel_rfl) (by simp) ?_
            refine AllReadyH.cons (o := ?o1_k126) ?hi_k126 (fun K hK => ?rest_k126) AllReadyH.nil
            case hi_k126 => ((simp only [List.getElem?_toArray, List.getElem?_cons_succ, List.getElem?_cons_zero]); rfl)
            go_simp
            (go_at_call 27; (with_reducible refine (CT2.out _ na nc (HA.out.later hHeld)).mono ?_); rintro e wq13 ⟨rfl, hbq⟩)
            have hu13 : Below w19.heap.size w19 wq13 := belStep hHeld hbq
            clear hbq
            try go_simp
            refine hK.out _ _ (by exact hu13) (fun hHeld => ?_)
            clear hK K
            try simp only [Act.put, List.setIfInBounds_toArray, List.set_cons_zero, List.set_cons_succ]
            refine wpAnyH_take (i := 14) (oi := ?oi_k127) (v := ?v_k127) ?hi_k127 (by kernel_rfl) ?hf_k127 ?hr_k127 ?hQ_k127 (Or.inl ⟨?hw_k127, ?hy_k127⟩) (by assumption) ?rest_k127
            case hi_k127 => ((simp only [List.getElem?_toArray, List.getElem?_cons_succ, List.getElem?_cons_zero]); rfl)
            case hf_k127 => kernel_rfl
            case hr_k127 => kernel_rfl
            case hQ_k127 => exact fun _ _ _ h => h
            case hw_k127 => rfl
            case hy_k127 => ((intro w hSw; (try dsimp only at hSw); go_simp); all_goals (with_reducible rfl))
            try simp only [Act.put, List.setIfInBounds_toArray, List.set_cons_zero, List.set_cons_succ]
            refine wpAnyH_take (i := 15) (oi := ?oi_k128) (v := ?v_k128) ?hi_k128 (by kernel_rfl) ?hf_k128 ?hr_k128 ?hQ_k128 (Or.inl ⟨?hw_k128, ?hy_k128⟩) (by assumption) ?rest_k128
            case hi_k128 => ((simp only [List.getElem?_toArray, List.getElem?_cons_succ, List.getElem?_cons_zero]); rfl)
            case hf_k128 => kernel_rfl
            case hr_k128 => kernel_rfl
            case hQ_k128 => exact fun _ _ _ h => h
            case hw_k128 => rfl
            case hy_k128 => ((intro w hSw; (try dsimp only at hSw); go_simp); all_goals (with_reducible rfl))
            try simp only [Act.put, List.setIfInBounds_toArray, List.set_cons_zero, List.set_cons_succ]
            refine wpAnyH_take (i := 16) (oi := ?oi_k129) (v := ?v_k129) ?hi_k129 (by kernel_rfl) ?hf_k129 ?hr_k129 ?hQ_k129 (Or.inl ⟨?hw_k129, ?hy_k129⟩) (by assumption) ?rest_k129
            case hi_k129 => ((simp only [List.getElem?_toArray, List.getElem?_cons_succ, List.getElem?_cons_zero]); rfl)
            case hf_k129 => kernel_rfl
            case hr_k129 => kernel_rfl
            case hQ_k129 => exact fun _ _ _ h => h
            case hw_k129 => rfl
            case hy_k129 => ((intro w hSw; (try dsimp only at hSw); go_simp); all_goals (with_reducible rfl))
            try simp only [Act.put, List.setIfInBounds_toArray, List.set_cons_zero, List.set_cons_succ]
            refine wpAnyH_take (i := 17) (oi := ?oi_k130) (v := ?v_k130) ?hi_k130 (by kernel_rfl) ?hf_k130 ?hr_k130 ?hQ_k130 (Or.inl ⟨?hw_k130, ?hy_k130⟩) (by assumption) ?rest_k130
            case hi_k130 => ((simp only [List.getElem?_toArray, List.getElem?_cons_succ, List.getElem?_cons_zero]); rfl)
            case hf_k130 => kernel_rfl
            case hr_k130 => kernel_rfl
            case hQ_k130 => exact fun _ _ _ h => h
            case hw_k130 => rfl
            case hy_k130 => ((intro w hSw; (try dsimp only at hSw); go_simp); all_goals (with_reducible rfl))
            try simp only [Act.put, List.setIfInBounds_toArray, List.set_cons_zero, List.set_cons_succ]
            refine wpAnyH_take (i := 18) (oi := ?oi_k131) (v := ?v_k131) ?hi_k131 (by kernel_rfl) ?hf_k131 ?hr_k131 ?hQ_k131 (Or.inl ⟨?hw_k131, ?hy_k131⟩) (by assumption) ?rest_k131
            case hi_k131 => ((simp only [List.getElem?_toArray, List.getElem?_cons_succ, List.getElem?_cons_zero]); rfl)
            case hf_k131 => kernel_rfl
            case hr_k131 => kernel_rfl
            case hQ_k131 => exact fun _ _ _ h => h
            case hw_k131 => rfl
            case hy_k131 => ((intro w hSw; (try dsimp only at hSw); go_simp); all_goals (with_reducible rfl))
            try simp only [Act.put, List.setIfInBounds_toArray, List.set_cons_zero, List.set_cons_succ]
            refine wpAnyH_take (i := 19) (oi := ?oi_k132) (v := ?v_k132) ?hi_k132 (by kernel_rfl) ?hf_k132 ?hr_k132 ?hQ_k132 (Or.inl ⟨?hw_k132, ?hy_k132⟩) (by assumption) ?rest_k132
            case hi_k132 => ((simp only [List.getElem?_toArray, List.getElem?_cons_succ, List.getElem?_cons_zero]); rfl)
            case hf_k132 => kernel_rfl
            case hr_k132 => kernel_rfl
            case hQ_k132 => exact fun _ _ _ h => h
            case hw_k132 => rfl
            case hy_k132 => ((intro w hSw; (try dsimp only at hSw); go_simp); all_goals (with_reducible rfl))
            try simp only [Act.put, List.setIfInBounds_toArray, List.set_cons_zero, List.set_cons_succ]
            refine wpAnyH_take (i := 21) (oi := ?oi_k133) (v := ?v_k133) ?hi_k133 (by kernel_rfl) ?hf_k133 ?hr_k133 ?hQ_k133 (Or.inl ⟨?hw_k133, ?hy_k133⟩) (by assumption) ?rest_k133
            case hi_k133 => ((simp only [List.getElem?_toArray, List.getElem?_cons_succ, List.getElem?_cons_zero]); rfl)
            case hf_k133 => kernel_rfl
            case hr_k133 => kernel_rfl
            case hQ_k133 => exact fun _ _ _ h => h
            case hw_k133 => rfl
            case hy_k133 => ((intro w hSw; (try dsimp only at hSw); go_simp); all_goals (with_reducible rfl))
            try simp only [Act.put, List.setIfInBounds_toArray, List.set_cons_zero, List.set_cons_succ]
            refine wpAnyH_take (i := 22) (oi := ?oi_k134) (v := ?v_k134) ?hi_k134 (by kernel_rfl) ?hf_k134 ?hr_k134 ?hQ_k134 (Or.inl ⟨?hw_k134, ?hy_k134⟩) (by assumption) ?rest_k134
            case hi_k134 => ((simp only [List.getElem?_toArray, List.getElem?_cons_succ, List.getElem?_cons_zero]); rfl)
            case hf_k134 => kernel_rfl
            case hr_k134 => kernel_rfl
            case hQ_k134 => exact fun _ _ _ h => h
            case hw_k134 => rfl
            case hy_k134 => ((intro w hSw; (try dsimp only at hSw); go_simp); all_goals (with_reducible rfl))
            try simp only [Act.put, List.setIfInBounds_toArray, List.set_cons_zero, List.set_cons_succ]
            refine wpAnyH_take (i := 23) (oi := ?oi_k135) (v := ?v_k135) ?hi_k135 (by kernel_rfl) ?hf_k135 ?hr_k135 ?hQ_k135 (Or.inl ⟨?hw_k135, ?hy_k135⟩) (by assumption) ?rest_k135
            case hi_k135 => ((simp only [List.getElem?_toArray, List.getElem?_cons_succ, List.getElem?_cons_zero]); rfl)
            case hf_k135 => kernel_rfl
            case hr_k135 => kernel_rfl
            case hQ_k135 => exact fun _ _ _ h => h
            case hw_k135 => rfl
            case hy_k135 => ((intro w hSw; (try dsimp only at hSw); go_simp); all_goals (with_reducible rfl))
            try simp only [Act.put, List.setIfInBounds_toArray, List.set_cons_zero, List.set_cons_succ]
            refine wpAnyH_ready (rs := [20]) (by kernel_rfl) (by simp) ?_
            refine AllReadyH.cons (o := ?o1_k136) ?hi_k136 (fun K hK => ?rest_k136) AllReadyH.nil
            case hi_k136 => ((simp only [List.getElem?_toArray, List.getElem?_cons_succ, List.getElem?_cons_zero]); rfl)
            go_simp
            (go_at_call 28; (with_reducible refine (CO1.out _ ga gc (HG9.out.later hHeld) (belStep HB.out hHeld)).mono ?_); rintro e wq20 ⟨y20, rfl, ho20, hbq⟩)
            obtain ⟨oa, oc9, rfl, hr20⟩ := rowR_of_own ho20
            have hu20 : Below w19.heap.size w19 wq20 := belStep hHeld hbq
            clear hbq
            try go_simp
            refine hK.out _ _ (by exact hu20) (fun hHeld => ?_)
            clear hK K
            try simp only [Act.put, List.setIfInBounds_toArray, List.set_cons_zero, List.set_cons_succ]
            refine wpAnyH_ready (rs := [24]) (by kernel_rfl) (by simp) ?_
            refine AllReadyH.cons (o := ?o1_k137) ?hi_k137 (fun K hK => ?rest_k137) AllReadyH.nil
            case hi_k137 => ((simp only [List.getElem?_toArray, List.getElem?_cons_succ, List.getElem?_cons_zero]); rfl)
            go_simp
            (go_at_call 29; (with_reducible refine (CO2.out _ na nc (HA.out.later hHeld) (belStep HB.out hHeld)).mono ?_); rintro e wq24 ⟨y24, rfl, ho24, hbq⟩)
            obtain ⟨oa2, oc2, rfl, hr24⟩ := rowR_of_own ho24
            have hr20b := hr20.later hbq
            have hu24 : Below w19.heap.size w19 wq24 := belStep hHeld hbq
            clear hbq
            try go_simp
            refine hK.out _ _ (by exact hu24) (fun hHeld => ?_)
            clear hK K
            try simp only [Act.put, List.setIfInBounds_toArray, List.set_cons_zero, List.set_cons_succ]
            refine wpAnyH_ready (rs := [25]) (by kernel_rfl) (by simp) ?_
            refine AllReadyH.cons (o := ?o1_k138) ?hi_k138 (fun K hK => ?rest_k138) AllReadyH.nil
            case hi_k138 => ((simp only [List.getElem?_toArray, List.getElem?_cons_succ, List.getElem?_cons_zero]); rfl)
            go_simp
            (go_at_call 25; (with_reducible refine (CSO.out _ oa oc9 oa2 oc2 hr20b hr24).mono ?_); rintro e wq25 ⟨rfl, hbq⟩)
            have hu25 : Below w19.heap.size w19 wq25 := belStep hHeld hbq
            clear hbq
            try go_simp
            refine hK.out _ _ (by exact hu25) (fun hHeld => ?_)
            clear hK K
            try simp only [Act.put, List.setIfInBounds_toArray, List.set_cons_zero, List.set_cons_succ]
            refine wpAnyH_take (i := 26) (oi := ?oi_k139) (v := ?v_k139) ?hi_k139 (by kernel_rfl) ?hf_k139 ?hr_k139 ?hQ_k139 (Or.inl ⟨?hw_k139, ?hy_k139⟩) (by assumption) ?rest_k139
            case hi_k139 => ((simp only [List.getElem?_toArray, List.getElem?_cons_succ, List.getElem?_cons_zero]); rfl)
            case hf_k139 => kernel_rfl
            case hr_k139 => kernel_rfl
            case hQ_k139 => exact fun _ _ _ h => h
            case hw_k139 => rfl
            case hy_k139 => ((intro w hSw; (try dsimp only at hSw); go_simp); all_goals (with_reducible rfl))
            try simp only [Act.put, List.setIfInBounds_toArray, List.set_cons_zero, List.set_cons_succ]
            refine wpAnyH_take (i := 27) (oi := ?oi_k140) (v := ?v_k140) ?hi_k140 (by kernel_rfl) ?hf_k140 ?hr_k140 ?hQ_k140 (Or.inl ⟨?hw_k140, ?hy_k140⟩) (by assumption) ?rest_k140
            case hi_k140 => ((simp only [List.getElem?_toArray, List.getElem?_cons_succ, List.getElem?_cons_zero]); rfl)
            case hf_k140 => kernel_rfl
            case hr_k140 => kernel_rfl
            case hQ_k140 => exact fun _ _ _ h => h
            case hw_k140 => rfl
            case hy_k140 => ((intro w hSw; (try dsimp only at hSw); go_simp); all_goals (with_reducible rfl))
            try simp only [Act.put, List.setIfInBounds_toArray, List.set_cons_zero, List.set_cons_succ]
            refine wpAnyH_done (by kernel_rfl) ?_ _
            go_wp2
            go_roundw
            case rel => exact ⟨k + 1, by omega, by rw [← hDi]; push_cast; rfl, by rw [HNN.out]; exact OwnR.later HOA.out hHeld, belStep HB.out hHeld⟩
            case measure => simp [intOf] <;> omega
          · have d1 : (x.op == (1 : Int)) = false := by rw [beq_eq_false_iff_ne]; exact ho1
            have HSN := Lib.hid (show dropI M x.name = N from (show stepA M x = _ by unfold stepA; rw [if_neg ho0, if_neg ho1]).symm.trans HSTEP.out)
            have CG := Lib.hid (fun u (hr : Row u ma M.length mc 3 (M.flatMap ImgV.cells)) => show Calls Try.prog 23 #[.slice ma M.length mc, .string x.name] u fun e w' => ∃ v, e = .returned (.tuple #[v, .bool false]) ∧ OwnR w' u.heap.size 31 3 v N.length (N.flatMap ImgV.cells) ∧ Below u.heap.size u w' from by have h := im_Drop ma M.length mc M x.name u rfl hr HRI.out (by omega); rw [HSN.out, HT.out] at h; exact h)
            go_upto_region 19 with (go_at_call 23; (with_reducible refine (CG.out _ HM.out).mono ?_); rintro e w15 ⟨vg, rfl, hog, hb_⟩; replace HM := Lib.hid (HM.out.later hb_); replace HXB := Lib.hid (HXB.out.later hb_); replace HB := Lib.hid (belStep HB.out hb_); replace hbel := HB.out; obtain ⟨ga, gc, rfl, hrg⟩ := rowR_of_own hog; have HG9 := Lib.hid hrg; clear hrg hog; clear hb_)
            clear q0 q1 q2 q3 q4
            have HB15 := Lib.hid HB.out
            go_upto_region 20 with (go_at_call 24; (with_reducible refine (CA.out _ HB.out).mono ?_); rintro e w19 ⟨va, rfl, hoa, hb_⟩; replace HG9 := Lib.hid (HG9.out.later hb_); replace HXB := Lib.hid (HXB.out.later hb_); replace HB := Lib.hid (belStep HB.out hb_); replace hbel := HB.out; have HOA := Lib.hid (OwnR.mono hoa HB15.out.size); obtain ⟨na, nc, rfl, hra⟩ := rowR_of_own hoa; have HA := Lib.hid hra; clear hra hoa; clear hb_)
            have q4 := keep (HXB.out.cell (j := 4) rfl)
            refine wp_region_held_drew (S := fun u => Below w19.heap.size w19 u) (by kernel_rfl) (by exact (show Below w19.heap.size w19 _ by repeat (first | assumption | exact Below.refl _ _ | refine belDrew ?_ | refine belAlloc ?_ _ | refine belStep ?_ (by assumption)))) (fun hHeld => ?_)
            refine wpAnyH_take (i := 0) (oi := ?oi_k141) (v := ?v_k141) ?hi_k141 (by kernel_rfl) ?hf_k141 ?hr_k141 ?hQ_k141 (Or.inl ⟨?hw_k141, ?hy_k141⟩) (by assumption) ?rest_k141
            case hi_k141 => ((simp only [List.getElem?_toArray, List.getElem?_cons_succ, List.getElem?_cons_zero]); rfl)
            case hf_k141 => kernel_rfl
            case hr_k141 => kernel_rfl
            case hQ_k141 => exact fun _ _ _ h => h
            case hw_k141 => rfl
            case hy_k141 => ((intro w hSw; (try dsimp only at hSw); go_simp); all_goals (with_reducible rfl))
            try simp only [Act.put, List.setIfInBounds_toArray, List.set_cons_zero, List.set_cons_succ]
            refine wpAnyH_take (i := 1) (oi := ?oi_k142) (v := ?v_k142) ?hi_k142 (by kernel_rfl) ?hf_k142 ?hr_k142 ?hQ_k142 (Or.inl ⟨?hw_k142, ?hy_k142⟩) (by assumption) ?rest_k142
            case hi_k142 => ((simp only [List.getElem?_toArray, List.getElem?_cons_succ, List.getElem?_cons_zero]); rfl)
            case hf_k142 => kernel_rfl
            case hr_k142 => kernel_rfl
            case hQ_k142 => exact fun _ _ _ h => h
            case hw_k142 => rfl
            case hy_k142 => ((intro w hSw; (try dsimp only at hSw); go_simp); all_goals (with_reducible rfl))
            try simp only [Act.put, List.setIfInBounds_toArray, List.set_cons_zero, List.set_cons_succ]
            refine wpAnyH_take (i := 2) (oi := ?oi_k143) (v := ?v_k143) ?hi_k143 (by kernel_rfl) ?hf_k143 ?hr_k143 ?hQ_k143 (Or.inl ⟨?hw_k143, ?hy_k143⟩) (by assumption) ?rest_k143
            case hi_k143 => ((simp only [List.getElem?_toArray, List.getElem?_cons_succ, List.getElem?_cons_zero]); rfl)
            case hf_k143 => kernel_rfl
            case hr_k143 => kernel_rfl
            case hQ_k143 => exact fun _ _ _ h => h
            case hw_k143 => rfl
            case hy_k143 => ((intro w hSw; (try dsimp only at hSw); go_simp); all_goals (with_reducible rfl))
            try simp only [Act.put, List.setIfInBounds_toArray, List.set_cons_zero, List.set_cons_succ]
            refine wpAnyH_take (i := 3) (oi := ?oi_k144) (v := ?v_k144) ?hi_k144 (by kernel_rfl) ?hf_k144 ?hr_k144 ?hQ_k144 (Or.inl ⟨?hw_k144, ?hy_k144⟩) (by assumption) ?rest_k144
            case hi_k144 => ((simp only [List.getElem?_toArray, List.getElem?_cons_succ, List.getElem?_cons_zero]); rfl)
            case hf_k144 => kernel_rfl
            case hr_k144 => kernel_rfl
            case hQ_k144 => exact fun _ _ _ h => h
            case hw_k144 => rfl
            case hy_k144 => ((intro w hSw; (try dsimp only at hSw); go_simp); all_goals (with_reducible rfl))
            try simp only [Act.put, List.setIfInBounds_toArray, List.set_cons_zero, List.set_cons_succ]
            refine wpAnyH_take (i := 4) (oi := ?oi_k145) (v := ?v_k145) ?hi_k145 (by kernel_rfl) ?hf_k145 ?hr_k145 ?hQ_k145 (Or.inl ⟨?hw_k145, ?hy_k145⟩) (by assumption) ?rest_k145
            case hi_k145 => ((simp only [List.getElem?_toArray, List.getElem?_cons_succ, List.getElem?_cons_zero]); rfl)
            case hf_k145 => kernel_rfl
            case hr_k145 => kernel_rfl
            case hQ_k145 => exact fun _ _ _ h => h
            case hw_k145 => rfl
            case hy_k145 => ((intro w hSw; (try dsimp only at hSw); go_simp); all_goals (with_reducible rfl))
            try simp only [Act.put, List.setIfInBounds_toArray, List.set_cons_zero, List.set_cons_succ]
            refine wpAnyH_take (i := 5) (oi := ?oi_k146) (v := ?v_k146) ?hi_k146 (by kernel_rfl) ?hf_k146 ?hr_k146 ?hQ_k146 (Or.inl ⟨?hw_k146, ?hy_k146⟩) (by assumption) ?rest_k146
            case hi_k146 => ((simp only [List.getElem?_toArray, List.getElem?_cons_succ, List.getElem?_cons_zero]); rfl)
            case hf_k146 => kernel_rfl
            case hr_k146 => kernel_rfl
            case hQ_k146 => exact fun _ _ _ h => h
            case hw_k146 => rfl
            case hy_k146 => ((intro w hSw; (try dsimp only at hSw); go_simp); all_goals (with_reducible rfl))
            try simp only [Act.put, List.setIfInBounds_toArray, List.set_cons_zero, List.set_cons_succ]
            refine wpAnyH_ready (rs := [6]) (by kernel_rfl) (by simp) ?_
            refine AllReadyH.cons (o := ?o1_k147) ?hi_k147 (fun K hK => ?rest_k147) AllReadyH.nil
            case hi_k147 => ((simp only [List.getElem?_toArray, List.getElem?_cons_succ, List.getElem?_cons_zero]); rfl)
            go_simp
            (go_at_call 25; (with_reducible refine (CS.out _ ga gc na nc (HG9.out.later hHeld) (HA.out.later hHeld)).mono ?_); rintro e wq6 ⟨rfl, hbq⟩)
            have hu6 : Below w19.heap.size w19 wq6 := belStep hHeld hbq
            clear hbq
            try go_simp
            refine hK.out _ _ (by exact hu6) (fun hHeld => ?_)
            clear hK K
            try simp only [Act.put, List.setIfInBounds_toArray, List.set_cons_zero, List.set_cons_succ]
            refine wpAnyH_take (i := 7) (oi := ?oi_k148) (v := ?v_k148) ?hi_k148 (by kernel_rfl) ?hf_k148 ?hr_k148 ?hQ_k148 (Or.inl ⟨?hw_k148, ?hy_k148⟩) (by assumption) ?rest_k148
            case hi_k148 => ((simp only [List.getElem?_toArray, List.getElem?_cons_succ, List.getElem?_cons_zero]); rfl)
            case hf_k148 => kernel_rfl
            case hr_k148 => kernel_rfl
            case hQ_k148 => exact fun _ _ _ h => h
            case hw_k148 => rfl
            case hy_k148 => ((intro w hSw; (try dsimp only at hSw); go_simp); all_goals (with_reducible rfl))
            try simp only [Act.put, List.setIfInBounds_toArray, List.set_cons_zero, List.set_cons_succ]
            refine wpAnyH_take (i := 8) (oi := ?oi_k149) (v := ?v_k149) ?hi_k149 (by kernel_rfl) ?hf_k149 ?hr_k149 ?hQ_k149 (Or.inl ⟨?hw_k149, ?hy_k149⟩) (by assumption) ?rest_k149
            case hi_k149 => ((simp only [List.getElem?_toArray, List.getElem?_cons_succ, List.getElem?_cons_zero]); rfl)
            case hf_k149 => kernel_rfl
            case hr_k149 => kernel_rfl
            case hQ_k149 => exact fun _ _ _ h => h
            case hw_k149 => rfl
            case hy_k149 => ((intro w hSw; (try dsimp only at hSw); go_simp); all_goals (with_reducible rfl))
            try simp only [Act.put, List.setIfInBounds_toArray, List.set_cons_zero, List.set_cons_succ]
            refine wpAnyH_take (i := 9) (oi := ?oi_k150) (v := ?v_k150) ?hi_k150 (by kernel_rfl) ?hf_k150 ?hr_k150 ?hQ_k150 (Or.inl ⟨?hw_k150, ?hy_k150⟩) (by assumption) ?rest_k150
            case hi_k150 => ((simp only [List.getElem?_toArray, List.getElem?_cons_succ, List.getElem?_cons_zero]); rfl)
            case hf_k150 => kernel_rfl
            case hr_k150 => kernel_rfl
            case hQ_k150 => exact fun _ _ _ h => h
            case hw_k150 => rfl
            case hy_k150 => ((intro w hSw; (try dsimp only at hSw); go_simp); all_goals (with_reducible rfl))
            try simp only [Act.put, List.setIfInBounds_toArray, List.set_cons_zero, List.set_cons_succ]
            refine wpAnyH_take (i := 10) (oi := ?oi_k151) (v := ?v_k151) ?hi_k151 (by kernel_rfl) ?hf_k151 ?hr_k151 ?hQ_k151 (Or.inl ⟨?hw_k151, ?hy_k151⟩) (by assumption) ?rest_k151
            case hi_k151 => ((simp only [List.getElem?_toArray, List.getElem?_cons_succ, List.getElem?_cons_zero]); rfl)
            case hf_k151 => kernel_rfl
            case hr_k151 => kernel_rfl
            case hQ_k151 => exact fun _ _ _ h => h
            case hw_k151 => rfl
            case hy_k151 => ((intro w hSw; (try dsimp only at hSw); go_simp); all_goals (with_reducible rfl))
            try simp only [Act.put, List.setIfInBounds_toArray, List.set_cons_zero, List.set_cons_succ]
            refine wpAnyH_take (i := 12) (oi := ?oi_k152) (v := ?v_k152) ?hi_k152 (by kernel_rfl) ?hf_k152 ?hr_k152 ?hQ_k152 (Or.inl ⟨?hw_k152, ?hy_k152⟩) (by assumption) ?rest_k152
            case hi_k152 => ((simp only [List.getElem?_toArray, List.getElem?_cons_succ, List.getElem?_cons_zero]); rfl)
            case hf_k152 => kernel_rfl
            case hr_k152 => kernel_rfl
            case hQ_k152 => exact fun _ _ _ h => h
            case hw_k152 => rfl
            case hy_k152 => ((intro w hSw; (try dsimp only at hSw); go_simp); all_goals (with_reducible rfl))
            try simp only [Act.put, List.setIfInBounds_toArray, List.set_cons_zero, List.set_cons_succ]
            refine wpAnyH_ready (rs := [11]) (by kernel_rfl) (by simp) ?_
            refine AllReadyH.cons (o := ?o1_k153) ?hi_k153 (fun K hK => ?rest_k153) AllReadyH.nil
            case hi_k153 => ((simp only [List.getElem?_toArray, List.getElem?_cons_succ, List.getElem?_cons_zero]); rfl)
            go_simp
            (go_at_call 26; (with_reducible refine (CT1.out _ ga gc (HG9.out.later hHeld)).mono ?_); rintro e wq11 ⟨rfl, hbq⟩)
            have hu11 : Below w19.heap.size w19 wq11 := belStep hHeld hbq
            clear hbq
            try go_simp
            refine hK.out _ _ (by exact hu11) (fun hHeld => ?_)
            clear hK K
            try simp only [Act.put, List.setIfInBounds_toArray, List.set_cons_zero, List.set_cons_succ]
            refine wpAnyH_ready (rs := [13]) (by kernel_rfl) (by simp) ?_
            refine AllReadyH.cons (o := ?o1_k154) ?hi_k154 (fun K hK => ?rest_k154) AllReadyH.nil
            case hi_k154 => ((simp only [List.getElem?_toArray, List.getElem?_cons_succ, List.getElem?_cons_zero]); rfl)
            go_simp
            (go_at_call 27; (with_reducible refine (CT2.out _ na nc (HA.out.later hHeld)).mono ?_); rintro e wq13 ⟨rfl, hbq⟩)
            have hu13 : Below w19.heap.size w19 wq13 := belStep hHeld hbq
            clear hbq
            try go_simp
            refine hK.out _ _ (by exact hu13) (fun hHeld => ?_)
            clear hK K
            try simp only [Act.put, List.setIfInBounds_toArray, List.set_cons_zero, List.set_cons_succ]
            refine wpAnyH_take (i := 14) (oi := ?oi_k155) (v := ?v_k155) ?hi_k155 (by kernel_rfl) ?hf_k155 ?hr_k155 ?hQ_k155 (Or.inl ⟨?hw_k155, ?hy_k155⟩) (by assumption) ?rest_k155
            case hi_k155 => ((simp only [List.getElem?_toArray, List.getElem?_cons_succ, List.getElem?_cons_zero]); rfl)
            case hf_k155 => kernel_rfl
            case hr_k155 => kernel_rfl
            case hQ_k155 => exact fun _ _ _ h => h
            case hw_k155 => rfl
            case hy_k155 => ((intro w hSw; (try dsimp only at hSw); go_simp); all_goals (with_reducible rfl))
            try simp only [Act.put, List.setIfInBounds_toArray, List.set_cons_zero, List.set_cons_succ]
            refine wpAnyH_take (i := 15) (oi := ?oi_k156) (v := ?v_k156) ?hi_k156 (by kernel_rfl) ?hf_k156 ?hr_k156 ?hQ_k156 (Or.inl ⟨?hw_k156, ?hy_k156⟩) (by assumption) ?rest_k156
            case hi_k156 => ((simp only [List.getElem?_toArray, List.getElem?_cons_succ, List.getElem?_cons_zero]); rfl)
            case hf_k156 => kernel_rfl
            case hr_k156 => kernel_rfl
            case hQ_k156 => exact fun _ _ _ h => h
            case hw_k156 => rfl
            case hy_k156 => ((intro w hSw; (try dsimp only at hSw); go_simp); all_goals (with_reducible rfl))
            try simp only [Act.put, List.setIfInBounds_toArray, List.set_cons_zero, List.set_cons_succ]
            refine wpAnyH_take (i := 16) (oi := ?oi_k157) (v := ?v_k157) ?hi_k157 (by kernel_rfl) ?hf_k157 ?hr_k157 ?hQ_k157 (Or.inl ⟨?hw_k157, ?hy_k157⟩) (by assumption) ?rest_k157
            case hi_k157 => ((simp only [List.getElem?_toArray, List.getElem?_cons_succ, List.getElem?_cons_zero]); rfl)
            case hf_k157 => kernel_rfl
            case hr_k157 => kernel_rfl
            case hQ_k157 => exact fun _ _ _ h => h
            case hw_k157 => rfl
            case hy_k157 => ((intro w hSw; (try dsimp only at hSw); go_simp); all_goals (with_reducible rfl))
            try simp only [Act.put, List.setIfInBounds_toArray, List.set_cons_zero, List.set_cons_succ]
            refine wpAnyH_take (i := 17) (oi := ?oi_k158) (v := ?v_k158) ?hi_k158 (by kernel_rfl) ?hf_k158 ?hr_k158 ?hQ_k158 (Or.inl ⟨?hw_k158, ?hy_k158⟩) (by assumption) ?rest_k158
            case hi_k158 => ((simp only [List.getElem?_toArray, List.getElem?_cons_succ, List.getElem?_cons_zero]); rfl)
            case hf_k158 => kernel_rfl
            case hr_k158 => kernel_rfl
            case hQ_k158 => exact fun _ _ _ h => h
            case hw_k158 => rfl
            case hy_k158 => ((intro w hSw; (try dsimp only at hSw); go_simp); all_goals (with_reducible rfl))
            try simp only [Act.put, List.setIfInBounds_toArray, List.set_cons_zero, List.set_cons_succ]
            refine wpAnyH_take (i := 18) (oi := ?oi_k159) (v := ?v_k159) ?hi_k159 (by kernel_rfl) ?hf_k159 ?hr_k159 ?hQ_k159 (Or.inl ⟨?hw_k159, ?hy_k159⟩) (by assumption) ?rest_k159
            case hi_k159 => ((simp only [List.getElem?_toArray, List.getElem?_cons_succ, List.getElem?_cons_zero]); rfl)
            case hf_k159 => kernel_rfl
            case hr_k159 => kernel_rfl
            case hQ_k159 => exact fun _ _ _ h => h
            case hw_k159 => rfl
            case hy_k159 => ((intro w hSw; (try dsimp only at hSw); go_simp); all_goals (with_reducible rfl))
            try simp only [Act.put, List.setIfInBounds_toArray, List.set_cons_zero, List.set_cons_succ]
            refine wpAnyH_take (i := 19) (oi := ?oi_k160) (v := ?v_k160) ?hi_k160 (by kernel_rfl) ?hf_k160 ?hr_k160 ?hQ_k160 (Or.inl ⟨?hw_k160, ?hy_k160⟩) (by assumption) ?rest_k160
            case hi_k160 => ((simp only [List.getElem?_toArray, List.getElem?_cons_succ, List.getElem?_cons_zero]); rfl)
            case hf_k160 => kernel_rfl
            case hr_k160 => kernel_rfl
            case hQ_k160 => exact fun _ _ _ h => h
            case hw_k160 => rfl
            case hy_k160 => ((intro w hSw; (try dsimp only at hSw); go_simp); all_goals (with_reducible rfl))
            try simp only [Act.put, List.setIfInBounds_toArray, List.set_cons_zero, List.set_cons_succ]
            refine wpAnyH_take (i := 21) (oi := ?oi_k161) (v := ?v_k161) ?hi_k161 (by kernel_rfl) ?hf_k161 ?hr_k161 ?hQ_k161 (Or.inl ⟨?hw_k161, ?hy_k161⟩) (by assumption) ?rest_k161
            case hi_k161 => ((simp only [List.getElem?_toArray, List.getElem?_cons_succ, List.getElem?_cons_zero]); rfl)
            case hf_k161 => kernel_rfl
            case hr_k161 => kernel_rfl
            case hQ_k161 => exact fun _ _ _ h => h
            case hw_k161 => rfl
            case hy_k161 => ((intro w hSw; (try dsimp only at hSw); go_simp); all_goals (with_reducible rfl))
            try simp only [Act.put, List.setIfInBounds_toArray, List.set_cons_zero, List.set_cons_succ]
            refine wpAnyH_take (i := 22) (oi := ?oi_k162) (v := ?v_k162) ?hi_k162 (by kernel_rfl) ?hf_k162 ?hr_k162 ?hQ_k162 (Or.inl ⟨?hw_k162, ?hy_k162⟩) (by assumption) ?rest_k162
            case hi_k162 => ((simp only [List.getElem?_toArray, List.getElem?_cons_succ, List.getElem?_cons_zero]); rfl)
            case hf_k162 => kernel_rfl
            case hr_k162 => kernel_rfl
            case hQ_k162 => exact fun _ _ _ h => h
            case hw_k162 => rfl
            case hy_k162 => ((intro w hSw; (try dsimp only at hSw); go_simp); all_goals (with_reducible rfl))
            try simp only [Act.put, List.setIfInBounds_toArray, List.set_cons_zero, List.set_cons_succ]
            refine wpAnyH_take (i := 23) (oi := ?oi_k163) (v := ?v_k163) ?hi_k163 (by kernel_rfl) ?hf_k163 ?hr_k163 ?hQ_k163 (Or.inl ⟨?hw_k163, ?hy_k163⟩) (by assumption) ?rest_k163
            case hi_k163 => ((simp only [List.getElem?_toArray, List.getElem?_cons_succ, List.getElem?_cons_zero]); rfl)
            case hf_k163 => kernel_rfl
            case hr_k163 => kernel_rfl
            case hQ_k163 => exact fun _ _ _ h => h
            case hw_k163 => rfl
            case hy_k163 => ((intro w hSw; (try dsimp only at hSw); go_simp); all_goals (with_reducible rfl))
            try simp only [Act.put, List.setIfInBounds_toArray, List.set_cons_zero, List.set_cons_succ]
            refine wpAnyH_ready (rs := [20]) (by kernel_rfl) (by simp) ?_
            refine AllReadyH.cons (o := ?o1_k164) ?hi_k164 (fun K hK => ?rest_k164) AllReadyH.nil
            case hi_k164 => ((simp only [List.getElem?_toArray, List.getElem?_cons_succ, List.getElem?_cons_zero]); rfl)
            go_simp
            (go_at_call 28; (with_reducible refine (CO1.out _ ga gc (HG9.out.later hHeld) (belStep HB.out hHeld)).mono ?_); rintro e wq20 ⟨y20, rfl, ho20, hbq⟩)
            obtain ⟨oa, oc9, rfl, hr20⟩ := rowR_of_own ho20
            have hu20 : Below w19.heap.size w19 wq20 := belStep hHeld hbq
            clear hbq
            try go_simp
            refine hK.out _ _ (by exact hu20) (fun hHeld => ?_)
            clear hK K
            try simp only [Act.put, List.setIfInBounds_toArray, List.set_cons_zero, List.set_cons_succ]
            refine wpAnyH_ready (rs := [24]) (by kernel_rfl) (by simp) ?_
            refine AllReadyH.cons (o := ?o1_k165) ?hi_k165 (fun K hK => ?rest_k165) AllReadyH.nil
            case hi_k165 => ((simp only [List.getElem?_toArray, List.getElem?_cons_succ, List.getElem?_cons_zero]); rfl)
            go_simp
            (go_at_call 29; (with_reducible refine (CO2.out _ na nc (HA.out.later hHeld) (belStep HB.out hHeld)).mono ?_); rintro e wq24 ⟨y24, rfl, ho24, hbq⟩)
            obtain ⟨oa2, oc2, rfl, hr24⟩ := rowR_of_own ho24
            have hr20b := hr20.later hbq
            have hu24 : Below w19.heap.size w19 wq24 := belStep hHeld hbq
            clear hbq
            try go_simp
            refine hK.out _ _ (by exact hu24) (fun hHeld => ?_)
            clear hK K
            try simp only [Act.put, List.setIfInBounds_toArray, List.set_cons_zero, List.set_cons_succ]
            refine wpAnyH_ready (rs := [25]) (by kernel_rfl) (by simp) ?_
            refine AllReadyH.cons (o := ?o1_k166) ?hi_k166 (fun K hK => ?rest_k166) AllReadyH.nil
            case hi_k166 => ((simp only [List.getElem?_toArray, List.getElem?_cons_succ, List.getElem?_cons_zero]); rfl)
            go_simp
            (go_at_call 25; (with_reducible refine (CSO.out _ oa oc9 oa2 oc2 hr20b hr24).mono ?_); rintro e wq25 ⟨rfl, hbq⟩)
            have hu25 : Below w19.heap.size w19 wq25 := belStep hHeld hbq
            clear hbq
            try go_simp
            refine hK.out _ _ (by exact hu25) (fun hHeld => ?_)
            clear hK K
            try simp only [Act.put, List.setIfInBounds_toArray, List.set_cons_zero, List.set_cons_succ]
            refine wpAnyH_take (i := 26) (oi := ?oi_k167) (v := ?v_k167) ?hi_k167 (by kernel_rfl) ?hf_k167 ?hr_k167 ?hQ_k167 (Or.inl ⟨?hw_k167, ?hy_k167⟩) (by assumption) ?rest_k167
            case hi_k167 => ((simp only [List.getElem?_toArray, List.getElem?_cons_succ, List.getElem?_cons_zero]); rfl)
            case hf_k167 => kernel_rfl
            case hr_k167 => kernel_rfl
            case hQ_k167 => exact fun _ _ _ h => h
            case hw_k167 => rfl
            case hy_k167 => ((intro w hSw; (try dsimp only at hSw); go_simp); all_goals (with_reducible rfl))
            try simp only [Act.put, List.setIfInBounds_toArray, List.set_cons_zero, List.set_cons_succ]
            refine wpAnyH_take (i := 27) (oi := ?oi_k168) (v := ?v_k168) ?hi_k168 (by kernel_rfl) ?hf_k168 ?hr_k168 ?hQ_k168 (Or.inl ⟨?hw_k168, ?hy_k168⟩) (by assumption) ?rest_k168
            case hi_k168 => ((simp only [List.getElem?_toArray, List.getElem?_cons_succ, List.getElem?_cons_zero]); rfl)
            case hf_k168 => kernel_rfl
            case hr_k168 => kernel_rfl
            case hQ_k168 => exact fun _ _ _ h => h
            case hw_k168 => rfl
            case hy_k168 => ((intro w hSw; (try dsimp only at hSw); go_simp); all_goals (with_reducible rfl))
            try simp only [Act.put, List.setIfInBounds_toArray, List.set_cons_zero, List.set_cons_succ]
            refine wpAnyH_done (by kernel_rfl) ?_ _
            go_wp2
            go_roundw
            case rel => exact ⟨k + 1, by omega, by rw [← hDi]; push_cast; rfl, by rw [HNN.out]; exact OwnR.later HOA.out hHeld, belStep HB.out hHeld⟩
            case measure => simp [intOf] <;> omega
    · obtain rfl : k = L.length := by omega
      have hd : decide ((L.length : Int) < (L.length : Int)) = false := decide_eq_false (by omega)
      go_wp2
      go_ret
      exact ⟨rfl, hbr⟩

set_option maxRecDepth 100000 in
theorem lifted (os : Os) (started : os.Started) (H : Type) (enc : TypeId × Value → H) :
    ReturnsInHanded {} Try.checked os 3 .any (Rows.imageModelSpec.pre6 enc Try.prog Try.f3 Rows.imageModelRow.domain false) (Rows.imageModelSpec.post enc Try.prog Try.f3 false true false false) := by
  refine returnsInHanded_of_change (C := Try.checked) own started (by kernel_rfl) Try.func3
    (ChangeSpec.witness6 (enc := enc) (C := Try.checked) false ⟨#[], #[.slice none 0 0], []⟩ 8 (by kernel_rfl) (by kernel_rfl) (by kernel_rfl) (by kernel_rfl)) ?_
  intro W base args ds gs before hval0 hW hcnd _
  have hval : ∀ (j : Nat) t v, Try.f3.params[j]? = some t → args[j]? = some v → Value.okWide Try.prog W .any base t v := hval0
  have hW' := hW
  obtain ⟨p, q, hA0, hV, rfl, hfz, hnd⟩ := hW
  have hA : DataW.TrodAll enc Try.prog W 0 (fun _ => true) true Try.f3.params.toList args.toList ds p := hA0
  rw [Try.params3] at hA hval
  obtain ⟨v0, vs0, d0, ds0, p0, q0, hargs, rfl, rfl, h0, r0⟩ := trodAll_cons hA
  obtain ⟨rfl, rfl, rfl⟩ := trodAll_nil r0
  obtain rfl : args = #[v0] := by cases args; simp_all
  obtain ⟨rfl, rfl⟩ := trodVars_none hV
  have k0 := h0
  have lt0 : ∀ x ∈ p0, x.block < W.heap.size := by obtain ⟨m, hm⟩ := k0; exact DataW.trod_lt m _ _ _ hm
  have o0 : Value.okWide Try.prog W .any base 22 v0 := hval 0 22 v0 rfl rfl
  obtain ⟨xa0, xn0, xc0, xl0, rfl, fl0, fo0, fr0⟩ := open_acts o0 h0
  clear hA0 hval0
  refine (walk xa0 xn0 xc0 xl0 W fl0 fo0 fr0).mono fun e W' ⟨he, bel⟩ => ?_
  subst he
  exact ⟨_, rfl, _, _, _, [], _, [], hW', trodAll_mk1 (shut_bool Try.underlying4 _), (trodAll_cons_mk (Below.trod laidOut (by kernel_rfl) (of_decide_eq_true (by kernel_rfl)) k0 bel lt0) trodAll_mk0), rfl, bel.frame _, fun h => by cases h⟩

theorem over : Rows.imageModelRow.holds Try.pinned (OpenSpec.ofChange Rows.imageModelSpec) :=
  OpenClaim.holds_of_wide 3 Try.f3 rfl rfl rfl rfl rfl rfl rfl ⟨rfl, rfl, rfl, rfl, rfl⟩ rfl rfl rfl rfl rfl (by kernel_rfl) Try.func3 (by kernel_rfl)
    (of_decide_eq_true (by kernel_rfl)) (by unfold Func.isWrapper; first | (rw [if_pos (by decide +kernel)]; kernel_rfl) | (rw [if_neg (by decide +kernel)]; exact ⟨rfl, rfl⟩))
    (fun os started H enc _ => lifted os started H enc)

/-- The statement. -/
theorem proved : Rows.ImageModelSaid := over
#print axioms proved

end Go.Proofs.Ytmmfkgpckohacaa.imageModel
