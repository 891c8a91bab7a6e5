
/- Stage 10: disk.Crash: contract. -/
import Derived.Test.YtcbblgeleboggaaDk5
namespace Go.Proofs.Ytcbblgeleboggaa
open Go.RowKit Go.Sort Go.Maps Go.WideMaps
set_option linter.unusedVariables false
set_option linter.unusedSimpArgs false
theorem crash_next {d : List MOp} {K : List Int} {k : Nat} {o : MOp} {c : Int} (ho : d[k]? = some o) (hc : K[k]? = some c) (L : List FileM) : ((d.zip K).take (k + 1)).foldl crashS L = crashS (((d.zip K).take k).foldl crashS L) (o, c) := by
  have h : (d.zip K)[k]? = some (o, c) := by rw [List.getElem?_zip_eq_some]; exact ⟨ho, hc⟩
  exact fold_next h
theorem crash_all {d : List MOp} {K : List Int} {k : Nat} (h : d.length ≤ k ∨ K.length ≤ k) (L : List FileM) : ((d.zip K).take k).foldl crashS L = crashF L d K := by
  unfold crashF
  rw [List.take_of_length_le (by rw [List.length_zip]; omega)]
set_option maxRecDepth 100000 in
set_option maxHeartbeats 32000000 in
theorem dk_Crash (M : Nat) (X F : List Nat) (d : DiskV) (w : World) (h : DAt w M X F d) (hX : ∀ b ∈ X, b < w.heap.size) (hc : d.cap + d.done.length ≤ 100000) (ka : Option Addr) (kn kc : Nat) (K : List Int) (hK : Ints .i64 w ka kn kc K) :
    Calls Try.prog 20 #[.pointer (some ⟨M, 0, none⟩), .slice ka kn kc] w fun e w' => e = .returned (.tuple #[]) ∧ DTo w w' M X F (crashW d K) := by
  have HD := Lib.hid h
  have HX := Lib.hid hX
  have hkb := hK.bounds
  obtain ⟨hk1, hk2, hk3⟩ := hkb
  have HK := Lib.hid hK
  have HKL := Lib.hid hk1
  clear hK hk1
  have CF := Lib.hid (dk_files M X F d w h)
  obtain ⟨p, v, T, rfl, hb, _, ho, hT, hz, _⟩ := h
  obtain ⟨oa, ocp, rfl, hr⟩ := rowR_of_own ho
  have hbr : T.length ≤ ocp ∧ ocp ≤ 9223372036854775807 := by obtain ⟨_, h1, h2, _⟩ := hr; unfold maxLen at h2; exact ⟨h1, h2⟩
  obtain ⟨hbr1, hbr2⟩ := hbr
  have HXF := Lib.hid (show ∀ b ∈ (X ++ footD M (.slice oa T.length ocp)), b < w.heap.size from fun b hb2 => (List.mem_append.1 hb2).elim (hX b) (fun z => (HD.out.lt b z).2))
  obtain ⟨XS, hXS⟩ : ∃ Y, (X ++ footD M (.slice oa T.length ocp)) = Y := ⟨_, rfl⟩
  rw [hXS] at CF hz HXF
  have HXS := Lib.hid hXS
  clear hXS
  have HR := Lib.hid hr
  have HZ := Lib.hid hz
  have HT := Lib.hid hT
  have hTl : T.length = d.done.length := by rw [← hT, List.length_map]
  have HTL := Lib.hid hTl
  have hTn : T.length ≤ 100000 := by omega
  have hcap : d.cap ≤ 100000 := by omega
  have HBM := Lib.hid hb
  clear ho hr hz hT hTl hX
  have m1 := keep (hb.cell (j := 1) rfl)
  have hw : Below w.heap.size w w := Below.refl _ _
  have hbel := hw
  clear hb
  go_enter Try.func20, Try.ntmps20
  go_upto_region 1 with (go_at_call 35; (with_reducible refine (CF.out).mono ?_); rintro e w1 ⟨mb, n0, D0, rfl, hn0, ho_, hl_, hg_, hb_⟩; have HO := Lib.hid ho_; have HL := Lib.hid hl_; have hbz := belStep hbel hb_; clear hbel; have hbel := hbz; have HGE := Lib.hid hg_; clear ho_ hl_ hb_ hbz hg_)
  clear hw CF
  go_wp2
  clear m1
  go_loopw [16] (fun iv wr => ∃ (k n : Nat) (D : DataW Value), k ≤ T.length ∧ iv = .int .i64 k ∧ n ≤ n0 + k ∧ Hid (wr.ownsMap Try.prog 9 RH mb n D) ∧ Hid (Link XS wr D (((d.done.zip K).take k).foldl crashS d.files)) ∧ Below w.heap.size w wr) (fun iv _ => T.length - (intOf iv).toNat)
  case atStart => exact ⟨0, n0, D0, Nat.zero_le _, rfl, Nat.le_refl _, HO, HL, hbel⟩
  case round =>
    clear hbel HO HL
    obtain ⟨k, n, D, hk, rfl, hn, HO, HL, hbel⟩ := hrel
    by_cases hlt : k < T.length
    · have hd : decide ((k : Int) < (T.length : Int)) = true := decide_eq_true (by omega)
      have hki : (k : Int) < (T.length : Int) := by omega
      have hk0 : (0 : Int) ≤ (k : Int) := by omega
      obtain ⟨o, ho⟩ : ∃ o, T[k]? = some o := ⟨T[k], List.getElem?_eq_getElem hlt⟩
      obtain ⟨bc, oc, ec, _, hcc⟩ := (HR.out).elem OpV.cells_len (by omega) ho
      subst ec
      have c0 := keep (hcc 0 _ rfl)
      have c1 := keep (hcc 1 _ rfl)
      have c2 := keep (hcc 2 _ rfl)
      have c3 := keep (hcc 3 _ rfl)
      rw [Nat.add_zero] at c0
      have HZO := Lib.hid (HZ.out o (List.mem_of_getElem? ho))
      have HOK := Lib.hid (show d.done[k]? = some o.m by rw [← HT.out, List.getElem?_map, ho]; rfl)
      clear ho hcc
      go_upto_region 4 with fail
      clear c0 c1 c2 c3
      have kB := belAlloc (Below.refl wr.heap.size wr) (.cells #[.int .i64 o.kind, .string o.name, .string o.dst, .slice o.ba o.Z.length o.bc] 49)
      have HO5 := Lib.hid (ownsMap_same HO.out (kB.block mb HO.out.lt))
      have HL5 := Lib.hid (HL.out.conv (fun a c Z q => BytesX.later q kB))
      have hb5 := belStep hbel kB
      have HBX := Lib.hid (Blk.new wr [.int .i64 o.kind, .string o.name, .string o.dst, .slice o.ba o.Z.length o.bc] 49)
      clear kB hbel HO HL
      generalize wr.alloc (.cells #[.int .i64 o.kind, .string o.name, .string o.dst, .slice o.ba o.Z.length o.bc] 49) = W5 at *
      generalize wr.heap.size = xb at *
      by_cases hkk : k < kn
      · have hge : decide ((kn : Int) ≤ (k : Int)) = false := decide_eq_false (by omega)
        have hgi : ¬ (kn : Int) ≤ (k : Int) := by omega
        have hkki : (k : Int) < (kn : Int) := by omega
        obtain ⟨kb, ko, rfl, _, hkc⟩ := (HK.out.later hb5).opened (by omega)
        have z0 := hkc k hkk
        have hci := (HK.out).inI hkk
        obtain ⟨c, hc⟩ : ∃ c, el K k = c := ⟨_, rfl⟩
        rw [hc] at z0 hci
        have HCK := Lib.hid (show K[k]? = some c by rw [← hc]; unfold el; rw [List.getD_eq_getElem?_getD, List.getElem?_eq_getElem (by rw [HKL.out]; exact hkk)]; rfl)
        have z0 := keep z0
        clear hkc hc
        have HN := Lib.hid (crash_next HOK.out HCK.out d.files)
        have CP := Lib.hid (fun u (hu : Below W5.heap.size W5 u) => dk_part o c u ((HZO.out.1.1.later hb5).later hu) HZO.out.1.2.2 hci)
        obtain ⟨cb, hcb⟩ : ∃ b, (!(c == 0)) = b := ⟨_, rfl⟩
        rw [hcb] at CP
        have HCB := Lib.hid hcb
        clear hcb
        have x0 := keep (HBX.out.cell (j := 0) rfl)
        have x1 := keep (HBX.out.cell (j := 1) rfl)
        have x2 := keep (HBX.out.cell (j := 2) rfl)
        have x3 := keep (HBX.out.cell (j := 3) rfl)
        have hbel : Below W5.heap.size W5 W5 := Below.refl _ _
        go_upto_region 5 with fail
        refine wp_region_held_drew (S := fun u => Below W5.heap.size W5 u) (by kernel_rfl) (by exact (show Below W5.heap.size W5 _ by repeat (first | assumption | exact Below.refl _ _ | refine belDrew ?_ | refine belAlloc ?_ _ | refine belStep ?_ (by assumption)))) (fun hHeld => ?_)
        refine wpAnyH_take (i := 0) (oi := ?oi_k1) (v := ?v_k1) ?hi_k1 (by kernel_rfl) ?hf_k1 ?hr_k1 ?hQ_k1 (Or.inl ⟨?hw_k1, ?hy_k1⟩) (by assumption) ?rest_k1
        case hi_k1 => ((simp only [List.getElem?_toArray, List.getElem?_cons_succ, List.getElem?_cons_zero]); rfl)
        case hf_k1 => kernel_rfl
        case hr_k1 => kernel_rfl
        case hQ_k1 => exact fun _ _ _ h => h
        case hw_k1 => rfl
        case hy_k1 => ((intro w hSw; (try dsimp only at hSw); go_simp); all_goals (with_reducible rfl))
        try simp only [Act.put, List.setIfInBounds_toArray, List.set_cons_zero, List.set_cons_succ]
        refine wpAnyH_take (i := 1) (oi := ?oi_k2) (v := ?v_k2) ?hi_k2 (by kernel_rfl) ?hf_k2 ?hr_k2 ?hQ_k2 (Or.inl ⟨?hw_k2, ?hy_k2⟩) (by assumption) ?rest_k2
        case hi_k2 => ((simp only [List.getElem?_toArray, List.getElem?_cons_succ, List.getElem?_cons_zero]); rfl)
        case hf_k2 => kernel_rfl
        case hr_k2 => kernel_rfl
        case hQ_k2 => exact fun _ _ _ h => h
        case hw_k2 => rfl
        case hy_k2 => ((intro w hSw; (try dsimp only at hSw); go_simp); all_goals (with_reducible rfl))
        try simp only [Act.put, List.setIfInBounds_toArray, List.set_cons_zero, List.set_cons_succ]
        refine wpAnyH_take (i := 2) (oi := ?oi_k3) (v := ?v_k3) ?hi_k3 (by kernel_rfl) ?hf_k3 ?hr_k3 ?hQ_k3 (Or.inl ⟨?hw_k3, ?hy_k3⟩) (by assumption) ?rest_k3
        case hi_k3 => ((simp only [List.getElem?_toArray, List.getElem?_cons_succ, List.getElem?_cons_zero]); rfl)
        case hf_k3 => kernel_rfl
        case hr_k3 => kernel_rfl
        case hQ_k3 => exact fun _ _ _ h => h
        case hw_k3 => rfl
        case hy_k3 => ((intro w hSw; (try dsimp only at hSw); go_simp); all_goals (with_reducible rfl))
        try simp only [Act.put, List.setIfInBounds_toArray, List.set_cons_zero, List.set_cons_succ]
        refine wpAnyH_take (i := 3) (oi := ?oi_k4) (v := ?v_k4) ?hi_k4 (by kernel_rfl) ?hf_k4 ?hr_k4 ?hQ_k4 (Or.inl ⟨?hw_k4, ?hy_k4⟩) (by assumption) ?rest_k4
        case hi_k4 => ((simp only [List.getElem?_toArray, List.getElem?_cons_succ, List.getElem?_cons_zero]); rfl)
        case hf_k4 => kernel_rfl
        case hr_k4 => kernel_rfl
        case hQ_k4 => exact fun _ _ _ h => h
        case hw_k4 => rfl
        case hy_k4 => ((intro w hSw; (try dsimp only at hSw); go_simp); all_goals (with_reducible rfl))
        try simp only [Act.put, List.setIfInBounds_toArray, List.set_cons_zero, List.set_cons_succ]
        refine wpAnyH_take (i := 4) (oi := ?oi_k5) (v := ?v_k5) ?hi_k5 (by kernel_rfl) ?hf_k5 ?hr_k5 ?hQ_k5 (Or.inl ⟨?hw_k5, ?hy_k5⟩) (by assumption) ?rest_k5
        case hi_k5 => ((simp only [List.getElem?_toArray, List.getElem?_cons_succ, List.getElem?_cons_zero]); rfl)
        case hf_k5 => kernel_rfl
        case hr_k5 => kernel_rfl
        case hQ_k5 => exact fun _ _ _ h => h
        case hw_k5 => rfl
        case hy_k5 => ((intro w hSw; (try dsimp only at hSw); go_simp); all_goals (with_reducible rfl))
        try simp only [Act.put, List.setIfInBounds_toArray, List.set_cons_zero, List.set_cons_succ]
        refine wpAnyH_ready (rs := [5, 9]) (by kernel_rfl) (by simp) ?_
        refine AllReadyH.cons (o := ?oA_rr6) ?hiA_rr6 (fun K9 hK => ?restA_rr6) (AllReadyH.cons (o := ?oB_rr6) ?hiB_rr6 (fun K9 hK => ?restB_rr6) AllReadyH.nil)
        case hiA_rr6 => ((simp only [List.getElem?_toArray, List.getElem?_cons_succ, List.getElem?_cons_zero]); rfl)
        case hiB_rr6 => ((simp only [List.getElem?_toArray, List.getElem?_cons_succ, List.getElem?_cons_zero]); rfl)
        case restA_rr6 =>
          go_simp
          (go_at_call 36; (with_reducible refine (CP.out _ hHeld).mono ?_); rintro e wq ⟨q, rfl, hqm, hqn, hqd, hql, hqz, hqb⟩; have HQM := Lib.hid hqm; have HQN := Lib.hid hqn; have HQD := Lib.hid hqd; have HQZ := Lib.hid hqz; have HQB := Lib.hid hqb; clear hqm hqn hqd hql hqz hqb)
          try go_simp
          have hu5 := belStep hHeld HQB.out
          refine hK.out _ _ (by exact hu5) (fun hHeld => ?_)
          clear hK K9
          try simp only [Act.put, List.setIfInBounds_toArray, List.set_cons_zero, List.set_cons_succ]
          refine wpAnyH_take (i := 6) (oi := ?oi_k7) (v := ?v_k7) ?hi_k7 (by kernel_rfl) ?hf_k7 ?hr_k7 ?hQ_k7 (Or.inl ⟨?hw_k7, ?hy_k7⟩) (by assumption) ?rest_k7
          case hi_k7 => ((simp only [List.getElem?_toArray, List.getElem?_cons_succ, List.getElem?_cons_zero]); rfl)
          case hf_k7 => kernel_rfl
          case hr_k7 => kernel_rfl
          case hQ_k7 => exact fun _ _ _ h => h
          case hw_k7 => rfl
          case hy_k7 => ((intro w hSw; (try dsimp only at hSw); go_simp); all_goals (with_reducible rfl))
          try simp only [Act.put, List.setIfInBounds_toArray, List.set_cons_zero, List.set_cons_succ]
          refine wpAnyH_take (i := 7) (oi := ?oi_k8) (v := ?v_k8) ?hi_k8 (by kernel_rfl) ?hf_k8 ?hr_k8 ?hQ_k8 (Or.inl ⟨?hw_k8, ?hy_k8⟩) (by assumption) ?rest_k8
          case hi_k8 => ((simp only [List.getElem?_toArray, List.getElem?_cons_succ, List.getElem?_cons_zero]); rfl)
          case hf_k8 => kernel_rfl
          case hr_k8 => kernel_rfl
          case hQ_k8 => exact fun _ _ _ h => h
          case hw_k8 => rfl
          case hy_k8 => ((intro w hSw; (try dsimp only at hSw); go_simp); all_goals (with_reducible rfl))
          try simp only [Act.put, List.setIfInBounds_toArray, List.set_cons_zero, List.set_cons_succ]
          refine wpAnyH_take (i := 8) (oi := ?oi_k9) (v := ?v_k9) ?hi_k9 (by kernel_rfl) ?hf_k9 ?hr_k9 ?hQ_k9 (Or.inl ⟨?hw_k9, ?hy_k9⟩) (by assumption) ?rest_k9
          case hi_k9 => ((simp only [List.getElem?_toArray, List.getElem?_cons_succ, List.getElem?_cons_zero]); rfl)
          case hf_k9 => kernel_rfl
          case hr_k9 => kernel_rfl
          case hQ_k9 => exact fun _ _ _ h => h
          case hw_k9 => rfl
          case hy_k9 => ((intro w hSw; (try dsimp only at hSw); go_simp); all_goals (with_reducible rfl))
          try simp only [Act.put, List.setIfInBounds_toArray, List.set_cons_zero, List.set_cons_succ]
          refine wpAnyH_ready (rs := [9]) (by kernel_rfl) (by simp) ?_
          refine AllReadyH.cons (o := ?o1_k10) ?hi_k10 (fun K hK => ?rest_k10) AllReadyH.nil
          case hi_k10 => ((simp only [List.getElem?_toArray, List.getElem?_cons_succ, List.getElem?_cons_zero]); rfl)
          go_simp
          have hu9 : Below W5.heap.size W5 (wq.alloc (.cells #[.int .i64 0, .string ⟨#[]⟩, .string ⟨#[]⟩, .slice none 0 0] 49)) := belAlloc hu5 _
          refine hK.out _ _ (by exact hu9) (fun hHeld => ?_)
          clear hK K
          try simp only [Act.put, List.setIfInBounds_toArray, List.set_cons_zero, List.set_cons_succ]
          refine wpAnyH_ready (rs := [10]) (by kernel_rfl) (by simp) ?_
          refine AllReadyH.cons (o := ?o1_k11) ?hi_k11 (fun K hK => ?rest_k11) AllReadyH.nil
          case hi_k11 => ((simp only [List.getElem?_toArray, List.getElem?_cons_succ, List.getElem?_cons_zero]); rfl)
          go_simp
          have hu10 : Below W5.heap.size W5 (wq.alloc (.cells #[.int .i64 q.kind, .string q.name, .string q.dst, .slice q.ba q.Z.length q.bc] 49)) := belAlloc hu5 _
          refine hK.out _ _ (by exact hu10) (fun hHeld => ?_)
          clear hK K
          try simp only [Act.put, List.setIfInBounds_toArray, List.set_cons_zero, List.set_cons_succ]
          refine wpAnyH_take (i := 11) (oi := ?oi_k12) (v := ?v_k12) ?hi_k12 (by kernel_rfl) ?hf_k12 ?hr_k12 ?hQ_k12 (Or.inl ⟨?hw_k12, ?hy_k12⟩) (by assumption) ?rest_k12
          case hi_k12 => ((simp only [List.getElem?_toArray, List.getElem?_cons_succ, List.getElem?_cons_zero]); rfl)
          case hf_k12 => kernel_rfl
          case hr_k12 => kernel_rfl
          case hQ_k12 => exact fun _ _ _ h => h
          case hw_k12 => rfl
          case hy_k12 => ((intro w hSw; (try dsimp only at hSw); go_simp); all_goals (with_reducible rfl))
          try simp only [Act.put, List.setIfInBounds_toArray, List.set_cons_zero, List.set_cons_succ]
          refine wpAnyH_done (by kernel_rfl) ?_ _
          have kq := belAlloc (Below.refl wq.heap.size wq) (.cells #[.int .i64 q.kind, .string q.name, .string q.dst, .slice q.ba q.Z.length q.bc] 49)
          have HQX := Lib.hid (Blk.new wq [.int .i64 q.kind, .string q.name, .string q.dst, .slice q.ba q.Z.length q.bc] 49)
          have HB9 := Lib.hid hu10
          have hX9 : ∀ b ∈ XS, b < W5.drew.heap.size := fun b hb => Nat.lt_of_lt_of_le (HXF.out b hb) hb5.size
          have HZ9 := Lib.hid ((HQZ.out XS hX9 ((HZO.out.1.later hb5).later (belDrew (Below.refl _ _)))).later kq)
          clear hX9 kq hu5 hu9 hu10 HQZ
          have HO9 := Lib.hid (ownsMap_same HO5.out (HB9.out.block mb HO5.out.lt))
          have HL9 := Lib.hid (HL5.out.conv (fun a c Z q => BytesX.later q HB9.out))
          have hb9 := belStep hb5 HB9.out
          clear HO5 HL5 hb5 HB9 hHeld hbel z0 x0 x1 x2 x3 HBX
          generalize wq.alloc (.cells #[.int .i64 q.kind, .string q.name, .string q.dst, .slice q.ba q.Z.length q.bc] 49) = W9 at *
          generalize wq.heap.size = qb at *
          cases cb
          · have hc0 : c = 0 := by have z := HCB.out; simpa using z
            have HN2 := Lib.hid (show ((d.done.zip K).take (k + 1)).foldl crashS d.files = ((d.done.zip K).take k).foldl crashS d.files by rw [HN.out]; unfold crashS; rw [if_pos hc0])
            subst hc0
            go_wp2
            go_roundw
            case rel => exact ⟨k + 1, n, D, by omega, by push_cast; rfl, by omega, HO9, Lib.hid (by rw [HN2.out]; exact HL9.out), hb9⟩
            case measure => simp [intOf] <;> omega
          · have hc0 : ¬ c = 0 := by have z := HCB.out; simpa using z
            have HN2 := Lib.hid (show ((d.done.zip K).take (k + 1)).foldl crashS d.files = applyF (((d.done.zip K).take k).foldl crashS d.files) q.m by rw [HN.out, HQM.out]; unfold crashS; rw [if_neg hc0])
            have q0 := HQX.out.cell (j := 0) rfl
            have q1 := HQX.out.cell (j := 1) rfl
            have q2 := HQX.out.cell (j := 2) rfl
            have q3 := HQX.out.cell (j := 3) rfl
            have CA := Lib.hid (dk_apply mb n D _ _ q W9 HO9.out (by omega) HL9.out HZ9.out (by rw [HQN.out]; exact HZO.out.2.1) (by rw [HQD.out]; exact HZO.out.2.2.1))
            go_upto_region 8 with (go_at_call 37; (with_reducible refine (CA.out).mono ?_); rintro e w6 ⟨rfl, D6, ho_, hl_, ha_⟩; have HO := Lib.hid ho_; have HL := Lib.hid hl_; have HA := Lib.hid ha_; clear ho_ hl_ ha_)
            have hbel := hb9.trans (HA.out.below (B := w.heap.size) (fun b hb => by simp only [List.mem_singleton] at hb; subst hb; exact HGE.out) hb9.size)
            clear q0 q1 q2 q3 CA HO9 HL9 HA hb9
            go_wp2
            go_roundw
            case rel => exact ⟨k + 1, n + 1, D6, by omega, by push_cast; rfl, by omega, HO, Lib.hid (by rw [HN2.out]; exact HL.out), hbel⟩
            case measure => simp [intOf] <;> omega
        case restB_rr6 =>
          go_simp
          have kz : Below W5.heap.size W5 (W5.alloc (.cells #[.int .i64 0, .string ⟨#[]⟩, .string ⟨#[]⟩, .slice none 0 0] 49)).drew := belDrew (belAlloc (Below.refl _ _) _)
          have HKZ := Lib.hid kz
          have HZB := Lib.hid ((Blk.new W5 [.int .i64 0, .string ⟨#[]⟩, .string ⟨#[]⟩, .slice none 0 0] 49).later (belDrew (Below.refl _ _)))
          clear kz
          refine hK.out _ _ (by exact HKZ.out) (fun hHeld => ?_)
          clear hK K9
          try simp only [Act.put, List.setIfInBounds_toArray, List.set_cons_zero, List.set_cons_succ]
          refine wpAnyH_ready (rs := [5]) (by kernel_rfl) (by simp) ?_
          refine AllReadyH.cons (o := ?o1_k13) ?hi_k13 (fun K hK => ?rest_k13) AllReadyH.nil
          case hi_k13 => ((simp only [List.getElem?_toArray, List.getElem?_cons_succ, List.getElem?_cons_zero]); rfl)
          go_simp
          (go_at_call 36; (with_reducible refine (CP.out _ hHeld).mono ?_); rintro e wq ⟨q, rfl, hqm, hqn, hqd, hql, hqz, hqb⟩; have HQM := Lib.hid hqm; have HQN := Lib.hid hqn; have HQD := Lib.hid hqd; have HQZ := Lib.hid hqz; have HQB := Lib.hid hqb; clear hqm hqn hqd hql hqz hqb)
          have hu5 := belStep hHeld HQB.out
          try go_simp
          refine hK.out _ _ (by exact hu5) (fun hHeld => ?_)
          clear hK K
          try simp only [Act.put, List.setIfInBounds_toArray, List.set_cons_zero, List.set_cons_succ]
          refine wpAnyH_take (i := 6) (oi := ?oi_k14) (v := ?v_k14) ?hi_k14 (by kernel_rfl) ?hf_k14 ?hr_k14 ?hQ_k14 (Or.inl ⟨?hw_k14, ?hy_k14⟩) (by assumption) ?rest_k14
          case hi_k14 => ((simp only [List.getElem?_toArray, List.getElem?_cons_succ, List.getElem?_cons_zero]); rfl)
          case hf_k14 => kernel_rfl
          case hr_k14 => kernel_rfl
          case hQ_k14 => exact fun _ _ _ h => h
          case hw_k14 => rfl
          case hy_k14 => ((intro w hSw; (try dsimp only at hSw); go_simp); all_goals (with_reducible rfl))
          try simp only [Act.put, List.setIfInBounds_toArray, List.set_cons_zero, List.set_cons_succ]
          refine wpAnyH_take (i := 7) (oi := ?oi_k15) (v := ?v_k15) ?hi_k15 (by kernel_rfl) ?hf_k15 ?hr_k15 ?hQ_k15 (Or.inl ⟨?hw_k15, ?hy_k15⟩) (by assumption) ?rest_k15
          case hi_k15 => ((simp only [List.getElem?_toArray, List.getElem?_cons_succ, List.getElem?_cons_zero]); rfl)
          case hf_k15 => kernel_rfl
          case hr_k15 => kernel_rfl
          case hQ_k15 => exact fun _ _ _ h => h
          case hw_k15 => rfl
          case hy_k15 => ((intro w hSw; (try dsimp only at hSw); go_simp); all_goals (with_reducible rfl))
          try simp only [Act.put, List.setIfInBounds_toArray, List.set_cons_zero, List.set_cons_succ]
          refine wpAnyH_take (i := 8) (oi := ?oi_k16) (v := ?v_k16) ?hi_k16 (by kernel_rfl) ?hf_k16 ?hr_k16 ?hQ_k16 (Or.inl ⟨?hw_k16, ?hy_k16⟩) (by assumption) ?rest_k16
          case hi_k16 => ((simp only [List.getElem?_toArray, List.getElem?_cons_succ, List.getElem?_cons_zero]); rfl)
          case hf_k16 => kernel_rfl
          case hr_k16 => kernel_rfl
          case hQ_k16 => exact fun _ _ _ h => h
          case hw_k16 => rfl
          case hy_k16 => ((intro w hSw; (try dsimp only at hSw); go_simp); all_goals (with_reducible rfl))
          try simp only [Act.put, List.setIfInBounds_toArray, List.set_cons_zero, List.set_cons_succ]
          have t0 := (HZB.out.later HQB.out).cell (j := 0) rfl
          have t1 := (HZB.out.later HQB.out).cell (j := 1) rfl
          have t2 := (HZB.out.later HQB.out).cell (j := 2) rfl
          have t3 := (HZB.out.later HQB.out).cell (j := 3) rfl
          have tf := (HZB.out.later HQB.out).frozen
          have hu10 := (belSet (belSet (belSet (belSet hu5 ⟨W5.heap.size, 0, none⟩ (.int .i64 q.kind) (Nat.le_refl _)) ⟨W5.heap.size, 1, none⟩ (.string q.name) (Nat.le_refl _)) ⟨W5.heap.size, 2, none⟩ (.string q.dst) (Nat.le_refl _)) ⟨W5.heap.size, 3, none⟩ (.slice q.ba q.Z.length q.bc) (Nat.le_refl _))
          have HQX := Lib.hid (((((HZB.out.later HQB.out).set 0 (.int .i64 q.kind)).set 1 (.string q.name)).set 2 (.string q.dst)).set 3 (.slice q.ba q.Z.length q.bc))
          have hAp := (((((Apart.refl [W5.heap.size] wq).set ⟨W5.heap.size, 0, none⟩ (.int .i64 q.kind) (by simp)).set ⟨W5.heap.size, 1, none⟩ (.string q.name) (by simp)).set ⟨W5.heap.size, 2, none⟩ (.string q.dst) (by simp)).set ⟨W5.heap.size, 3, none⟩ (.slice q.ba q.Z.length q.bc) (by simp))
          refine wpAnyH_ready (rs := [10]) (by kernel_rfl) (by simp) ?_
          refine AllReadyH.cons (o := ?o1_k17) ?hi_k17 (fun K hK => ?rest_k17) AllReadyH.nil
          case hi_k17 => ((simp only [List.getElem?_toArray, List.getElem?_cons_succ, List.getElem?_cons_zero]); rfl)
          go_simp
          refine hK.out _ _ (by exact hu10) (fun hHeld => ?_)
          clear hK K
          try simp only [Act.put, List.setIfInBounds_toArray, List.set_cons_zero, List.set_cons_succ]
          refine wpAnyH_take (i := 11) (oi := ?oi_k18) (v := ?v_k18) ?hi_k18 (by kernel_rfl) ?hf_k18 ?hr_k18 ?hQ_k18 (Or.inl ⟨?hw_k18, ?hy_k18⟩) (by assumption) ?rest_k18
          case hi_k18 => ((simp only [List.getElem?_toArray, List.getElem?_cons_succ, List.getElem?_cons_zero]); rfl)
          case hf_k18 => kernel_rfl
          case hr_k18 => kernel_rfl
          case hQ_k18 => exact fun _ _ _ h => h
          case hw_k18 => rfl
          case hy_k18 => ((intro w hSw; (try dsimp only at hSw); go_simp); all_goals (with_reducible rfl))
          try simp only [Act.put, List.setIfInBounds_toArray, List.set_cons_zero, List.set_cons_succ]
          refine wpAnyH_done (by kernel_rfl) ?_ _
          have HB9 := Lib.hid hu10
          have hzb := HZB.out.lt
          have hX9 : ∀ b ∈ W5.heap.size :: XS, b < (W5.alloc (.cells #[.int .i64 0, .string ⟨#[]⟩, .string ⟨#[]⟩, .slice none 0 0] 49)).drew.heap.size := fun b hb => (List.mem_cons.1 hb).elim (fun z => by subst z; exact hzb) (fun z => Nat.lt_of_lt_of_le (Nat.lt_of_lt_of_le (HXF.out b z) hb5.size) HKZ.out.size)
          have hY9 : BytesX (W5.heap.size :: XS) (W5.alloc (.cells #[.int .i64 0, .string ⟨#[]⟩, .string ⟨#[]⟩, .slice none 0 0] 49)).drew o.ba o.bc o.Z := ((HZO.out.1.later hb5).more (fun b hb => (List.mem_cons.1 hb).elim (fun z => .inr (by omega)) (fun z => .inl z))).later HKZ.out
          have HZ9 := Lib.hid (((HQZ.out _ hX9 hY9).apart hAp (fun b hb => by simp only [List.mem_singleton] at hb; subst hb; exact List.mem_cons_self)).more (Y := XS) (fun b hb => .inl (List.mem_cons_of_mem _ hb)))
          clear t0 t1 t2 t3 tf hX9 hY9 hzb hAp hu5 hu10 HQZ HZB HKZ
          have HO9 := Lib.hid (ownsMap_same HO5.out (HB9.out.block mb HO5.out.lt))
          have HL9 := Lib.hid (HL5.out.conv (fun a c Z q => BytesX.later q HB9.out))
          have hb9 := belStep hb5 HB9.out
          clear HO5 HL5 hb5 HB9 hHeld hbel z0 x0 x1 x2 x3 HBX
          generalize ((((wq.setCell ⟨W5.heap.size, 0, none⟩ (.int .i64 q.kind)).setCell ⟨W5.heap.size, 1, none⟩ (.string q.name)).setCell ⟨W5.heap.size, 2, none⟩ (.string q.dst)).setCell ⟨W5.heap.size, 3, none⟩ (.slice q.ba q.Z.length q.bc)) = W9 at *
          generalize W5.heap.size = qb at *
          cases cb
          · have hc0 : c = 0 := by have z := HCB.out; simpa using z
            have HN2 := Lib.hid (show ((d.done.zip K).take (k + 1)).foldl crashS d.files = ((d.done.zip K).take k).foldl crashS d.files by rw [HN.out]; unfold crashS; rw [if_pos hc0])
            subst hc0
            go_wp2
            go_roundw
            case rel => exact ⟨k + 1, n, D, by omega, by push_cast; rfl, by omega, HO9, Lib.hid (by rw [HN2.out]; exact HL9.out), hb9⟩
            case measure => simp [intOf] <;> omega
          · have hc0 : ¬ c = 0 := by have z := HCB.out; simpa using z
            have HN2 := Lib.hid (show ((d.done.zip K).take (k + 1)).foldl crashS d.files = applyF (((d.done.zip K).take k).foldl crashS d.files) q.m by rw [HN.out, HQM.out]; unfold crashS; rw [if_neg hc0])
            have q0 := HQX.out.cell (j := 0) rfl
            have q1 := HQX.out.cell (j := 1) rfl
            have q2 := HQX.out.cell (j := 2) rfl
            have q3 := HQX.out.cell (j := 3) rfl
            have CA := Lib.hid (dk_apply mb n D _ _ q W9 HO9.out (by omega) HL9.out HZ9.out (by rw [HQN.out]; exact HZO.out.2.1) (by rw [HQD.out]; exact HZO.out.2.2.1))
            go_upto_region 8 with (go_at_call 37; (with_reducible refine (CA.out).mono ?_); rintro e w6 ⟨rfl, D6, ho_, hl_, ha_⟩; have HO := Lib.hid ho_; have HL := Lib.hid hl_; have HA := Lib.hid ha_; clear ho_ hl_ ha_)
            have hbel := hb9.trans (HA.out.below (B := w.heap.size) (fun b hb => by simp only [List.mem_singleton] at hb; subst hb; exact HGE.out) hb9.size)
            clear q0 q1 q2 q3 CA HO9 HL9 HA hb9
            go_wp2
            go_roundw
            case rel => exact ⟨k + 1, n + 1, D6, by omega, by push_cast; rfl, by omega, HO, Lib.hid (by rw [HN2.out]; exact HL.out), hbel⟩
            case measure => simp [intOf] <;> omega
      · have hge : decide ((kn : Int) ≤ (k : Int)) = true := decide_eq_true (by omega)
        have hgi : (kn : Int) ≤ (k : Int) := by omega
        have HLL := Lib.hid (crash_all (d := d.done) (K := K) (k := k) (.inr (by rw [HKL.out]; omega)) d.files)
        have hbel := hb5
        have HO := HO5
        have HL := HL5
        clear hb5 HO5 HL5 HBX
        have HB := Lib.hid hbel
        have m0 := (HBM.out.below hbel HBM.out.lt).cell (j := 0) rfl
        have m1 := (HBM.out.below hbel HBM.out.lt).cell (j := 1) rfl
        have mf := (HBM.out.below hbel HBM.out.lt).frozen
        clear hbel
        go_wp2
        go_end0
        exact ⟨rfl, dat_new HD.out HX.out HB.out HO.out (show n ≤ d.cap + d.done.length by rw [← HTL.out]; omega) (by rw [HLL.out] at HL; rw [HXS.out]; exact HL.out) HGE.out rfl⟩
    · obtain rfl : k = T.length := by omega
      have hd : decide ((T.length : Int) < (T.length : Int)) = false := decide_eq_false (by omega)
      have HLL := Lib.hid (crash_all (d := d.done) (K := K) (k := T.length) (.inl (by rw [HTL.out]; exact Nat.le_refl _)) d.files)
      have HB := Lib.hid hbel
      have m0 := (HBM.out.below hbel HBM.out.lt).cell (j := 0) rfl
      have m1 := (HBM.out.below hbel HBM.out.lt).cell (j := 1) rfl
      have mf := (HBM.out.below hbel HBM.out.lt).frozen
      clear hbel
      go_wp2
      go_end0
      exact ⟨rfl, dat_new HD.out HX.out HB.out HO.out (show n ≤ d.cap + d.done.length by rw [← HTL.out]; omega) (by rw [HLL.out] at HL; rw [HXS.out]; exact HL.out) HGE.out rfl⟩
end Go.Proofs.Ytcbblgeleboggaa
