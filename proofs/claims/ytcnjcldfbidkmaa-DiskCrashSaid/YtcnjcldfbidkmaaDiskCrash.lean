
/- DiskCrash holds for every two lists of ops and every list of whole numbers. No conditions. -/
import Derived.Test.YtcnjcldfbidkmaaDkC
namespace Go.Proofs.Ytcnjcldfbidkmaa.diskCrash
open Go.ChangeShapes Go.WideShapes Go.ChangeAt Go.RowKit
open Go.ChangeMaps (open_string shut_string)
set_option linter.unusedVariables false
open Go.RowKit Go.Sort Go.Maps Go.WideMaps
set_option linter.unusedSimpArgs false
set_option maxRecDepth 100000 in
set_option maxHeartbeats 32000000 in
theorem walk (a : Option Addr) (n c : Nat) (L : List OpV) (b : Option Addr) (m c2 : Nat) (L2 : List OpV) (ka : Option Addr) (kn kc : Nat) (K : List Int) (w : World) (hl : L.length = n) (hg : ∀ x ∈ L, x.good w) (hR : Row w a n c 4 (L.flatMap OpV.cells)) (hl2 : L2.length = m) (hg2 : ∀ x ∈ L2, x.good w) (hR2 : Row w b m c2 4 (L2.flatMap OpV.cells)) (hK : Ints .i64 w ka kn kc K) :
    Calls Try.prog 7 #[.slice a n c, .slice b m c2, .slice ka kn kc] w fun e w' => e = .returned (.bool true) ∧ Below w.heap.size w w' := by
  have hw : Below w.heap.size w w := Below.refl _ _
  have hbel := hw
  have hbd_a : n ≤ c ∧ c ≤ 9223372036854775807 := by obtain ⟨_, h1, h2, _⟩ := hR; unfold maxLen at h2; exact ⟨h1, h2⟩
  obtain ⟨hbd1_a, hbd2_a⟩ := hbd_a
  have hbd_b : m ≤ c2 ∧ c2 ≤ 9223372036854775807 := by obtain ⟨_, h1, h2, _⟩ := hR2; unfold maxLen at h2; exact ⟨h1, h2⟩
  obtain ⟨hbd1_b, hbd2_b⟩ := hbd_b
  have hkb := hK.bounds
  obtain ⟨hkb1, hkb2, hkb3⟩ := hkb
  subst hl
  subst hl2
  have hkb4 : kn ≤ 9223372036854775807 := by omega
  obtain ⟨f0, hf0⟩ : ∃ q, fewO L = q := ⟨_, rfl⟩
  have CF0 := Lib.hid (fun u (hu : Below w.heap.size w u) => hf0 ▸ few_10O a L.length c L u rfl (Row.later hR hu) (fun y hy => OpV.good.later (hg y hy) hu))
  have HF0 := Lib.hid hf0
  have HR0 := Lib.hid hR
  have HG0 := Lib.hid hg
  obtain ⟨f1, hf1⟩ : ∃ q, fewO L2 = q := ⟨_, rfl⟩
  have CF1 := Lib.hid (fun u (hu : Below w.heap.size w u) => hf1 ▸ few_10O b L2.length c2 L2 u rfl (Row.later hR2 hu) (fun y hy => OpV.good.later (hg2 y hy) hu))
  have HF1 := Lib.hid hf1
  have HR1 := Lib.hid hR2
  have HG1 := Lib.hid hg2
  have HK := Lib.hid hK
  clear hR hR2 hg hg2 hf0 hf1 hK hkb1
  go_enter Try.func7, Try.ntmps7
  have HG1x := HG1
  clear HG1
  cases f0 with
  | false =>
    go_wp2_with (first | (go_at_call 30; (with_reducible refine (awake_10 _).mono ?_); rintro e wa ⟨rfl, ha⟩; replace hbel := belStep hbel ha; clear ha) | (go_at_call 42; (with_reducible refine (CF0.out _ hbel).mono ?_); rintro e wf0 ⟨rfl, hf⟩; replace hbel := belStep hbel hf; clear hf) | (go_at_call 42; (with_reducible refine (CF1.out _ hbel).mono ?_); rintro e wf1 ⟨rfl, hf⟩; replace hbel := belStep hbel hf; clear hf))
    go_ret
    exact ⟨rfl, hbel⟩
  | true =>
    cases f1 with
    | false =>
      go_wp2_with (first | (go_at_call 30; (with_reducible refine (awake_10 _).mono ?_); rintro e wa ⟨rfl, ha⟩; replace hbel := belStep hbel ha; clear ha) | (go_at_call 42; (with_reducible refine (CF0.out _ hbel).mono ?_); rintro e wf0 ⟨rfl, hf⟩; replace hbel := belStep hbel hf; clear hf) | (go_at_call 42; (with_reducible refine (CF1.out _ hbel).mono ?_); rintro e wf1 ⟨rfl, hf⟩; replace hbel := belStep hbel hf; clear hf))
      go_ret
      exact ⟨rfl, hbel⟩
    | true =>
      by_cases hk100 : 100 < kn
      · have d1 : decide ((100 : Int) < (kn : Int)) = true := decide_eq_true (by omega)
        go_wp2_with (first | (go_at_call 30; (with_reducible refine (awake_10 _).mono ?_); rintro e wa ⟨rfl, ha⟩; replace hbel := belStep hbel ha; clear ha) | (go_at_call 42; (with_reducible refine (CF0.out _ hbel).mono ?_); rintro e wf0 ⟨rfl, hf⟩; replace hbel := belStep hbel hf; clear hf) | (go_at_call 42; (with_reducible refine (CF1.out _ hbel).mono ?_); rintro e wf1 ⟨rfl, hf⟩; replace hbel := belStep hbel hf; clear hf))
        go_ret
        exact ⟨rfl, hbel⟩
      · have d1 : decide ((100 : Int) < (kn : Int)) = false := decide_eq_false (by omega)
        have d2 : ¬ (100 : Int) < (kn : Int) := by omega
        have hn50 : L.length ≤ 50 := fewO_len HF0.out
        have hm50 : L2.length ≤ 50 := fewO_len HF1.out
        go_upto_region 6 with (first | (go_at_call 30; (with_reducible refine (awake_10 _).mono ?_); rintro e wa ⟨rfl, ha⟩; replace hbel := belStep hbel ha; clear ha) | (go_at_call 42; (with_reducible refine (CF0.out _ hbel).mono ?_); rintro e wf0 ⟨rfl, hf⟩; replace hbel := belStep hbel hf; clear hf) | (go_at_call 42; (with_reducible refine (CF1.out _ hbel).mono ?_); rintro e wf1 ⟨rfl, hf⟩; replace hbel := belStep hbel hf; clear hf) | (go_at_call 32; (with_reducible refine (pl_New w.heap.size [] [] _ (Pool.nil _ _ _) (fun b hb => absurd hb List.not_mem_nil) hbel.size).mono ?_); rintro e w1 ⟨M, rfl, hp_, hb_⟩; have HP := Lib.hid hp_; replace hbel := belStep hbel hb_; clear hp_ hb_))
        clear hw CF0 CF1
        obtain ⟨sz, hsz⟩ : ∃ s, (⟨[], [], 0⟩ : DiskV) = s := ⟨_, rfl⟩
        have HSC := Lib.hid (show sz.cap + sz.done.length ≤ 0 from hsz ▸ Nat.le_refl _)
        have HGZ := Lib.hid (show GoodD sz from hsz ▸ GoodD.new)
        rw [hsz] at HP
        clear hsz
        go_wp2
        go_loopw [8] (fun iv wr => ∃ k : Nat, k ≤ L.length ∧ iv = .int .i64 k ∧ Hid (Pool w.heap.size wr [] ((M, dosW sz (L.take k)) :: [])) ∧ Below w.heap.size w wr) (fun iv _ => L.length - (intOf iv).toNat)
        case atStart => exact ⟨0, Nat.zero_le _, rfl, HP, hbel⟩
        case round =>
          clear hbel HP
          obtain ⟨k, hk, rfl, HP, hbel⟩ := hrel
          by_cases hlt : k < L.length
          · have hd : decide ((k : Int) < (L.length : Int)) = true := decide_eq_true (by omega)
            have hki : (k : Int) < (L.length : Int) := by omega
            have hk0 : (0 : Int) ≤ (k : Int) := by omega
            obtain ⟨x, hx⟩ : ∃ x, L[k]? = some x := ⟨L[k], List.getElem?_eq_getElem hlt⟩
            obtain ⟨bc, oc, ec, _, hcc⟩ := (HR0.out).elem OpV.cells_len (by omega) hx
            subst ec
            have c0 := keep (hcc 0 _ rfl)
            have c1 := keep (hcc 1 _ rfl)
            have c2 := keep (hcc 2 _ rfl)
            have c3 := keep (hcc 3 _ rfl)
            rw [Nat.add_zero] at c0
            have HX := Lib.hid hx
            have HGX := Lib.hid (HG0.out x (List.mem_of_getElem? hx))
            have hzl := opB_Z (fewO_op HF0.out (List.mem_of_getElem? hx))
            have hsm := dosW_small (L.take k) sz
            obtain ⟨hm1, _, hm3⟩ := hsm
            rw [List.length_take] at hm3
            have hcs := HSC.out
            clear hx hcc
            have CD := Lib.hid (pl_Do w.heap.size M [] (dosW sz (L.take k)) [] wr HP.out (fun b hb => absurd hb List.not_mem_nil) hbel.size (by rw [hm1]; omega) x (HGX.out.1.later hbel) (by omega) HGX.out.2)
            have hzb1 := HGX.out.1.1.2.1
            have hzb2 : x.bc ≤ 9223372036854775807 := by have := HGX.out.1.1.2.2.1; unfold maxLen at this; omega
            go_wp2_with (go_at_call 33; (with_reducible refine (CD.out).mono ?_); rintro e w4 ⟨rfl, hp_, hb_, -⟩; have HP4 := Lib.hid hp_; have hb4 := hbel.trans hb_; clear hp_ hb_)
            go_roundw
            case rel => exact ⟨k + 1, by omega, by push_cast; rfl, Lib.hid (by rw [dosW_next HX.out]; exact HP4.out), hb4⟩
            case measure => simp [intOf] <;> omega
          · obtain rfl : k = L.length := by omega
            have hd : decide ((L.length : Int) < (L.length : Int)) = false := decide_eq_false (by omega)
            rw [List.take_length] at HP
            have hsm := dosW_small L sz
            obtain ⟨hm1, hm2, hm3⟩ := hsm
            have hcs := HSC.out
            have HG0s := Lib.hid (dosW_good L HGZ.out)
            have hm4 : (dosW sz L).cap + (dosW sz L).done.length ≤ 50 := by rw [hm1]; omega
            clear hm1 hm2 hm3 hcs HSC
            obtain ⟨s0, hs0⟩ : ∃ s, dosW sz L = s := ⟨_, rfl⟩
            rw [hs0] at HP HG0s hm4
            clear hs0
            have CS := Lib.hid (pl_Sync w.heap.size M [] s0 [] wr HP.out (fun b hb => absurd hb List.not_mem_nil) hbel.size (by omega))
            have HB1 := Lib.hid hbel
            clear hbel HP
            go_upto_region 11 with (go_at_call 35; (with_reducible refine (CS.out).mono ?_); rintro e w2 ⟨rfl, hp_, hb_, -⟩; have HP := Lib.hid hp_; have hbel := HB1.out.trans hb_; clear hp_ hb_ CS)
            have HG1 := Lib.hid (GoodD.sync HG0s.out)
            have HSC := Lib.hid (show (syncW s0).cap + (syncW s0).done.length ≤ 50 from hm4)
            have HD1 := Lib.hid (show (syncW s0).done = [] from rfl)
            clear HG0s hm4
            obtain ⟨s1, hs1⟩ : ∃ s, syncW s0 = s := ⟨_, rfl⟩
            rw [hs1] at HP HG1 HSC HD1
            clear hs1
            have CC := Lib.hid (pl_Copy w.heap.size M [] s1 [] w2 HP.out (fun b hb => absurd hb List.not_mem_nil) hbel.size (by have := HSC.out; omega) HG1.out)
            have HB2 := Lib.hid hbel
            clear hbel HP
            go_upto_region 12 with (go_at_call 39; (with_reducible refine (CC.out).mono ?_); rintro e w3 ⟨N, rfl, hp_, hb_⟩; have HP := Lib.hid hp_; have hbel := belStep HB2.out hb_; clear hp_ hb_ CC)
            replace HP := Lib.hid (Pool.swap HP.out)
            have CK := Lib.hid (pl_Crash w.heap.size M [] s1 [(N, s1)] w3 HP.out (fun b hb => absurd hb List.not_mem_nil) hbel.size (by have := HSC.out; omega) ka kn kc K (HK.out.later hbel))
            rw [crash_none HD1.out] at CK
            have HB3 := Lib.hid hbel
            clear hbel HP
            go_upto_region 13 with (go_at_call 37; (with_reducible refine (CK.out).mono ?_); rintro e w4 ⟨rfl, hp_, hb_, -⟩; have HP := Lib.hid hp_; have hbel := HB3.out.trans hb_; clear hp_ hb_ CK)
            have CA := Lib.hid (dl_alike w.heap.size M N [] [] s1 s1 w4 HP.out.dk (HP.out.mem (List.mem_cons_of_mem _ List.mem_cons_self)) hbel.size (by have := HSC.out; omega) (by have := HSC.out; omega) HG1.out.1 HG1.out.1 rfl)
            have HB4 := Lib.hid hbel
            have HP4 := Lib.hid HP.out
            clear hbel HP
            go_upto_region 15 with (go_at_call 43; (with_reducible refine (CA.out).mono ?_); rintro e w5 ⟨rfl, hb_⟩; have HP := Lib.hid (HP4.out.later hb_); have hbel := belStep HB4.out hb_; clear hb_ CA)
            clear HP4
            go_wp2
            go_loopw [10] (fun iv wr => ∃ k : Nat, k ≤ L2.length ∧ iv = .int .i64 k ∧ Hid (Pool w.heap.size wr [] ((M, dosW s1 (L2.take k)) :: [(N, s1)])) ∧ Below w.heap.size w wr) (fun iv _ => L2.length - (intOf iv).toNat)
            case atStart => exact ⟨0, Nat.zero_le _, rfl, HP, hbel⟩
            case round =>
              clear hbel HP
              obtain ⟨k, hk, rfl, HP, hbel⟩ := hrel
              by_cases hlt : k < L2.length
              · have hd : decide ((k : Int) < (L2.length : Int)) = true := decide_eq_true (by omega)
                have hki : (k : Int) < (L2.length : Int) := by omega
                have hk0 : (0 : Int) ≤ (k : Int) := by omega
                obtain ⟨x, hx⟩ : ∃ x, L2[k]? = some x := ⟨L2[k], List.getElem?_eq_getElem hlt⟩
                obtain ⟨bc, oc, ec, _, hcc⟩ := (HR1.out).elem OpV.cells_len (by omega) hx
                subst ec
                have c0 := keep (hcc 0 _ rfl)
                have c1 := keep (hcc 1 _ rfl)
                have c2 := keep (hcc 2 _ rfl)
                have c3 := keep (hcc 3 _ rfl)
                rw [Nat.add_zero] at c0
                have HX := Lib.hid hx
                have HGX := Lib.hid (HG1x.out x (List.mem_of_getElem? hx))
                have hzl := opB_Z (fewO_op HF1.out (List.mem_of_getElem? hx))
                have hsm := dosW_small (L2.take k) s1
                obtain ⟨hm1, _, hm3⟩ := hsm
                rw [List.length_take] at hm3
                have hcs := HSC.out
                clear hx hcc
                have CD := Lib.hid (pl_Do w.heap.size M [] (dosW s1 (L2.take k)) [(N, s1)] wr HP.out (fun b hb => absurd hb List.not_mem_nil) hbel.size (by rw [hm1]; omega) x (HGX.out.1.later hbel) (by omega) HGX.out.2)
                have hzb1 := HGX.out.1.1.2.1
                have hzb2 : x.bc ≤ 9223372036854775807 := by have := HGX.out.1.1.2.2.1; unfold maxLen at this; omega
                go_wp2_with (go_at_call 33; (with_reducible refine (CD.out).mono ?_); rintro e w4 ⟨rfl, hp_, hb_, -⟩; have HP4 := Lib.hid hp_; have hb4 := hbel.trans hb_; clear hp_ hb_)
                go_roundw
                case rel => exact ⟨k + 1, by omega, by push_cast; rfl, Lib.hid (by rw [dosW_next HX.out]; exact HP4.out), hb4⟩
                case measure => simp [intOf] <;> omega
              · obtain rfl : k = L2.length := by omega
                have hd : decide ((L2.length : Int) < (L2.length : Int)) = false := decide_eq_false (by omega)
                rw [List.take_length] at HP
                have hsm := dosW_small L2 s1
                obtain ⟨hm1, hm2, hm3⟩ := hsm
                have hcs := HSC.out
                have HG2 := Lib.hid (dosW_good L2 HG1.out)
                have hm4 : (dosW s1 L2).cap + (dosW s1 L2).done.length ≤ 100 := by rw [hm1]; omega
                have hm5 : (dosW s1 L2).done.length ≤ L2.length := by rw [HD1.out] at hm3; simpa using hm3
                have HF2 := Lib.hid hm2
                have HZ2 := Lib.hid (dosW_Z L2 s1 (by rw [HD1.out]; exact fun o ho => absurd ho List.not_mem_nil) (fun x hx => opB_Z (fewO_op HF1.out hx)))
                clear hm1 hm2 hm3 hcs
                obtain ⟨s2, hs2⟩ : ∃ s, dosW s1 L2 = s := ⟨_, rfl⟩
                rw [hs2] at HP HG2 HF2 HZ2 hm4 hm5
                clear hs2
                have HL5 := Lib.hid hm5
                clear hm5
                have CC := Lib.hid (pl_Copy w.heap.size M [] s2 [(N, s1)] wr HP.out (fun b hb => absurd hb List.not_mem_nil) hbel.size (by omega) HG2.out)
                have HB1 := Lib.hid hbel
                clear hbel HP
                go_upto_region 20 with (go_at_call 39; (with_reducible refine (CC.out).mono ?_); rintro e w2 ⟨A, rfl, hp_, hb_⟩; have HP := Lib.hid (Pool.swap hp_); have hbel := belStep HB1.out hb_; clear hp_ hb_ CC)
                have CC := Lib.hid (pl_Copy w.heap.size M [] s2 [(A, s2), (N, s1)] w2 HP.out (fun b hb => absurd hb List.not_mem_nil) hbel.size (by omega) HG2.out)
                have HB2 := Lib.hid hbel
                clear hbel HP
                go_upto_region 21 with (go_at_call 39; (with_reducible refine (CC.out).mono ?_); rintro e w3 ⟨C, rfl, hp_, hb_⟩; have HP := Lib.hid hp_; have HB3 := Lib.hid (belStep HB2.out hb_); clear hp_ hb_ CC)
                go_wp2
                have hbel9 := Below.refl w3.heap.size w3
                have HO := Lib.hid (OwnI.nil w3 w3.heap.size 3 .i64)
                go_loopw [14, 13] (fun iv tv wr => ∃ (k : Nat), k ≤ L2.length ∧ iv = .int .i64 k ∧ Hid (OwnI wr w3.heap.size 3 .i64 tv (List.replicate k 1000)) ∧ Below w3.heap.size w3 wr) (fun iv _ _ => L2.length - (intOf iv).toNat)
                case atStart => exact ⟨0, Nat.zero_le _, rfl, HO, hbel9⟩
                case round =>
                  clear hbel9 HO
                  obtain ⟨k, hk, rfl, HO, hbel9⟩ := hrel
                  by_cases hlt : k < L2.length
                  · have hd : decide ((k : Int) < (L2.length : Int)) = true := decide_eq_true (by omega)
                    have k1 := belAlloc (Below.refl wr.heap.size wr) (.cells #[.int .i64 1000] 3)
                    have HO1 := Lib.hid (OwnI.later HO.out k1)
                    have HI := Lib.hid (ints_new (k := .i64) wr [1000] 3 (0, 0) (by unfold maxLen; simp) (fun x hx => by simp at hx; subst hx; decide))
                    have hb1 := belStep hbel9 k1
                    have HB9 := Lib.hid hb1
                    go_wp2_with (at_builtin; refine wpList_app_ints rfl _ _ 71 rfl w3.heap.size 3 .i64 8 Try.underlying71 info_intX _ _ rfl HO1.out _ 1 1 [1000] rfl HI.out (by rw [List.length_replicate]; unfold maxLen; omega) (by rw [List.length_replicate]; omega) hb1.size ?_; intro v9 w9 ho9 hb9 hg9; have HO9 := Lib.hid ho9; have hb8 := HB9.out.trans hb9; clear ho9 hb9 hg9)
                    go_roundw
                    case rel => exact ⟨k + 1, by omega, by push_cast; rfl, Lib.hid (by rw [List.replicate_succ']; exact HO9.out), hb8⟩
                    case measure => simp [intOf] <;> omega
                  · obtain rfl : k = L2.length := by omega
                    have hd : decide ((L2.length : Int) < (L2.length : Int)) = false := decide_eq_false (by omega)
                    have HPr := Lib.hid (HP.out.later hbel9)
                    have HBr := Lib.hid (belStep HB3.out hbel9)
                    obtain ⟨qa, qc, rfl, hqi⟩ := ints_of_own HO.out (fun x hx => by rw [List.eq_of_mem_replicate hx]; decide)
                    have HQI := Lib.hid hqi
                    rw [List.length_replicate] at HQI
                    clear hqi HP HB3
                    have hqb : L2.length ≤ qc := HQI.out.1.2.1
                    have hqb2 : qc ≤ 9223372036854775807 := by have := HQI.out.1.2.2.1; unfold maxLen at this; omega
                    simp only [List.length_replicate]
                    have CK := Lib.hid (pl_Crash w.heap.size A [] s2 [(C, s2), (M, s2), (N, s1)] wr (Pool.swap (Pool.swap2 HPr.out)) (fun b hb => absurd hb List.not_mem_nil) HBr.out.size (by omega) qa L2.length qc _ HQI.out)
                    have HE1 := Lib.hid (show (crashW s2 (List.replicate L2.length 1000)).look = s2.look from crash_big s2.done L2.length s2.files HL5.out HZ2.out)
                    have HGA := Lib.hid (GoodD.crash HG2.out (List.replicate L2.length 1000))
                    have HCA := Lib.hid (show (crashW s2 (List.replicate L2.length 1000)).cap + (crashW s2 (List.replicate L2.length 1000)).done.length ≤ 100 from hm4)
                    obtain ⟨sa, hsa⟩ : ∃ s, crashW s2 (List.replicate L2.length 1000) = s := ⟨_, rfl⟩
                    rw [hsa] at CK HE1 HGA HCA
                    clear hsa HPr
                    go_upto_region 29 with (go_at_call 37; (with_reducible refine (CK.out).mono ?_); rintro e w4 ⟨rfl, hp_, hb_, -⟩; have HP := Lib.hid (Pool.swap hp_); have HB4 := Lib.hid (HBr.out.trans hb_); clear hp_ hb_ CK)
                    have CS := Lib.hid (pl_Sync w.heap.size C [] s2 [(A, sa), (M, s2), (N, s1)] w4 HP.out (fun b hb => absurd hb List.not_mem_nil) HB4.out.size (by omega))
                    have HE2 := Lib.hid (show (syncW s2).look = s2.look from rfl)
                    have HGC := Lib.hid (GoodD.sync HG2.out)
                    have HCC := Lib.hid (show (syncW s2).cap + (syncW s2).done.length ≤ 100 from hm4)
                    obtain ⟨sc, hsc⟩ : ∃ s, syncW s2 = s := ⟨_, rfl⟩
                    rw [hsc] at CS HE2 HGC HCC
                    clear hsc HP
                    go_upto_region 30 with (go_at_call 35; (with_reducible refine (CS.out).mono ?_); rintro e w6 ⟨rfl, hp_, hb_, -⟩; have HP := Lib.hid (Pool.swap (Pool.swap2 hp_)); have HB6 := Lib.hid (HB4.out.trans hb_); clear hp_ hb_ CS)
                    have CD := Lib.hid (pl_Crash w.heap.size M [] s2 [(C, sc), (A, sa), (N, s1)] w6 HP.out (fun b hb => absurd hb List.not_mem_nil) HB6.out.size (by omega) none 0 0 [] (show Ints .i64 w6 none 0 0 [] from ints_nil w6 .i64))
                    have HE3 := Lib.hid (show (crashW s2 []).look = s1.look by rw [show s1.look = s1.files by unfold DiskV.look; rw [HD1.out]; rfl, ← HF2.out]; show crashF s2.files s2.done [] = s2.files; unfold crashF; rw [List.zip_nil_right]; rfl)
                    have HGD := Lib.hid (GoodD.crash HG2.out [])
                    have HCD := Lib.hid (show (crashW s2 []).cap + (crashW s2 []).done.length ≤ 100 from hm4)
                    obtain ⟨sd, hsd⟩ : ∃ s, crashW s2 [] = s := ⟨_, rfl⟩
                    rw [hsd] at CD HE3 HGD HCD
                    clear hsd HP
                    go_upto_region 31 with (go_at_call 37; (with_reducible refine (CD.out).mono ?_); rintro e w7 ⟨rfl, hp_, hb_, -⟩; have HP := Lib.hid hp_; have HB7 := Lib.hid (HB6.out.trans hb_); clear hp_ hb_ CD)
                    have CA := Lib.hid (dl_alike w.heap.size A C [] [] sa sc w7 (HP.out.mem (by simp)) (HP.out.mem (by simp)) HB7.out.size (by have := HCA.out; omega) (by have := HCC.out; omega) HGA.out.1 HGC.out.1 (HE1.out.trans HE2.out.symm))
                    have CB := Lib.hid (fun u (hu : Below w7.heap.size w7 u) => dl_alike w.heap.size M N [] [] sd s1 u ((HP.out.mem (by simp)).later hu) ((HP.out.mem (by simp)).later hu) (Nat.le_trans HB7.out.size hu.size) (by have := HCD.out; omega) (by have := HSC.out; omega) HGD.out.1 HG1.out.1 HE3.out)
                    have hbz := Below.refl w7.heap.size w7
                    go_wp2_with (first | (go_at_call 43; (with_reducible refine (CA.out).mono ?_); rintro e w8 ⟨rfl, hb8⟩) | (go_at_call 43; (with_reducible refine (CB.out _ hb8).mono ?_); rintro e w9 ⟨rfl, hb9⟩))
                    go_ret
                    exact ⟨rfl, belStep HB7.out (belStep hb8 hb9)⟩

set_option maxRecDepth 100000 in
theorem lifted (os : Os) (started : os.Started) (H : Type) (enc : TypeId × Value → H) :
    ReturnsInHanded {} Try.checked os 7 .any (Rows.diskCrashSpec.pre6 enc Try.prog Try.f7 Rows.diskCrashRow.domain false) (Rows.diskCrashSpec.post enc Try.prog Try.f7 false true false false) := by
  refine returnsInHanded_of_change (C := Try.checked) own started (by kernel_rfl) Try.func7
    (ChangeSpec.witness6 (enc := enc) (C := Try.checked) false ⟨#[], #[.slice none 0 0, .slice none 0 0, .slice none 0 0], []⟩ 8 (by kernel_rfl) (by kernel_rfl) (by kernel_rfl) (by kernel_rfl)) ?_
  intro W base args ds gs before hval0 hW hcnd _
  have hval : ∀ (j : Nat) t v, Try.f7.params[j]? = some t → args[j]? = some v → Value.okWide Try.prog W .any base t v := hval0
  have hW' := hW
  obtain ⟨p, q, hA0, hV, rfl, hfz, hnd⟩ := hW
  have hA : DataW.TrodAll enc Try.prog W 0 (fun _ => true) true Try.f7.params.toList args.toList ds p := hA0
  rw [Try.params7] at hA hval
  obtain ⟨v0, vs0, d0, ds0, p0, q0, hargs, rfl, rfl, h0, r0⟩ := trodAll_cons hA
  obtain ⟨v1, vs1, d1, ds1, p1, q1, rfl, rfl, rfl, h1, r1⟩ := trodAll_cons r0
  obtain ⟨v2, vs2, d2, ds2, p2, q2, rfl, rfl, rfl, h2, r2⟩ := trodAll_cons r1
  obtain ⟨rfl, rfl, rfl⟩ := trodAll_nil r2
  obtain rfl : args = #[v0, v1, v2] := by cases args; simp_all
  obtain ⟨rfl, rfl⟩ := trodVars_none hV
  have k0 := h0
  have lt0 : ∀ x ∈ p0, x.block < W.heap.size := by obtain ⟨m, hm⟩ := k0; exact DataW.trod_lt m _ _ _ hm
  have o0 : Value.okWide Try.prog W .any base 67 v0 := hval 0 67 v0 rfl rfl
  obtain ⟨xa0, xn0, xc0, xl0, rfl, fl0, fo0, fr0⟩ := open_ops o0 h0
  have k1 := h1
  have lt1 : ∀ x ∈ p1, x.block < W.heap.size := by obtain ⟨m, hm⟩ := k1; exact DataW.trod_lt m _ _ _ hm
  have o1 : Value.okWide Try.prog W .any base 67 v1 := hval 1 67 v1 rfl rfl
  obtain ⟨ya1, yn1, yc1, yl1, rfl, gl1, go1, gr1⟩ := open_ops o1 h1
  have k2 := h2
  have lt2 : ∀ x ∈ p2, x.block < W.heap.size := by obtain ⟨m, hm⟩ := k2; exact DataW.trod_lt m _ _ _ hm
  have o2 : Value.okWide Try.prog W .any base 71 v2 := hval 2 71 v2 rfl rfl
  obtain ⟨a2, len2, cap2, rfl⟩ := okWide_slice Try.underlying71 o2
  obtain ⟨z2, w2⟩ : ∃ zs, Ints .i64 W a2 len2 cap2 zs := ints_of_trod Try.underlying71 Try.underlying3 (by kernel_rfl) h2
  clear hA0 hval0
  refine (walk xa0 xn0 xc0 xl0 ya1 yn1 yc1 yl1 a2 len2 cap2 z2 W fl0 fo0 fr0 gl1 go1 gr1 w2).mono fun e W' ⟨he, bel⟩ => ?_
  subst he
  exact ⟨_, rfl, _, _, _, [], _, [], hW', trodAll_mk1 (shut_bool Try.underlying4 _), (trodAll_cons_mk (Below.trod laidOut (by kernel_rfl) (of_decide_eq_true (by kernel_rfl)) k0 bel lt0) (trodAll_cons_mk (Below.trod laidOut (by kernel_rfl) (of_decide_eq_true (by kernel_rfl)) k1 bel lt1) (trodAll_cons_mk (Below.trod laidOut (by kernel_rfl) (of_decide_eq_true (by kernel_rfl)) k2 bel lt2) trodAll_mk0))), rfl, bel.frame _, fun h => by cases h⟩

theorem over : Rows.diskCrashRow.holds Try.pinned (OpenSpec.ofChange Rows.diskCrashSpec) :=
  OpenClaim.holds_of_wide 7 Try.f7 rfl rfl rfl rfl rfl rfl rfl ⟨rfl, rfl, rfl, rfl, rfl⟩ rfl rfl rfl rfl rfl (by kernel_rfl) Try.func7 (by kernel_rfl)
    (of_decide_eq_true (by kernel_rfl)) (by unfold Func.isWrapper; first | (rw [if_pos (by decide +kernel)]; kernel_rfl) | (rw [if_neg (by decide +kernel)]; exact ⟨rfl, rfl⟩))
    (fun os started H enc _ => lifted os started H enc)

/-- The statement. -/
theorem proved : Rows.DiskCrashSaid := over
#print axioms proved

end Go.Proofs.Ytcnjcldfbidkmaa.diskCrash
