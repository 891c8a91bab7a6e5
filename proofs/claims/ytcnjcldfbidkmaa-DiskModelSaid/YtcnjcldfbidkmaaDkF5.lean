
/- Stage 10: the reference: Crash: contract. -/
import Derived.Test.YtcnjcldfbidkmaaDkF4
import Derived.BigQuiet
namespace Go.Proofs.Ytcnjcldfbidkmaa
open Go.RowKit Go.Sort
set_option linter.unusedVariables false
set_option linter.unusedSimpArgs false
theorem belDrewB {B : Nat} {w0 w : World} (h : Below B w0 w) : Below B w0 w.drew := ⟨h.os, h.tape, h.output, h.size, h.block⟩
theorem ints_cell_at {K : IntKind} {w : World} {b o n c : Nat} {L : List Int} (h : Ints K w (some ⟨b, o, none⟩) n c L) {k : Nat} (hk : k < n) : w.cell? ⟨b, o + k, none⟩ = some (.int K (el L k)) := by
  obtain ⟨b2, o2, e, _, h2⟩ := h.opened (by omega)
  simp only [Option.some.injEq, Addr.mk.injEq, and_true] at e
  obtain ⟨rfl, rfl⟩ := e
  exact h2 k hk
set_option maxRecDepth 100000 in
set_option maxHeartbeats 32000000 in
theorem fr_Crash (a : Option Addr) (n c : Nat) (L : List FileV) (b : Option Addr) (m d : Nat) (T : List OpV) (X : List Nat) (ka : Option Addr) (kn kc : Nat) (Q : List Int) (w : World) (hL : FIn X w (.slice a n c) L) (hs : SortedF (L.map FileV.m)) (hn : L.length ≤ 400) (hm : T.length = m) (hT : Row w b m d 4 (T.flatMap OpV.cells)) (hg : ∀ o ∈ T, OpOK w o) (hm2 : m ≤ 100) (hQ : Ints .i64 w ka kn kc Q) :
    Calls Try.prog 38 #[.slice a n c, .slice b m d, .slice ka kn kc] w fun e w' => ∃ v : Value, e = .returned v ∧ ∃ K : List FileV, (∃ Y, FIn Y w' v K ∧ ∀ b ∈ Y, b ∈ X ∨ w.heap.size ≤ b) ∧ K.map FileV.m = crashF (L.map FileV.m) (T.map OpV.m) Q ∧ Below w.heap.size w w' := by
  have hbel : Below w.heap.size w w := Below.refl _ _
  have hbd_b : m ≤ d ∧ d ≤ 9223372036854775807 := by obtain ⟨_, h1, h2, _⟩ := hT; unfold maxLen at h2; exact ⟨h1, h2⟩
  obtain ⟨hbd1_b, hbd2_b⟩ := hbd_b
  subst hm
  have HT := Lib.hid hT
  have HG := Lib.hid hg
  have HSO := Lib.hid hs
  have HL := Lib.hid (⟨X, hL, fun b hb => .inl hb⟩ : ∃ Y, FIn Y w (.slice a n c) L ∧ ∀ b ∈ Y, b ∈ X ∨ w.heap.size ≤ b)
  have hnn := hn
  clear hT hg hs hL hn
  have hqb := hQ.bounds
  obtain ⟨hq1, hq2, hq3⟩ := hqb
  have HQ := Lib.hid hQ
  have HQL := Lib.hid hq1
  have hkn9 : kn ≤ 9223372036854775807 := by omega
  clear hQ hq1
  go_enter Try.func38, Try.ntmps38
  go_wp2
  go_loopw [0, 7] (fun lv iv wr => ∃ (k : Nat) (K : List FileV), k ≤ T.length ∧ iv = .int .i64 k ∧ Hid (∃ Y, FIn Y wr lv K ∧ ∀ b ∈ Y, b ∈ X ∨ w.heap.size ≤ b) ∧ Hid (K.map FileV.m = (((T.map OpV.m).zip Q).take k).foldl crashS (L.map FileV.m)) ∧ Hid (K.length ≤ L.length + k) ∧ Below w.heap.size w wr) (fun _ iv _ => T.length - (intOf iv).toNat)
  case atStart => exact ⟨0, L, Nat.zero_le _, rfl, HL, Lib.hid rfl, Lib.hid (Nat.le_refl _), hbel⟩
  case round =>
    clear HL hbel
    obtain ⟨k, K, hk, rfl, HF, HM, HNK, hbel⟩ := hrel
    by_cases hlt : k < T.length
    · have hd : decide ((k : Int) < (T.length : Int)) = true := decide_eq_true (by omega)
      have hki : (k : Int) < (T.length : Int) := by omega
      have hk0 : (0 : Int) ≤ (k : Int) := by omega
      by_cases hlq : k < kn
      · have hq : decide ((k : Int) < (kn : Int)) = true := decide_eq_true (by omega)
        have hqi : (k : Int) < (kn : Int) := by omega
        obtain ⟨o, ho⟩ : ∃ o, T[k]? = some o := ⟨T[k], List.getElem?_eq_getElem hlt⟩
        obtain ⟨bc, oc, ec, _, hcc⟩ := (HT.out).elem OpV.cells_len (by omega) ho
        subst ec
        have c0 := keep (hcc 0 _ rfl)
        have c1 := keep (hcc 1 _ rfl)
        have c2 := keep (hcc 2 _ rfl)
        have c3 := keep (hcc 3 _ rfl)
        rw [Nat.add_zero] at c0
        have HGO := Lib.hid (HG.out o (List.mem_of_getElem? ho))
        have hok : (T.map OpV.m)[k]? = some o.m := by rw [List.getElem?_map, ho]; rfl
        have hzb1 : o.Z.length ≤ o.bc := HGO.out.1.1.1.2.1
        have hzb2 : o.bc ≤ 9223372036854775807 := by have := HGO.out.1.1.1.2.2.1; unfold maxLen at this; omega
        have hci := (HQ.out).inI hlq
        obtain ⟨kb, ko, rfl, _, _⟩ := (HQ.out).opened (by omega)
        have hz := fun u (hu : Below w.heap.size w u) => ints_cell_at (HQ.out.later hu) hlq
        obtain ⟨q, hq9⟩ : ∃ q, el Q k = q := ⟨_, rfl⟩
        have hqk : Q[k]? = some q := by rw [← hq9]; unfold el; rw [List.getD_eq_getElem?_getD, List.getElem?_eq_getElem (by rw [HQL.out]; exact hlq)]; rfl
        rw [hq9] at hz hci
        have HZQ := Lib.hid hz
        obtain ⟨hi1, hi2⟩ := hci
        have HN := Lib.hid (show (((T.map OpV.m).zip Q).take (k + 1)).foldl crashS (L.map FileV.m) = crashS ((((T.map OpV.m).zip Q).take k).foldl crashS (L.map FileV.m)) (o.m, q) from crash_next hok hqk _)
        clear hz hq9 hok hqk ho hcc
        obtain ⟨Y, ⟨fa, fc, rfl, hfr, hyr, hyz⟩, hyb⟩ := HF.out
        have hfg := fun f hf => (hyz f hf).1
        have HYB := Lib.hid hyb
        have HYR := Lib.hid hyr
        have HYZ := Lib.hid (fun f hf => (hyz f hf).2)
        clear hyr hyz hyb
        have HSK := Lib.hid (show SortedF (K.map FileV.m) by rw [HM.out]; exact sorted_fold (fun L p h => by unfold crashS; split; exact h; exact sorted_applyF h _) _ HSO.out)
        go_upto_region 5 with fail
        have kB := belAlloc (Below.refl wr.heap.size wr) (.cells #[.int .i64 o.kind, .string o.name, .string o.dst, .slice o.ba o.Z.length o.bc] 70)
        have HB5 := Lib.hid (belStep hbel kB)
        have HOB := Lib.hid (Blk.new wr [.int .i64 o.kind, .string o.name, .string o.dst, .slice o.ba o.Z.length o.bc] 70)
        have HFX := Lib.hid (fun u (hu : Below wr.heap.size wr u) => (Row.later hfr hu : Row u fa K.length fc 2 (K.flatMap FileV.cells)))
        have HGX := Lib.hid (fun u (hu : Below wr.heap.size wr u) f (hf : f ∈ K) => (hfg f hf).later hu)
        have HKB := Lib.hid kB
        have HOG := Lib.hid hbel.size
        clear kB hbel c0 c1 c2 c3 hfr hfg HF
        generalize wr.alloc (.cells #[.int .i64 o.kind, .string o.name, .string o.dst, .slice o.ba o.Z.length o.bc] 70) = W5 at *
        generalize wr.heap.size = ob at *
        have hbel := HB5.out
        have y0 := HOB.out.cell (j := 0) rfl
        have y1 := HOB.out.cell (j := 1) rfl
        have y2 := HOB.out.cell (j := 2) rfl
        have y3 := HOB.out.cell (j := 3) rfl
        have z1 := HZQ.out _ HB5.out
        by_cases hq0 : q = 0
        · have HE := Lib.hid (show crashS ((((T.map OpV.m).zip Q).take k).foldl crashS (L.map FileV.m)) (o.m, q) = (((T.map OpV.m).zip Q).take k).foldl crashS (L.map FileV.m) by unfold crashS; rw [if_pos hq0])
          subst hq0
          go_wp2
          go_roundw
          case rel => exact ⟨k + 1, K, by omega, by push_cast; rfl, Lib.hid ⟨Y, ⟨fa, fc, rfl, HFX.out _ HKB.out, HYR.out, fun f hf => ⟨HGX.out _ HKB.out f hf, HYZ.out f hf⟩⟩, HYB.out⟩, Lib.hid (by rw [HN.out, HE.out]; exact HM.out), Lib.hid (by have := HNK.out; omega), hbel⟩
          case measure => simp [intOf] <;> omega
        · have HQ0 := Lib.hid hq0
          have dq : (q == (0 : Int)) = false := by rw [beq_eq_false_iff_ne]; exact hq0
          clear hq0
          by_cases kc : o.kind = 1 ∧ 1 ≤ q ∧ q ≤ (o.Z.length : Int)
          · obtain ⟨k1, k2, k3⟩ := kc
            obtain ⟨j, hj⟩ : ∃ j : Nat, (q - 1).toNat = j := ⟨_, rfl⟩
            have hkj : q - 1 = (j : Int) := by omega
            have hjl : j ≤ o.Z.length := by omega
            have hjc : (j : Int) ≤ (o.bc : Int) := by omega
            have hwj : IntKind.i64.wrap (j : Int) = (j : Int) := IntWalk.i64_in _ (by omega)
            have hj0 : (0 : Int) ≤ (j : Int) := by omega
            have HE := Lib.hid (show crashS ((((T.map OpV.m).zip Q).take k).foldl crashS (L.map FileV.m)) (o.m, q) = applyF ((((T.map OpV.m).zip Q).take k).foldl crashS (L.map FileV.m)) ⟨o.kind, o.name, o.dst, o.Z.take j⟩ by unfold crashS; dsimp only; rw [if_neg HQ0.out]; unfold partM; rw [if_pos (show o.m.kind = 1 ∧ 1 ≤ q ∧ q ≤ (o.m.Z.length : Int) from ⟨k1, k2, k3⟩), ← hj]; rfl)
            have d1 : (o.kind == (1 : Int)) = true := by rw [k1]; rfl
            have d2 : decide ((0 : Int) < q) = true := decide_eq_true (by omega)
            have d3 : decide (q ≤ (o.Z.length : Int)) = true := decide_eq_true k3
            have HK1 := Lib.hid k1
            clear k1 hj
            go_upto_region 6 with fail
            go_quiet (fail)
            have HB6 := Lib.hid (belDrewN hbel nq)
            have HKB6 := Lib.hid (belDrewN HKB.out nq)
            have HOB6 := Lib.hid (HOB.out.later (belDrewN (Below.refl _ _) nq))
            have z2 := HZQ.out _ HB6.out
            clear hbel y0 y1 y2 y3 z1 HOB HB5 HKB
            generalize W5.drewN nq = W6 at *
            have hbel := HB6.out
            have y0 := HOB6.out.cell (j := 0) rfl
            have y1 := HOB6.out.cell (j := 1) rfl
            have y2 := HOB6.out.cell (j := 2) rfl
            have y3 := HOB6.out.cell (j := 3) rfl
            have yf := HOB6.out.frozen
            go_upto_region 7 with fail
            go_region
            have HOB7 := Lib.hid (show Blk (W6.setCell ⟨ob, 3, none⟩ (.slice o.ba j o.bc)).drew ob [.int .i64 o.kind, .string o.name, .string o.dst, .slice o.ba j o.bc] 70 from (HOB6.out.set 3 _).later (belDrew (Below.refl _ _)))
            have HB7 := Lib.hid (show Below w.heap.size w (W6.setCell ⟨ob, 3, none⟩ (.slice o.ba j o.bc)).drew from belDrew (belSet hbel ⟨ob, 3, none⟩ _ HOG.out))
            have HKB7 := Lib.hid (show Below ob wr (W6.setCell ⟨ob, 3, none⟩ (.slice o.ba j o.bc)).drew from belDrewB (HKB6.out.setCell (show ob ≤ (⟨ob, 3, none⟩ : Addr).block from Nat.le_refl ob) _))
            clear hbel y0 y1 y2 y3 yf z2 HOB6 HB6 HKB6
            generalize (W6.setCell ⟨ob, 3, none⟩ (.slice o.ba j o.bc)).drew = W7 at *
            have hbel := HB7.out
            have y0 := HOB7.out.cell (j := 0) rfl
            have y1 := HOB7.out.cell (j := 1) rfl
            have y2 := HOB7.out.cell (j := 2) rfl
            have y3 := HOB7.out.cell (j := 3) rfl
            have hjt : (o.Z.take j).length = j := by rw [List.length_take]; omega
            have HGO7 := Lib.hid (HGO.out.later HB7.out)
            have cd := fr_Do fa K.length fc K Y ⟨o.kind, o.name, o.dst, o.ba, o.bc, o.Z.take j⟩ W7 rfl (HFX.out _ HKB7.out) (HGX.out _ HKB7.out) HYR.out HYZ.out HSK.out (by have := HNK.out; omega) ⟨(show Ints .u8 W7 o.ba (o.Z.take j).length o.bc (o.Z.take j) by rw [hjt]; exact ints_takeD HGO7.out.1.1 hjl), HGO7.out.1.2⟩ (by show (o.Z.take j).length ≤ 1000; have := HGO.out.2.1; omega) HGO.out.2.2
            dsimp only at cd
            rw [hjt] at cd
            have CD := Lib.hid cd
            clear cd
            go_wp2_with (go_at_call 76; (with_reducible refine (CD.out).mono ?_); rintro e w6 ⟨v, rfl, KN, hf6, hm6, hb6⟩; have HF6 := Lib.hid (loc_trans hf6 HYB.out hbel.size); have HM6 := Lib.hid hm6; have hb9 := belStep hbel hb6; clear hf6 hm6 hb6)
            have HN6 := Lib.hid (show KN.length ≤ L.length + (k + 1) from by have h1 := len_apply (K.map FileV.m) (OpV.m ⟨o.kind, o.name, o.dst, o.ba, o.bc, o.Z.take j⟩); have h2 := congrArg List.length HM6.out; rw [List.length_map] at h1 h2; have h3 := HNK.out; omega)
            go_roundw
            case rel => exact ⟨k + 1, KN, by omega, by push_cast; rfl, HF6, Lib.hid (by rw [HN.out, HE.out, ← HM.out]; exact HM6.out), HN6, hb9⟩
            case measure => simp [intOf] <;> omega
          · have HCUT := Lib.hid kc
            by_cases k1 : o.kind = 1
            · have d1 : (o.kind == (1 : Int)) = true := by rw [k1]; rfl
              have HK1 := Lib.hid k1
              by_cases k2 : 1 ≤ q
              · have d2 : decide ((0 : Int) < q) = true := decide_eq_true (by omega)
                have d3 : decide (q ≤ (o.Z.length : Int)) = false := decide_eq_false (fun h => kc ⟨k1, k2, h⟩)
                clear k1 kc
                have HE := Lib.hid (show crashS ((((T.map OpV.m).zip Q).take k).foldl crashS (L.map FileV.m)) (o.m, q) = applyF ((((T.map OpV.m).zip Q).take k).foldl crashS (L.map FileV.m)) o.m by unfold crashS; dsimp only; rw [if_neg HQ0.out]; unfold partM; rw [if_neg (show ¬ (o.m.kind = 1 ∧ 1 ≤ q ∧ q ≤ (o.m.Z.length : Int)) from HCUT.out)])
                go_upto_region 6 with fail
                go_quiet (fail)
                have HB6 := Lib.hid (belDrewN hbel nq)
                have HKB6 := Lib.hid (belDrewN HKB.out nq)
                have HOB6 := Lib.hid (HOB.out.later (belDrewN (Below.refl _ _) nq))
                have z2 := HZQ.out _ HB6.out
                clear hbel y0 y1 y2 y3 z1 HOB HB5 HKB
                generalize W5.drewN nq = W6 at *
                have hbel := HB6.out
                have y0 := HOB6.out.cell (j := 0) rfl
                have y1 := HOB6.out.cell (j := 1) rfl
                have y2 := HOB6.out.cell (j := 2) rfl
                have y3 := HOB6.out.cell (j := 3) rfl
                have CD := Lib.hid (fr_Do fa K.length fc K Y o W6 rfl (HFX.out _ HKB6.out) (HGX.out _ HKB6.out) HYR.out HYZ.out HSK.out (by have := HNK.out; omega) (HGO.out.later HB6.out).1 HGO.out.2.1 HGO.out.2.2)
                go_wp2_with (go_at_call 76; (with_reducible refine (CD.out).mono ?_); rintro e w6 ⟨v, rfl, KN, hf6, hm6, hb6⟩; have HF6 := Lib.hid (loc_trans hf6 HYB.out hbel.size); have HM6 := Lib.hid hm6; have hb9 := belStep hbel hb6; clear hf6 hm6 hb6)
                have HN6 := Lib.hid (show KN.length ≤ L.length + (k + 1) from by have h1 := len_apply (K.map FileV.m) (o.m); have h2 := congrArg List.length HM6.out; rw [List.length_map] at h1 h2; have h3 := HNK.out; omega)
                go_roundw
                case rel => exact ⟨k + 1, KN, by omega, by push_cast; rfl, HF6, Lib.hid (by rw [HN.out, HE.out, ← HM.out]; exact HM6.out), HN6, hb9⟩
                case measure => simp [intOf] <;> omega
              · have d2 : decide ((0 : Int) < q) = false := decide_eq_false (by omega)
                clear k1 kc
                have HE := Lib.hid (show crashS ((((T.map OpV.m).zip Q).take k).foldl crashS (L.map FileV.m)) (o.m, q) = applyF ((((T.map OpV.m).zip Q).take k).foldl crashS (L.map FileV.m)) o.m by unfold crashS; dsimp only; rw [if_neg HQ0.out]; unfold partM; rw [if_neg (show ¬ (o.m.kind = 1 ∧ 1 ≤ q ∧ q ≤ (o.m.Z.length : Int)) from HCUT.out)])
                go_upto_region 6 with fail
                go_quiet (fail)
                have HB6 := Lib.hid (belDrewN hbel nq)
                have HKB6 := Lib.hid (belDrewN HKB.out nq)
                have HOB6 := Lib.hid (HOB.out.later (belDrewN (Below.refl _ _) nq))
                have z2 := HZQ.out _ HB6.out
                clear hbel y0 y1 y2 y3 z1 HOB HB5 HKB
                generalize W5.drewN nq = W6 at *
                have hbel := HB6.out
                have y0 := HOB6.out.cell (j := 0) rfl
                have y1 := HOB6.out.cell (j := 1) rfl
                have y2 := HOB6.out.cell (j := 2) rfl
                have y3 := HOB6.out.cell (j := 3) rfl
                have CD := Lib.hid (fr_Do fa K.length fc K Y o W6 rfl (HFX.out _ HKB6.out) (HGX.out _ HKB6.out) HYR.out HYZ.out HSK.out (by have := HNK.out; omega) (HGO.out.later HB6.out).1 HGO.out.2.1 HGO.out.2.2)
                go_wp2_with (go_at_call 76; (with_reducible refine (CD.out).mono ?_); rintro e w6 ⟨v, rfl, KN, hf6, hm6, hb6⟩; have HF6 := Lib.hid (loc_trans hf6 HYB.out hbel.size); have HM6 := Lib.hid hm6; have hb9 := belStep hbel hb6; clear hf6 hm6 hb6)
                have HN6 := Lib.hid (show KN.length ≤ L.length + (k + 1) from by have h1 := len_apply (K.map FileV.m) (o.m); have h2 := congrArg List.length HM6.out; rw [List.length_map] at h1 h2; have h3 := HNK.out; omega)
                go_roundw
                case rel => exact ⟨k + 1, KN, by omega, by push_cast; rfl, HF6, Lib.hid (by rw [HN.out, HE.out, ← HM.out]; exact HM6.out), HN6, hb9⟩
                case measure => simp [intOf] <;> omega
            · have d1 : (o.kind == (1 : Int)) = false := by rw [beq_eq_false_iff_ne]; exact k1
              clear k1 kc
              have HE := Lib.hid (show crashS ((((T.map OpV.m).zip Q).take k).foldl crashS (L.map FileV.m)) (o.m, q) = applyF ((((T.map OpV.m).zip Q).take k).foldl crashS (L.map FileV.m)) o.m by unfold crashS; dsimp only; rw [if_neg HQ0.out]; unfold partM; rw [if_neg (show ¬ (o.m.kind = 1 ∧ 1 ≤ q ∧ q ≤ (o.m.Z.length : Int)) from HCUT.out)])
              go_upto_region 6 with fail
              go_quiet (fail)
              have HB6 := Lib.hid (belDrewN hbel nq)
              have HKB6 := Lib.hid (belDrewN HKB.out nq)
              have HOB6 := Lib.hid (HOB.out.later (belDrewN (Below.refl _ _) nq))
              have z2 := HZQ.out _ HB6.out
              clear hbel y0 y1 y2 y3 z1 HOB HB5 HKB
              generalize W5.drewN nq = W6 at *
              have hbel := HB6.out
              have y0 := HOB6.out.cell (j := 0) rfl
              have y1 := HOB6.out.cell (j := 1) rfl
              have y2 := HOB6.out.cell (j := 2) rfl
              have y3 := HOB6.out.cell (j := 3) rfl
              have CD := Lib.hid (fr_Do fa K.length fc K Y o W6 rfl (HFX.out _ HKB6.out) (HGX.out _ HKB6.out) HYR.out HYZ.out HSK.out (by have := HNK.out; omega) (HGO.out.later HB6.out).1 HGO.out.2.1 HGO.out.2.2)
              go_wp2_with (go_at_call 76; (with_reducible refine (CD.out).mono ?_); rintro e w6 ⟨v, rfl, KN, hf6, hm6, hb6⟩; have HF6 := Lib.hid (loc_trans hf6 HYB.out hbel.size); have HM6 := Lib.hid hm6; have hb9 := belStep hbel hb6; clear hf6 hm6 hb6)
              have HN6 := Lib.hid (show KN.length ≤ L.length + (k + 1) from by have h1 := len_apply (K.map FileV.m) (o.m); have h2 := congrArg List.length HM6.out; rw [List.length_map] at h1 h2; have h3 := HNK.out; omega)
              go_roundw
              case rel => exact ⟨k + 1, KN, by omega, by push_cast; rfl, HF6, Lib.hid (by rw [HN.out, HE.out, ← HM.out]; exact HM6.out), HN6, hb9⟩
              case measure => simp [intOf] <;> omega
      · have hq : decide ((k : Int) < (kn : Int)) = false := decide_eq_false (by omega)
        have hqi : ¬ (k : Int) < (kn : Int) := by omega
        have HALL := Lib.hid (show (((T.map OpV.m).zip Q).take k).foldl crashS (L.map FileV.m) = crashF (L.map FileV.m) (T.map OpV.m) Q by unfold crashF; rw [List.take_of_length_le (by rw [List.length_zip, List.length_map, HQL.out]; omega)])
        go_wp2
        go_ret
        exact ⟨_, rfl, K, HF.out, by rw [HM.out]; exact HALL.out, hbel⟩
    · have hd : decide ((k : Int) < (T.length : Int)) = false := decide_eq_false (by omega)
      have HALL := Lib.hid (show (((T.map OpV.m).zip Q).take k).foldl crashS (L.map FileV.m) = crashF (L.map FileV.m) (T.map OpV.m) Q by unfold crashF; rw [List.take_of_length_le (by rw [List.length_zip, List.length_map, HQL.out]; omega)])
      go_wp2
      go_ret
      exact ⟨_, rfl, K, HF.out, by rw [HM.out]; exact HALL.out, hbel⟩
end Go.Proofs.Ytcnjcldfbidkmaa
