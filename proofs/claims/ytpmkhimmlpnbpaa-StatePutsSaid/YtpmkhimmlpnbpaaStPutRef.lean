
/- bilgeref24.Put: contract. -/
import Derived.Test.YtpmkhimmlpnbpaaStLM
import Derived.Test.YtpmkhimmlpnbpaaPodPutRef
namespace Go.Proofs.Ytpmkhimmlpnbpaa
open Go.RowKit
set_option linter.unusedVariables false
set_option linter.unusedSimpArgs false
theorem W8_at24 (n k : Nat) (h : k < 8) : (W8 n).drop (8 - (k + 1)) = [((n / 256 ^ k % 256 : Nat) : Int)] ++ (W8 n).drop (8 - k) := W8_at n k h
section
variable {P : Program} {md : Region.Mode} {ops : Array Oper} {Q : Exit → Act → World → Prop} {S : World → Prop}
/-- A cut in what stands open: all ways there are shown first, what follows once. -/
theorem cutAll {G : Prop} (fuel2 : Nat) (listed2 : Array Bool) (Pre : Act → World → Prop)
    (first : RowKit.Hid (∀ a w, S w → Pre a w → wpAnyH P md ops Q S fuel2 listed2 a w) → G)
    (rest : ∀ a w, S w → Pre a w → wpAnyH P md ops Q S fuel2 listed2 a w) : G := first (Lib.hid rest)
end
set_option maxRecDepth 100000 in
set_option maxHeartbeats 16000000 in
theorem sref_Put (rn : Nat) (a : Option Addr) (n c : Nat) (oa ob oc : Bool) (L : List EntV) (w : World) (hl : L.length = n) (hok : ∀ x ∈ L, x.ok) (hR : Row w a n c 12 (L.flatMap EntV.cells)) (hr : stB (rn : Int) L = true) :
    Calls Try.prog 17 #[.agg #[.int .i64 (rn : Int), .slice a n c, .bool oa, .bool ob, .bool oc]] w fun e w' => ∃ v, e = .returned v ∧ OwnI w' w.heap.size 5 .u8 v (stBytes rn ⟨oa, ob, oc⟩ L) ∧ Below w.heap.size w w' := by
  have HEN := Lib.hid (st_ent hr)
  have hnm := st_nums hr
  have hrn : rn ≤ 1099511627776 := by omega
  have hl64 : L.length ≤ 64 := hnm.2.2
  clear hnm hr
  have hbd : n ≤ c ∧ c ≤ 9223372036854775807 := by obtain ⟨_, h1, h2, _⟩ := hR; unfold maxLen at h2; exact ⟨h1, h2⟩
  obtain ⟨hbd1, hbd2⟩ := hbd
  have HR := Lib.hid hR
  have HOK := Lib.hid hok
  subst hl
  clear hR hok
  have hw : Below w.heap.size w w := Below.refl _ _
  have hbel := hw
  go_enter Try.func17, Try.ntmps17
  go_upto_region 1 with fail
  have ss0 : (w.alloc (.cells #[.int .i64 rn, .slice a L.length c, .bool oa, .bool ob, .bool oc] 25)).cell? ⟨w.heap.size, 0, none⟩ = some (.int .i64 rn) := by first | (simp; done) | (rw [World.cell?_alloc_at _ _ _ _ (by simp)]; rfl) | (rw [World.cell?_alloc_past _ _ _ (by simp <;> omega), World.cell?_alloc_at _ _ _ _ (by simp)]; rfl) | (rw [World.cell?_alloc_past _ _ _ (by simp <;> omega), World.cell?_alloc_past _ _ _ (by simp <;> omega), World.cell?_alloc_at _ _ _ _ (by simp)]; rfl)
  have ss1 : (w.alloc (.cells #[.int .i64 rn, .slice a L.length c, .bool oa, .bool ob, .bool oc] 25)).cell? ⟨w.heap.size, 1, none⟩ = some (.slice a L.length c) := by first | (simp; done) | (rw [World.cell?_alloc_at _ _ _ _ (by simp)]; rfl) | (rw [World.cell?_alloc_past _ _ _ (by simp <;> omega), World.cell?_alloc_at _ _ _ _ (by simp)]; rfl) | (rw [World.cell?_alloc_past _ _ _ (by simp <;> omega), World.cell?_alloc_past _ _ _ (by simp <;> omega), World.cell?_alloc_at _ _ _ _ (by simp)]; rfl)
  have ss2 : (w.alloc (.cells #[.int .i64 rn, .slice a L.length c, .bool oa, .bool ob, .bool oc] 25)).cell? ⟨w.heap.size, 2, none⟩ = some (.bool oa) := by first | (simp; done) | (rw [World.cell?_alloc_at _ _ _ _ (by simp)]; rfl) | (rw [World.cell?_alloc_past _ _ _ (by simp <;> omega), World.cell?_alloc_at _ _ _ _ (by simp)]; rfl) | (rw [World.cell?_alloc_past _ _ _ (by simp <;> omega), World.cell?_alloc_past _ _ _ (by simp <;> omega), World.cell?_alloc_at _ _ _ _ (by simp)]; rfl)
  have ss3 : (w.alloc (.cells #[.int .i64 rn, .slice a L.length c, .bool oa, .bool ob, .bool oc] 25)).cell? ⟨w.heap.size, 3, none⟩ = some (.bool ob) := by first | (simp; done) | (rw [World.cell?_alloc_at _ _ _ _ (by simp)]; rfl) | (rw [World.cell?_alloc_past _ _ _ (by simp <;> omega), World.cell?_alloc_at _ _ _ _ (by simp)]; rfl) | (rw [World.cell?_alloc_past _ _ _ (by simp <;> omega), World.cell?_alloc_past _ _ _ (by simp <;> omega), World.cell?_alloc_at _ _ _ _ (by simp)]; rfl)
  have ss4 : (w.alloc (.cells #[.int .i64 rn, .slice a L.length c, .bool oa, .bool ob, .bool oc] 25)).cell? ⟨w.heap.size, 4, none⟩ = some (.bool oc) := by first | (simp; done) | (rw [World.cell?_alloc_at _ _ _ _ (by simp)]; rfl) | (rw [World.cell?_alloc_past _ _ _ (by simp <;> omega), World.cell?_alloc_at _ _ _ _ (by simp)]; rfl) | (rw [World.cell?_alloc_past _ _ _ (by simp <;> omega), World.cell?_alloc_past _ _ _ (by simp <;> omega), World.cell?_alloc_at _ _ _ _ (by simp)]; rfl)
  have hb2 := (by repeat (first | exact hbel | refine belAlloc ?_ _ | refine belDrew ?_ | refine belSet ?_ _ _ (by simp)) : Below w.heap.size w (w.alloc (.cells #[.int .i64 rn, .slice a L.length c, .bool oa, .bool ob, .bool oc] 25)))
  replace hw := belStep hw hb2
  clear hb2 hbel
  generalize w.alloc (.cells #[.int .i64 rn, .slice a L.length c, .bool oa, .bool ob, .bool oc] 25) = W1 at *
  replace ss0 := keep ss0
  replace ss1 := keep ss1
  replace ss2 := keep ss2
  replace ss3 := keep ss3
  replace ss4 := keep ss4
  have hbel : Below W1.heap.size W1 W1 := Below.refl _ _
  skip
  have HW1 := Lib.hid hw
  clear hw
  have hb0 : Below W1.heap.size W1 W1 := Below.refl _ _
  go_wp2
  clear hbel
  go_loopw [3, 4, 5] (fun v x i wr => ∃ k : Nat, k ≤ 8 ∧ i = .int .i64 k ∧ (∃ q : Int, x = .int .i64 q ∧ q = ((rn / 256 ^ k : Nat) : Int)) ∧ OwnI wr W1.heap.size 5 .u8 v ((W8 rn).drop (8 - k)) ∧ Below W1.heap.size W1 wr) (fun _ _ i _ => 8 - (intOf i).toNat)
  case atStart => exact ⟨0, Nat.zero_le _, rfl, ⟨_, rfl, by simp⟩, (by rw [List.drop_of_length_le (by rw [W8_len]; omega)]; exact OwnI.nil _ _ _ _), hb0⟩
  case round =>
    clear hb0
    obtain ⟨k, hk, rfl, ⟨q, rfl, hq⟩, hown, hbr⟩ := hrel
    have hB := fun m hm => wf8 m (drop_B rn (8 - k) m hm)
    by_cases hlt : k < 8
    · obtain ⟨a3, c3, rfl, hi3⟩ := ints_of_own hown hB
      have hl8 : ((W8 rn).drop (8 - k)).length = k := by rw [List.length_drop, W8_len]; omega
      rw [hl8] at hi3 ⊢
      have hq0 : 0 ≤ q := by rw [hq]; exact Int.natCast_nonneg _
      have hq1 : q ≤ 9223372036854775807 := by
        have h2 := Nat.div_le_self rn (256 ^ k)
        rw [hq]; generalize rn / 256 ^ k = z at *; omega
      have HN := Lib.hid (W8_at rn k hlt)
      have HQ := Lib.hid hq
      have HI := Lib.hid hi3
      have hw8 : IntKind.u8.wrap (q % 256) = q % 256 := IntWalk.u8_in _ (by omega)
      have htm : Int.tmod q 256 = q % 256 := Int.tmod_eq_emod_of_nonneg hq0
      have htd : Int.tdiv q 256 = q / 256 := Int.tdiv_eq_ediv_of_nonneg hq0
      have hw9 : IntKind.i64.wrap (q % 256) = q % 256 := IntWalk.i64_in _ (by omega)
      have hw10 : IntKind.i64.wrap (q / 256) = q / 256 := IntWalk.i64_in _ (by omega)
      have hmod : q % 256 = ((rn / 256 ^ k % 256 : Nat) : Int) := by rw [hq]; exact (Int.natCast_emod _ _).symm
      have hdiv : q / 256 = ((rn / 256 ^ (k + 1) : Nat) : Int) := by rw [hq, Nat.pow_succ, ← Nat.div_div_eq_div_mul]; exact (Int.natCast_ediv _ _).symm
      have HM := Lib.hid hmod
      have HD := Lib.hid hdiv
      have hsz := hbr.size
      clear hq hi3 hown hB hmod hdiv hl8
      generalize (W8 rn).drop (8 - k) = l at *
      go_wp2_with (at_builtin; refine wpList_app_ints rfl _ _ 28 rfl wr.heap.size 5 .u8 1 Try.underlying28 info_u8 _ _ rfl (own_oneI wr (q % 256)) _ k c3 l rfl (HI.out.later (belAlloc (Below.refl _ _) _)) (by simp only [maxLen, List.length_singleton]; omega) (by simp only [List.length_singleton]; omega) (by simp) ?_; intro v4 w4 ho4 hb4 hg4; have hb44 := (belAlloc (Below.refl wr.heap.size wr) _).trans hb4; have HO4 := Lib.hid ho4; clear ho4 hb4 hg4)
      go_roundw
      case rel => exact ⟨k + 1, by omega, by push_cast; rfl, ⟨_, rfl, HD.out⟩, by rw [HN.out, ← HM.out]; exact HO4.out.mono hbr.size, belStep hbr hb44⟩
      case measure => simp [intOf] <;> omega
    · obtain rfl : k = 8 := by omega
      have HO := Lib.hid (show OwnI wr W1.heap.size 5 .u8 _ (W8 rn) from hown)
      have hbel := hbr
      clear hown hB hbr hq hlt
      generalize wr = W3 at *
      have HFL : onI ⟨oa, ob, oc⟩ = ((if oa then (1 : Int) else 0) + (if ob then 2 else 0) + (if oc then 4 else 0)) := rfl
      have t2 := ss2 W3 hbel
      have t3 := ss3 W3 hbel
      have t4 := ss4 W3 hbel
      clear ss2 ss3 ss4
      go_upto_region 9 with fail
      rename_i K1 a1 K0 a0
      have HK1 : ∀ (a9 : Act) (u : World), (∃ (f9 : Int) (x4 x5 x7 x8 x9 x10 x11 x12 x13 x14 x15 x16 x17 x18 x19 x20 x21 x22 x23 x24 x25 x26 x27 x28 x29 x30 x31 x32 x33 x34 x35 x36 x37 x38 x39 x40 x41 x42 x43 x44 x45 x46 x47 x48 x49 x50 x51 x52 x53 x54 x55 x56 x57 x58 x59 x60 x61 x62 x63 x64 x65 x66 x67 x68 x69 x70 x71 x72 x73 : Value), a9 = { tmps := #[.agg #[.int .i64 (rn : Int), .slice a L.length c, .bool oa, .bool ob, .bool oc], .pointer (some ⟨w.heap.size, 0, none⟩), .slice none 0 0, u3, x4, x5, .int .i64 f9, x7, x8, x9, x10, x11, x12, x13, x14, x15, x16, x17, x18, x19, x20, x21, x22, x23, x24, x25, x26, x27, x28, x29, x30, x31, x32, x33, x34, x35, x36, x37, x38, x39, x40, x41, x42, x43, x44, x45, x46, x47, x48, x49, x50, x51, x52, x53, x54, x55, x56, x57, x58, x59, x60, x61, x62, x63, x64, x65, x66, x67, x68, x69, x70, x71, x72, x73], defers := [] } ∧ f9 = (if oa then (1 : Int) else 0) ∧ W3 = u) → K1 a9 u := by
        rintro a9 u ⟨f9, x4, x5, x7, x8, x9, x10, x11, x12, x13, x14, x15, x16, x17, x18, x19, x20, x21, x22, x23, x24, x25, x26, x27, x28, x29, x30, x31, x32, x33, x34, x35, x36, x37, x38, x39, x40, x41, x42, x43, x44, x45, x46, x47, x48, x49, x50, x51, x52, x53, x54, x55, x56, x57, x58, x59, x60, x61, x62, x63, x64, x65, x66, x67, x68, x69, x70, x71, x72, x73, rfl, hf9, rfl⟩
        have HF0 := Lib.hid hf9
        have hfb0 : 0 ≤ f9 ∧ f9 ≤ 7 := by rw [hf9]; cases oa <;> cases ob <;> cases oc <;> simp
        obtain ⟨hfc0, hfd0⟩ := hfb0
        clear hf9
        refine a1 _ _ ?_
        go_upto_region 11 with fail
        rename_i K1 a1 K0 a0
        have HK1 : ∀ (a9 : Act) (u : World), (∃ (f9 : Int) (x4 x5 x7 x8 x9 x10 x11 x12 x13 x14 x15 x16 x17 x18 x19 x20 x21 x22 x23 x24 x25 x26 x27 x28 x29 x30 x31 x32 x33 x34 x35 x36 x37 x38 x39 x40 x41 x42 x43 x44 x45 x46 x47 x48 x49 x50 x51 x52 x53 x54 x55 x56 x57 x58 x59 x60 x61 x62 x63 x64 x65 x66 x67 x68 x69 x70 x71 x72 x73 : Value), a9 = { tmps := #[.agg #[.int .i64 (rn : Int), .slice a L.length c, .bool oa, .bool ob, .bool oc], .pointer (some ⟨w.heap.size, 0, none⟩), .slice none 0 0, u3, x4, x5, .int .i64 f9, x7, x8, x9, x10, x11, x12, x13, x14, x15, x16, x17, x18, x19, x20, x21, x22, x23, x24, x25, x26, x27, x28, x29, x30, x31, x32, x33, x34, x35, x36, x37, x38, x39, x40, x41, x42, x43, x44, x45, x46, x47, x48, x49, x50, x51, x52, x53, x54, x55, x56, x57, x58, x59, x60, x61, x62, x63, x64, x65, x66, x67, x68, x69, x70, x71, x72, x73], defers := [] } ∧ f9 = ((if oa then (1 : Int) else 0) + (if ob then 2 else 0)) ∧ W3 = u) → K1 a9 u := by
          rintro a9 u ⟨f9, x4, x5, x7, x8, x9, x10, x11, x12, x13, x14, x15, x16, x17, x18, x19, x20, x21, x22, x23, x24, x25, x26, x27, x28, x29, x30, x31, x32, x33, x34, x35, x36, x37, x38, x39, x40, x41, x42, x43, x44, x45, x46, x47, x48, x49, x50, x51, x52, x53, x54, x55, x56, x57, x58, x59, x60, x61, x62, x63, x64, x65, x66, x67, x68, x69, x70, x71, x72, x73, rfl, hf9, rfl⟩
          have HF1 := Lib.hid hf9
          have hfb1 : 0 ≤ f9 ∧ f9 ≤ 7 := by rw [hf9]; cases oa <;> cases ob <;> cases oc <;> simp
          obtain ⟨hfc1, hfd1⟩ := hfb1
          clear hf9
          refine a1 _ _ ?_
          go_upto_region 13 with fail
          rename_i K1 a1 K0 a0
          have HK1 : ∀ (a9 : Act) (u : World), (∃ (f9 : Int) (x4 x5 x7 x8 x9 x10 x11 x12 x13 x14 x15 x16 x17 x18 x19 x20 x21 x22 x23 x24 x25 x26 x27 x28 x29 x30 x31 x32 x33 x34 x35 x36 x37 x38 x39 x40 x41 x42 x43 x44 x45 x46 x47 x48 x49 x50 x51 x52 x53 x54 x55 x56 x57 x58 x59 x60 x61 x62 x63 x64 x65 x66 x67 x68 x69 x70 x71 x72 x73 : Value), a9 = { tmps := #[.agg #[.int .i64 (rn : Int), .slice a L.length c, .bool oa, .bool ob, .bool oc], .pointer (some ⟨w.heap.size, 0, none⟩), .slice none 0 0, u3, x4, x5, .int .i64 f9, x7, x8, x9, x10, x11, x12, x13, x14, x15, x16, x17, x18, x19, x20, x21, x22, x23, x24, x25, x26, x27, x28, x29, x30, x31, x32, x33, x34, x35, x36, x37, x38, x39, x40, x41, x42, x43, x44, x45, x46, x47, x48, x49, x50, x51, x52, x53, x54, x55, x56, x57, x58, x59, x60, x61, x62, x63, x64, x65, x66, x67, x68, x69, x70, x71, x72, x73], defers := [] } ∧ f9 = ((if oa then (1 : Int) else 0) + (if ob then 2 else 0) + (if oc then 4 else 0)) ∧ W3 = u) → K1 a9 u := by
            rintro a9 u ⟨f9, x4, x5, x7, x8, x9, x10, x11, x12, x13, x14, x15, x16, x17, x18, x19, x20, x21, x22, x23, x24, x25, x26, x27, x28, x29, x30, x31, x32, x33, x34, x35, x36, x37, x38, x39, x40, x41, x42, x43, x44, x45, x46, x47, x48, x49, x50, x51, x52, x53, x54, x55, x56, x57, x58, x59, x60, x61, x62, x63, x64, x65, x66, x67, x68, x69, x70, x71, x72, x73, rfl, hf9, rfl⟩
            have HF2 := Lib.hid hf9
            have hfb2 : 0 ≤ f9 ∧ f9 ≤ 7 := by rw [hf9]; cases oa <;> cases ob <;> cases oc <;> simp
            obtain ⟨hfc2, hfd2⟩ := hfb2
            clear hf9
            refine a1 _ _ ?_
            obtain rfl : f9 = onI ⟨oa, ob, oc⟩ := HF2.out
            clear HF0 HF1 HF2 t2 t3 t4 hfc0 hfc1 hfc2 hfd0 hfd1 hfd2
            have hfl : 0 ≤ onI ⟨oa, ob, oc⟩ ∧ onI ⟨oa, ob, oc⟩ ≤ 255 := by unfold onI; cases oa <;> cases ob <;> cases oc <;> simp
            obtain ⟨fl, hflg⟩ : ∃ f, onI ⟨oa, ob, oc⟩ = f := ⟨_, rfl⟩
            rw [hflg] at hfl
            rw [hflg]
            have HFG := Lib.hid hflg
            clear hflg HFL
            obtain ⟨hfl0, hfl1⟩ := hfl
            have hu8 : IntKind.u8.wrap (L.length : Int) = (L.length : Int) := IntWalk.u8_in _ (by omega)
            have hu9 : IntKind.u8.wrap fl = fl := IntWalk.u8_in _ (by omega)
            have hl8 := W8_len rn
            go_upto_region 15 with fail
            refine wp_region_held_drew (S := fun u => Below W1.heap.size W1 u) (by kernel_rfl) (by exact (show Below W1.heap.size W1 _ by repeat (first | assumption | exact Below.refl _ _ | refine belDrew ?_ | refine belAlloc ?_ _ | refine belStep ?_ (by assumption)))) (fun hHeld => ?_)
            replace HO := Lib.hid (HO.out.later (belDrew (Below.refl _ _)))
            replace hbel := belDrew hbel
            generalize W3.drew = wd at *
            refine phase 1 #[true, true, true, true, true, true, true, true, true, true, true, false] (fun a9 u => ∃ (v : Value) (x3 x4 x5 x6 x7 x8 x9 x10 x11 x12 x13 x14 x15 x16 x17 x18 x19 x20 x21 x22 x23 x24 x25 x26 x27 x28 x29 x30 x31 x32 x33 x34 x35 x36 x37 x38 x39 x40 x41 x42 x43 x44 x45 x46 x48 x49 x50 x51 x52 x53 x54 x55 x56 x57 x58 x59 x60 x61 x62 x63 x64 x65 x66 x67 x68 x69 x70 x71 x72 x73 : Value), a9 = { tmps := #[.agg #[.int .i64 (rn : Int), .slice a L.length c, .bool oa, .bool ob, .bool oc], .pointer (some ⟨w.heap.size, 0, none⟩), .slice none 0 0, x3, x4, x5, x6, x7, x8, x9, x10, x11, x12, x13, x14, x15, x16, x17, x18, x19, x20, x21, x22, x23, x24, x25, x26, x27, x28, x29, x30, x31, x32, x33, x34, x35, x36, x37, x38, x39, x40, x41, x42, x43, x44, x45, x46, v, x48, x49, x50, x51, x52, x53, x54, x55, x56, x57, x58, x59, x60, x61, x62, x63, x64, x65, x66, x67, x68, x69, x70, x71, x72, x73], defers := [] } ∧ OwnI u W1.heap.size 5 .u8 v (W8 rn ++ [fl] ++ [(L.length : Int)]) ∧ Below W1.heap.size W1 u) ?prest (fun hG => ?pfirst)
            case pfirst =>
              refine wpAnyH_take (i := 0) (oi := ?oi_k1) (v := ?v_k1) ?hi_k1 (by kernel_rfl) ?hf_k1 ?hr_k1 ?hQ_k1 (Or.inl ⟨?hw_k1, ?hy_k1⟩) (by assumption) ?rest_k1
              case hi_k1 => ((simp only [List.getElem?_toArray, List.getElem?_cons_succ, List.getElem?_cons_zero]); rfl)
              case hf_k1 => kernel_rfl
              case hr_k1 => kernel_rfl
              case hQ_k1 => exact fun _ _ _ h => h
              case hw_k1 => rfl
              case hy_k1 => ((intro w hSw; (try dsimp only at hSw); go_simp); all_goals (with_reducible rfl))
              try simp only [Act.put, List.setIfInBounds_toArray, List.set_cons_zero, List.set_cons_succ]
              refine wpAnyH_take (i := 1) (oi := ?oi_k2) (v := ?v_k2) ?hi_k2 (by kernel_rfl) ?hf_k2 ?hr_k2 ?hQ_k2 (Or.inl ⟨?hw_k2, ?hy_k2⟩) (by assumption) ?rest_k2
              case hi_k2 => ((simp only [List.getElem?_toArray, List.getElem?_cons_succ, List.getElem?_cons_zero]); rfl)
              case hf_k2 => kernel_rfl
              case hr_k2 => kernel_rfl
              case hQ_k2 => exact fun _ _ _ h => h
              case hw_k2 => rfl
              case hy_k2 => ((intro w hSw; (try dsimp only at hSw); go_simp); all_goals (with_reducible rfl))
              try simp only [Act.put, List.setIfInBounds_toArray, List.set_cons_zero, List.set_cons_succ]
              refine wpAnyH_take (i := 2) (oi := ?oi_k3) (v := ?v_k3) ?hi_k3 (by kernel_rfl) ?hf_k3 ?hr_k3 ?hQ_k3 (Or.inl ⟨?hw_k3, ?hy_k3⟩) (by assumption) ?rest_k3
              case hi_k3 => ((simp only [List.getElem?_toArray, List.getElem?_cons_succ, List.getElem?_cons_zero]); rfl)
              case hf_k3 => kernel_rfl
              case hr_k3 => kernel_rfl
              case hQ_k3 => exact fun _ _ _ h => h
              case hw_k3 => rfl
              case hy_k3 => ((intro w hSw; (try dsimp only at hSw); go_simp); all_goals (with_reducible rfl))
              try simp only [Act.put, List.setIfInBounds_toArray, List.set_cons_zero, List.set_cons_succ]
              refine wpAnyH_take (i := 5) (oi := ?oi_k4) (v := ?v_k4) ?hi_k4 (by kernel_rfl) ?hf_k4 ?hr_k4 ?hQ_k4 (Or.inl ⟨?hw_k4, ?hy_k4⟩) (by assumption) ?rest_k4
              case hi_k4 => ((simp only [List.getElem?_toArray, List.getElem?_cons_succ, List.getElem?_cons_zero]); rfl)
              case hf_k4 => kernel_rfl
              case hr_k4 => kernel_rfl
              case hQ_k4 => exact fun _ _ _ h => h
              case hw_k4 => rfl
              case hy_k4 => ((intro w hSw; (try dsimp only at hSw); go_simp); all_goals (with_reducible rfl))
              try simp only [Act.put, List.setIfInBounds_toArray, List.set_cons_zero, List.set_cons_succ]
              refine wpAnyH_take (i := 6) (oi := ?oi_k5) (v := ?v_k5) ?hi_k5 (by kernel_rfl) ?hf_k5 ?hr_k5 ?hQ_k5 (Or.inl ⟨?hw_k5, ?hy_k5⟩) (by assumption) ?rest_k5
              case hi_k5 => ((simp only [List.getElem?_toArray, List.getElem?_cons_succ, List.getElem?_cons_zero]); rfl)
              case hf_k5 => kernel_rfl
              case hr_k5 => kernel_rfl
              case hQ_k5 => exact fun _ _ _ h => h
              case hw_k5 => rfl
              case hy_k5 => ((intro w hSw; (try dsimp only at hSw); go_simp); all_goals (with_reducible rfl))
              try simp only [Act.put, List.setIfInBounds_toArray, List.set_cons_zero, List.set_cons_succ]
              refine wpAnyH_take (i := 7) (oi := ?oi_k6) (v := ?v_k6) ?hi_k6 (by kernel_rfl) ?hf_k6 ?hr_k6 ?hQ_k6 (Or.inl ⟨?hw_k6, ?hy_k6⟩) (by assumption) ?rest_k6
              case hi_k6 => ((simp only [List.getElem?_toArray, List.getElem?_cons_succ, List.getElem?_cons_zero]); rfl)
              case hf_k6 => kernel_rfl
              case hr_k6 => kernel_rfl
              case hQ_k6 => exact fun _ _ _ h => h
              case hw_k6 => rfl
              case hy_k6 => ((intro w hSw; (try dsimp only at hSw); go_simp); all_goals (with_reducible rfl))
              try simp only [Act.put, List.setIfInBounds_toArray, List.set_cons_zero, List.set_cons_succ]
              refine wpAnyH_take (i := 8) (oi := ?oi_k7) (v := ?v_k7) ?hi_k7 (by kernel_rfl) ?hf_k7 ?hr_k7 ?hQ_k7 (Or.inl ⟨?hw_k7, ?hy_k7⟩) (by assumption) ?rest_k7
              case hi_k7 => ((simp only [List.getElem?_toArray, List.getElem?_cons_succ, List.getElem?_cons_zero]); rfl)
              case hf_k7 => kernel_rfl
              case hr_k7 => kernel_rfl
              case hQ_k7 => exact fun _ _ _ h => h
              case hw_k7 => rfl
              case hy_k7 => ((intro w hSw; (try dsimp only at hSw); go_simp); all_goals (with_reducible rfl))
              try simp only [Act.put, List.setIfInBounds_toArray, List.set_cons_zero, List.set_cons_succ]
              refine wpAnyH_ready (rs := [3, 9]) (by kernel_rfl) (by simp) ?_
              refine AllReadyH.cons (o := ?p1_9) ?hp_9 (fun K hK => ?ra_9) (AllReadyH.cons (o := ?p2_9) ?hj_9 (fun K hK => ?rb_9) AllReadyH.nil)
              case hp_9 => ((simp only [List.getElem?_toArray, List.getElem?_cons_succ, List.getElem?_cons_zero]); rfl)
              case hj_9 => ((simp only [List.getElem?_toArray, List.getElem?_cons_succ, List.getElem?_cons_zero]); rfl)
              case ra_9 =>
                go_simp
                refine mk_step (K' := K _) (c := fl) ?_
                intro wq hrq hbq hgq
                have NER3 := Lib.hid (own_ne HO.out)
                have GLR3 := Lib.hid hgq
                have R3 := Lib.hid hrq
                replace HO := Lib.hid (HO.out.later hbq)
                replace hbel := belStep hbel hbq
                clear hrq hbq hgq
                refine hK.out _ _ (by exact (show Below W1.heap.size W1 _ by repeat (first | assumption | exact Below.refl _ _ | refine belDrew ?_ | refine belAlloc ?_ _ | refine belStep ?_ (by assumption)))) (fun hHeld => ?_)
                clear hK K
                try simp only [Act.put, List.setIfInBounds_toArray, List.set_cons_zero, List.set_cons_succ]
                refine wpAnyH_ready (rs := [4, 9]) (by kernel_rfl) (by simp) ?_
                refine AllReadyH.cons (o := ?p1_5) ?hp_5 (fun K hK => ?ra_5) (AllReadyH.cons (o := ?p2_5) ?hj_5 (fun K hK => ?rb_5) AllReadyH.nil)
                case hp_5 => ((simp only [List.getElem?_toArray, List.getElem?_cons_succ, List.getElem?_cons_zero]); rfl)
                case hj_5 => ((simp only [List.getElem?_toArray, List.getElem?_cons_succ, List.getElem?_cons_zero]); rfl)
                case ra_5 =>
                  refine op_app rfl _ _ 28 rfl W1.heap.size 5 .u8 1 Try.underlying28 info_u8 _ _ rfl HO.out _ _ _ ([fl]) rfl (R3.out) (by simp) (by (first | omega | (unfold maxLen; omega) | (simp only [List.length_append, List.length_cons, List.length_nil, W8_len, maxLen]; omega) | (simp only [List.length_append, List.length_cons, List.length_nil, W8_len]; omega))) (by (first | omega | (unfold maxLen; omega) | (simp only [List.length_append, List.length_cons, List.length_nil, W8_len, maxLen]; omega) | (simp only [List.length_append, List.length_cons, List.length_nil, W8_len]; omega))) (Below.size (show Below W1.heap.size W1 _ from hbel)) ?_
                  intro vq wq hoq hbq hgq
                  have hbel2 := Below.trans hbel hbq
                  clear hbel
                  have hbel := hbel2
                  replace HO := Lib.hid hoq
                  clear hoq hbq hgq hbel2
                  refine hK.out _ _ (by exact (show Below W1.heap.size W1 _ by repeat (first | assumption | exact Below.refl _ _ | refine belDrew ?_ | refine belAlloc ?_ _ | refine belStep ?_ (by assumption)))) (fun hHeld => ?_)
                  clear hK K
                  try simp only [Act.put, List.setIfInBounds_toArray, List.set_cons_zero, List.set_cons_succ]
                  refine wpAnyH_ready (rs := [9]) (by kernel_rfl) (by simp) ?_
                  refine AllReadyH.cons (o := ?p1_1) ?hp_1 (fun K hK => ?rp_1) AllReadyH.nil
                  case hp_1 => ((simp only [List.getElem?_toArray, List.getElem?_cons_succ, List.getElem?_cons_zero]); rfl)
                  go_simp
                  refine mk_step (K' := K _) (c := (L.length : Int)) ?_
                  intro wq hrq hbq hgq
                  have NER9 := Lib.hid (own_ne HO.out)
                  have GLR9 := Lib.hid hgq
                  have R9 := Lib.hid hrq
                  replace HO := Lib.hid (HO.out.later hbq)
                  replace hbel := belStep hbel hbq
                  clear hrq hbq hgq
                  refine hK.out _ _ (by exact (show Below W1.heap.size W1 _ by repeat (first | assumption | exact Below.refl _ _ | refine belDrew ?_ | refine belAlloc ?_ _ | refine belStep ?_ (by assumption)))) (fun hHeld => ?_)
                  clear hK K
                  try simp only [Act.put, List.setIfInBounds_toArray, List.set_cons_zero, List.set_cons_succ]
                  refine wpAnyH_ready (rs := [10]) (by kernel_rfl) (by simp) ?_
                  refine AllReadyH.cons (o := ?p1_2) ?hp_2 (fun K hK => ?rp_2) AllReadyH.nil
                  case hp_2 => ((simp only [List.getElem?_toArray, List.getElem?_cons_succ, List.getElem?_cons_zero]); rfl)
                  refine op_app rfl _ _ 28 rfl W1.heap.size 5 .u8 1 Try.underlying28 info_u8 _ _ rfl HO.out _ _ _ ([(L.length : Int)]) rfl (R9.out) (by simp) (by (first | omega | (unfold maxLen; omega) | (simp only [List.length_append, List.length_cons, List.length_nil, W8_len, maxLen]; omega) | (simp only [List.length_append, List.length_cons, List.length_nil, W8_len]; omega))) (by (first | omega | (unfold maxLen; omega) | (simp only [List.length_append, List.length_cons, List.length_nil, W8_len, maxLen]; omega) | (simp only [List.length_append, List.length_cons, List.length_nil, W8_len]; omega))) (Below.size (show Below W1.heap.size W1 _ from hbel)) ?_
                  intro vq wq hoq hbq hgq
                  have hbel2 := Below.trans hbel hbq
                  clear hbel
                  have hbel := hbel2
                  replace HO := Lib.hid hoq
                  clear hoq hbq hgq hbel2
                  refine hK.out _ _ (by exact (show Below W1.heap.size W1 _ by repeat (first | assumption | exact Below.refl _ _ | refine belDrew ?_ | refine belAlloc ?_ _ | refine belStep ?_ (by assumption)))) (fun hHeld => ?_)
                  clear hK K
                  try simp only [Act.put, List.setIfInBounds_toArray, List.set_cons_zero, List.set_cons_succ]
                  exact relist (by kernel_rfl) (hG.out _ _ hHeld ⟨_, _, _, _, _, _, _, _, _, _, _, _, _, _, _, _, _, _, _, _, _, _, _, _, _, _, _, _, _, _, _, _, _, _, _, _, _, _, _, _, _, _, _, _, _, _, _, _, _, _, _, _, _, _, _, _, _, _, _, _, _, _, _, _, _, _, _, _, _, _, _, rfl, HO.out, hbel⟩)
                case rb_5 =>
                  go_simp
                  refine mk_step (K' := K _) (c := (L.length : Int)) ?_
                  intro wq hrq hbq hgq
                  have NER9 := Lib.hid (own_ne HO.out)
                  have GLR9 := Lib.hid hgq
                  have R9 := Lib.hid hrq
                  replace GLR3 := Lib.hid (Nat.lt_of_lt_of_le GLR3.out hbq.size)
                  replace R3 := Lib.hid (R3.out.later hbq)
                  replace HO := Lib.hid (HO.out.later hbq)
                  replace hbel := belStep hbel hbq
                  clear hrq hbq hgq
                  refine hK.out _ _ (by exact (show Below W1.heap.size W1 _ by repeat (first | assumption | exact Below.refl _ _ | refine belDrew ?_ | refine belAlloc ?_ _ | refine belStep ?_ (by assumption)))) (fun hHeld => ?_)
                  clear hK K
                  try simp only [Act.put, List.setIfInBounds_toArray, List.set_cons_zero, List.set_cons_succ]
                  refine wpAnyH_ready (rs := [4]) (by kernel_rfl) (by simp) ?_
                  refine AllReadyH.cons (o := ?p1_3) ?hp_3 (fun K hK => ?rp_3) AllReadyH.nil
                  case hp_3 => ((simp only [List.getElem?_toArray, List.getElem?_cons_succ, List.getElem?_cons_zero]); rfl)
                  refine op_app rfl _ _ 28 rfl W1.heap.size 5 .u8 1 Try.underlying28 info_u8 _ _ rfl HO.out _ _ _ ([fl]) rfl (R3.out) (by simp) (by (first | omega | (unfold maxLen; omega) | (simp only [List.length_append, List.length_cons, List.length_nil, W8_len, maxLen]; omega) | (simp only [List.length_append, List.length_cons, List.length_nil, W8_len]; omega))) (by (first | omega | (unfold maxLen; omega) | (simp only [List.length_append, List.length_cons, List.length_nil, W8_len, maxLen]; omega) | (simp only [List.length_append, List.length_cons, List.length_nil, W8_len]; omega))) (Below.size (show Below W1.heap.size W1 _ from hbel)) ?_
                  intro vq wq hoq hbq hgq
                  replace R9 := Lib.hid (row_grown R9.out hgq NER9.out GLR9.out)
                  have hbel2 := Below.trans hbel hbq
                  clear hbel
                  have hbel := hbel2
                  replace HO := Lib.hid hoq
                  clear hoq hbq hgq hbel2
                  refine hK.out _ _ (by exact (show Below W1.heap.size W1 _ by repeat (first | assumption | exact Below.refl _ _ | refine belDrew ?_ | refine belAlloc ?_ _ | refine belStep ?_ (by assumption)))) (fun hHeld => ?_)
                  clear hK K
                  try simp only [Act.put, List.setIfInBounds_toArray, List.set_cons_zero, List.set_cons_succ]
                  refine wpAnyH_ready (rs := [10]) (by kernel_rfl) (by simp) ?_
                  refine AllReadyH.cons (o := ?p1_4) ?hp_4 (fun K hK => ?rp_4) AllReadyH.nil
                  case hp_4 => ((simp only [List.getElem?_toArray, List.getElem?_cons_succ, List.getElem?_cons_zero]); rfl)
                  refine op_app rfl _ _ 28 rfl W1.heap.size 5 .u8 1 Try.underlying28 info_u8 _ _ rfl HO.out _ _ _ ([(L.length : Int)]) rfl (R9.out) (by simp) (by (first | omega | (unfold maxLen; omega) | (simp only [List.length_append, List.length_cons, List.length_nil, W8_len, maxLen]; omega) | (simp only [List.length_append, List.length_cons, List.length_nil, W8_len]; omega))) (by (first | omega | (unfold maxLen; omega) | (simp only [List.length_append, List.length_cons, List.length_nil, W8_len, maxLen]; omega) | (simp only [List.length_append, List.length_cons, List.length_nil, W8_len]; omega))) (Below.size (show Below W1.heap.size W1 _ from hbel)) ?_
                  intro vq wq hoq hbq hgq
                  have hbel2 := Below.trans hbel hbq
                  clear hbel
                  have hbel := hbel2
                  replace HO := Lib.hid hoq
                  clear hoq hbq hgq hbel2
                  refine hK.out _ _ (by exact (show Below W1.heap.size W1 _ by repeat (first | assumption | exact Below.refl _ _ | refine belDrew ?_ | refine belAlloc ?_ _ | refine belStep ?_ (by assumption)))) (fun hHeld => ?_)
                  clear hK K
                  try simp only [Act.put, List.setIfInBounds_toArray, List.set_cons_zero, List.set_cons_succ]
                  exact relist (by kernel_rfl) (hG.out _ _ hHeld ⟨_, _, _, _, _, _, _, _, _, _, _, _, _, _, _, _, _, _, _, _, _, _, _, _, _, _, _, _, _, _, _, _, _, _, _, _, _, _, _, _, _, _, _, _, _, _, _, _, _, _, _, _, _, _, _, _, _, _, _, _, _, _, _, _, _, _, _, _, _, _, _, rfl, HO.out, hbel⟩)
              case rb_9 =>
                go_simp
                refine mk_step (K' := K _) (c := (L.length : Int)) ?_
                intro wq hrq hbq hgq
                have NER9 := Lib.hid (own_ne HO.out)
                have GLR9 := Lib.hid hgq
                have R9 := Lib.hid hrq
                replace HO := Lib.hid (HO.out.later hbq)
                replace hbel := belStep hbel hbq
                clear hrq hbq hgq
                refine hK.out _ _ (by exact (show Below W1.heap.size W1 _ by repeat (first | assumption | exact Below.refl _ _ | refine belDrew ?_ | refine belAlloc ?_ _ | refine belStep ?_ (by assumption)))) (fun hHeld => ?_)
                clear hK K
                try simp only [Act.put, List.setIfInBounds_toArray, List.set_cons_zero, List.set_cons_succ]
                refine wpAnyH_ready (rs := [3]) (by kernel_rfl) (by simp) ?_
                refine AllReadyH.cons (o := ?p1_6) ?hp_6 (fun K hK => ?rp_6) AllReadyH.nil
                case hp_6 => ((simp only [List.getElem?_toArray, List.getElem?_cons_succ, List.getElem?_cons_zero]); rfl)
                go_simp
                refine mk_step (K' := K _) (c := fl) ?_
                intro wq hrq hbq hgq
                have NER3 := Lib.hid (own_ne HO.out)
                have GLR3 := Lib.hid hgq
                have R3 := Lib.hid hrq
                replace GLR9 := Lib.hid (Nat.lt_of_lt_of_le GLR9.out hbq.size)
                replace R9 := Lib.hid (R9.out.later hbq)
                replace HO := Lib.hid (HO.out.later hbq)
                replace hbel := belStep hbel hbq
                clear hrq hbq hgq
                refine hK.out _ _ (by exact (show Below W1.heap.size W1 _ by repeat (first | assumption | exact Below.refl _ _ | refine belDrew ?_ | refine belAlloc ?_ _ | refine belStep ?_ (by assumption)))) (fun hHeld => ?_)
                clear hK K
                try simp only [Act.put, List.setIfInBounds_toArray, List.set_cons_zero, List.set_cons_succ]
                refine wpAnyH_ready (rs := [4]) (by kernel_rfl) (by simp) ?_
                refine AllReadyH.cons (o := ?p1_7) ?hp_7 (fun K hK => ?rp_7) AllReadyH.nil
                case hp_7 => ((simp only [List.getElem?_toArray, List.getElem?_cons_succ, List.getElem?_cons_zero]); rfl)
                refine op_app rfl _ _ 28 rfl W1.heap.size 5 .u8 1 Try.underlying28 info_u8 _ _ rfl HO.out _ _ _ ([fl]) rfl (R3.out) (by simp) (by (first | omega | (unfold maxLen; omega) | (simp only [List.length_append, List.length_cons, List.length_nil, W8_len, maxLen]; omega) | (simp only [List.length_append, List.length_cons, List.length_nil, W8_len]; omega))) (by (first | omega | (unfold maxLen; omega) | (simp only [List.length_append, List.length_cons, List.length_nil, W8_len, maxLen]; omega) | (simp only [List.length_append, List.length_cons, List.length_nil, W8_len]; omega))) (Below.size (show Below W1.heap.size W1 _ from hbel)) ?_
                intro vq wq hoq hbq hgq
                replace R9 := Lib.hid (row_grown R9.out hgq NER9.out GLR9.out)
                have hbel2 := Below.trans hbel hbq
                clear hbel
                have hbel := hbel2
                replace HO := Lib.hid hoq
                clear hoq hbq hgq hbel2
                refine hK.out _ _ (by exact (show Below W1.heap.size W1 _ by repeat (first | assumption | exact Below.refl _ _ | refine belDrew ?_ | refine belAlloc ?_ _ | refine belStep ?_ (by assumption)))) (fun hHeld => ?_)
                clear hK K
                try simp only [Act.put, List.setIfInBounds_toArray, List.set_cons_zero, List.set_cons_succ]
                refine wpAnyH_ready (rs := [10]) (by kernel_rfl) (by simp) ?_
                refine AllReadyH.cons (o := ?p1_8) ?hp_8 (fun K hK => ?rp_8) AllReadyH.nil
                case hp_8 => ((simp only [List.getElem?_toArray, List.getElem?_cons_succ, List.getElem?_cons_zero]); rfl)
                refine op_app rfl _ _ 28 rfl W1.heap.size 5 .u8 1 Try.underlying28 info_u8 _ _ rfl HO.out _ _ _ ([(L.length : Int)]) rfl (R9.out) (by simp) (by (first | omega | (unfold maxLen; omega) | (simp only [List.length_append, List.length_cons, List.length_nil, W8_len, maxLen]; omega) | (simp only [List.length_append, List.length_cons, List.length_nil, W8_len]; omega))) (by (first | omega | (unfold maxLen; omega) | (simp only [List.length_append, List.length_cons, List.length_nil, W8_len, maxLen]; omega) | (simp only [List.length_append, List.length_cons, List.length_nil, W8_len]; omega))) (Below.size (show Below W1.heap.size W1 _ from hbel)) ?_
                intro vq wq hoq hbq hgq
                have hbel2 := Below.trans hbel hbq
                clear hbel
                have hbel := hbel2
                replace HO := Lib.hid hoq
                clear hoq hbq hgq hbel2
                refine hK.out _ _ (by exact (show Below W1.heap.size W1 _ by repeat (first | assumption | exact Below.refl _ _ | refine belDrew ?_ | refine belAlloc ?_ _ | refine belStep ?_ (by assumption)))) (fun hHeld => ?_)
                clear hK K
                try simp only [Act.put, List.setIfInBounds_toArray, List.set_cons_zero, List.set_cons_succ]
                exact relist (by kernel_rfl) (hG.out _ _ hHeld ⟨_, _, _, _, _, _, _, _, _, _, _, _, _, _, _, _, _, _, _, _, _, _, _, _, _, _, _, _, _, _, _, _, _, _, _, _, _, _, _, _, _, _, _, _, _, _, _, _, _, _, _, _, _, _, _, _, _, _, _, _, _, _, _, _, _, _, _, _, _, _, _, rfl, HO.out, hbel⟩)
            case prest =>
              clear HO
              rintro a1 u1 hHeld ⟨v, x3, x4, x5, x6, x7, x8, x9, x10, x11, x12, x13, x14, x15, x16, x17, x18, x19, x20, x21, x22, x23, x24, x25, x26, x27, x28, x29, x30, x31, x32, x33, x34, x35, x36, x37, x38, x39, x40, x41, x42, x43, x44, x45, x46, x48, x49, x50, x51, x52, x53, x54, x55, x56, x57, x58, x59, x60, x61, x62, x63, x64, x65, x66, x67, x68, x69, x70, x71, x72, x73, rfl, hoq, hbel⟩
              have HO := Lib.hid hoq
              clear hoq
              refine wpAnyH_ready (rs := [11]) (by kernel_rfl) (by simp) ?_
              refine AllReadyH.cons (o := ?p1_10) ?hp_10 (fun K hK => ?rp_10) AllReadyH.nil
              case hp_10 => ((simp only [List.getElem?_toArray, List.getElem?_cons_succ, List.getElem?_cons_zero]); rfl)
              go_simp
              refine hK.out _ _ (by exact (show Below W1.heap.size W1 _ by repeat (first | assumption | exact Below.refl _ _ | refine belDrew ?_ | refine belAlloc ?_ _ | refine belStep ?_ (by assumption)))) (fun hHeld => ?_)
              clear hK K
              try simp only [Act.put, List.setIfInBounds_toArray, List.set_cons_zero, List.set_cons_succ]
              refine wpAnyH_done (by kernel_rfl) ?_ _
              clear hHeld
              obtain ⟨hd, hhd⟩ : ∃ l, W8 rn ++ [fl] ++ [(L.length : Int)] = l := ⟨_, rfl⟩
              have HHD := Lib.hid hhd
              have hhl : hd.length = 10 := by rw [← hhd]; simp [hl8]
              rw [hhd] at HO
              clear hhd
              go_wp2
              go_loopw [3, 7] (fun v i wr => ∃ k : Nat, k ≤ L.length ∧ i = .int .i64 k ∧ OwnI wr W1.heap.size 5 .u8 v (hd ++ (L.take k).flatMap EntV.bytes) ∧ Below W1.heap.size W1 wr) (fun _ i _ => L.length - (intOf i).toNat)
              case atStart => exact ⟨0, Nat.zero_le _, rfl, by simpa using HO.out, hbel⟩
              case round =>
                clear HO hbel
                obtain ⟨k, hk, rfl, ho, hbel⟩ := hrel
                have HO := Lib.hid ho
                clear ho
                have HRW := Lib.hid (HR.out.later HW1.out)
                by_cases hlt : k < L.length
                · have hd9 : decide ((k : Int) < (L.length : Int)) = true := decide_eq_true (by omega)
                  have hki : (k : Int) < (L.length : Int) := by omega
                  have hk0 : (0 : Int) ≤ (k : Int) := by omega
                  obtain ⟨x, hx⟩ : ∃ x, L[k]? = some x := ⟨L[k]'(hlt), List.getElem?_eq_getElem _⟩
                  obtain ⟨bc, oc9, ec, _, hcc⟩ := (HRW.out).elem EntV.cells_len (by omega) hx
                  subst ec
                  have c0 := keep (hcc 0 _ rfl)
                  have c1 := keep (hcc 1 _ rfl)
                  have c2 := keep (hcc 2 _ rfl)
                  have c3 := keep (hcc 3 _ rfl)
                  have c4 := keep (hcc 4 _ rfl)
                  have c5 := keep (hcc 5 _ rfl)
                  have c6 := keep (hcc 6 _ rfl)
                  have c7 := keep (hcc 7 _ rfl)
                  have c8 := keep (hcc 8 _ rfl)
                  have c9 := keep (hcc 9 _ rfl)
                  have c10 := keep (hcc 10 _ rfl)
                  have c11 := keep (hcc 11 _ rfl)
                  rw [Nat.add_zero] at c0
                  clear hcc
                  have HXE := Lib.hid (show (L.take (k + 1)).flatMap EntV.bytes = (L.take k).flatMap EntV.bytes ++ ([x.phase] ++ x.pod.bytes) by rw [List.take_add_one, hx]; simp [List.flatMap_append, EntV.bytes])
                  have hen := HEN.out x (List.mem_of_getElem? hx)
                  unfold entB at hen
                  rw [Bool.and_eq_true] at hen
                  have hrp := hen.1
                  have hph : 1 ≤ x.phase ∧ x.phase ≤ 3 := by have := hen.2; unfold phB at this; simpa using this
                  have hbb := bytes_bd hrp
                  have HNE := Lib.hid (show x.pod.bytes ≠ [] from fun h => by have := PodV.bytes_len x.pod; rw [h] at this; simp at this)
                  have HWF := Lib.hid (fun m hm => wf8 m (PodV.bytes_B (PodV.fine hrp) m hm))
                  have CP := Lib.hid (fun v => pref_Put x.pod v (HOK.out x (List.mem_of_getElem? hx)).1 hrp)
                  obtain ⟨pb, hpb⟩ : ∃ l, x.pod.bytes = l := ⟨_, rfl⟩
                  rw [hpb] at CP hbb HXE HNE HWF
                  clear hpb
                  obtain ⟨nb, hnb⟩ : ∃ m, pb.length = m := ⟨_, rfl⟩
                  rw [hnb] at hbb
                  have HNB := Lib.hid hnb
                  have HTL := Lib.hid (show ((L.take k).flatMap EntV.bytes).length ≤ 64 * 116 from ents_len (fun y hy => HEN.out y (List.mem_of_mem_take hy)) (by rw [List.length_take]; omega))
                  obtain ⟨ph, hphv⟩ : ∃ z, x.phase = z := ⟨_, rfl⟩
                  rw [hphv] at hph HXE
                  replace c11 : ∀ w, Below W1.heap.size W1 w → w.cell? ⟨bc, oc9 + k * 12 + 11, none⟩ = some (.int .i64 ph) := hphv ▸ c11
                  clear hx hen hrp hphv
                  have hup : IntKind.u8.wrap ph = ph := IntWalk.u8_in _ (by omega)
                  obtain ⟨pre, hpre⟩ : ∃ l, hd ++ (L.take k).flatMap EntV.bytes = l := ⟨_, rfl⟩
                  have hpl : pre.length ≤ 10 + 64 * 116 := by rw [← hpre, List.length_append, hhl]; have := HTL.out; omega
                  rw [hpre] at HO
                  have HPRE := Lib.hid hpre
                  clear hpre HTL
                  go_wp2
                  refine wp_region_held_drew (S := fun u => Below W1.heap.size W1 u) (by kernel_rfl) (by exact (show Below W1.heap.size W1 _ by repeat (first | assumption | exact Below.refl _ _ | refine belDrew ?_ | refine belAlloc ?_ _ | refine belStep ?_ (by assumption)))) (fun hHeld => ?_)
                  replace HO := Lib.hid (HO.out.later (belDrew (Below.refl _ _)))
                  replace hbel := belDrew hbel
                  generalize wr.drew = wd at *
                  refine wpAnyH_take (i := 0) (oi := ?oi_k8) (v := ?v_k8) ?hi_k8 (by kernel_rfl) ?hf_k8 ?hr_k8 ?hQ_k8 (Or.inl ⟨?hw_k8, ?hy_k8⟩) (by assumption) ?rest_k8
                  case hi_k8 => ((simp only [List.getElem?_toArray, List.getElem?_cons_succ, List.getElem?_cons_zero]); rfl)
                  case hf_k8 => kernel_rfl
                  case hr_k8 => kernel_rfl
                  case hQ_k8 => exact fun _ _ _ h => h
                  case hw_k8 => rfl
                  case hy_k8 => ((intro w hSw; (try dsimp only at hSw); go_simp); all_goals (with_reducible rfl))
                  try simp only [Act.put, List.setIfInBounds_toArray, List.set_cons_zero, List.set_cons_succ]
                  refine wpAnyH_take (i := 1) (oi := ?oi_k9) (v := ?v_k9) ?hi_k9 (by kernel_rfl) ?hf_k9 ?hr_k9 ?hQ_k9 (Or.inl ⟨?hw_k9, ?hy_k9⟩) (by assumption) ?rest_k9
                  case hi_k9 => ((simp only [List.getElem?_toArray, List.getElem?_cons_succ, List.getElem?_cons_zero]); rfl)
                  case hf_k9 => kernel_rfl
                  case hr_k9 => kernel_rfl
                  case hQ_k9 => exact fun _ _ _ h => h
                  case hw_k9 => rfl
                  case hy_k9 => ((intro w hSw; (try dsimp only at hSw); go_simp); all_goals (with_reducible rfl))
                  try simp only [Act.put, List.setIfInBounds_toArray, List.set_cons_zero, List.set_cons_succ]
                  refine wpAnyH_take (i := 2) (oi := ?oi_k10) (v := ?v_k10) ?hi_k10 (by kernel_rfl) ?hf_k10 ?hr_k10 ?hQ_k10 (Or.inl ⟨?hw_k10, ?hy_k10⟩) (by assumption) ?rest_k10
                  case hi_k10 => ((simp only [List.getElem?_toArray, List.getElem?_cons_succ, List.getElem?_cons_zero]); rfl)
                  case hf_k10 => kernel_rfl
                  case hr_k10 => kernel_rfl
                  case hQ_k10 => exact fun _ _ _ h => h
                  case hw_k10 => rfl
                  case hy_k10 => ((intro w hSw; (try dsimp only at hSw); go_simp); all_goals (with_reducible rfl))
                  try simp only [Act.put, List.setIfInBounds_toArray, List.set_cons_zero, List.set_cons_succ]
                  refine wpAnyH_take (i := 3) (oi := ?oi_k11) (v := ?v_k11) ?hi_k11 (by kernel_rfl) ?hf_k11 ?hr_k11 ?hQ_k11 (Or.inl ⟨?hw_k11, ?hy_k11⟩) (by assumption) ?rest_k11
                  case hi_k11 => ((simp only [List.getElem?_toArray, List.getElem?_cons_succ, List.getElem?_cons_zero]); rfl)
                  case hf_k11 => kernel_rfl
                  case hr_k11 => kernel_rfl
                  case hQ_k11 => exact fun _ _ _ h => h
                  case hw_k11 => rfl
                  case hy_k11 => ((intro w hSw; (try dsimp only at hSw); go_simp); all_goals (with_reducible rfl))
                  try simp only [Act.put, List.setIfInBounds_toArray, List.set_cons_zero, List.set_cons_succ]
                  refine wpAnyH_take (i := 4) (oi := ?oi_k12) (v := ?v_k12) ?hi_k12 (by kernel_rfl) ?hf_k12 ?hr_k12 ?hQ_k12 (Or.inl ⟨?hw_k12, ?hy_k12⟩) (by assumption) ?rest_k12
                  case hi_k12 => ((simp only [List.getElem?_toArray, List.getElem?_cons_succ, List.getElem?_cons_zero]); rfl)
                  case hf_k12 => kernel_rfl
                  case hr_k12 => kernel_rfl
                  case hQ_k12 => exact fun _ _ _ h => h
                  case hw_k12 => rfl
                  case hy_k12 => ((intro w hSw; (try dsimp only at hSw); go_simp); all_goals (with_reducible rfl))
                  try simp only [Act.put, List.setIfInBounds_toArray, List.set_cons_zero, List.set_cons_succ]
                  refine wpAnyH_take (i := 5) (oi := ?oi_k13) (v := ?v_k13) ?hi_k13 (by kernel_rfl) ?hf_k13 ?hr_k13 ?hQ_k13 (Or.inl ⟨?hw_k13, ?hy_k13⟩) (by assumption) ?rest_k13
                  case hi_k13 => ((simp only [List.getElem?_toArray, List.getElem?_cons_succ, List.getElem?_cons_zero]); rfl)
                  case hf_k13 => kernel_rfl
                  case hr_k13 => kernel_rfl
                  case hQ_k13 => exact fun _ _ _ h => h
                  case hw_k13 => rfl
                  case hy_k13 => ((intro w hSw; (try dsimp only at hSw); go_simp); all_goals (with_reducible rfl))
                  try simp only [Act.put, List.setIfInBounds_toArray, List.set_cons_zero, List.set_cons_succ]
                  refine wpAnyH_take (i := 6) (oi := ?oi_k14) (v := ?v_k14) ?hi_k14 (by kernel_rfl) ?hf_k14 ?hr_k14 ?hQ_k14 (Or.inl ⟨?hw_k14, ?hy_k14⟩) (by assumption) ?rest_k14
                  case hi_k14 => ((simp only [List.getElem?_toArray, List.getElem?_cons_succ, List.getElem?_cons_zero]); rfl)
                  case hf_k14 => kernel_rfl
                  case hr_k14 => kernel_rfl
                  case hQ_k14 => exact fun _ _ _ h => h
                  case hw_k14 => rfl
                  case hy_k14 => ((intro w hSw; (try dsimp only at hSw); go_simp); all_goals (with_reducible rfl))
                  try simp only [Act.put, List.setIfInBounds_toArray, List.set_cons_zero, List.set_cons_succ]
                  refine wpAnyH_take (i := 7) (oi := ?oi_k15) (v := ?v_k15) ?hi_k15 (by kernel_rfl) ?hf_k15 ?hr_k15 ?hQ_k15 (Or.inl ⟨?hw_k15, ?hy_k15⟩) (by assumption) ?rest_k15
                  case hi_k15 => ((simp only [List.getElem?_toArray, List.getElem?_cons_succ, List.getElem?_cons_zero]); rfl)
                  case hf_k15 => kernel_rfl
                  case hr_k15 => kernel_rfl
                  case hQ_k15 => exact fun _ _ _ h => h
                  case hw_k15 => rfl
                  case hy_k15 => ((intro w hSw; (try dsimp only at hSw); go_simp); all_goals (with_reducible rfl))
                  try simp only [Act.put, List.setIfInBounds_toArray, List.set_cons_zero, List.set_cons_succ]
                  refine wpAnyH_take (i := 10) (oi := ?oi_k16) (v := ?v_k16) ?hi_k16 (by kernel_rfl) ?hf_k16 ?hr_k16 ?hQ_k16 (Or.inl ⟨?hw_k16, ?hy_k16⟩) (by assumption) ?rest_k16
                  case hi_k16 => ((simp only [List.getElem?_toArray, List.getElem?_cons_succ, List.getElem?_cons_zero]); rfl)
                  case hf_k16 => kernel_rfl
                  case hr_k16 => kernel_rfl
                  case hQ_k16 => exact fun _ _ _ h => h
                  case hw_k16 => rfl
                  case hy_k16 => ((intro w hSw; (try dsimp only at hSw); go_simp); all_goals (with_reducible rfl))
                  try simp only [Act.put, List.setIfInBounds_toArray, List.set_cons_zero, List.set_cons_succ]
                  refine wpAnyH_take (i := 11) (oi := ?oi_k17) (v := ?v_k17) ?hi_k17 (by kernel_rfl) ?hf_k17 ?hr_k17 ?hQ_k17 (Or.inl ⟨?hw_k17, ?hy_k17⟩) (by assumption) ?rest_k17
                  case hi_k17 => ((simp only [List.getElem?_toArray, List.getElem?_cons_succ, List.getElem?_cons_zero]); rfl)
                  case hf_k17 => kernel_rfl
                  case hr_k17 => kernel_rfl
                  case hQ_k17 => exact fun _ _ _ h => h
                  case hw_k17 => rfl
                  case hy_k17 => ((intro w hSw; (try dsimp only at hSw); go_simp); all_goals (with_reducible rfl))
                  try simp only [Act.put, List.setIfInBounds_toArray, List.set_cons_zero, List.set_cons_succ]
                  refine wpAnyH_take (i := 12) (oi := ?oi_k18) (v := ?v_k18) ?hi_k18 (by kernel_rfl) ?hf_k18 ?hr_k18 ?hQ_k18 (Or.inl ⟨?hw_k18, ?hy_k18⟩) (by assumption) ?rest_k18
                  case hi_k18 => ((simp only [List.getElem?_toArray, List.getElem?_cons_succ, List.getElem?_cons_zero]); rfl)
                  case hf_k18 => kernel_rfl
                  case hr_k18 => kernel_rfl
                  case hQ_k18 => exact fun _ _ _ h => h
                  case hw_k18 => rfl
                  case hy_k18 => ((intro w hSw; (try dsimp only at hSw); go_simp); all_goals (with_reducible rfl))
                  try simp only [Act.put, List.setIfInBounds_toArray, List.set_cons_zero, List.set_cons_succ]
                  refine wpAnyH_take (i := 13) (oi := ?oi_k19) (v := ?v_k19) ?hi_k19 (by kernel_rfl) ?hf_k19 ?hr_k19 ?hQ_k19 (Or.inl ⟨?hw_k19, ?hy_k19⟩) (by assumption) ?rest_k19
                  case hi_k19 => ((simp only [List.getElem?_toArray, List.getElem?_cons_succ, List.getElem?_cons_zero]); rfl)
                  case hf_k19 => kernel_rfl
                  case hr_k19 => kernel_rfl
                  case hQ_k19 => exact fun _ _ _ h => h
                  case hw_k19 => rfl
                  case hy_k19 => ((intro w hSw; (try dsimp only at hSw); go_simp); all_goals (with_reducible rfl))
                  try simp only [Act.put, List.setIfInBounds_toArray, List.set_cons_zero, List.set_cons_succ]
                  refine wpAnyH_take (i := 14) (oi := ?oi_k20) (v := ?v_k20) ?hi_k20 (by kernel_rfl) ?hf_k20 ?hr_k20 ?hQ_k20 (Or.inl ⟨?hw_k20, ?hy_k20⟩) (by assumption) ?rest_k20
                  case hi_k20 => ((simp only [List.getElem?_toArray, List.getElem?_cons_succ, List.getElem?_cons_zero]); rfl)
                  case hf_k20 => kernel_rfl
                  case hr_k20 => kernel_rfl
                  case hQ_k20 => exact fun _ _ _ h => h
                  case hw_k20 => rfl
                  case hy_k20 => ((intro w hSw; (try dsimp only at hSw); go_simp); all_goals (with_reducible rfl))
                  try simp only [Act.put, List.setIfInBounds_toArray, List.set_cons_zero, List.set_cons_succ]
                  refine wpAnyH_take (i := 15) (oi := ?oi_k21) (v := ?v_k21) ?hi_k21 (by kernel_rfl) ?hf_k21 ?hr_k21 ?hQ_k21 (Or.inl ⟨?hw_k21, ?hy_k21⟩) (by assumption) ?rest_k21
                  case hi_k21 => ((simp only [List.getElem?_toArray, List.getElem?_cons_succ, List.getElem?_cons_zero]); rfl)
                  case hf_k21 => kernel_rfl
                  case hr_k21 => kernel_rfl
                  case hQ_k21 => exact fun _ _ _ h => h
                  case hw_k21 => rfl
                  case hy_k21 => ((intro w hSw; (try dsimp only at hSw); go_simp); all_goals (with_reducible rfl))
                  try simp only [Act.put, List.setIfInBounds_toArray, List.set_cons_zero, List.set_cons_succ]
                  refine wpAnyH_ready (rs := [8]) (by kernel_rfl) (by simp) ?_
                  refine AllReadyH.cons (o := ?p1_11) ?hp_11 (fun K hK => ?rp_11) AllReadyH.nil
                  case hp_11 => ((simp only [List.getElem?_toArray, List.getElem?_cons_succ, List.getElem?_cons_zero]); rfl)
                  go_simp
                  refine mk_step (K' := K _) (c := ph) ?_
                  intro wq hrq hbq hgq
                  have NER8 := Lib.hid (own_ne HO.out)
                  have GLR8 := Lib.hid hgq
                  have R8 := Lib.hid hrq
                  replace HO := Lib.hid (HO.out.later hbq)
                  replace hbel := belStep hbel hbq
                  clear hrq hbq hgq
                  refine hK.out _ _ (by exact (show Below W1.heap.size W1 _ by repeat (first | assumption | exact Below.refl _ _ | refine belDrew ?_ | refine belAlloc ?_ _ | refine belStep ?_ (by assumption)))) (fun hHeld => ?_)
                  clear hK K
                  try simp only [Act.put, List.setIfInBounds_toArray, List.set_cons_zero, List.set_cons_succ]
                  refine wpAnyH_ready (rs := [9]) (by kernel_rfl) (by simp) ?_
                  refine AllReadyH.cons (o := ?p1_12) ?hp_12 (fun K hK => ?rp_12) AllReadyH.nil
                  case hp_12 => ((simp only [List.getElem?_toArray, List.getElem?_cons_succ, List.getElem?_cons_zero]); rfl)
                  refine op_app rfl _ _ 28 rfl W1.heap.size 5 .u8 1 Try.underlying28 info_u8 _ _ rfl HO.out _ _ _ ([ph]) rfl (R8.out) (by simp) (by (first | omega | (unfold maxLen; omega) | (simp only [List.length_append, List.length_cons, List.length_nil, W8_len, maxLen]; omega) | (simp only [List.length_append, List.length_cons, List.length_nil, W8_len]; omega))) (by (first | omega | (unfold maxLen; omega) | (simp only [List.length_append, List.length_cons, List.length_nil, W8_len, maxLen]; omega) | (simp only [List.length_append, List.length_cons, List.length_nil, W8_len]; omega))) (Below.size (show Below W1.heap.size W1 _ from hbel)) ?_
                  intro vq wq hoq hbq hgq
                  have hbel2 := Below.trans hbel hbq
                  clear hbel
                  have hbel := hbel2
                  replace HO := Lib.hid hoq
                  clear hoq hbq hgq hbel2
                  refine hK.out _ _ (by exact (show Below W1.heap.size W1 _ by repeat (first | assumption | exact Below.refl _ _ | refine belDrew ?_ | refine belAlloc ?_ _ | refine belStep ?_ (by assumption)))) (fun hHeld => ?_)
                  clear hK K
                  try simp only [Act.put, List.setIfInBounds_toArray, List.set_cons_zero, List.set_cons_succ]
                  refine wpAnyH_ready (rs := [16]) (by kernel_rfl) (by simp) ?_
                  refine AllReadyH.cons (o := ?p1_13) ?hp_13 (fun K hK => ?rp_13) AllReadyH.nil
                  case hp_13 => ((simp only [List.getElem?_toArray, List.getElem?_cons_succ, List.getElem?_cons_zero]); rfl)
                  go_simp
                  (go_at_call 36; (with_reducible refine (CP.out _).mono ?_); rintro e wq ⟨vq, rfl, hoq, hbq⟩; obtain ⟨aq, cq, rfl, hiq⟩ := ints_of_own hoq HWF.out; rw [HNB.out] at hiq; have RP := Lib.hid hiq.1; replace HO := Lib.hid (HO.out.later hbq); replace hbel := belStep hbel hbq; clear hoq hbq hiq)
                  try go_simp
                  refine hK.out _ _ (by exact (show Below W1.heap.size W1 _ by repeat (first | assumption | exact Below.refl _ _ | refine belDrew ?_ | refine belAlloc ?_ _ | refine belStep ?_ (by assumption)))) (fun hHeld => ?_)
                  clear hK K
                  try simp only [Act.put, List.setIfInBounds_toArray, List.set_cons_zero, List.set_cons_succ]
                  refine wpAnyH_ready (rs := [17]) (by kernel_rfl) (by simp) ?_
                  refine AllReadyH.cons (o := ?p1_14) ?hp_14 (fun K hK => ?rp_14) AllReadyH.nil
                  case hp_14 => ((simp only [List.getElem?_toArray, List.getElem?_cons_succ, List.getElem?_cons_zero]); rfl)
                  refine op_app rfl _ _ 28 rfl W1.heap.size 5 .u8 1 Try.underlying28 info_u8 _ _ rfl HO.out _ _ _ (pb) rfl (RP.out) (HNE.out) (by (first | omega | (unfold maxLen; omega) | (simp only [List.length_append, List.length_cons, List.length_nil, W8_len, maxLen]; omega) | (simp only [List.length_append, List.length_cons, List.length_nil, W8_len]; omega))) (by (first | omega | (unfold maxLen; omega) | (simp only [List.length_append, List.length_cons, List.length_nil, W8_len, maxLen]; omega) | (simp only [List.length_append, List.length_cons, List.length_nil, W8_len]; omega))) (Below.size (show Below W1.heap.size W1 _ from hbel)) ?_
                  intro vq wq hoq hbq hgq
                  have hbel2 := Below.trans hbel hbq
                  clear hbel
                  have hbel := hbel2
                  replace HO := Lib.hid hoq
                  clear hoq hbq hgq hbel2
                  refine hK.out _ _ (by exact (show Below W1.heap.size W1 _ by repeat (first | assumption | exact Below.refl _ _ | refine belDrew ?_ | refine belAlloc ?_ _ | refine belStep ?_ (by assumption)))) (fun hHeld => ?_)
                  clear hK K
                  try simp only [Act.put, List.setIfInBounds_toArray, List.set_cons_zero, List.set_cons_succ]
                  refine wpAnyH_ready (rs := [18]) (by kernel_rfl) (by simp) ?_
                  refine AllReadyH.cons (o := ?p1_15) ?hp_15 (fun K hK => ?rp_15) AllReadyH.nil
                  case hp_15 => ((simp only [List.getElem?_toArray, List.getElem?_cons_succ, List.getElem?_cons_zero]); rfl)
                  go_simp
                  refine hK.out _ _ (by exact (show Below W1.heap.size W1 _ by repeat (first | assumption | exact Below.refl _ _ | refine belDrew ?_ | refine belAlloc ?_ _ | refine belStep ?_ (by assumption)))) (fun hHeld => ?_)
                  clear hK K
                  try simp only [Act.put, List.setIfInBounds_toArray, List.set_cons_zero, List.set_cons_succ]
                  refine wpAnyH_done (by kernel_rfl) ?_ _
                  clear hHeld
                  go_wp2
                  go_roundw
                  case rel => exact ⟨k + 1, by omega, by push_cast; rfl, by rw [HXE.out, ← List.append_assoc, HPRE.out]; simpa using HO.out, hbel⟩
                  case measure => simp [intOf] <;> omega
                · obtain rfl : k = L.length := by omega
                  have hd9 : decide ((L.length : Int) < (L.length : Int)) = false := decide_eq_false (by omega)
                  have HF := Lib.hid (show hd ++ (L.take L.length).flatMap EntV.bytes = stBytes rn ⟨oa, ob, oc⟩ L by rw [List.take_length, ← HHD.out, ← HFG.out]; unfold stBytes; simp)
                  rw [HF.out] at HO
                  go_wp2
                  go_ret
                  exact ⟨_, rfl, OwnI.mono HO.out (by have := HW1.out.size; exact this), belStep HW1.out hbel⟩
          clear a1
          rcases Bool.eq_false_or_eq_true oc with h9 | h9
          · rw [h9] at t4
            go_wp2
            all_goals (first | (rw [HF1.out]; simp [*]; done) | (have hq := HF1.out; simp_all; done) | (simp [*]; done) | omega)
          · rw [h9] at t4
            go_wp2
            all_goals (first | (rw [HF1.out]; simp [*]; done) | (have hq := HF1.out; simp_all; done) | (simp [*]; done) | omega)
        clear a1
        rcases Bool.eq_false_or_eq_true ob with h9 | h9
        · rw [h9] at t3
          go_wp2
          all_goals (first | (rw [HF0.out]; simp [*]; done) | (have hq := HF0.out; simp_all; done) | (simp [*]; done) | omega)
        · rw [h9] at t3
          go_wp2
          all_goals (first | (rw [HF0.out]; simp [*]; done) | (have hq := HF0.out; simp_all; done) | (simp [*]; done) | omega)
      clear a1
      rcases Bool.eq_false_or_eq_true oa with h9 | h9
      · rw [h9] at t2
        go_wp2
        all_goals (first | (rw [h9]; simp [*]; done) | (have hq := h9; simp_all; done) | (simp [*]; done) | omega)
      · rw [h9] at t2
        go_wp2
        all_goals (first | (rw [h9]; simp [*]; done) | (have hq := h9; simp_all; done) | (simp [*]; done) | omega)
theorem sref_PutI (r : Int) (a : Option Addr) (n c : Nat) (o : On) (L : List EntV) (w : World) (hl : L.length = n) (hok : ∀ x ∈ L, x.ok) (hR : Row w a n c 12 (L.flatMap EntV.cells)) (hr : stB r L = true) :
    Calls Try.prog 17 #[.agg #[.int .i64 r, .slice a n c, .bool o.a, .bool o.b, .bool o.c]] w fun e w' => ∃ b d, e = .returned (.slice b (stBytes r.toNat o L).length d) ∧ Ints .u8 w' b (stBytes r.toNat o L).length d (stBytes r.toNat o L) ∧ Below w.heap.size w w' := by
  obtain ⟨h0, _, _⟩ := st_nums hr
  obtain ⟨rn, rfl⟩ := Int.eq_ofNat_of_zero_le h0
  rw [Int.toNat_natCast]
  refine (sref_Put rn a n c o.a o.b o.c L w hl hok hR hr).mono ?_
  rintro e w' ⟨v, rfl, hown, hb⟩
  have hbb : Bytes (stBytes rn o L) := stBytes_B hok hr
  obtain ⟨b, d, rfl, hi⟩ := ints_of_own hown (fun m hm => wf8 _ (hbb m hm))
  exact ⟨b, d, rfl, hi, hb⟩
end Go.Proofs.Ytpmkhimmlpnbpaa
