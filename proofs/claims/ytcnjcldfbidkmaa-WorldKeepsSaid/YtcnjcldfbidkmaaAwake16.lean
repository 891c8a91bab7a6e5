
/- The fixed answers of layer 16's statements. -/
import Derived.Test.YtcnjcldfbidkmaaWlM
namespace Go.Proofs.Ytcnjcldfbidkmaa
open Go.RowKit Go.Sort
set_option linter.unusedVariables false
set_option linter.unusedSimpArgs false
def wa0 : WorldV := ⟨1, [], [], []⟩
def wa1 : WorldV := ⟨1, [false], [], []⟩
def wa2 : WorldV := ⟨1, [false], [⟨⟨#[112]⟩, 1, 0, 3⟩], []⟩
def wa3 : WorldV := ⟨1, [], [⟨⟨#[112]⟩, 1, 1, 3⟩], []⟩
def wa4 : WorldV := ⟨1, [], [⟨⟨#[112]⟩, 2, 0, 5⟩], [⟨⟨#[119, 101, 98]⟩, 9, 5⟩]⟩
def wa5 : WorldV := ⟨1, [], [⟨⟨#[112]⟩, 3, 0, 6⟩], [⟨⟨#[119, 101, 98]⟩, 9, 5⟩]⟩
theorem wg0 : wa0.Good 0 := good_new 1
theorem wq1 : feedE wa0 [false] = 0 ∧ wa0.fed [false] = wa1 := ⟨by kernel_rfl, by kernel_rfl⟩
theorem wg1 : wa1.Good 0 := wq1.2 ▸ good_fed wg0 _
theorem wq2 : createE wa1.boxes ⟨#[112]⟩ = 0 ∧ ({ wa1 with boxes := createC wa1.boxes ⟨#[112]⟩ 3 } : WorldV) = wa2 := ⟨by kernel_rfl, by kernel_rfl⟩
theorem inI3 : InI 3 ∧ InI 4 ∧ InI 5 ∧ InI 6 ∧ InI 2 := by unfold InI; simp
theorem one_max : (⟨#[112]⟩ : ByteArray).size ≤ maxLen := by show 1 ≤ maxLen; unfold maxLen; omega
theorem wg2 : wa2.Good 1 := wq2.2 ▸ good_create wg1 one_max inI3.1
theorem wq2b : createE wa2.boxes ⟨#[112]⟩ = 5 ∧ ({ wa2 with boxes := createC wa2.boxes ⟨#[112]⟩ 3 } : WorldV) = wa2 := ⟨by kernel_rfl, by kernel_rfl⟩
theorem wq3 : mayC wa2.boxes ⟨#[112]⟩ 1 = 0 ∧ pullB wa2 ⟨#[112]⟩ ⟨#[119, 101, 98]⟩ = false ∧ pullN wa2 ⟨#[112]⟩ ⟨#[119, 101, 98]⟩ = false ∧ pullW wa2 ⟨#[112]⟩ ⟨#[119, 101, 98]⟩ 9 4 = wa3 := ⟨by kernel_rfl, by kernel_rfl, by kernel_rfl, by kernel_rfl⟩
theorem wg3 : wa3.Good 2 := wq3.2.2.2 ▸ good_pull wg2 _ _ _ inI3.2.1
theorem wq4 : mayC wa3.boxes ⟨#[112]⟩ 1 = 0 ∧ pullB wa3 ⟨#[112]⟩ ⟨#[119, 101, 98]⟩ = true ∧ pullN wa3 ⟨#[112]⟩ ⟨#[119, 101, 98]⟩ = true ∧ pullW wa3 ⟨#[112]⟩ ⟨#[119, 101, 98]⟩ 9 5 = wa4 := ⟨by kernel_rfl, by kernel_rfl, by kernel_rfl, by kernel_rfl⟩
theorem wg4 : wa4.Good 3 := wq4.2.2.2 ▸ good_pull wg3 _ _ _ inI3.2.2.1
theorem wq5 : askC wa4 ⟨#[112]⟩ 2 = 0 ∧ askB wa4 ⟨#[112]⟩ 2 = true ∧ askW wa4 ⟨#[112]⟩ 2 6 = wa5 := ⟨by kernel_rfl, by kernel_rfl, by kernel_rfl⟩
theorem wg5 : wa5.Good 3 := wq5.2.2 ▸ good_ask wg4 _ _ inI3.2.2.2.1
theorem wq6 : askC wa5 ⟨#[113]⟩ 2 = 4 ∧ askB wa5 ⟨#[113]⟩ 2 = false ∧ askW wa5 ⟨#[113]⟩ 2 6 = wa5 := ⟨by kernel_rfl, by kernel_rfl, by kernel_rfl⟩
theorem wq7 : thereC wa5.boxes ⟨#[112]⟩ = true ∧ (fndC wa5.boxes ⟨#[112]⟩).state = 3 ∧ (fndC wa5.boxes ⟨#[112]⟩).tries = 0 := ⟨by kernel_rfl, by kernel_rfl, by kernel_rfl⟩
set_option maxRecDepth 100000 in
set_option maxHeartbeats 16000000 in
theorem awake16 (w : World) :
    Calls Try.prog 16 #[] w fun e w' => e = .returned (.bool true) ∧ Below w.heap.size w w' := by
  have hw : Below w.heap.size w w := Below.refl _ _
  have hbel := hw
  obtain ⟨M, hM⟩ : ∃ M, w.heap.size = M := ⟨_, rfl⟩
  have C0 := Lib.hid (show Calls Try.prog 18 #[.int .i64 1] w fun e w' => e = .returned (.pointer (some ⟨M, 0, none⟩)) ∧ WL w w' M [] wa0 ∧ Below w.heap.size w w' from hM ▸ wl_New 1 w w hw)
  have C1 := Lib.hid (fun u (h : WL w u M [] wa0) d c hr => wl_Feed w u M [] wa0 0 h wg0 (by omega) d 1 c [false] 0 wa1 rfl hr (by omega) wq1.1 wq1.2)
  have C2 := Lib.hid (fun u (h : WL w u M [] wa1) => wl_Create w u M [] wa1 0 h wg1 (by omega) ⟨#[112]⟩ 3 0 wa2 wq2.1 wq2.2)
  have C3 := Lib.hid (fun u (h : WL w u M [] wa2) => wl_Create w u M [] wa2 1 h wg2 (by omega) ⟨#[112]⟩ 3 5 wa2 wq2b.1 wq2b.2)
  have C4 := Lib.hid (fun u (h : WL w u M [] wa2) => wl_Pull w u M [] wa2 1 h wg2 (by omega) ⟨#[112]⟩ ⟨#[119, 101, 98]⟩ 9 4 0 false false wa3 wq3.1 wq3.2.1 wq3.2.2.1 wq3.2.2.2)
  have C5 := Lib.hid (fun u (h : WL w u M [] wa3) => wl_Pull w u M [] wa3 2 h wg3 (by omega) ⟨#[112]⟩ ⟨#[119, 101, 98]⟩ 9 5 0 true true wa4 wq4.1 wq4.2.1 wq4.2.2.1 wq4.2.2.2)
  have C6 := Lib.hid (fun u (h : WL w u M [] wa4) => wl_Ask w u M [] wa4 3 h wg4 (by omega) ⟨#[112]⟩ 2 6 0 true wa5 inI3.2.2.2.2 wq5.1 wq5.2.1 wq5.2.2)
  have C7 := Lib.hid (fun u (h : WL w u M [] wa5) => wl_Ask w u M [] wa5 3 h wg5 (by omega) ⟨#[113]⟩ 2 6 4 false wa5 inI3.2.2.2.2 wq6.1 wq6.2.1 wq6.2.2)
  have C8 := Lib.hid (fun u (h : WL w u M [] wa5) => wl_Box w u M [] wa5 3 h wg5 (by omega) ⟨#[112]⟩ true 3 0 wq7.1 wq7.2.1 wq7.2.2)
  have C9 := Lib.hid (fun u (h : WL w u M [] wa5) => wl_Images w u M [] wa5 3 h wg5 (by omega) 1 rfl)
  have CA := Lib.hid (fun u (h : WL w u M [] wa5) => wl_Containers w u M [] wa5 3 h wg5 (by omega) 1 rfl)
  have CB := Lib.hid (fun u (h : WL w u M [] wa5) => wl_Waiting w u M [] wa5 3 h wg5 (by omega) 0 rfl)
  clear hM
  go_enter Try.func16, Try.ntmps16
  go_upto_region 4 with (go_at_call 18; (with_reducible refine (C0.out).mono ?_); rintro e w1 ⟨rfl, hS_, hb_⟩; have HS := Lib.hid hS_; clear hS_ hb_)
  have hRF := row_new w1 [.bool false] 4 1 1 rfl (by unfold maxLen; omega)
  have HRF := Lib.hid hRF
  replace HS := Lib.hid (HS.out.later (belAlloc (Below.refl _ _) (.cells #[.bool false] 4)))
  clear hRF
  go_upto_region 5 with (go_at_call 25; (with_reducible refine (C1.out _ HS.out _ _ HRF.out).mono ?_); rintro e w2 ⟨rfl, hS_, hK_, hz_⟩; replace HS := Lib.hid hS_; clear hS_ hK_ hz_)
  clear HRF
  go_upto_region 6 with (go_at_call 55; (with_reducible refine (C2.out _ HS.out).mono ?_); rintro e w3 ⟨rfl, hS_, hK_, hz_⟩; replace HS := Lib.hid hS_; clear hS_ hK_ hz_)
  go_upto_region 7 with (go_at_call 55; (with_reducible refine (C3.out _ HS.out).mono ?_); rintro e w4 ⟨rfl, hS_, hK_, hz_⟩; replace HS := Lib.hid hS_; clear hS_ hK_ hz_)
  go_upto_region 8 with (go_at_call 56; (with_reducible refine (C4.out _ HS.out).mono ?_); rintro e w5 ⟨rfl, hS_, hK_, hz_⟩; replace HS := Lib.hid hS_; clear hS_ hK_ hz_)
  go_upto_region 9 with (go_at_call 56; (with_reducible refine (C5.out _ HS.out).mono ?_); rintro e w6 ⟨rfl, hS_, hK_, hz_⟩; replace HS := Lib.hid hS_; clear hS_ hK_ hz_)
  go_upto_region 10 with (go_at_call 26; (with_reducible refine (C6.out _ HS.out).mono ?_); rintro e w7 ⟨rfl, hS_, hK_, hz_⟩; replace HS := Lib.hid hS_; clear hS_ hK_ hz_)
  go_upto_region 11 with (go_at_call 26; (with_reducible refine (C7.out _ HS.out).mono ?_); rintro e w8 ⟨rfl, hS_, hK_, hz_⟩; replace HS := Lib.hid hS_; clear hS_ hK_ hz_)
  go_upto_region 12 with (go_at_call 20; (with_reducible refine (C8.out _ HS.out).mono ?_); rintro e w9 ⟨rfl, hS_, hb_⟩; replace HS := Lib.hid hS_; clear hS_ hb_)
  have hX := Blk.new w9 [.int .i64 3, .int .i64 0] 38
  have HX := Lib.hid hX
  replace HS := Lib.hid (HS.out.later (belAlloc (Below.refl _ _) (.cells #[.int .i64 3, .int .i64 0] 38)))
  clear hX
  generalize w9.alloc (.cells #[.int .i64 3, .int .i64 0] 38) = W9 at *
  generalize w9.heap.size = xb at *
  have heq := fun u => show (Op.equalIn 10000 38 (.agg #[.int .i64 3, .int .i64 0]) (.agg #[.int .i64 3, .int .i64 0])).run Try.prog u = .ok true u from eq_box 3 0 3 0 u
  have heqi := fun u => show (Op.equalIn 10000 58 (.agg #[.string ⟨#[119, 101, 98]⟩, .int .i64 9, .int .i64 5]) (.agg #[.string ⟨#[119, 101, 98]⟩, .int .i64 9, .int .i64 5])).run Try.prog u = .ok true u from by have h := eq_img ⟨⟨#[119, 101, 98]⟩, 9, 5⟩ ⟨⟨#[119, 101, 98]⟩, 9, 5⟩ u; rwa [show eqImg (⟨⟨#[119, 101, 98]⟩, 9, 5⟩ : ImgV) ⟨⟨#[119, 101, 98]⟩, 9, 5⟩ = true from (eqImg_iff _ _).2 rfl] at h
  clear hw hbel
  have n0 : 0 < 1 := by omega
  go_wp2_with (first | (go_at_call 24; (with_reducible refine (C9.out _ HS.out).mono ?_); rintro e wA ⟨aI, cI, rfl, ho_, hr_, hS_, hb_⟩; have hX2 := HX.out.later hb_; have x0 := hX2.cell (j := 0) rfl; have x1 := hX2.cell (j := 1) rfl; obtain ⟨bI, oI, eI, _, hcI⟩ := hr_.elem ImgV.cells_len (by omega) (show wa5.images[0]? = some ⟨⟨#[119, 101, 98]⟩, 9, 5⟩ from rfl); subst eI; have i0 := hcI 0 _ rfl; have i1 := hcI 1 _ rfl; have i2 := hcI 2 _ rfl; simp only [Nat.zero_mul, Nat.add_zero] at i0 i1 i2; clear hcI hX2 ho_ hr_; replace HS := Lib.hid hS_; clear hS_ hb_) | (go_at_call 23; (with_reducible refine (CA.out _ HS.out).mono ?_); rintro e wB ⟨aB, cB, rfl, ho_, hr_, hS_, hb_⟩; replace HS := Lib.hid hS_; clear hS_ hb_ ho_ hr_) | (go_at_call 29; (with_reducible refine (CB.out _ HS.out).mono ?_); rintro e wC ⟨aC, cC, rfl, ho_, hr_, hS_, hb_⟩; replace HS := Lib.hid hS_; clear hS_ hb_ ho_ hr_))
  go_ret
  exact ⟨rfl, HS.out.below⟩
end Go.Proofs.Ytcnjcldfbidkmaa
