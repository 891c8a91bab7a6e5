
/- WorldBreaks holds for all its arguments. No conditions. -/
import Derived.Test.YtampkolkbjmmkaaWl5
namespace Go.Proofs.Ytampkolkbjmmkaa.worldBreaks
open Go.ChangeShapes Go.WideShapes Go.ChangeAt Go.RowKit
open Go.ChangeMaps (open_string shut_string)
set_option linter.unusedVariables false
set_option linter.unusedSimpArgs false
open Go.Sort
def bk0 (r : Nat) : WorldV := ⟨r, [], [], []⟩
def bk1 (r : Nat) : WorldV := ⟨r, [], [⟨⟨#[112]⟩, 1, 0, 1⟩], []⟩
def bk2 (r : Nat) : WorldV := ⟨r, [], [⟨⟨#[112]⟩, 2, 0, 2⟩], [⟨⟨#[119, 101, 98]⟩, 1, 2⟩]⟩
def bk3 (r : Nat) : WorldV := ⟨r, [], [⟨⟨#[112]⟩, 3, 0, 3⟩], [⟨⟨#[119, 101, 98]⟩, 1, 2⟩]⟩
def bS (r k : Nat) : Int := if k = r + 1 then 6 else 3
def bk (r f k : Nat) : WorldV := ⟨r, List.replicate (f - k) false, [⟨⟨#[112]⟩, bS r k, k, 3⟩], [⟨⟨#[119, 101, 98]⟩, 1, 2⟩]⟩
def bk5 (r : Nat) : WorldV := ⟨r, [], [⟨⟨#[112]⟩, 4, 0, 5⟩], [⟨⟨#[119, 101, 98]⟩, 1, 2⟩]⟩
theorem bp_max : (⟨#[112]⟩ : ByteArray).size ≤ maxLen := by show 1 ≤ maxLen; unfold maxLen; omega
theorem bq1 (r : Nat) : createE (bk0 r).boxes ⟨#[112]⟩ = 0 ∧ ({ bk0 r with boxes := createC (bk0 r).boxes ⟨#[112]⟩ 1 } : WorldV) = bk1 r := ⟨by kernel_rfl, by kernel_rfl⟩
theorem bg1 (r : Nat) : (bk1 r).Good 1 := (bq1 r).2 ▸ good_create (good_new r) bp_max (by unfold InI; simp)
theorem bq2 (r : Nat) : mayC (bk1 r).boxes ⟨#[112]⟩ 1 = 0 ∧ pullB (bk1 r) ⟨#[112]⟩ ⟨#[119, 101, 98]⟩ = true ∧ pullN (bk1 r) ⟨#[112]⟩ ⟨#[119, 101, 98]⟩ = true ∧ pullW (bk1 r) ⟨#[112]⟩ ⟨#[119, 101, 98]⟩ 1 2 = bk2 r := ⟨by kernel_rfl, by kernel_rfl, by kernel_rfl, by kernel_rfl⟩
theorem bg2 (r : Nat) : (bk2 r).Good 2 := (bq2 r).2.2.2 ▸ good_pull (bg1 r) _ _ _ (by unfold InI; simp)
theorem bq3 (r : Nat) : askC (bk2 r) ⟨#[112]⟩ 2 = 0 ∧ askB (bk2 r) ⟨#[112]⟩ 2 = true ∧ askW (bk2 r) ⟨#[112]⟩ 2 3 = bk3 r := ⟨by kernel_rfl, by kernel_rfl, by kernel_rfl⟩
theorem bg3 (r : Nat) : (bk3 r).Good 2 := (bq3 r).2.2 ▸ good_ask (bg2 r) _ _ (by unfold InI; simp)
theorem bS_0 (r : Nat) : bS r 0 = 3 := by unfold bS; rw [if_neg (by omega)]
theorem bq4 {r f : Nat} (hf : f ≤ 40) : feedE (bk3 r) (List.replicate f false) = 0 ∧ (bk3 r).fed (List.replicate f false) = bk r f 0 := by
  unfold feedE WorldV.fed
  rw [rep_len, if_neg (by show ¬ 4096 < 0 + f; omega), if_neg (by show ¬ 4096 < 0 + f; omega)]
  refine ⟨rfl, ?_⟩
  unfold bk bk3
  rw [bS_0]
  rfl
theorem bg {r f : Nat} (hf : f ≤ 40) : ∀ k : Nat, k ≤ 100 → (bk r f k).Good 2 := by
  intro k hk
  refine ⟨List.pairwise_singleton _ _, List.pairwise_singleton _ _, by show 1 ≤ 2; omega, by show 1 ≤ 2; omega, by show (List.replicate (f - k) false).length ≤ 4096; rw [rep_len]; omega, ?_⟩
  intro x hx
  have hx2 : x = ⟨⟨#[112]⟩, bS r k, k, 3⟩ := by simpa [bk] using hx
  subst hx2
  refine ⟨⟨bp_max, ?_, ?_, by unfold InI; simp⟩, ?_⟩
  · show InI (bS r k); unfold bS InI; split <;> omega
  · show InI (k : Int); unfold InI; omega
  · show bS r k ≠ 5; unfold bS; split <;> decide
theorem bq5 {r f k : Nat} (hk : k < f) (hr : k ≤ r) (hr2 : r ≤ 100) : askC (bk r f k) ⟨#[112]⟩ 3 = 0 ∧ askB (bk r f k) ⟨#[112]⟩ 3 = false ∧ askW (bk r f k) ⟨#[112]⟩ 3 4 = bk r f (k + 1) := by
  have hs : bS r k = 3 := by unfold bS; rw [if_neg (by omega)]
  have e : bk r f k = ⟨r, List.replicate (f - k) false, [⟨⟨#[112]⟩, 3, k, 3⟩], [⟨⟨#[119, 101, 98]⟩, 1, 2⟩]⟩ := by unfold bk; rw [hs]
  obtain ⟨q, hq⟩ : ∃ q, f - k = q + 1 := ⟨f - k - 1, by omega⟩
  have ht : takeB (List.replicate (f - k) false) = false := by rw [hq]; rfl
  rw [e]
  refine ⟨askC_one (x := ⟨⟨#[112]⟩, 3, k, 3⟩) rfl (show toS 3 3 ≠ 0 by decide) (by decide), (askB_one (x := ⟨⟨#[112]⟩, 3, k, 3⟩) rfl (show toS 3 3 ≠ 0 by decide) (by decide)).trans ht, ?_⟩
  show askW ⟨_, _, [⟨⟨#[112]⟩, 3, k, 3⟩], _⟩ (⟨⟨#[112]⟩, 3, k, 3⟩ : ContV).id 3 4 = _
  rw [askW_one (show toS 3 3 ≠ 0 by decide) (by decide), ht]
  have hn : newC ⟨⟨#[112]⟩, 3, k, 3⟩ 3 false 4 r = ⟨⟨#[112]⟩, bS r (k + 1), ((k + 1 : Nat) : Int), 3⟩ := by
    have h1 : satAdd (k : Int) 1 = (k : Int) + 1 := by rw [satAdd_1]; split <;> omega
    unfold newC
    have hd : doS 3 (k : Int) 3 false (r : Int) = bS r (k + 1) := by
      unfold doS failS bS
      rw [if_neg (show ¬ toS 3 3 = 0 by decide), h1]
      simp only [Bool.false_eq_true, if_false]
      by_cases e2 : k = r
      · rw [if_pos (by omega), if_pos (by omega)]
      · rw [if_neg (by omega), if_neg (by omega)]
    have hd2 : doN 3 (k : Int) 3 false (r : Int) = ((k + 1 : Nat) : Int) := by
      unfold doN
      rw [if_neg (show ¬ toS 3 3 = 0 by decide), h1]
      simp
    dsimp only
    rw [hd, hd2]
    rfl
  rw [hn, if_neg (show ¬ bS r (k + 1) = 5 by unfold bS; split <;> decide)]
  unfold bk
  rw [List.tail_replicate, Nat.sub_add_eq]
theorem bq6 {r f : Nat} : askC (bk r f (r + 1)) ⟨#[112]⟩ 3 = 7 ∧ askB (bk r f (r + 1)) ⟨#[112]⟩ 3 = false ∧ askW (bk r f (r + 1)) ⟨#[112]⟩ 3 5 = bk r f (r + 1) := by
  have hs : bS r (r + 1) = 6 := by unfold bS; rw [if_pos rfl]
  have hm : mayC (bk r f (r + 1)).boxes ⟨#[112]⟩ 3 = 7 := by
    show mayC [⟨⟨#[112]⟩, bS r (r + 1), ((r + 1 : Nat) : Int), 3⟩] (⟨⟨#[112]⟩, bS r (r + 1), ((r + 1 : Nat) : Int), 3⟩ : ContV).id 3 = 7
    rw [mayC_one]
    show (if toS (bS r (r + 1)) 3 = 0 then (7 : Int) else 0) = 7
    rw [hs]; rfl
  have hc : askC (bk r f (r + 1)) ⟨#[112]⟩ 3 = 7 := by unfold askC; rw [hm]; rfl
  refine ⟨hc, ?_, ?_⟩
  · unfold askB; rw [hc]; rfl
  · unfold askW; rw [hc]; rfl
theorem bq7 {r f : Nat} (h : f ≤ r) : askC (bk r f f) ⟨#[112]⟩ 3 = 0 ∧ askB (bk r f f) ⟨#[112]⟩ 3 = true ∧ askW (bk r f f) ⟨#[112]⟩ 3 5 = bk5 r := by
  have hs : bS r f = 3 := by unfold bS; rw [if_neg (by omega)]
  have e : bk r f f = ⟨r, [], [⟨⟨#[112]⟩, 3, f, 3⟩], [⟨⟨#[119, 101, 98]⟩, 1, 2⟩]⟩ := by unfold bk; rw [hs, Nat.sub_self]; rfl
  rw [e]
  refine ⟨askC_one (x := ⟨⟨#[112]⟩, 3, f, 3⟩) rfl (show toS 3 3 ≠ 0 by decide) (by decide), askB_one (x := ⟨⟨#[112]⟩, 3, f, 3⟩) rfl (show toS 3 3 ≠ 0 by decide) (by decide), ?_⟩
  show askW ⟨_, _, [⟨⟨#[112]⟩, 3, f, 3⟩], _⟩ (⟨⟨#[112]⟩, 3, f, 3⟩ : ContV).id 3 5 = _
  rw [askW_one (show toS 3 3 ≠ 0 by decide) (by decide)]
  rfl
theorem bx (s t q : Int) : thereC [(⟨⟨#[112]⟩, s, t, q⟩ : ContV)] ⟨#[112]⟩ = true ∧ (fndC [(⟨⟨#[112]⟩, s, t, q⟩ : ContV)] ⟨#[112]⟩).state = s ∧ (fndC [(⟨⟨#[112]⟩, s, t, q⟩ : ContV)] ⟨#[112]⟩).tries = t := by
  have e : fndC [(⟨⟨#[112]⟩, s, t, q⟩ : ContV)] ⟨#[112]⟩ = ⟨⟨#[112]⟩, s, t, q⟩ := fndC_one ⟨⟨#[112]⟩, s, t, q⟩
  exact ⟨thereC_one ⟨⟨#[112]⟩, s, t, q⟩, by rw [e], by rw [e]⟩
theorem bg5 (r : Nat) : (bk5 r).Good 2 := (bq7 (r := r) (f := 0) (Nat.zero_le _)).2.2 ▸ good_ask (bg (by omega) 0 (by omega)) _ _ (by unfold InI; simp)
set_option maxRecDepth 100000 in
set_option maxHeartbeats 32000000 in
theorem walk (a0 b0 : Int) (w : World) (ha : 0 ≤ a0 ∧ a0 ≤ 255) (hb : 0 ≤ b0 ∧ b0 ≤ 255) :
    Calls Try.prog 14 #[.int .u8 a0, .int .u8 b0] w fun e w' => e = .returned (.bool true) ∧ Below w.heap.size w w' := by
  have hw : Below w.heap.size w w := Below.refl _ _
  have hbel := hw
  obtain ⟨ha0, ha9⟩ := ha
  obtain ⟨hb0, hb9⟩ := hb
  obtain ⟨r, hr, _, hrl⟩ := turn_to (n := 30) ha0 (by omega)
  obtain ⟨f, hf, _, hfl⟩ := turn_to (n := 40) hb0 (by omega)
  have hr2 : Int.tmod a0 30 = (r : Int) := hr
  have hf2 : Int.tmod b0 40 = (f : Int) := hf
  clear hr hf
  have hw8r : IntKind.u8.wrap (r : Int) = (r : Int) := IntWalk.u8_in _ (by omega)
  have hw6r : IntKind.i64.wrap (r : Int) = (r : Int) := IntWalk.i64_in _ (by omega)
  have hw8f : IntKind.u8.wrap (f : Int) = (f : Int) := IntWalk.u8_in _ (by omega)
  have hw6f : IntKind.i64.wrap (f : Int) = (f : Int) := IntWalk.i64_in _ (by omega)
  go_enter Try.func14, Try.ntmps14
  go_upto_region 8 with (first | (go_at_call 37; (with_reducible refine (awake16 _).mono ?_); rintro e w1 ⟨rfl, hb1⟩; replace hbel := belStep hbel hb1; clear hb1) | (go_at_call 39; (with_reducible refine (wl_NewM r w _ hbel).mono ?_); rintro e w1 ⟨M, rfl, hS_, hb_⟩; have HS := Lib.hid hS_; clear hS_ hb_))
  clear hbel hr2 hf2 ha0 ha9 hb0 hb9 hw
  have C1 := Lib.hid (fun u (h : WL w u M [] (bk0 r)) => wl_Create w u M [] (bk0 r) 0 h (good_new r) (by omega) ⟨#[112]⟩ 1 0 (bk1 r) (bq1 r).1 (bq1 r).2)
  have C2 := Lib.hid (fun u (h : WL w u M [] (bk1 r)) => wl_Pull w u M [] (bk1 r) 1 h (bg1 r) (by omega) ⟨#[112]⟩ ⟨#[119, 101, 98]⟩ 1 2 0 true true (bk2 r) (bq2 r).1 (bq2 r).2.1 (bq2 r).2.2.1 (bq2 r).2.2.2)
  have C3 := Lib.hid (fun u (h : WL w u M [] (bk2 r)) => wl_Ask w u M [] (bk2 r) 2 h (bg2 r) (by omega) ⟨#[112]⟩ 2 3 0 true (bk3 r) (by unfold InI; omega) (bq3 r).1 (bq3 r).2.1 (bq3 r).2.2)
  have C4 := Lib.hid (fun u d c (h : WL w u M [] (bk3 r)) hr => wl_Feed w u M [] (bk3 r) 2 h (bg3 r) (by omega) d f c (List.replicate f false) 0 (bk r f 0) (rep_len f false) hr (by omega) (bq4 (by omega)).1 (bq4 (by omega)).2)
  go_upto_region 9 with (go_at_call 45; (with_reducible refine (C1.out _ HS.out).mono ?_); rintro e w2 ⟨rfl, hS_, hK_, hz_⟩; replace HS := Lib.hid hS_; clear hS_ hK_ hz_)
  go_upto_region 10 with (go_at_call 46; (with_reducible refine (C2.out _ HS.out).mono ?_); rintro e w3 ⟨rfl, hS_, hK_, hz_⟩; replace HS := Lib.hid hS_; clear hS_ hK_ hz_)
  go_upto_region 11 with (go_at_call 50; (with_reducible refine (C3.out _ HS.out).mono ?_); rintro e w4 ⟨rfl, hS_, hK_, hz_⟩; replace HS := Lib.hid hS_; clear hS_ hK_ hz_)
  have hbel := HS.out.below
  refine wp_region_held_drew (S := fun u => Below w.heap.size w u) (by kernel_rfl) (by exact (show Below w.heap.size w _ by repeat (first | assumption | exact Below.refl _ _ | refine belDrew ?_ | refine belAlloc ?_ _ | refine belStep ?_ (by assumption)))) (fun hHeld => ?_)
  refine wpAnyH_take (i := 0) (oi := ?oi_k1) (v := ?v_k1) ?hi_k1 (by kernel_rfl) ?hf_k1 ?hr_k1 ?hQ_k1 (Or.inl ⟨?hw_k1, ?hy_k1⟩) (by assumption) ?rest_k1
  case hi_k1 => ((simp only [List.getElem?_toArray, List.getElem?_cons_succ, List.getElem?_cons_zero]); rfl)
  case hf_k1 => kernel_rfl
  case hr_k1 => kernel_rfl
  case hQ_k1 => exact fun _ _ _ h => h
  case hw_k1 => rfl
  case hy_k1 => ((intro w hSw; (try dsimp only at hSw); go_simp); all_goals (with_reducible rfl))
  try simp only [Act.put, List.setIfInBounds_toArray, List.set_cons_zero, List.set_cons_succ]
  refine wpAnyH_take (i := 1) (oi := ?oi_k2) (v := ?v_k2) ?hi_k2 (by kernel_rfl) ?hf_k2 ?hr_k2 ?hQ_k2 (Or.inl ⟨?hw_k2, ?hy_k2⟩) (by assumption) ?rest_k2
  case hi_k2 => ((simp only [List.getElem?_toArray, List.getElem?_cons_succ, List.getElem?_cons_zero]); rfl)
  case hf_k2 => kernel_rfl
  case hr_k2 => kernel_rfl
  case hQ_k2 => exact fun _ _ _ h => h
  case hw_k2 => rfl
  case hy_k2 => ((intro w hSw; (try dsimp only at hSw); go_simp); all_goals (with_reducible rfl))
  try simp only [Act.put, List.setIfInBounds_toArray, List.set_cons_zero, List.set_cons_succ]
  refine wpAnyH_take (i := 2) (oi := ?oi_k3) (v := ?v_k3) ?hi_k3 (by kernel_rfl) ?hf_k3 ?hr_k3 ?hQ_k3 (Or.inl ⟨?hw_k3, ?hy_k3⟩) (by assumption) ?rest_k3
  case hi_k3 => ((simp only [List.getElem?_toArray, List.getElem?_cons_succ, List.getElem?_cons_zero]); rfl)
  case hf_k3 => kernel_rfl
  case hr_k3 => kernel_rfl
  case hQ_k3 => exact fun _ _ _ h => h
  case hw_k3 => rfl
  case hy_k3 => ((intro w hSw; (try dsimp only at hSw); go_simp); all_goals (with_reducible rfl))
  try simp only [Act.put, List.setIfInBounds_toArray, List.set_cons_zero, List.set_cons_succ]
  refine wpAnyH_take (i := 3) (oi := ?oi_k4) (v := ?v_k4) ?hi_k4 (by kernel_rfl) ?hf_k4 ?hr_k4 ?hQ_k4 (Or.inl ⟨?hw_k4, ?hy_k4⟩) (by assumption) ?rest_k4
  case hi_k4 => ((simp only [List.getElem?_toArray, List.getElem?_cons_succ, List.getElem?_cons_zero]); rfl)
  case hf_k4 => kernel_rfl
  case hr_k4 => kernel_rfl
  case hQ_k4 => exact fun _ _ _ h => h
  case hw_k4 => rfl
  case hy_k4 => ((intro w hSw; (try dsimp only at hSw); go_simp); all_goals (with_reducible rfl))
  try simp only [Act.put, List.setIfInBounds_toArray, List.set_cons_zero, List.set_cons_succ]
  refine wpAnyH_ready (rs := [4]) (by kernel_rfl) (by simp) ?_
  refine AllReadyH.cons (o := ?o1_k5) ?hi_k5 (fun K hK => ?rest_k5) AllReadyH.nil
  case hi_k5 => ((simp only [List.getElem?_toArray, List.getElem?_cons_succ, List.getElem?_cons_zero]); rfl)
  refine op_makeB (by rfl) _ _ 40 rfl 4 Try.underlying40 info_boolI f rfl rfl (by omega) ?_
  intro w5 hr5 hb5
  have HS5 := Lib.hid (HS.out.later (belStep (belDrew (Below.refl _ _)) hb5))
  have hH5 := HS5.out.below
  replace hr5 : Row w5 (some ⟨w4.heap.size, 0, none⟩) f f 1 ((List.replicate f false).map Value.bool) := hr5
  refine hK.out _ _ (by exact hH5) (fun hHeld => ?_)
  clear hK K
  try simp only [Act.put, List.setIfInBounds_toArray, List.set_cons_zero, List.set_cons_succ]
  refine wpAnyH_ready (rs := [5]) (by kernel_rfl) (by simp) ?_
  refine AllReadyH.cons (o := ?o1_k6) ?hi_k6 (fun K hK => ?rest_k6) AllReadyH.nil
  case hi_k6 => ((simp only [List.getElem?_toArray, List.getElem?_cons_succ, List.getElem?_cons_zero]); rfl)
  go_simp
  (go_at_call 44; (with_reducible refine (C4.out _ _ _ HS5.out hr5).mono ?_); rintro e w6 ⟨rfl, hS_, hK_, hz_⟩)
  try go_simp
  have HS6 := Lib.hid hS_
  have hH6 := HS6.out.below
  refine hK.out _ _ (by exact hH6) (fun hHeld => ?_)
  clear hK K
  try simp only [Act.put, List.setIfInBounds_toArray, List.set_cons_zero, List.set_cons_succ]
  refine wpAnyH_done (by kernel_rfl) ?_ _
  clear hr5 hb5 hH5 HS5 HS hHeld hbel C1 C2 C3 C4 hS_ hK_ hz_ hH6
  generalize w6 = W6 at *
  go_wp2
  go_loopw [8] (fun iv wr => ∃ k : Nat, k ≤ f ∧ k ≤ r + 1 ∧ iv = .int .i64 k ∧ Hid (WL w wr M [] (bk r f k))) (fun iv _ => f - (intOf iv).toNat)
  case atStart => exact ⟨0, Nat.zero_le _, by omega, rfl, HS6⟩
  case round =>
    clear HS6
    obtain ⟨k, hk, hkr, rfl, HS⟩ := hrel
    by_cases hlt : k < f
    · have hd : decide ((k : Int) < (f : Int)) = true := decide_eq_true (by omega)
      have hdi : (k : Int) < (f : Int) := by omega
      by_cases hle : k ≤ r
      · have he : decide ((k : Int) ≤ (r : Int)) = true := decide_eq_true (by omega)
        have hei : (k : Int) ≤ (r : Int) := by omega
        have hwk : IntKind.i64.wrap ((k : Int) + 1) = (k : Int) + 1 := IntWalk.i64_in _ (by omega)
        have hcast : ((k + 1 : Nat) : Int) = (k : Int) + 1 := by push_cast; rfl
        have C5 := Lib.hid (fun u (h : WL w u M [] (bk r f k)) => wl_Ask w u M [] (bk r f k) 2 h (bg (by omega) k (by omega)) (by omega) ⟨#[112]⟩ 3 4 0 false (bk r f (k + 1)) (by unfold InI; omega) (bq5 hlt hle (by omega)).1 (bq5 hlt hle (by omega)).2.1 (bq5 hlt hle (by omega)).2.2)
        have C6 := Lib.hid (fun u (h : WL w u M [] (bk r f (k + 1))) => wl_Box w u M [] (bk r f (k + 1)) 2 h (bg (by omega) (k + 1) (by omega)) (by omega) ⟨#[112]⟩ true (bS r (k + 1)) ((k : Int) + 1) (bx _ _ _).1 (bx _ _ _).2.1 ((bx _ _ _).2.2.trans hcast))
        clear hcast
        by_cases hq : k = r
        · have hs : bS r (k + 1) = 6 := by unfold bS; rw [if_pos (by omega)]
          rw [hs] at C6
          clear hs
          have hqi : ((k : Int) == (r : Int)) = true := by rw [hq]; exact beq_self_eq_true _
          clear hq
          go_upto_region 17 with (first | (go_at_call 50; (with_reducible refine (C5.out _ HS.out).mono ?_); rintro e w7 ⟨rfl, hS_, hK_, hz_⟩; replace HS := Lib.hid hS_; clear hS_ hK_ hz_) | (go_at_call 41; (with_reducible refine (C6.out _ HS.out).mono ?_); rintro e w8 ⟨rfl, hS_, hb_⟩; replace HS := Lib.hid hS_; clear hS_ hb_))
          have hX := Blk.new w8 [.int .i64 6, .int .i64 ((k : Int) + 1)] 33
          replace HS := Lib.hid (HS.out.later (belAlloc (Below.refl _ _) (.cells #[.int .i64 6, .int .i64 ((k : Int) + 1)] 33)))
          generalize w8.alloc (.cells #[.int .i64 6, .int .i64 ((k : Int) + 1)] 33) = W8 at *
          generalize w8.heap.size = xb at *
          have x0 := hX.cell (j := 0) rfl
          have x1 := hX.cell (j := 1) rfl
          clear hX
          go_wp2
          go_roundw
          case rel => exact ⟨k + 1, by omega, by omega, by push_cast; rfl, HS⟩
          case measure => simp [intOf] <;> omega
        · have hs : bS r (k + 1) = 3 := by unfold bS; rw [if_neg (by omega)]
          rw [hs] at C6
          clear hs
          have hqi : ((k : Int) == (r : Int)) = false := by rw [beq_eq_false_iff_ne]; omega
          clear hq
          go_upto_region 17 with (first | (go_at_call 50; (with_reducible refine (C5.out _ HS.out).mono ?_); rintro e w7 ⟨rfl, hS_, hK_, hz_⟩; replace HS := Lib.hid hS_; clear hS_ hK_ hz_) | (go_at_call 41; (with_reducible refine (C6.out _ HS.out).mono ?_); rintro e w8 ⟨rfl, hS_, hb_⟩; replace HS := Lib.hid hS_; clear hS_ hb_))
          have hX := Blk.new w8 [.int .i64 3, .int .i64 ((k : Int) + 1)] 33
          replace HS := Lib.hid (HS.out.later (belAlloc (Below.refl _ _) (.cells #[.int .i64 3, .int .i64 ((k : Int) + 1)] 33)))
          generalize w8.alloc (.cells #[.int .i64 3, .int .i64 ((k : Int) + 1)] 33) = W8 at *
          generalize w8.heap.size = xb at *
          have x0 := hX.cell (j := 0) rfl
          have x1 := hX.cell (j := 1) rfl
          clear hX
          go_wp2
          go_roundw
          case rel => exact ⟨k + 1, by omega, by omega, by push_cast; rfl, HS⟩
          case measure => simp [intOf] <;> omega
      · have he : decide ((k : Int) ≤ (r : Int)) = false := decide_eq_false (by omega)
        have hei : ¬ (k : Int) ≤ (r : Int) := by omega
        replace HS := Lib.hid (show WL w wr M [] (bk r f (r + 1)) from (show k = (r + 1) by omega) ▸ HS.out)
        have hrf : r < f := by omega
        clear hle hlt
        have C7 := Lib.hid (fun u (h : WL w u M [] (bk r f (r + 1))) => wl_Ask w u M [] (bk r f (r + 1)) 2 h (bg (by omega) _ (by omega)) (by omega) ⟨#[112]⟩ 3 5 7 false (bk r f (r + 1)) (by unfold InI; omega) bq6.1 bq6.2.1 bq6.2.2)
        have hs : bS r (r + 1) = 6 := by unfold bS; rw [if_pos rfl]
        have C8 := Lib.hid (fun u (h : WL w u M [] (bk r f (r + 1))) => wl_Box w u M [] (bk r f (r + 1)) 2 h (bg (by omega) _ (by omega)) (by omega) ⟨#[112]⟩ true 6 ((r : Int) + 1) (bx _ _ _).1 ((bx _ _ _).2.1.trans hs) ((bx _ _ _).2.2.trans (by push_cast; rfl)))
        obtain ⟨l, hl⟩ : ∃ l, f - (r + 1) = l := ⟨_, rfl⟩
        have C9 := Lib.hid (fun u (h : WL w u M [] (bk r f (r + 1))) => wl_Waiting w u M [] (bk r f (r + 1)) 2 h (bg (by omega) _ (by omega)) (by omega) l (show (List.replicate (f - (r + 1)) false).length = l by rw [rep_len]; exact hl))
        have hg : decide ((r : Int) < (f : Int)) = true := decide_eq_true (by omega)
        have hgi : (r : Int) < (f : Int) := by omega
        have hwa : IntKind.i64.wrap ((f : Int) - (r : Int)) = (f : Int) - (r : Int) := IntWalk.i64_in _ (by omega)
        have hwb : IntKind.i64.wrap ((f : Int) - (r : Int) - 1) = (f : Int) - (r : Int) - 1 := IntWalk.i64_in _ (by omega)
        have hlq : ((l : Int) == (f : Int) - (r : Int) - 1) = true := by rw [show (l : Int) = (f : Int) - (r : Int) - 1 by omega]; exact beq_self_eq_true _
        have hl4 : l ≤ 4096 := by omega
        clear hl hs
        go_upto_region 21 with (first | (go_at_call 50; (with_reducible refine (C7.out _ HS.out).mono ?_); rintro e wA ⟨rfl, hS_, hK_, hz_⟩; replace HS := Lib.hid hS_; clear hS_ hK_ hz_) | (go_at_call 41; (with_reducible refine (C8.out _ HS.out).mono ?_); rintro e wB ⟨rfl, hS_, hb_⟩; replace HS := Lib.hid hS_; clear hS_ hb_))
        have hX := Blk.new wB [.int .i64 6, .int .i64 ((r : Int) + 1)] 33
        replace HS := Lib.hid (HS.out.later (belAlloc (Below.refl _ _) (.cells #[.int .i64 6, .int .i64 ((r : Int) + 1)] 33)))
        generalize wB.alloc (.cells #[.int .i64 6, .int .i64 ((r : Int) + 1)] 33) = WB at *
        generalize wB.heap.size = xb at *
        have x0 := hX.cell (j := 0) rfl
        have x1 := hX.cell (j := 1) rfl
        clear hX
        go_wp2_with (go_at_call 47; (with_reducible refine (C9.out _ HS.out).mono ?_); rintro e wC ⟨aC, cC, rfl, ho_, hr_, hS_, hb_⟩; replace HS := Lib.hid hS_; clear hS_ hb_ ho_ hr_)
        go_ret
        exact ⟨rfl, HS.out.below⟩
    · have hd : decide ((k : Int) < (f : Int)) = false := decide_eq_false (by omega)
      have hdi : ¬ (k : Int) < (f : Int) := by omega
      by_cases hfr : f ≤ r
      · replace HS := Lib.hid (show WL w wr M [] (bk r f f) from (show k = f by omega) ▸ HS.out)
        have C7 := Lib.hid (fun u (h : WL w u M [] (bk r f f)) => wl_Ask w u M [] (bk r f f) 2 h (bg (by omega) _ (by omega)) (by omega) ⟨#[112]⟩ 3 5 0 true (bk5 r) (by unfold InI; omega) (bq7 hfr).1 (bq7 hfr).2.1 (bq7 hfr).2.2)
        have C8 := Lib.hid (fun u (h : WL w u M [] (bk5 r)) => wl_Box w u M [] (bk5 r) 2 h (bg5 r) (by omega) ⟨#[112]⟩ true 4 0 (bx _ _ _).1 (bx _ _ _).2.1 (bx _ _ _).2.2)
        have C9 := Lib.hid (fun u (h : WL w u M [] (bk5 r)) => wl_Containers w u M [] (bk5 r) 2 h (bg5 r) (by omega) 1 rfl)
        have hg : decide ((r : Int) < (f : Int)) = false := decide_eq_false (by omega)
        have hgi : ¬ (r : Int) < (f : Int) := by omega
        have heq := fun u => show (Op.equalIn 10000 33 (.agg #[.int .i64 4, .int .i64 0]) (.agg #[.int .i64 4, .int .i64 0])).run Try.prog u = .ok true u from eq_box 4 0 4 0 u
        have n0 : 0 < 1 := by omega
        go_upto_region 21 with (first | (go_at_call 50; (with_reducible refine (C7.out _ HS.out).mono ?_); rintro e wA ⟨rfl, hS_, hK_, hz_⟩; replace HS := Lib.hid hS_; clear hS_ hK_ hz_) | (go_at_call 41; (with_reducible refine (C8.out _ HS.out).mono ?_); rintro e wB ⟨rfl, hS_, hb_⟩; replace HS := Lib.hid hS_; clear hS_ hb_))
        have hX := Blk.new wB [.int .i64 4, .int .i64 0] 33
        replace HS := Lib.hid (HS.out.later (belAlloc (Below.refl _ _) (.cells #[.int .i64 4, .int .i64 0] 33)))
        generalize wB.alloc (.cells #[.int .i64 4, .int .i64 0] 33) = WB at *
        generalize wB.heap.size = xb at *
        have x0 := hX.cell (j := 0) rfl
        have x1 := hX.cell (j := 1) rfl
        clear hX
        go_wp2_with (go_at_call 48; (with_reducible refine (C9.out _ HS.out).mono ?_); rintro e wC ⟨aC, cC, rfl, ho_, hr_, hS_, hb_⟩; obtain ⟨bI, oI, eI, _, hcI⟩ := hr_.elem ContV.cells_len (by omega) (show (bk5 r).boxes[0]? = some ⟨⟨#[112]⟩, 4, 0, 5⟩ from rfl); subst eI; have i3 := hcI 3 _ rfl; simp only [Nat.zero_mul, Nat.add_zero] at i3; clear hcI; replace HS := Lib.hid hS_; clear hS_ hb_ ho_ hr_)
        go_ret
        exact ⟨rfl, HS.out.below⟩
      · replace HS := Lib.hid (show WL w wr M [] (bk r f (r + 1)) from (show k = (r + 1) by omega) ▸ HS.out)
        have hrf : r < f := by omega
        clear hfr hlt
        have C7 := Lib.hid (fun u (h : WL w u M [] (bk r f (r + 1))) => wl_Ask w u M [] (bk r f (r + 1)) 2 h (bg (by omega) _ (by omega)) (by omega) ⟨#[112]⟩ 3 5 7 false (bk r f (r + 1)) (by unfold InI; omega) bq6.1 bq6.2.1 bq6.2.2)
        have hs : bS r (r + 1) = 6 := by unfold bS; rw [if_pos rfl]
        have C8 := Lib.hid (fun u (h : WL w u M [] (bk r f (r + 1))) => wl_Box w u M [] (bk r f (r + 1)) 2 h (bg (by omega) _ (by omega)) (by omega) ⟨#[112]⟩ true 6 ((r : Int) + 1) (bx _ _ _).1 ((bx _ _ _).2.1.trans hs) ((bx _ _ _).2.2.trans (by push_cast; rfl)))
        obtain ⟨l, hl⟩ : ∃ l, f - (r + 1) = l := ⟨_, rfl⟩
        have C9 := Lib.hid (fun u (h : WL w u M [] (bk r f (r + 1))) => wl_Waiting w u M [] (bk r f (r + 1)) 2 h (bg (by omega) _ (by omega)) (by omega) l (show (List.replicate (f - (r + 1)) false).length = l by rw [rep_len]; exact hl))
        have hg : decide ((r : Int) < (f : Int)) = true := decide_eq_true (by omega)
        have hgi : (r : Int) < (f : Int) := by omega
        have hwa : IntKind.i64.wrap ((f : Int) - (r : Int)) = (f : Int) - (r : Int) := IntWalk.i64_in _ (by omega)
        have hwb : IntKind.i64.wrap ((f : Int) - (r : Int) - 1) = (f : Int) - (r : Int) - 1 := IntWalk.i64_in _ (by omega)
        have hlq : ((l : Int) == (f : Int) - (r : Int) - 1) = true := by rw [show (l : Int) = (f : Int) - (r : Int) - 1 by omega]; exact beq_self_eq_true _
        have hl4 : l ≤ 4096 := by omega
        clear hl hs
        go_upto_region 21 with (first | (go_at_call 50; (with_reducible refine (C7.out _ HS.out).mono ?_); rintro e wA ⟨rfl, hS_, hK_, hz_⟩; replace HS := Lib.hid hS_; clear hS_ hK_ hz_) | (go_at_call 41; (with_reducible refine (C8.out _ HS.out).mono ?_); rintro e wB ⟨rfl, hS_, hb_⟩; replace HS := Lib.hid hS_; clear hS_ hb_))
        have hX := Blk.new wB [.int .i64 6, .int .i64 ((r : Int) + 1)] 33
        replace HS := Lib.hid (HS.out.later (belAlloc (Below.refl _ _) (.cells #[.int .i64 6, .int .i64 ((r : Int) + 1)] 33)))
        generalize wB.alloc (.cells #[.int .i64 6, .int .i64 ((r : Int) + 1)] 33) = WB at *
        generalize wB.heap.size = xb at *
        have x0 := hX.cell (j := 0) rfl
        have x1 := hX.cell (j := 1) rfl
        clear hX
        go_wp2_with (go_at_call 47; (with_reducible refine (C9.out _ HS.out).mono ?_); rintro e wC ⟨aC, cC, rfl, ho_, hr_, hS_, hb_⟩; replace HS := Lib.hid hS_; clear hS_ hb_ ho_ hr_)
        go_ret
        exact ⟨rfl, HS.out.below⟩

set_option maxRecDepth 100000 in
theorem lifted (os : Os) (started : os.Started) (H : Type) (enc : TypeId × Value → H) :
    ReturnsInHanded {} Try.checked os 14 .any (Rows.worldBreaksSpec.pre6 enc Try.prog Try.f14 Rows.worldBreaksRow.domain false) (Rows.worldBreaksSpec.post enc Try.prog Try.f14 false true false false) := by
  refine returnsInHanded_of_change (C := Try.checked) own started (by kernel_rfl) Try.func14
    (ChangeSpec.witness6 (enc := enc) (C := Try.checked) false ⟨#[], #[.int .u8 0, .int .u8 0], []⟩ 8 (by kernel_rfl) (by kernel_rfl) (by kernel_rfl) (by kernel_rfl)) ?_
  intro W base args ds gs before hval0 hW hcnd _
  have hval : ∀ (j : Nat) t v, Try.f14.params[j]? = some t → args[j]? = some v → Value.okWide Try.prog W .any base t v := hval0
  have hW' := hW
  obtain ⟨p, q, hA0, hV, rfl, hfz, hnd⟩ := hW
  have hA : DataW.TrodAll enc Try.prog W 0 (fun _ => true) true Try.f14.params.toList args.toList ds p := hA0
  rw [Try.params14] at hA hval
  obtain ⟨v0, vs0, d0, ds0, p0, q0, hargs, rfl, rfl, h0, r0⟩ := trodAll_cons hA
  obtain ⟨v1, vs1, d1, ds1, p1, q1, rfl, rfl, rfl, h1, r1⟩ := trodAll_cons r0
  obtain ⟨rfl, rfl, rfl⟩ := trodAll_nil r1
  obtain rfl : args = #[v0, v1] := by cases args; simp_all
  obtain ⟨rfl, rfl⟩ := trodVars_none hV
  have k0 := h0
  have lt0 : ∀ x ∈ p0, x.block < W.heap.size := by obtain ⟨m, hm⟩ := k0; exact DataW.trod_lt m _ _ _ hm
  have o0 : Value.okWide Try.prog W .any base 5 v0 := hval 0 5 v0 rfl rfl
  obtain ⟨a0, rfl, rfl, rfl, w0⟩ := open_int Try.underlying5 o0 h0
  have k1 := h1
  have lt1 : ∀ x ∈ p1, x.block < W.heap.size := by obtain ⟨m, hm⟩ := k1; exact DataW.trod_lt m _ _ _ hm
  have o1 : Value.okWide Try.prog W .any base 5 v1 := hval 1 5 v1 rfl rfl
  obtain ⟨a1, rfl, rfl, rfl, w1⟩ := open_int Try.underlying5 o1 h1
  clear hA0 hval0
  refine (walk a0 a1 W (in8_of_wf w0) (in8_of_wf w1)).mono fun e W' ⟨he, bel⟩ => ?_
  subst he
  exact ⟨_, rfl, _, _, _, [], _, [], hW', trodAll_mk1 (shut_bool Try.underlying4 _), (trodAll_cons_mk (Below.trod laidOut (by kernel_rfl) (of_decide_eq_true (by kernel_rfl)) k0 bel lt0) (trodAll_cons_mk (Below.trod laidOut (by kernel_rfl) (of_decide_eq_true (by kernel_rfl)) k1 bel lt1) trodAll_mk0)), rfl, bel.frame _, fun h => by cases h⟩

theorem over : Rows.worldBreaksRow.holds Try.pinned (OpenSpec.ofChange Rows.worldBreaksSpec) :=
  OpenClaim.holds_of_wide 14 Try.f14 rfl rfl rfl rfl rfl rfl rfl ⟨rfl, rfl, rfl, rfl, rfl⟩ rfl rfl rfl rfl rfl (by kernel_rfl) Try.func14 (by kernel_rfl)
    (of_decide_eq_true (by kernel_rfl)) (by unfold Func.isWrapper; first | (rw [if_pos (by decide +kernel)]; kernel_rfl) | (rw [if_neg (by decide +kernel)]; exact ⟨rfl, rfl⟩))
    (fun os started H enc _ => lifted os started H enc)

/-- The statement. -/
theorem proved : Rows.WorldBreaksSaid := over
#print axioms proved

end Go.Proofs.Ytampkolkbjmmkaa.worldBreaks
