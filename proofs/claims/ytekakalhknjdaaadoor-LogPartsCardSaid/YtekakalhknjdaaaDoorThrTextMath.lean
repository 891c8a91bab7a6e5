
/- Thresholds' texts that are built of a word, a percent and rounds. -/
import Derived.Test.YtekakalhknjdaaaDoorThr3
namespace Go.Proofs.YtekakalhknjdaaaDoor
open Go.RowKit
set_option linter.unusedVariables false
set_option linter.unusedSimpArgs false
open Go.Lib (decDigits)

theorem cutC_app (c : UInt8) (b : List UInt8) : ∀ a : List UInt8, c ∉ a → cutC c (a ++ c :: b) = (a, b, true)
  | [], _ => by unfold cutC; simp
  | x :: a, h => by
    have hx : (x == c) = false := by
      rw [beq_eq_false_iff_ne]; intro e; exact h (by rw [e]; exact List.mem_cons_self)
    rw [List.cons_append]
    unfold cutC
    rw [hx, cutC_app c b a (fun q => h (List.mem_cons_of_mem _ q))]
    simp
theorem cutC_no (c : UInt8) (a : List UInt8) (h : c ∉ a) : cutC c a = (a, [], false) := by
  rcases cutC_spec c a with ⟨_, h2, _⟩ | ⟨h1, _⟩
  · exact absurd (by rw [h2]; simp) h
  · exact h1
theorem dd_no (u : Nat) (c : UInt8) (hc : isDg c = false) : c ∉ decDigits u := fun h => by have := dd_dg u c h; rw [hc] at this; cases this
theorem dgv_dd (u : Nat) (m : Int) (hm : m ≤ 1000) (hu : u ≤ 1000000) : dgv (decDigits u) m = if 1 ≤ (u : Int) ∧ (u : Int) ≤ m then some (u : Int) else none := by
  split
  · rename_i h
    have := dgv_of (n := (u : Int)) h.1 h.2 hm
    rw [Int.toNat_natCast] at this; exact this
  · rename_i h
    cases hq : dgv (decDigits u) m with
    | none => rfl
    | some n =>
      unfold dgv at hq
      rw [dgn_dd u (by omega)] at hq
      rw [if_neg (fun q => h ⟨q.1, q.2.1⟩)] at hq; cases hq
theorem dgv_0dd (u : Nat) (m : Int) (hm : m ≤ 1000) : dgv (48 :: decDigits u) m = none := by
  rw [numR_dgv _ m hm]
  have : numR (48 :: decDigits u) = -1 := by
    unfold numR
    rw [if_pos]
    right; right; left
    refine ⟨rfl, ?_⟩
    rw [List.length_cons]
    have := dd_pos u
    have : 0 < (decDigits u).length := List.length_pos_iff.2 this
    omega
  rw [this, if_neg (by omega)]
theorem limF_pct (d : List UInt8) (h : 37 ∉ d) : limF (d ++ [37]) = (dgv d 100).map (fun n => (n, 0)) := by
  unfold limF
  rw [cutC_app 37 [] d h]
  simp
theorem thF_of (l r : List UInt8) (k : Int) (hl : 60 ∉ l) (hs : sigF l = some k) : thF (l ++ 60 :: r) = match limF (cutC 58 r).1, grF (cutC 58 r).2.2 (cutC 58 r).2.1 with | some (p, a), some g => some ⟨k, p, a, (cutC 58 r).2.2, g⟩ | _, _ => none := by
  unfold thF
  rw [cutC_app 60 r l hl]
  simp only [if_true]
  rw [hs]
  cases limF (cutC 58 r).1 with
  | none => rfl
  | some q => cases q; cases grF (cutC 58 r).2.2 (cutC 58 r).2.1 <;> rfl
theorem word_facts (k : Nat) (h : k < 3) : 60 ∉ (wB k).toList ∧ sigF (wB k).toList = some (k : Int) ∧ (wB k).size ≤ 6 := by
  rcases (show k = 0 ∨ k = 1 ∨ k = 2 by omega) with rfl | rfl | rfl <;> (rw [sl]; exact ⟨by decide, rfl, by decide⟩)
theorem no58 (u : Nat) : 58 ∉ decDigits u ++ [37] := by
  intro h
  rcases List.mem_append.1 h with h | h
  · exact dd_no u 58 (by decide) h
  · simp at h
theorem text1 (k : Nat) (h : k < 3) (u : Nat) (hu : u ≤ 1000000) : thF ((wB k).toList ++ 60 :: (decDigits u ++ [37])) = if 1 ≤ (u : Int) ∧ (u : Int) ≤ 100 then some ⟨k, u, 0, false, 0⟩ else none := by
  obtain ⟨h1, h2, _⟩ := word_facts k h
  rw [thF_of _ _ k h1 h2, cutC_no 58 _ (no58 u)]
  simp only
  rw [limF_pct _ (dd_no u 37 (by decide)), dgv_dd u 100 (by omega) hu]
  by_cases a1 : 1 ≤ (u : Int) ∧ (u : Int) ≤ 100
  · rw [if_pos a1, if_pos a1]; rfl
  · rw [if_neg a1, if_neg a1]; rfl
theorem text2 (k : Nat) (h : k < 3) (u v : Nat) (hu : u ≤ 1000000) (hv : v ≤ 1000000) : thF ((wB k).toList ++ 60 :: ((decDigits u ++ [37]) ++ 58 :: decDigits v)) = if (1 ≤ (u : Int) ∧ (u : Int) ≤ 100) ∧ (1 ≤ (v : Int) ∧ (v : Int) ≤ 1000) then some ⟨k, u, 0, true, v⟩ else none := by
  obtain ⟨h1, h2, _⟩ := word_facts k h
  rw [thF_of _ _ k h1 h2, cutC_app 58 _ _ (no58 u)]
  simp only
  rw [limF_pct _ (dd_no u 37 (by decide)), dgv_dd u 100 (by omega) hu]
  unfold grF
  rw [if_pos rfl, dgv_dd v 1000 (by omega) hv]
  by_cases a1 : 1 ≤ (u : Int) ∧ (u : Int) ≤ 100
  · by_cases a2 : 1 ≤ (v : Int) ∧ (v : Int) ≤ 1000
    · rw [if_pos a1, if_pos a2, if_pos (show (1 ≤ (u : Int) ∧ (u : Int) ≤ 100) ∧ (1 ≤ (v : Int) ∧ (v : Int) ≤ 1000) from ⟨a1, a2⟩)]; rfl
    · rw [if_pos a1, if_neg a2, if_neg (show ¬ ((1 ≤ (u : Int) ∧ (u : Int) ≤ 100) ∧ (1 ≤ (v : Int) ∧ (v : Int) ≤ 1000)) from fun q => a2 q.2)]; rfl
  · rw [if_neg a1, if_neg (show ¬ ((1 ≤ (u : Int) ∧ (u : Int) ≤ 100) ∧ (1 ≤ (v : Int) ∧ (v : Int) ≤ 1000)) from fun q => a1 q.1)]; rfl
theorem text3 (k : Nat) (h : k < 3) (u : Nat) : thF ((wB k).toList ++ 60 :: (48 :: (decDigits u ++ [37]))) = none := by
  obtain ⟨h1, h2, _⟩ := word_facts k h
  have hn : 58 ∉ (48 :: (decDigits u ++ [37])) := by
    intro q
    rcases List.mem_cons.1 q with q | q
    · cases q
    · exact no58 u q
  rw [thF_of _ _ k h1 h2, cutC_no 58 _ hn]
  simp only
  have h37 : (37 : UInt8) ∉ (48 :: decDigits u) := by
    intro q
    rcases List.mem_cons.1 q with q | q
    · cases q
    · exact dd_no u 37 (by decide) q
  rw [show (48 :: (decDigits u ++ [37])) = (48 :: decDigits u) ++ [37] from rfl, limF_pct _ h37, dgv_0dd u 100 (by omega)]
  rfl
theorem text4 (k : Nat) (h : k < 3) (u v : Nat) : thF ((wB k).toList ++ 60 :: ((decDigits u ++ [37]) ++ 58 :: (48 :: decDigits v))) = none := by
  obtain ⟨h1, h2, _⟩ := word_facts k h
  rw [thF_of _ _ k h1 h2, cutC_app 58 _ _ (no58 u)]
  simp only
  unfold grF
  rw [if_pos rfl, dgv_0dd v 1000 (by omega)]
  cases limF (decDigits u ++ [37]) with
  | none => rfl
  | some q => cases q; rfl
theorem app_l (a b : ByteArray) : (a ++ b).toList = a.toList ++ b.toList := by
  rw [sl, sl, sl, ByteArray.data_append]; simp
theorem lit_l (l : List UInt8) : (⟨l.toArray⟩ : ByteArray).toList = l := by rw [sl]
set_option maxHeartbeats 1000000 in
theorem ref_Word (i : Int) (w : World) (h : 0 ≤ i ∧ i ≤ 2) : Calls Tryd.prog 27 #[.int .i64 i] w fun e w' => e = .returned (.string (wB i)) ∧ w = w' := by
  have hc : ((i == 0) = true ∧ wB i = ⟨#[109, 101, 109, 111, 114, 121]⟩) ∨ ((i == 0) = false ∧ (i == 1) = true ∧ wB i = ⟨#[100, 105, 115, 107]⟩) ∨ ((i == 0) = false ∧ (i == 1) = false ∧ wB i = ⟨#[112, 105, 100]⟩) := by
    rcases (show i = 0 ∨ i = 1 ∨ i = 2 by omega) with rfl | rfl | rfl
    · exact .inl ⟨rfl, rfl⟩
    · exact .inr (.inl ⟨rfl, rfl, rfl⟩)
    · exact .inr (.inr ⟨rfl, rfl, rfl⟩)
  rcases hc with ⟨h0, h⟩ | ⟨h0, h1, h⟩ | ⟨h0, h1, h⟩
  all_goals
    have H := Lib.hid h
    clear h
    go_enter Tryd.func27, Tryd.ntmps27
    go_wp2
    go_ret
    exact ⟨by rw [H.out]; rfl, rfl⟩
end Go.Proofs.YtekakalhknjdaaaDoor
