/- ThreshTexts holds for every signal, percent and rounds. No conditions but that the library's variables lie as its own text lays them. -/
import Derived.Test.YtiaemcejgjobiaaDoorAwake06
import Derived.Test.YtiaemcejgjobiaaDoorThrCard
import Derived.Test.YtiaemcejgjobiaaDoorThrTextMath
namespace Go.Proofs.YtiaemcejgjobiaaDoor.threshTexts
open Go.ChangeShapes Go.WideShapes Go.ChangeAt Go.RowKit
open Go.ChangeMaps (open_string shut_string)
set_option linter.unusedVariables false
set_option linter.unusedSimpArgs false

theorem rd_some (s : ByteArray) (t : ThrV) (v : World) (hs : s.size ≤ 1000000) (he : Env v) (h : thF s.toList = some t) : Calls Tryd.prog 23 #[.string s] v fun e w' => e = .returned (.tuple #[.agg #[.int .i64 t.sig, .int .i64 t.pct, .int .i64 t.amt, .bool t.soft, .int .i64 t.grace], .int .i64 0]) ∧ Below v.heap.size v w' := by
  have hr := thr_Read s v hs he
  unfold thV thE at hr
  rw [h] at hr
  exact hr
theorem rd_none (s : ByteArray) (v : World) (hs : s.size ≤ 1000000) (he : Env v) (h : thF s.toList = none) : Calls Tryd.prog 23 #[.string s] v fun e w' => e = .returned (.tuple #[.agg #[.int .i64 0, .int .i64 0, .int .i64 0, .bool false, .int .i64 0], .int .i64 2]) ∧ Below v.heap.size v w' := by
  have hr := thr_Read s v hs he
  unfold thV thE at hr
  rw [h] at hr
  exact hr
theorem it1 (i P : Int) (hi : 0 ≤ i ∧ i ≤ 2) (hP : 0 ≤ P ∧ P ≤ 1000) : thF (wB i ++ ⟨#[60]⟩ ++ ddB P.toNat ++ ⟨#[37]⟩).toList = if 1 ≤ P ∧ P ≤ 100 then some ⟨i, P, 0, false, 0⟩ else none := by
  obtain ⟨k, rfl⟩ : ∃ k : Nat, i = k := ⟨i.toNat, by omega⟩
  obtain ⟨u, rfl⟩ : ∃ u : Nat, P = u := ⟨P.toNat, by omega⟩
  rw [app_l, app_l, app_l, Int.toNat_natCast, ddB_list, show (⟨#[60]⟩ : ByteArray).toList = [60] from lit_l [60], show (⟨#[37]⟩ : ByteArray).toList = [37] from lit_l [37]]
  rw [show (wB (k : Int)).toList ++ [60] ++ Lib.decDigits u ++ [37] = (wB (k : Int)).toList ++ 60 :: (Lib.decDigits u ++ [37]) by simp]
  exact text1 k (by omega) u (by omega)
theorem it2 (i P G : Int) (hi : 0 ≤ i ∧ i ≤ 2) (hP : 0 ≤ P ∧ P ≤ 1000) (hG : 0 ≤ G ∧ G ≤ 10000) : thF (wB i ++ ⟨#[60]⟩ ++ ddB P.toNat ++ ⟨#[37]⟩ ++ ⟨#[58]⟩ ++ ddB G.toNat).toList = if (1 ≤ P ∧ P ≤ 100) ∧ (1 ≤ G ∧ G ≤ 1000) then some ⟨i, P, 0, true, G⟩ else none := by
  obtain ⟨k, rfl⟩ : ∃ k : Nat, i = k := ⟨i.toNat, by omega⟩
  obtain ⟨u, rfl⟩ : ∃ u : Nat, P = u := ⟨P.toNat, by omega⟩
  obtain ⟨g, rfl⟩ : ∃ g : Nat, G = g := ⟨G.toNat, by omega⟩
  rw [app_l, app_l, app_l, app_l, app_l, Int.toNat_natCast, Int.toNat_natCast, ddB_list, ddB_list, show (⟨#[60]⟩ : ByteArray).toList = [60] from lit_l [60], show (⟨#[37]⟩ : ByteArray).toList = [37] from lit_l [37], show (⟨#[58]⟩ : ByteArray).toList = [58] from lit_l [58]]
  rw [show (wB (k : Int)).toList ++ [60] ++ Lib.decDigits u ++ [37] ++ [58] ++ Lib.decDigits g = (wB (k : Int)).toList ++ 60 :: ((Lib.decDigits u ++ [37]) ++ 58 :: Lib.decDigits g) by simp]
  exact text2 k (by omega) u g (by omega) (by omega)
theorem it3 (i P : Int) (hi : 0 ≤ i ∧ i ≤ 2) (hP : 0 ≤ P ∧ P ≤ 1000) : thF (wB i ++ ⟨#[60, 48]⟩ ++ ddB P.toNat ++ ⟨#[37]⟩).toList = none := by
  obtain ⟨k, rfl⟩ : ∃ k : Nat, i = k := ⟨i.toNat, by omega⟩
  obtain ⟨u, rfl⟩ : ∃ u : Nat, P = u := ⟨P.toNat, by omega⟩
  rw [app_l, app_l, app_l, Int.toNat_natCast, ddB_list, show (⟨#[60, 48]⟩ : ByteArray).toList = [60, 48] from lit_l [60, 48], show (⟨#[37]⟩ : ByteArray).toList = [37] from lit_l [37]]
  rw [show (wB (k : Int)).toList ++ [60, 48] ++ Lib.decDigits u ++ [37] = (wB (k : Int)).toList ++ 60 :: (48 :: (Lib.decDigits u ++ [37])) by simp]
  exact text3 k (by omega) u
theorem it4 (i P G : Int) (hi : 0 ≤ i ∧ i ≤ 2) (hP : 0 ≤ P ∧ P ≤ 1000) (hG : 0 ≤ G ∧ G ≤ 10000) : thF (wB i ++ ⟨#[60]⟩ ++ ddB P.toNat ++ ⟨#[37]⟩ ++ ⟨#[58, 48]⟩ ++ ddB G.toNat).toList = none := by
  obtain ⟨k, rfl⟩ : ∃ k : Nat, i = k := ⟨i.toNat, by omega⟩
  obtain ⟨u, rfl⟩ : ∃ u : Nat, P = u := ⟨P.toNat, by omega⟩
  obtain ⟨g, rfl⟩ : ∃ g : Nat, G = g := ⟨G.toNat, by omega⟩
  rw [app_l, app_l, app_l, app_l, app_l, Int.toNat_natCast, Int.toNat_natCast, ddB_list, ddB_list, show (⟨#[60]⟩ : ByteArray).toList = [60] from lit_l [60], show (⟨#[37]⟩ : ByteArray).toList = [37] from lit_l [37], show (⟨#[58, 48]⟩ : ByteArray).toList = [58, 48] from lit_l [58, 48]]
  rw [show (wB (k : Int)).toList ++ [60] ++ Lib.decDigits u ++ [37] ++ [58, 48] ++ Lib.decDigits g = (wB (k : Int)).toList ++ 60 :: ((Lib.decDigits u ++ [37]) ++ 58 :: (48 :: Lib.decDigits g)) by simp]
  exact text4 k (by omega) u g
theorem a_size (a b : ByteArray) : (a ++ b).size = a.size + b.size := by
  rw [← sl_len, app_l, List.length_append, sl_len, sl_len]

set_option maxRecDepth 100000 in
set_option maxHeartbeats 16000000 in
theorem walk (a p g : Int) (W : World) (ht : Env W) (ha : 0 ≤ a ∧ a ≤ 255) (hp : 0 ≤ p ∧ p ≤ 65535) (hg : 0 ≤ g ∧ g ≤ 65535) : Calls Tryd.prog 11 #[.int .u8 a, .int .u16 p, .int .u16 g] W fun e w' => e = .returned (.bool true) ∧ Below W.heap.size W w' := by
  have hw : Below W.heap.size W W := Below.refl _ _
  have hbel := hw
  have CA := Lib.hid (fun v (hv : Below W.heap.size W v) => awake06 v (ht.later hv))
  obtain ⟨ha1, ha2⟩ := ha
  obtain ⟨hp1, hp2⟩ := hp
  obtain ⟨hg1, hg2⟩ := hg
  have hi : 0 ≤ a % 3 ∧ a % 3 ≤ 2 := by omega
  have hP : 0 ≤ p % 130 ∧ p % 130 ≤ 1000 := by omega
  have hG : 0 ≤ g % 1100 ∧ g % 1100 ≤ 10000 := by omega
  have CW := Lib.hid (fun v => ref_Word (a % 3) v hi)
  have CD := Lib.hid (fun v => Digits_any (p % 130) hP.1 (by omega) v)
  have CE := Lib.hid (fun v => Digits_any (g % 1100) hG.1 (by omega) v)
  have zw : (wB (a % 3)).size ≤ 6 := by
    obtain ⟨k, hk⟩ : ∃ k : Nat, a % 3 = k := ⟨(a % 3).toNat, by omega⟩
    rw [hk]; exact (word_facts k (by omega)).2.2
  have z1 := ddB_size (p % 130).toNat (by omega)
  have z2 := ddB_size (g % 1100).toNat (by omega)
  have l1 : (⟨#[60]⟩ : ByteArray).size ≤ 2 := by decide
  have l2 : (⟨#[37]⟩ : ByteArray).size ≤ 2 := by decide
  have l3 : (⟨#[58]⟩ : ByteArray).size ≤ 2 := by decide
  have l4 : (⟨#[60, 48]⟩ : ByteArray).size ≤ 2 := by decide
  have l5 : (⟨#[58, 48]⟩ : ByteArray).size ≤ 2 := by decide
  have t1 := it1 (a % 3) (p % 130) hi hP
  have t2 := it2 (a % 3) (p % 130) (g % 1100) hi hP hG
  have t3 := it3 (a % 3) (p % 130) hi hP
  have t4 := it4 (a % 3) (p % 130) (g % 1100) hi hP hG
  have R3 := fun v (hv : Below W.heap.size W v) => rd_none _ v (by rw [a_size, a_size, a_size]; omega) (ht.later hv) t3
  have R4 := fun v (hv : Below W.heap.size W v) => rd_none _ v (by rw [a_size, a_size, a_size, a_size, a_size]; omega) (ht.later hv) t4
  have key : ((1 ≤ p % 130 ∧ p % 130 ≤ 100) ∧ (1 ≤ g % 1100 ∧ g % 1100 ≤ 1000)) ∨ ((1 ≤ p % 130 ∧ p % 130 ≤ 100) ∧ ¬ (1 ≤ g % 1100 ∧ g % 1100 ≤ 1000)) ∨ ¬ (1 ≤ p % 130 ∧ p % 130 ≤ 100) := by
    rcases Classical.em (1 ≤ p % 130 ∧ p % 130 ≤ 100) with h1 | h1
    · rcases Classical.em (1 ≤ g % 1100 ∧ g % 1100 ≤ 1000) with h2 | h2
      · exact .inl ⟨h1, h2⟩
      · exact .inr (.inl ⟨h1, h2⟩)
    · exact .inr (.inr h1)
  have q1 := fun u : World => eq_thr ⟨a % 3, p % 130, 0, false, 0⟩ ⟨a % 3, p % 130, 0, false, 0⟩ u
  have q2 := fun u : World => eq_thr ⟨a % 3, p % 130, 0, true, g % 1100⟩ ⟨a % 3, p % 130, 0, true, g % 1100⟩ u
  simp only [BEq.rfl, Bool.and_self] at q1 q2
  rcases key with ⟨k1, k2⟩ | ⟨k1, k2⟩ | k1
  · rw [if_pos k1] at t1
    rw [if_pos ⟨k1, k2⟩] at t2
    have R1 := fun v (hv : Below W.heap.size W v) => rd_some _ _ v (by rw [a_size, a_size, a_size]; omega) (ht.later hv) t1
    have R2 := fun v (hv : Below W.heap.size W v) => rd_some _ _ v (by rw [a_size, a_size, a_size, a_size, a_size]; omega) (ht.later hv) t2
    obtain ⟨k3, k4⟩ := k1
    obtain ⟨k5, k6⟩ := k2
    have H1 := Lib.hid R1
    have H2 := Lib.hid R2
    have H3 := Lib.hid R3
    have H4 := Lib.hid R4
    clear R1 R2 R3 R4 t1 t2 t3 t4 ht hi hP hG
    generalize wB (a % 3) = wd at *
    generalize ddB (p % 130).toNat = d1 at *
    generalize ddB (g % 1100).toNat = d2 at *
    go_enter Tryd.func11, Tryd.ntmps11
    go_upto_region 6 with (first | (go_at_call 22; (with_reducible refine (CA.out _ (belStep hw hbel)).mono ?_); rintro e w1 ⟨rfl, hb1⟩; replace hbel := belStep hbel hb1; clear hb1) | (go_at_call 31; (with_reducible refine (CW.out _).mono ?_); rintro e w' ⟨rfl, rfl⟩))
    replace hw := belStep hw hbel
    clear hbel
    generalize w1 = W0 at *
    have hbel : Below W0.heap.size W0 W0 := Below.refl _ _
    go_upto_region 8 with (first | (go_at_call 21; (with_reducible refine (CD.out _).mono ?_); rintro e w1 ⟨rfl, hb1⟩; replace hbel := belStep hbel hb1; clear hb1) | (go_at_call 23; (with_reducible refine (H1.out _ (belStep hw hbel)).mono ?_); rintro e w1 ⟨rfl, hb1⟩; replace hbel := belStep hbel hb1; clear hb1))
    replace hw := belStep hw hbel
    clear hbel
    generalize w1 = W1 at *
    have hbel : Below W1.heap.size W1 W1 := Below.refl _ _
    have ta0 : (W1.alloc (.cells #[.int .i64 (a % 3), .int .i64 (p % 130), .int .i64 0, .bool false, .int .i64 0] 40)).cell? ⟨W1.heap.size, 0, none⟩ = some (.int .i64 (a % 3)) := by first | (simp; done) | (rw [World.cell?_alloc_at _ _ _ _ (by simp)]; rfl) | (rw [World.cell?_alloc_past _ _ _ (by simp <;> omega), World.cell?_alloc_at _ _ _ _ (by simp)]; rfl) | (rw [World.cell?_alloc_past _ _ _ (by simp <;> omega), World.cell?_alloc_past _ _ _ (by simp <;> omega), World.cell?_alloc_at _ _ _ _ (by simp)]; rfl)
    have ta1 : (W1.alloc (.cells #[.int .i64 (a % 3), .int .i64 (p % 130), .int .i64 0, .bool false, .int .i64 0] 40)).cell? ⟨W1.heap.size, 1, none⟩ = some (.int .i64 (p % 130)) := by first | (simp; done) | (rw [World.cell?_alloc_at _ _ _ _ (by simp)]; rfl) | (rw [World.cell?_alloc_past _ _ _ (by simp <;> omega), World.cell?_alloc_at _ _ _ _ (by simp)]; rfl) | (rw [World.cell?_alloc_past _ _ _ (by simp <;> omega), World.cell?_alloc_past _ _ _ (by simp <;> omega), World.cell?_alloc_at _ _ _ _ (by simp)]; rfl)
    have ta2 : (W1.alloc (.cells #[.int .i64 (a % 3), .int .i64 (p % 130), .int .i64 0, .bool false, .int .i64 0] 40)).cell? ⟨W1.heap.size, 2, none⟩ = some (.int .i64 0) := by first | (simp; done) | (rw [World.cell?_alloc_at _ _ _ _ (by simp)]; rfl) | (rw [World.cell?_alloc_past _ _ _ (by simp <;> omega), World.cell?_alloc_at _ _ _ _ (by simp)]; rfl) | (rw [World.cell?_alloc_past _ _ _ (by simp <;> omega), World.cell?_alloc_past _ _ _ (by simp <;> omega), World.cell?_alloc_at _ _ _ _ (by simp)]; rfl)
    have ta3 : (W1.alloc (.cells #[.int .i64 (a % 3), .int .i64 (p % 130), .int .i64 0, .bool false, .int .i64 0] 40)).cell? ⟨W1.heap.size, 3, none⟩ = some (.bool false) := by first | (simp; done) | (rw [World.cell?_alloc_at _ _ _ _ (by simp)]; rfl) | (rw [World.cell?_alloc_past _ _ _ (by simp <;> omega), World.cell?_alloc_at _ _ _ _ (by simp)]; rfl) | (rw [World.cell?_alloc_past _ _ _ (by simp <;> omega), World.cell?_alloc_past _ _ _ (by simp <;> omega), World.cell?_alloc_at _ _ _ _ (by simp)]; rfl)
    have ta4 : (W1.alloc (.cells #[.int .i64 (a % 3), .int .i64 (p % 130), .int .i64 0, .bool false, .int .i64 0] 40)).cell? ⟨W1.heap.size, 4, none⟩ = some (.int .i64 0) := by first | (simp; done) | (rw [World.cell?_alloc_at _ _ _ _ (by simp)]; rfl) | (rw [World.cell?_alloc_past _ _ _ (by simp <;> omega), World.cell?_alloc_at _ _ _ _ (by simp)]; rfl) | (rw [World.cell?_alloc_past _ _ _ (by simp <;> omega), World.cell?_alloc_past _ _ _ (by simp <;> omega), World.cell?_alloc_at _ _ _ _ (by simp)]; rfl)
    have hb2 := (by repeat (first | exact hbel | refine belAlloc ?_ _ | refine belDrew ?_ | refine belSet ?_ _ _ (by simp)) : Below W1.heap.size W1 (W1.alloc (.cells #[.int .i64 (a % 3), .int .i64 (p % 130), .int .i64 0, .bool false, .int .i64 0] 40)))
    replace hw := belStep hw hb2
    clear hb2 hbel
    generalize W1.alloc (.cells #[.int .i64 (a % 3), .int .i64 (p % 130), .int .i64 0, .bool false, .int .i64 0] 40) = W2 at *
    replace ta0 := keep ta0
    replace ta1 := keep ta1
    replace ta2 := keep ta2
    replace ta3 := keep ta3
    replace ta4 := keep ta4
    have hbel : Below W2.heap.size W2 W2 := Below.refl _ _
    skip
    go_upto_region 9 with (first | (go_at_call 21; (with_reducible refine (CE.out _).mono ?_); rintro e w1 ⟨rfl, hb1⟩; replace hbel := belStep hbel hb1; clear hb1) | (go_at_call 23; (with_reducible refine (H2.out _ (belStep hw hbel)).mono ?_); rintro e w1 ⟨rfl, hb1⟩; replace hbel := belStep hbel hb1; clear hb1))
    replace ta0 := keepOnP ta0 hbel
    replace ta1 := keepOnP ta1 hbel
    replace ta2 := keepOnP ta2 hbel
    replace ta3 := keepOnP ta3 hbel
    replace ta4 := keepOnP ta4 hbel
    replace hw := belStep hw hbel
    clear hbel
    generalize w1 = W3 at *
    have hbel : Below W3.heap.size W3 W3 := Below.refl _ _
    have tb0 : (W3.alloc (.cells #[.int .i64 (a % 3), .int .i64 (p % 130), .int .i64 0, .bool true, .int .i64 (g % 1100)] 40)).cell? ⟨W3.heap.size, 0, none⟩ = some (.int .i64 (a % 3)) := by first | (simp; done) | (rw [World.cell?_alloc_at _ _ _ _ (by simp)]; rfl) | (rw [World.cell?_alloc_past _ _ _ (by simp <;> omega), World.cell?_alloc_at _ _ _ _ (by simp)]; rfl) | (rw [World.cell?_alloc_past _ _ _ (by simp <;> omega), World.cell?_alloc_past _ _ _ (by simp <;> omega), World.cell?_alloc_at _ _ _ _ (by simp)]; rfl)
    have tb1 : (W3.alloc (.cells #[.int .i64 (a % 3), .int .i64 (p % 130), .int .i64 0, .bool true, .int .i64 (g % 1100)] 40)).cell? ⟨W3.heap.size, 1, none⟩ = some (.int .i64 (p % 130)) := by first | (simp; done) | (rw [World.cell?_alloc_at _ _ _ _ (by simp)]; rfl) | (rw [World.cell?_alloc_past _ _ _ (by simp <;> omega), World.cell?_alloc_at _ _ _ _ (by simp)]; rfl) | (rw [World.cell?_alloc_past _ _ _ (by simp <;> omega), World.cell?_alloc_past _ _ _ (by simp <;> omega), World.cell?_alloc_at _ _ _ _ (by simp)]; rfl)
    have tb2 : (W3.alloc (.cells #[.int .i64 (a % 3), .int .i64 (p % 130), .int .i64 0, .bool true, .int .i64 (g % 1100)] 40)).cell? ⟨W3.heap.size, 2, none⟩ = some (.int .i64 0) := by first | (simp; done) | (rw [World.cell?_alloc_at _ _ _ _ (by simp)]; rfl) | (rw [World.cell?_alloc_past _ _ _ (by simp <;> omega), World.cell?_alloc_at _ _ _ _ (by simp)]; rfl) | (rw [World.cell?_alloc_past _ _ _ (by simp <;> omega), World.cell?_alloc_past _ _ _ (by simp <;> omega), World.cell?_alloc_at _ _ _ _ (by simp)]; rfl)
    have tb3 : (W3.alloc (.cells #[.int .i64 (a % 3), .int .i64 (p % 130), .int .i64 0, .bool true, .int .i64 (g % 1100)] 40)).cell? ⟨W3.heap.size, 3, none⟩ = some (.bool true) := by first | (simp; done) | (rw [World.cell?_alloc_at _ _ _ _ (by simp)]; rfl) | (rw [World.cell?_alloc_past _ _ _ (by simp <;> omega), World.cell?_alloc_at _ _ _ _ (by simp)]; rfl) | (rw [World.cell?_alloc_past _ _ _ (by simp <;> omega), World.cell?_alloc_past _ _ _ (by simp <;> omega), World.cell?_alloc_at _ _ _ _ (by simp)]; rfl)
    have tb4 : (W3.alloc (.cells #[.int .i64 (a % 3), .int .i64 (p % 130), .int .i64 0, .bool true, .int .i64 (g % 1100)] 40)).cell? ⟨W3.heap.size, 4, none⟩ = some (.int .i64 (g % 1100)) := by first | (simp; done) | (rw [World.cell?_alloc_at _ _ _ _ (by simp)]; rfl) | (rw [World.cell?_alloc_past _ _ _ (by simp <;> omega), World.cell?_alloc_at _ _ _ _ (by simp)]; rfl) | (rw [World.cell?_alloc_past _ _ _ (by simp <;> omega), World.cell?_alloc_past _ _ _ (by simp <;> omega), World.cell?_alloc_at _ _ _ _ (by simp)]; rfl)
    have hb2 := (by repeat (first | exact hbel | refine belAlloc ?_ _ | refine belDrew ?_ | refine belSet ?_ _ _ (by simp)) : Below W3.heap.size W3 (W3.alloc (.cells #[.int .i64 (a % 3), .int .i64 (p % 130), .int .i64 0, .bool true, .int .i64 (g % 1100)] 40)))
    replace ta0 := keepOnP ta0 hb2
    replace ta1 := keepOnP ta1 hb2
    replace ta2 := keepOnP ta2 hb2
    replace ta3 := keepOnP ta3 hb2
    replace ta4 := keepOnP ta4 hb2
    replace hw := belStep hw hb2
    clear hb2 hbel
    generalize W3.alloc (.cells #[.int .i64 (a % 3), .int .i64 (p % 130), .int .i64 0, .bool true, .int .i64 (g % 1100)] 40) = W4 at *
    replace tb0 := keep tb0
    replace tb1 := keep tb1
    replace tb2 := keep tb2
    replace tb3 := keep tb3
    replace tb4 := keep tb4
    have hbel : Below W4.heap.size W4 W4 := Below.refl _ _
    skip
    go_upto_region 10 with (first | (go_at_call 21; (with_reducible refine (CD.out _).mono ?_); rintro e w1 ⟨rfl, hb1⟩; replace hbel := belStep hbel hb1; clear hb1) | (go_at_call 23; (with_reducible refine (H3.out _ (belStep hw hbel)).mono ?_); rintro e w1 ⟨rfl, hb1⟩; replace hbel := belStep hbel hb1; clear hb1))
    replace ta0 := keepOnP ta0 hbel
    replace ta1 := keepOnP ta1 hbel
    replace ta2 := keepOnP ta2 hbel
    replace ta3 := keepOnP ta3 hbel
    replace ta4 := keepOnP ta4 hbel
    replace tb0 := keepOnP tb0 hbel
    replace tb1 := keepOnP tb1 hbel
    replace tb2 := keepOnP tb2 hbel
    replace tb3 := keepOnP tb3 hbel
    replace tb4 := keepOnP tb4 hbel
    replace hw := belStep hw hbel
    clear hbel
    generalize w1 = W5 at *
    have hbel : Below W5.heap.size W5 W5 := Below.refl _ _
    have tc0 : (W5.alloc (.cells #[.int .i64 0, .int .i64 0, .int .i64 0, .bool false, .int .i64 0] 40)).cell? ⟨W5.heap.size, 0, none⟩ = some (.int .i64 0) := by first | (simp; done) | (rw [World.cell?_alloc_at _ _ _ _ (by simp)]; rfl) | (rw [World.cell?_alloc_past _ _ _ (by simp <;> omega), World.cell?_alloc_at _ _ _ _ (by simp)]; rfl) | (rw [World.cell?_alloc_past _ _ _ (by simp <;> omega), World.cell?_alloc_past _ _ _ (by simp <;> omega), World.cell?_alloc_at _ _ _ _ (by simp)]; rfl)
    have tc1 : (W5.alloc (.cells #[.int .i64 0, .int .i64 0, .int .i64 0, .bool false, .int .i64 0] 40)).cell? ⟨W5.heap.size, 1, none⟩ = some (.int .i64 0) := by first | (simp; done) | (rw [World.cell?_alloc_at _ _ _ _ (by simp)]; rfl) | (rw [World.cell?_alloc_past _ _ _ (by simp <;> omega), World.cell?_alloc_at _ _ _ _ (by simp)]; rfl) | (rw [World.cell?_alloc_past _ _ _ (by simp <;> omega), World.cell?_alloc_past _ _ _ (by simp <;> omega), World.cell?_alloc_at _ _ _ _ (by simp)]; rfl)
    have tc2 : (W5.alloc (.cells #[.int .i64 0, .int .i64 0, .int .i64 0, .bool false, .int .i64 0] 40)).cell? ⟨W5.heap.size, 2, none⟩ = some (.int .i64 0) := by first | (simp; done) | (rw [World.cell?_alloc_at _ _ _ _ (by simp)]; rfl) | (rw [World.cell?_alloc_past _ _ _ (by simp <;> omega), World.cell?_alloc_at _ _ _ _ (by simp)]; rfl) | (rw [World.cell?_alloc_past _ _ _ (by simp <;> omega), World.cell?_alloc_past _ _ _ (by simp <;> omega), World.cell?_alloc_at _ _ _ _ (by simp)]; rfl)
    have tc3 : (W5.alloc (.cells #[.int .i64 0, .int .i64 0, .int .i64 0, .bool false, .int .i64 0] 40)).cell? ⟨W5.heap.size, 3, none⟩ = some (.bool false) := by first | (simp; done) | (rw [World.cell?_alloc_at _ _ _ _ (by simp)]; rfl) | (rw [World.cell?_alloc_past _ _ _ (by simp <;> omega), World.cell?_alloc_at _ _ _ _ (by simp)]; rfl) | (rw [World.cell?_alloc_past _ _ _ (by simp <;> omega), World.cell?_alloc_past _ _ _ (by simp <;> omega), World.cell?_alloc_at _ _ _ _ (by simp)]; rfl)
    have tc4 : (W5.alloc (.cells #[.int .i64 0, .int .i64 0, .int .i64 0, .bool false, .int .i64 0] 40)).cell? ⟨W5.heap.size, 4, none⟩ = some (.int .i64 0) := by first | (simp; done) | (rw [World.cell?_alloc_at _ _ _ _ (by simp)]; rfl) | (rw [World.cell?_alloc_past _ _ _ (by simp <;> omega), World.cell?_alloc_at _ _ _ _ (by simp)]; rfl) | (rw [World.cell?_alloc_past _ _ _ (by simp <;> omega), World.cell?_alloc_past _ _ _ (by simp <;> omega), World.cell?_alloc_at _ _ _ _ (by simp)]; rfl)
    have hb2 := (by repeat (first | exact hbel | refine belAlloc ?_ _ | refine belDrew ?_ | refine belSet ?_ _ _ (by simp)) : Below W5.heap.size W5 (W5.alloc (.cells #[.int .i64 0, .int .i64 0, .int .i64 0, .bool false, .int .i64 0] 40)))
    replace ta0 := keepOnP ta0 hb2
    replace ta1 := keepOnP ta1 hb2
    replace ta2 := keepOnP ta2 hb2
    replace ta3 := keepOnP ta3 hb2
    replace ta4 := keepOnP ta4 hb2
    replace tb0 := keepOnP tb0 hb2
    replace tb1 := keepOnP tb1 hb2
    replace tb2 := keepOnP tb2 hb2
    replace tb3 := keepOnP tb3 hb2
    replace tb4 := keepOnP tb4 hb2
    replace hw := belStep hw hb2
    clear hb2 hbel
    generalize W5.alloc (.cells #[.int .i64 0, .int .i64 0, .int .i64 0, .bool false, .int .i64 0] 40) = W6 at *
    replace tc0 := keep tc0
    replace tc1 := keep tc1
    replace tc2 := keep tc2
    replace tc3 := keep tc3
    replace tc4 := keep tc4
    have hbel : Below W6.heap.size W6 W6 := Below.refl _ _
    skip
    go_upto_region 11 with (first | (go_at_call 21; (with_reducible refine (CE.out _).mono ?_); rintro e w1 ⟨rfl, hb1⟩; replace hbel := belStep hbel hb1; clear hb1) | (go_at_call 23; (with_reducible refine (H4.out _ (belStep hw hbel)).mono ?_); rintro e w1 ⟨rfl, hb1⟩; replace hbel := belStep hbel hb1; clear hb1))
    replace ta0 := keepOnP ta0 hbel
    replace ta1 := keepOnP ta1 hbel
    replace ta2 := keepOnP ta2 hbel
    replace ta3 := keepOnP ta3 hbel
    replace ta4 := keepOnP ta4 hbel
    replace tb0 := keepOnP tb0 hbel
    replace tb1 := keepOnP tb1 hbel
    replace tb2 := keepOnP tb2 hbel
    replace tb3 := keepOnP tb3 hbel
    replace tb4 := keepOnP tb4 hbel
    replace tc0 := keepOnP tc0 hbel
    replace tc1 := keepOnP tc1 hbel
    replace tc2 := keepOnP tc2 hbel
    replace tc3 := keepOnP tc3 hbel
    replace tc4 := keepOnP tc4 hbel
    replace hw := belStep hw hbel
    clear hbel
    generalize w1 = W7 at *
    have hbel : Below W7.heap.size W7 W7 := Below.refl _ _
    have td0 : (W7.alloc (.cells #[.int .i64 0, .int .i64 0, .int .i64 0, .bool false, .int .i64 0] 40)).cell? ⟨W7.heap.size, 0, none⟩ = some (.int .i64 0) := by first | (simp; done) | (rw [World.cell?_alloc_at _ _ _ _ (by simp)]; rfl) | (rw [World.cell?_alloc_past _ _ _ (by simp <;> omega), World.cell?_alloc_at _ _ _ _ (by simp)]; rfl) | (rw [World.cell?_alloc_past _ _ _ (by simp <;> omega), World.cell?_alloc_past _ _ _ (by simp <;> omega), World.cell?_alloc_at _ _ _ _ (by simp)]; rfl)
    have td1 : (W7.alloc (.cells #[.int .i64 0, .int .i64 0, .int .i64 0, .bool false, .int .i64 0] 40)).cell? ⟨W7.heap.size, 1, none⟩ = some (.int .i64 0) := by first | (simp; done) | (rw [World.cell?_alloc_at _ _ _ _ (by simp)]; rfl) | (rw [World.cell?_alloc_past _ _ _ (by simp <;> omega), World.cell?_alloc_at _ _ _ _ (by simp)]; rfl) | (rw [World.cell?_alloc_past _ _ _ (by simp <;> omega), World.cell?_alloc_past _ _ _ (by simp <;> omega), World.cell?_alloc_at _ _ _ _ (by simp)]; rfl)
    have td2 : (W7.alloc (.cells #[.int .i64 0, .int .i64 0, .int .i64 0, .bool false, .int .i64 0] 40)).cell? ⟨W7.heap.size, 2, none⟩ = some (.int .i64 0) := by first | (simp; done) | (rw [World.cell?_alloc_at _ _ _ _ (by simp)]; rfl) | (rw [World.cell?_alloc_past _ _ _ (by simp <;> omega), World.cell?_alloc_at _ _ _ _ (by simp)]; rfl) | (rw [World.cell?_alloc_past _ _ _ (by simp <;> omega), World.cell?_alloc_past _ _ _ (by simp <;> omega), World.cell?_alloc_at _ _ _ _ (by simp)]; rfl)
    have td3 : (W7.alloc (.cells #[.int .i64 0, .int .i64 0, .int .i64 0, .bool false, .int .i64 0] 40)).cell? ⟨W7.heap.size, 3, none⟩ = some (.bool false) := by first | (simp; done) | (rw [World.cell?_alloc_at _ _ _ _ (by simp)]; rfl) | (rw [World.cell?_alloc_past _ _ _ (by simp <;> omega), World.cell?_alloc_at _ _ _ _ (by simp)]; rfl) | (rw [World.cell?_alloc_past _ _ _ (by simp <;> omega), World.cell?_alloc_past _ _ _ (by simp <;> omega), World.cell?_alloc_at _ _ _ _ (by simp)]; rfl)
    have td4 : (W7.alloc (.cells #[.int .i64 0, .int .i64 0, .int .i64 0, .bool false, .int .i64 0] 40)).cell? ⟨W7.heap.size, 4, none⟩ = some (.int .i64 0) := by first | (simp; done) | (rw [World.cell?_alloc_at _ _ _ _ (by simp)]; rfl) | (rw [World.cell?_alloc_past _ _ _ (by simp <;> omega), World.cell?_alloc_at _ _ _ _ (by simp)]; rfl) | (rw [World.cell?_alloc_past _ _ _ (by simp <;> omega), World.cell?_alloc_past _ _ _ (by simp <;> omega), World.cell?_alloc_at _ _ _ _ (by simp)]; rfl)
    have hb2 := (by repeat (first | exact hbel | refine belAlloc ?_ _ | refine belDrew ?_ | refine belSet ?_ _ _ (by simp)) : Below W7.heap.size W7 (W7.alloc (.cells #[.int .i64 0, .int .i64 0, .int .i64 0, .bool false, .int .i64 0] 40)))
    replace ta0 := keepOnP ta0 hb2
    replace ta1 := keepOnP ta1 hb2
    replace ta2 := keepOnP ta2 hb2
    replace ta3 := keepOnP ta3 hb2
    replace ta4 := keepOnP ta4 hb2
    replace tb0 := keepOnP tb0 hb2
    replace tb1 := keepOnP tb1 hb2
    replace tb2 := keepOnP tb2 hb2
    replace tb3 := keepOnP tb3 hb2
    replace tb4 := keepOnP tb4 hb2
    replace tc0 := keepOnP tc0 hb2
    replace tc1 := keepOnP tc1 hb2
    replace tc2 := keepOnP tc2 hb2
    replace tc3 := keepOnP tc3 hb2
    replace tc4 := keepOnP tc4 hb2
    replace hw := belStep hw hb2
    clear hb2 hbel
    generalize W7.alloc (.cells #[.int .i64 0, .int .i64 0, .int .i64 0, .bool false, .int .i64 0] 40) = W8 at *
    replace td0 := keep td0
    replace td1 := keep td1
    replace td2 := keep td2
    replace td3 := keep td3
    replace td4 := keep td4
    have hbel : Below W8.heap.size W8 W8 := Below.refl _ _
    skip
    go_wp2
    go_ret
    exact ⟨rfl, belStep hw hbel⟩
  · rw [if_pos k1] at t1
    rw [if_neg (fun q => k2 q.2)] at t2
    have R1 := fun v (hv : Below W.heap.size W v) => rd_some _ _ v (by rw [a_size, a_size, a_size]; omega) (ht.later hv) t1
    have R2 := fun v (hv : Below W.heap.size W v) => rd_none _ v (by rw [a_size, a_size, a_size, a_size, a_size]; omega) (ht.later hv) t2
    obtain ⟨k3, k4⟩ := k1
    have k5 : g % 1100 < 1 ∨ (1 ≤ g % 1100 ∧ 1000 < g % 1100) := by omega
    have H1 := Lib.hid R1
    have H2 := Lib.hid R2
    have H3 := Lib.hid R3
    have H4 := Lib.hid R4
    clear R1 R2 R3 R4 t1 t2 t3 t4 ht hi hP hG
    generalize wB (a % 3) = wd at *
    generalize ddB (p % 130).toNat = d1 at *
    generalize ddB (g % 1100).toNat = d2 at *
    go_enter Tryd.func11, Tryd.ntmps11
    go_upto_region 6 with (first | (go_at_call 22; (with_reducible refine (CA.out _ (belStep hw hbel)).mono ?_); rintro e w1 ⟨rfl, hb1⟩; replace hbel := belStep hbel hb1; clear hb1) | (go_at_call 31; (with_reducible refine (CW.out _).mono ?_); rintro e w' ⟨rfl, rfl⟩))
    replace hw := belStep hw hbel
    clear hbel
    generalize w1 = W0 at *
    have hbel : Below W0.heap.size W0 W0 := Below.refl _ _
    go_upto_region 8 with (first | (go_at_call 21; (with_reducible refine (CD.out _).mono ?_); rintro e w1 ⟨rfl, hb1⟩; replace hbel := belStep hbel hb1; clear hb1) | (go_at_call 23; (with_reducible refine (H1.out _ (belStep hw hbel)).mono ?_); rintro e w1 ⟨rfl, hb1⟩; replace hbel := belStep hbel hb1; clear hb1))
    replace hw := belStep hw hbel
    clear hbel
    generalize w1 = W1 at *
    have hbel : Below W1.heap.size W1 W1 := Below.refl _ _
    have ta0 : (W1.alloc (.cells #[.int .i64 (a % 3), .int .i64 (p % 130), .int .i64 0, .bool false, .int .i64 0] 40)).cell? ⟨W1.heap.size, 0, none⟩ = some (.int .i64 (a % 3)) := by first | (simp; done) | (rw [World.cell?_alloc_at _ _ _ _ (by simp)]; rfl) | (rw [World.cell?_alloc_past _ _ _ (by simp <;> omega), World.cell?_alloc_at _ _ _ _ (by simp)]; rfl) | (rw [World.cell?_alloc_past _ _ _ (by simp <;> omega), World.cell?_alloc_past _ _ _ (by simp <;> omega), World.cell?_alloc_at _ _ _ _ (by simp)]; rfl)
    have ta1 : (W1.alloc (.cells #[.int .i64 (a % 3), .int .i64 (p % 130), .int .i64 0, .bool false, .int .i64 0] 40)).cell? ⟨W1.heap.size, 1, none⟩ = some (.int .i64 (p % 130)) := by first | (simp; done) | (rw [World.cell?_alloc_at _ _ _ _ (by simp)]; rfl) | (rw [World.cell?_alloc_past _ _ _ (by simp <;> omega), World.cell?_alloc_at _ _ _ _ (by simp)]; rfl) | (rw [World.cell?_alloc_past _ _ _ (by simp <;> omega), World.cell?_alloc_past _ _ _ (by simp <;> omega), World.cell?_alloc_at _ _ _ _ (by simp)]; rfl)
    have ta2 : (W1.alloc (.cells #[.int .i64 (a % 3), .int .i64 (p % 130), .int .i64 0, .bool false, .int .i64 0] 40)).cell? ⟨W1.heap.size, 2, none⟩ = some (.int .i64 0) := by first | (simp; done) | (rw [World.cell?_alloc_at _ _ _ _ (by simp)]; rfl) | (rw [World.cell?_alloc_past _ _ _ (by simp <;> omega), World.cell?_alloc_at _ _ _ _ (by simp)]; rfl) | (rw [World.cell?_alloc_past _ _ _ (by simp <;> omega), World.cell?_alloc_past _ _ _ (by simp <;> omega), World.cell?_alloc_at _ _ _ _ (by simp)]; rfl)
    have ta3 : (W1.alloc (.cells #[.int .i64 (a % 3), .int .i64 (p % 130), .int .i64 0, .bool false, .int .i64 0] 40)).cell? ⟨W1.heap.size, 3, none⟩ = some (.bool false) := by first | (simp; done) | (rw [World.cell?_alloc_at _ _ _ _ (by simp)]; rfl) | (rw [World.cell?_alloc_past _ _ _ (by simp <;> omega), World.cell?_alloc_at _ _ _ _ (by simp)]; rfl) | (rw [World.cell?_alloc_past _ _ _ (by simp <;> omega), World.cell?_alloc_past _ _ _ (by simp <;> omega), World.cell?_alloc_at _ _ _ _ (by simp)]; rfl)
    have ta4 : (W1.alloc (.cells #[.int .i64 (a % 3), .int .i64 (p % 130), .int .i64 0, .bool false, .int .i64 0] 40)).cell? ⟨W1.heap.size, 4, none⟩ = some (.int .i64 0) := by first | (simp; done) | (rw [World.cell?_alloc_at _ _ _ _ (by simp)]; rfl) | (rw [World.cell?_alloc_past _ _ _ (by simp <;> omega), World.cell?_alloc_at _ _ _ _ (by simp)]; rfl) | (rw [World.cell?_alloc_past _ _ _ (by simp <;> omega), World.cell?_alloc_past _ _ _ (by simp <;> omega), World.cell?_alloc_at _ _ _ _ (by simp)]; rfl)
    have hb2 := (by repeat (first | exact hbel | refine belAlloc ?_ _ | refine belDrew ?_ | refine belSet ?_ _ _ (by simp)) : Below W1.heap.size W1 (W1.alloc (.cells #[.int .i64 (a % 3), .int .i64 (p % 130), .int .i64 0, .bool false, .int .i64 0] 40)))
    replace hw := belStep hw hb2
    clear hb2 hbel
    generalize W1.alloc (.cells #[.int .i64 (a % 3), .int .i64 (p % 130), .int .i64 0, .bool false, .int .i64 0] 40) = W2 at *
    replace ta0 := keep ta0
    replace ta1 := keep ta1
    replace ta2 := keep ta2
    replace ta3 := keep ta3
    replace ta4 := keep ta4
    have hbel : Below W2.heap.size W2 W2 := Below.refl _ _
    skip
    go_upto_region 9 with (first | (go_at_call 21; (with_reducible refine (CE.out _).mono ?_); rintro e w1 ⟨rfl, hb1⟩; replace hbel := belStep hbel hb1; clear hb1) | (go_at_call 23; (with_reducible refine (H2.out _ (belStep hw hbel)).mono ?_); rintro e w1 ⟨rfl, hb1⟩; replace hbel := belStep hbel hb1; clear hb1))
    replace ta0 := keepOnP ta0 hbel
    replace ta1 := keepOnP ta1 hbel
    replace ta2 := keepOnP ta2 hbel
    replace ta3 := keepOnP ta3 hbel
    replace ta4 := keepOnP ta4 hbel
    replace hw := belStep hw hbel
    clear hbel
    generalize w1 = W3 at *
    have hbel : Below W3.heap.size W3 W3 := Below.refl _ _
    have tb0 : (W3.alloc (.cells #[.int .i64 0, .int .i64 0, .int .i64 0, .bool false, .int .i64 0] 40)).cell? ⟨W3.heap.size, 0, none⟩ = some (.int .i64 0) := by first | (simp; done) | (rw [World.cell?_alloc_at _ _ _ _ (by simp)]; rfl) | (rw [World.cell?_alloc_past _ _ _ (by simp <;> omega), World.cell?_alloc_at _ _ _ _ (by simp)]; rfl) | (rw [World.cell?_alloc_past _ _ _ (by simp <;> omega), World.cell?_alloc_past _ _ _ (by simp <;> omega), World.cell?_alloc_at _ _ _ _ (by simp)]; rfl)
    have tb1 : (W3.alloc (.cells #[.int .i64 0, .int .i64 0, .int .i64 0, .bool false, .int .i64 0] 40)).cell? ⟨W3.heap.size, 1, none⟩ = some (.int .i64 0) := by first | (simp; done) | (rw [World.cell?_alloc_at _ _ _ _ (by simp)]; rfl) | (rw [World.cell?_alloc_past _ _ _ (by simp <;> omega), World.cell?_alloc_at _ _ _ _ (by simp)]; rfl) | (rw [World.cell?_alloc_past _ _ _ (by simp <;> omega), World.cell?_alloc_past _ _ _ (by simp <;> omega), World.cell?_alloc_at _ _ _ _ (by simp)]; rfl)
    have tb2 : (W3.alloc (.cells #[.int .i64 0, .int .i64 0, .int .i64 0, .bool false, .int .i64 0] 40)).cell? ⟨W3.heap.size, 2, none⟩ = some (.int .i64 0) := by first | (simp; done) | (rw [World.cell?_alloc_at _ _ _ _ (by simp)]; rfl) | (rw [World.cell?_alloc_past _ _ _ (by simp <;> omega), World.cell?_alloc_at _ _ _ _ (by simp)]; rfl) | (rw [World.cell?_alloc_past _ _ _ (by simp <;> omega), World.cell?_alloc_past _ _ _ (by simp <;> omega), World.cell?_alloc_at _ _ _ _ (by simp)]; rfl)
    have tb3 : (W3.alloc (.cells #[.int .i64 0, .int .i64 0, .int .i64 0, .bool false, .int .i64 0] 40)).cell? ⟨W3.heap.size, 3, none⟩ = some (.bool false) := by first | (simp; done) | (rw [World.cell?_alloc_at _ _ _ _ (by simp)]; rfl) | (rw [World.cell?_alloc_past _ _ _ (by simp <;> omega), World.cell?_alloc_at _ _ _ _ (by simp)]; rfl) | (rw [World.cell?_alloc_past _ _ _ (by simp <;> omega), World.cell?_alloc_past _ _ _ (by simp <;> omega), World.cell?_alloc_at _ _ _ _ (by simp)]; rfl)
    have tb4 : (W3.alloc (.cells #[.int .i64 0, .int .i64 0, .int .i64 0, .bool false, .int .i64 0] 40)).cell? ⟨W3.heap.size, 4, none⟩ = some (.int .i64 0) := by first | (simp; done) | (rw [World.cell?_alloc_at _ _ _ _ (by simp)]; rfl) | (rw [World.cell?_alloc_past _ _ _ (by simp <;> omega), World.cell?_alloc_at _ _ _ _ (by simp)]; rfl) | (rw [World.cell?_alloc_past _ _ _ (by simp <;> omega), World.cell?_alloc_past _ _ _ (by simp <;> omega), World.cell?_alloc_at _ _ _ _ (by simp)]; rfl)
    have hb2 := (by repeat (first | exact hbel | refine belAlloc ?_ _ | refine belDrew ?_ | refine belSet ?_ _ _ (by simp)) : Below W3.heap.size W3 (W3.alloc (.cells #[.int .i64 0, .int .i64 0, .int .i64 0, .bool false, .int .i64 0] 40)))
    replace ta0 := keepOnP ta0 hb2
    replace ta1 := keepOnP ta1 hb2
    replace ta2 := keepOnP ta2 hb2
    replace ta3 := keepOnP ta3 hb2
    replace ta4 := keepOnP ta4 hb2
    replace hw := belStep hw hb2
    clear hb2 hbel
    generalize W3.alloc (.cells #[.int .i64 0, .int .i64 0, .int .i64 0, .bool false, .int .i64 0] 40) = W4 at *
    replace tb0 := keep tb0
    replace tb1 := keep tb1
    replace tb2 := keep tb2
    replace tb3 := keep tb3
    replace tb4 := keep tb4
    have hbel : Below W4.heap.size W4 W4 := Below.refl _ _
    skip
    go_upto_region 10 with (first | (go_at_call 21; (with_reducible refine (CD.out _).mono ?_); rintro e w1 ⟨rfl, hb1⟩; replace hbel := belStep hbel hb1; clear hb1) | (go_at_call 23; (with_reducible refine (H3.out _ (belStep hw hbel)).mono ?_); rintro e w1 ⟨rfl, hb1⟩; replace hbel := belStep hbel hb1; clear hb1))
    replace ta0 := keepOnP ta0 hbel
    replace ta1 := keepOnP ta1 hbel
    replace ta2 := keepOnP ta2 hbel
    replace ta3 := keepOnP ta3 hbel
    replace ta4 := keepOnP ta4 hbel
    replace tb0 := keepOnP tb0 hbel
    replace tb1 := keepOnP tb1 hbel
    replace tb2 := keepOnP tb2 hbel
    replace tb3 := keepOnP tb3 hbel
    replace tb4 := keepOnP tb4 hbel
    replace hw := belStep hw hbel
    clear hbel
    generalize w1 = W5 at *
    have hbel : Below W5.heap.size W5 W5 := Below.refl _ _
    have tc0 : (W5.alloc (.cells #[.int .i64 0, .int .i64 0, .int .i64 0, .bool false, .int .i64 0] 40)).cell? ⟨W5.heap.size, 0, none⟩ = some (.int .i64 0) := by first | (simp; done) | (rw [World.cell?_alloc_at _ _ _ _ (by simp)]; rfl) | (rw [World.cell?_alloc_past _ _ _ (by simp <;> omega), World.cell?_alloc_at _ _ _ _ (by simp)]; rfl) | (rw [World.cell?_alloc_past _ _ _ (by simp <;> omega), World.cell?_alloc_past _ _ _ (by simp <;> omega), World.cell?_alloc_at _ _ _ _ (by simp)]; rfl)
    have tc1 : (W5.alloc (.cells #[.int .i64 0, .int .i64 0, .int .i64 0, .bool false, .int .i64 0] 40)).cell? ⟨W5.heap.size, 1, none⟩ = some (.int .i64 0) := by first | (simp; done) | (rw [World.cell?_alloc_at _ _ _ _ (by simp)]; rfl) | (rw [World.cell?_alloc_past _ _ _ (by simp <;> omega), World.cell?_alloc_at _ _ _ _ (by simp)]; rfl) | (rw [World.cell?_alloc_past _ _ _ (by simp <;> omega), World.cell?_alloc_past _ _ _ (by simp <;> omega), World.cell?_alloc_at _ _ _ _ (by simp)]; rfl)
    have tc2 : (W5.alloc (.cells #[.int .i64 0, .int .i64 0, .int .i64 0, .bool false, .int .i64 0] 40)).cell? ⟨W5.heap.size, 2, none⟩ = some (.int .i64 0) := by first | (simp; done) | (rw [World.cell?_alloc_at _ _ _ _ (by simp)]; rfl) | (rw [World.cell?_alloc_past _ _ _ (by simp <;> omega), World.cell?_alloc_at _ _ _ _ (by simp)]; rfl) | (rw [World.cell?_alloc_past _ _ _ (by simp <;> omega), World.cell?_alloc_past _ _ _ (by simp <;> omega), World.cell?_alloc_at _ _ _ _ (by simp)]; rfl)
    have tc3 : (W5.alloc (.cells #[.int .i64 0, .int .i64 0, .int .i64 0, .bool false, .int .i64 0] 40)).cell? ⟨W5.heap.size, 3, none⟩ = some (.bool false) := by first | (simp; done) | (rw [World.cell?_alloc_at _ _ _ _ (by simp)]; rfl) | (rw [World.cell?_alloc_past _ _ _ (by simp <;> omega), World.cell?_alloc_at _ _ _ _ (by simp)]; rfl) | (rw [World.cell?_alloc_past _ _ _ (by simp <;> omega), World.cell?_alloc_past _ _ _ (by simp <;> omega), World.cell?_alloc_at _ _ _ _ (by simp)]; rfl)
    have tc4 : (W5.alloc (.cells #[.int .i64 0, .int .i64 0, .int .i64 0, .bool false, .int .i64 0] 40)).cell? ⟨W5.heap.size, 4, none⟩ = some (.int .i64 0) := by first | (simp; done) | (rw [World.cell?_alloc_at _ _ _ _ (by simp)]; rfl) | (rw [World.cell?_alloc_past _ _ _ (by simp <;> omega), World.cell?_alloc_at _ _ _ _ (by simp)]; rfl) | (rw [World.cell?_alloc_past _ _ _ (by simp <;> omega), World.cell?_alloc_past _ _ _ (by simp <;> omega), World.cell?_alloc_at _ _ _ _ (by simp)]; rfl)
    have hb2 := (by repeat (first | exact hbel | refine belAlloc ?_ _ | refine belDrew ?_ | refine belSet ?_ _ _ (by simp)) : Below W5.heap.size W5 (W5.alloc (.cells #[.int .i64 0, .int .i64 0, .int .i64 0, .bool false, .int .i64 0] 40)))
    replace ta0 := keepOnP ta0 hb2
    replace ta1 := keepOnP ta1 hb2
    replace ta2 := keepOnP ta2 hb2
    replace ta3 := keepOnP ta3 hb2
    replace ta4 := keepOnP ta4 hb2
    replace tb0 := keepOnP tb0 hb2
    replace tb1 := keepOnP tb1 hb2
    replace tb2 := keepOnP tb2 hb2
    replace tb3 := keepOnP tb3 hb2
    replace tb4 := keepOnP tb4 hb2
    replace hw := belStep hw hb2
    clear hb2 hbel
    generalize W5.alloc (.cells #[.int .i64 0, .int .i64 0, .int .i64 0, .bool false, .int .i64 0] 40) = W6 at *
    replace tc0 := keep tc0
    replace tc1 := keep tc1
    replace tc2 := keep tc2
    replace tc3 := keep tc3
    replace tc4 := keep tc4
    have hbel : Below W6.heap.size W6 W6 := Below.refl _ _
    skip
    go_upto_region 11 with (first | (go_at_call 21; (with_reducible refine (CE.out _).mono ?_); rintro e w1 ⟨rfl, hb1⟩; replace hbel := belStep hbel hb1; clear hb1) | (go_at_call 23; (with_reducible refine (H4.out _ (belStep hw hbel)).mono ?_); rintro e w1 ⟨rfl, hb1⟩; replace hbel := belStep hbel hb1; clear hb1))
    replace ta0 := keepOnP ta0 hbel
    replace ta1 := keepOnP ta1 hbel
    replace ta2 := keepOnP ta2 hbel
    replace ta3 := keepOnP ta3 hbel
    replace ta4 := keepOnP ta4 hbel
    replace tb0 := keepOnP tb0 hbel
    replace tb1 := keepOnP tb1 hbel
    replace tb2 := keepOnP tb2 hbel
    replace tb3 := keepOnP tb3 hbel
    replace tb4 := keepOnP tb4 hbel
    replace tc0 := keepOnP tc0 hbel
    replace tc1 := keepOnP tc1 hbel
    replace tc2 := keepOnP tc2 hbel
    replace tc3 := keepOnP tc3 hbel
    replace tc4 := keepOnP tc4 hbel
    replace hw := belStep hw hbel
    clear hbel
    generalize w1 = W7 at *
    have hbel : Below W7.heap.size W7 W7 := Below.refl _ _
    have td0 : (W7.alloc (.cells #[.int .i64 0, .int .i64 0, .int .i64 0, .bool false, .int .i64 0] 40)).cell? ⟨W7.heap.size, 0, none⟩ = some (.int .i64 0) := by first | (simp; done) | (rw [World.cell?_alloc_at _ _ _ _ (by simp)]; rfl) | (rw [World.cell?_alloc_past _ _ _ (by simp <;> omega), World.cell?_alloc_at _ _ _ _ (by simp)]; rfl) | (rw [World.cell?_alloc_past _ _ _ (by simp <;> omega), World.cell?_alloc_past _ _ _ (by simp <;> omega), World.cell?_alloc_at _ _ _ _ (by simp)]; rfl)
    have td1 : (W7.alloc (.cells #[.int .i64 0, .int .i64 0, .int .i64 0, .bool false, .int .i64 0] 40)).cell? ⟨W7.heap.size, 1, none⟩ = some (.int .i64 0) := by first | (simp; done) | (rw [World.cell?_alloc_at _ _ _ _ (by simp)]; rfl) | (rw [World.cell?_alloc_past _ _ _ (by simp <;> omega), World.cell?_alloc_at _ _ _ _ (by simp)]; rfl) | (rw [World.cell?_alloc_past _ _ _ (by simp <;> omega), World.cell?_alloc_past _ _ _ (by simp <;> omega), World.cell?_alloc_at _ _ _ _ (by simp)]; rfl)
    have td2 : (W7.alloc (.cells #[.int .i64 0, .int .i64 0, .int .i64 0, .bool false, .int .i64 0] 40)).cell? ⟨W7.heap.size, 2, none⟩ = some (.int .i64 0) := by first | (simp; done) | (rw [World.cell?_alloc_at _ _ _ _ (by simp)]; rfl) | (rw [World.cell?_alloc_past _ _ _ (by simp <;> omega), World.cell?_alloc_at _ _ _ _ (by simp)]; rfl) | (rw [World.cell?_alloc_past _ _ _ (by simp <;> omega), World.cell?_alloc_past _ _ _ (by simp <;> omega), World.cell?_alloc_at _ _ _ _ (by simp)]; rfl)
    have td3 : (W7.alloc (.cells #[.int .i64 0, .int .i64 0, .int .i64 0, .bool false, .int .i64 0] 40)).cell? ⟨W7.heap.size, 3, none⟩ = some (.bool false) := by first | (simp; done) | (rw [World.cell?_alloc_at _ _ _ _ (by simp)]; rfl) | (rw [World.cell?_alloc_past _ _ _ (by simp <;> omega), World.cell?_alloc_at _ _ _ _ (by simp)]; rfl) | (rw [World.cell?_alloc_past _ _ _ (by simp <;> omega), World.cell?_alloc_past _ _ _ (by simp <;> omega), World.cell?_alloc_at _ _ _ _ (by simp)]; rfl)
    have td4 : (W7.alloc (.cells #[.int .i64 0, .int .i64 0, .int .i64 0, .bool false, .int .i64 0] 40)).cell? ⟨W7.heap.size, 4, none⟩ = some (.int .i64 0) := by first | (simp; done) | (rw [World.cell?_alloc_at _ _ _ _ (by simp)]; rfl) | (rw [World.cell?_alloc_past _ _ _ (by simp <;> omega), World.cell?_alloc_at _ _ _ _ (by simp)]; rfl) | (rw [World.cell?_alloc_past _ _ _ (by simp <;> omega), World.cell?_alloc_past _ _ _ (by simp <;> omega), World.cell?_alloc_at _ _ _ _ (by simp)]; rfl)
    have hb2 := (by repeat (first | exact hbel | refine belAlloc ?_ _ | refine belDrew ?_ | refine belSet ?_ _ _ (by simp)) : Below W7.heap.size W7 (W7.alloc (.cells #[.int .i64 0, .int .i64 0, .int .i64 0, .bool false, .int .i64 0] 40)))
    replace ta0 := keepOnP ta0 hb2
    replace ta1 := keepOnP ta1 hb2
    replace ta2 := keepOnP ta2 hb2
    replace ta3 := keepOnP ta3 hb2
    replace ta4 := keepOnP ta4 hb2
    replace tb0 := keepOnP tb0 hb2
    replace tb1 := keepOnP tb1 hb2
    replace tb2 := keepOnP tb2 hb2
    replace tb3 := keepOnP tb3 hb2
    replace tb4 := keepOnP tb4 hb2
    replace tc0 := keepOnP tc0 hb2
    replace tc1 := keepOnP tc1 hb2
    replace tc2 := keepOnP tc2 hb2
    replace tc3 := keepOnP tc3 hb2
    replace tc4 := keepOnP tc4 hb2
    replace hw := belStep hw hb2
    clear hb2 hbel
    generalize W7.alloc (.cells #[.int .i64 0, .int .i64 0, .int .i64 0, .bool false, .int .i64 0] 40) = W8 at *
    replace td0 := keep td0
    replace td1 := keep td1
    replace td2 := keep td2
    replace td3 := keep td3
    replace td4 := keep td4
    have hbel : Below W8.heap.size W8 W8 := Below.refl _ _
    skip
    rcases k5 with k5 | ⟨k5, k6⟩
    all_goals
      go_wp2
      go_ret
      exact ⟨rfl, belStep hw hbel⟩
  · rw [if_neg k1] at t1
    rw [if_neg (fun q => k1 q.1)] at t2
    have R1 := fun v (hv : Below W.heap.size W v) => rd_none _ v (by rw [a_size, a_size, a_size]; omega) (ht.later hv) t1
    have R2 := fun v (hv : Below W.heap.size W v) => rd_none _ v (by rw [a_size, a_size, a_size, a_size, a_size]; omega) (ht.later hv) t2
    have k5 : p % 130 < 1 ∨ (1 ≤ p % 130 ∧ 100 < p % 130) := by omega
    have H1 := Lib.hid R1
    have H2 := Lib.hid R2
    have H3 := Lib.hid R3
    have H4 := Lib.hid R4
    clear R1 R2 R3 R4 t1 t2 t3 t4 ht hi hP hG
    generalize wB (a % 3) = wd at *
    generalize ddB (p % 130).toNat = d1 at *
    generalize ddB (g % 1100).toNat = d2 at *
    go_enter Tryd.func11, Tryd.ntmps11
    go_upto_region 6 with (first | (go_at_call 22; (with_reducible refine (CA.out _ (belStep hw hbel)).mono ?_); rintro e w1 ⟨rfl, hb1⟩; replace hbel := belStep hbel hb1; clear hb1) | (go_at_call 31; (with_reducible refine (CW.out _).mono ?_); rintro e w' ⟨rfl, rfl⟩))
    replace hw := belStep hw hbel
    clear hbel
    generalize w1 = W0 at *
    have hbel : Below W0.heap.size W0 W0 := Below.refl _ _
    go_upto_region 8 with (first | (go_at_call 21; (with_reducible refine (CD.out _).mono ?_); rintro e w1 ⟨rfl, hb1⟩; replace hbel := belStep hbel hb1; clear hb1) | (go_at_call 23; (with_reducible refine (H1.out _ (belStep hw hbel)).mono ?_); rintro e w1 ⟨rfl, hb1⟩; replace hbel := belStep hbel hb1; clear hb1))
    replace hw := belStep hw hbel
    clear hbel
    generalize w1 = W1 at *
    have hbel : Below W1.heap.size W1 W1 := Below.refl _ _
    have ta0 : (W1.alloc (.cells #[.int .i64 0, .int .i64 0, .int .i64 0, .bool false, .int .i64 0] 40)).cell? ⟨W1.heap.size, 0, none⟩ = some (.int .i64 0) := by first | (simp; done) | (rw [World.cell?_alloc_at _ _ _ _ (by simp)]; rfl) | (rw [World.cell?_alloc_past _ _ _ (by simp <;> omega), World.cell?_alloc_at _ _ _ _ (by simp)]; rfl) | (rw [World.cell?_alloc_past _ _ _ (by simp <;> omega), World.cell?_alloc_past _ _ _ (by simp <;> omega), World.cell?_alloc_at _ _ _ _ (by simp)]; rfl)
    have ta1 : (W1.alloc (.cells #[.int .i64 0, .int .i64 0, .int .i64 0, .bool false, .int .i64 0] 40)).cell? ⟨W1.heap.size, 1, none⟩ = some (.int .i64 0) := by first | (simp; done) | (rw [World.cell?_alloc_at _ _ _ _ (by simp)]; rfl) | (rw [World.cell?_alloc_past _ _ _ (by simp <;> omega), World.cell?_alloc_at _ _ _ _ (by simp)]; rfl) | (rw [World.cell?_alloc_past _ _ _ (by simp <;> omega), World.cell?_alloc_past _ _ _ (by simp <;> omega), World.cell?_alloc_at _ _ _ _ (by simp)]; rfl)
    have ta2 : (W1.alloc (.cells #[.int .i64 0, .int .i64 0, .int .i64 0, .bool false, .int .i64 0] 40)).cell? ⟨W1.heap.size, 2, none⟩ = some (.int .i64 0) := by first | (simp; done) | (rw [World.cell?_alloc_at _ _ _ _ (by simp)]; rfl) | (rw [World.cell?_alloc_past _ _ _ (by simp <;> omega), World.cell?_alloc_at _ _ _ _ (by simp)]; rfl) | (rw [World.cell?_alloc_past _ _ _ (by simp <;> omega), World.cell?_alloc_past _ _ _ (by simp <;> omega), World.cell?_alloc_at _ _ _ _ (by simp)]; rfl)
    have ta3 : (W1.alloc (.cells #[.int .i64 0, .int .i64 0, .int .i64 0, .bool false, .int .i64 0] 40)).cell? ⟨W1.heap.size, 3, none⟩ = some (.bool false) := by first | (simp; done) | (rw [World.cell?_alloc_at _ _ _ _ (by simp)]; rfl) | (rw [World.cell?_alloc_past _ _ _ (by simp <;> omega), World.cell?_alloc_at _ _ _ _ (by simp)]; rfl) | (rw [World.cell?_alloc_past _ _ _ (by simp <;> omega), World.cell?_alloc_past _ _ _ (by simp <;> omega), World.cell?_alloc_at _ _ _ _ (by simp)]; rfl)
    have ta4 : (W1.alloc (.cells #[.int .i64 0, .int .i64 0, .int .i64 0, .bool false, .int .i64 0] 40)).cell? ⟨W1.heap.size, 4, none⟩ = some (.int .i64 0) := by first | (simp; done) | (rw [World.cell?_alloc_at _ _ _ _ (by simp)]; rfl) | (rw [World.cell?_alloc_past _ _ _ (by simp <;> omega), World.cell?_alloc_at _ _ _ _ (by simp)]; rfl) | (rw [World.cell?_alloc_past _ _ _ (by simp <;> omega), World.cell?_alloc_past _ _ _ (by simp <;> omega), World.cell?_alloc_at _ _ _ _ (by simp)]; rfl)
    have hb2 := (by repeat (first | exact hbel | refine belAlloc ?_ _ | refine belDrew ?_ | refine belSet ?_ _ _ (by simp)) : Below W1.heap.size W1 (W1.alloc (.cells #[.int .i64 0, .int .i64 0, .int .i64 0, .bool false, .int .i64 0] 40)))
    replace hw := belStep hw hb2
    clear hb2 hbel
    generalize W1.alloc (.cells #[.int .i64 0, .int .i64 0, .int .i64 0, .bool false, .int .i64 0] 40) = W2 at *
    replace ta0 := keep ta0
    replace ta1 := keep ta1
    replace ta2 := keep ta2
    replace ta3 := keep ta3
    replace ta4 := keep ta4
    have hbel : Below W2.heap.size W2 W2 := Below.refl _ _
    skip
    go_upto_region 9 with (first | (go_at_call 21; (with_reducible refine (CE.out _).mono ?_); rintro e w1 ⟨rfl, hb1⟩; replace hbel := belStep hbel hb1; clear hb1) | (go_at_call 23; (with_reducible refine (H2.out _ (belStep hw hbel)).mono ?_); rintro e w1 ⟨rfl, hb1⟩; replace hbel := belStep hbel hb1; clear hb1))
    replace ta0 := keepOnP ta0 hbel
    replace ta1 := keepOnP ta1 hbel
    replace ta2 := keepOnP ta2 hbel
    replace ta3 := keepOnP ta3 hbel
    replace ta4 := keepOnP ta4 hbel
    replace hw := belStep hw hbel
    clear hbel
    generalize w1 = W3 at *
    have hbel : Below W3.heap.size W3 W3 := Below.refl _ _
    have tb0 : (W3.alloc (.cells #[.int .i64 0, .int .i64 0, .int .i64 0, .bool false, .int .i64 0] 40)).cell? ⟨W3.heap.size, 0, none⟩ = some (.int .i64 0) := by first | (simp; done) | (rw [World.cell?_alloc_at _ _ _ _ (by simp)]; rfl) | (rw [World.cell?_alloc_past _ _ _ (by simp <;> omega), World.cell?_alloc_at _ _ _ _ (by simp)]; rfl) | (rw [World.cell?_alloc_past _ _ _ (by simp <;> omega), World.cell?_alloc_past _ _ _ (by simp <;> omega), World.cell?_alloc_at _ _ _ _ (by simp)]; rfl)
    have tb1 : (W3.alloc (.cells #[.int .i64 0, .int .i64 0, .int .i64 0, .bool false, .int .i64 0] 40)).cell? ⟨W3.heap.size, 1, none⟩ = some (.int .i64 0) := by first | (simp; done) | (rw [World.cell?_alloc_at _ _ _ _ (by simp)]; rfl) | (rw [World.cell?_alloc_past _ _ _ (by simp <;> omega), World.cell?_alloc_at _ _ _ _ (by simp)]; rfl) | (rw [World.cell?_alloc_past _ _ _ (by simp <;> omega), World.cell?_alloc_past _ _ _ (by simp <;> omega), World.cell?_alloc_at _ _ _ _ (by simp)]; rfl)
    have tb2 : (W3.alloc (.cells #[.int .i64 0, .int .i64 0, .int .i64 0, .bool false, .int .i64 0] 40)).cell? ⟨W3.heap.size, 2, none⟩ = some (.int .i64 0) := by first | (simp; done) | (rw [World.cell?_alloc_at _ _ _ _ (by simp)]; rfl) | (rw [World.cell?_alloc_past _ _ _ (by simp <;> omega), World.cell?_alloc_at _ _ _ _ (by simp)]; rfl) | (rw [World.cell?_alloc_past _ _ _ (by simp <;> omega), World.cell?_alloc_past _ _ _ (by simp <;> omega), World.cell?_alloc_at _ _ _ _ (by simp)]; rfl)
    have tb3 : (W3.alloc (.cells #[.int .i64 0, .int .i64 0, .int .i64 0, .bool false, .int .i64 0] 40)).cell? ⟨W3.heap.size, 3, none⟩ = some (.bool false) := by first | (simp; done) | (rw [World.cell?_alloc_at _ _ _ _ (by simp)]; rfl) | (rw [World.cell?_alloc_past _ _ _ (by simp <;> omega), World.cell?_alloc_at _ _ _ _ (by simp)]; rfl) | (rw [World.cell?_alloc_past _ _ _ (by simp <;> omega), World.cell?_alloc_past _ _ _ (by simp <;> omega), World.cell?_alloc_at _ _ _ _ (by simp)]; rfl)
    have tb4 : (W3.alloc (.cells #[.int .i64 0, .int .i64 0, .int .i64 0, .bool false, .int .i64 0] 40)).cell? ⟨W3.heap.size, 4, none⟩ = some (.int .i64 0) := by first | (simp; done) | (rw [World.cell?_alloc_at _ _ _ _ (by simp)]; rfl) | (rw [World.cell?_alloc_past _ _ _ (by simp <;> omega), World.cell?_alloc_at _ _ _ _ (by simp)]; rfl) | (rw [World.cell?_alloc_past _ _ _ (by simp <;> omega), World.cell?_alloc_past _ _ _ (by simp <;> omega), World.cell?_alloc_at _ _ _ _ (by simp)]; rfl)
    have hb2 := (by repeat (first | exact hbel | refine belAlloc ?_ _ | refine belDrew ?_ | refine belSet ?_ _ _ (by simp)) : Below W3.heap.size W3 (W3.alloc (.cells #[.int .i64 0, .int .i64 0, .int .i64 0, .bool false, .int .i64 0] 40)))
    replace ta0 := keepOnP ta0 hb2
    replace ta1 := keepOnP ta1 hb2
    replace ta2 := keepOnP ta2 hb2
    replace ta3 := keepOnP ta3 hb2
    replace ta4 := keepOnP ta4 hb2
    replace hw := belStep hw hb2
    clear hb2 hbel
    generalize W3.alloc (.cells #[.int .i64 0, .int .i64 0, .int .i64 0, .bool false, .int .i64 0] 40) = W4 at *
    replace tb0 := keep tb0
    replace tb1 := keep tb1
    replace tb2 := keep tb2
    replace tb3 := keep tb3
    replace tb4 := keep tb4
    have hbel : Below W4.heap.size W4 W4 := Below.refl _ _
    skip
    go_upto_region 10 with (first | (go_at_call 21; (with_reducible refine (CD.out _).mono ?_); rintro e w1 ⟨rfl, hb1⟩; replace hbel := belStep hbel hb1; clear hb1) | (go_at_call 23; (with_reducible refine (H3.out _ (belStep hw hbel)).mono ?_); rintro e w1 ⟨rfl, hb1⟩; replace hbel := belStep hbel hb1; clear hb1))
    replace ta0 := keepOnP ta0 hbel
    replace ta1 := keepOnP ta1 hbel
    replace ta2 := keepOnP ta2 hbel
    replace ta3 := keepOnP ta3 hbel
    replace ta4 := keepOnP ta4 hbel
    replace tb0 := keepOnP tb0 hbel
    replace tb1 := keepOnP tb1 hbel
    replace tb2 := keepOnP tb2 hbel
    replace tb3 := keepOnP tb3 hbel
    replace tb4 := keepOnP tb4 hbel
    replace hw := belStep hw hbel
    clear hbel
    generalize w1 = W5 at *
    have hbel : Below W5.heap.size W5 W5 := Below.refl _ _
    have tc0 : (W5.alloc (.cells #[.int .i64 0, .int .i64 0, .int .i64 0, .bool false, .int .i64 0] 40)).cell? ⟨W5.heap.size, 0, none⟩ = some (.int .i64 0) := by first | (simp; done) | (rw [World.cell?_alloc_at _ _ _ _ (by simp)]; rfl) | (rw [World.cell?_alloc_past _ _ _ (by simp <;> omega), World.cell?_alloc_at _ _ _ _ (by simp)]; rfl) | (rw [World.cell?_alloc_past _ _ _ (by simp <;> omega), World.cell?_alloc_past _ _ _ (by simp <;> omega), World.cell?_alloc_at _ _ _ _ (by simp)]; rfl)
    have tc1 : (W5.alloc (.cells #[.int .i64 0, .int .i64 0, .int .i64 0, .bool false, .int .i64 0] 40)).cell? ⟨W5.heap.size, 1, none⟩ = some (.int .i64 0) := by first | (simp; done) | (rw [World.cell?_alloc_at _ _ _ _ (by simp)]; rfl) | (rw [World.cell?_alloc_past _ _ _ (by simp <;> omega), World.cell?_alloc_at _ _ _ _ (by simp)]; rfl) | (rw [World.cell?_alloc_past _ _ _ (by simp <;> omega), World.cell?_alloc_past _ _ _ (by simp <;> omega), World.cell?_alloc_at _ _ _ _ (by simp)]; rfl)
    have tc2 : (W5.alloc (.cells #[.int .i64 0, .int .i64 0, .int .i64 0, .bool false, .int .i64 0] 40)).cell? ⟨W5.heap.size, 2, none⟩ = some (.int .i64 0) := by first | (simp; done) | (rw [World.cell?_alloc_at _ _ _ _ (by simp)]; rfl) | (rw [World.cell?_alloc_past _ _ _ (by simp <;> omega), World.cell?_alloc_at _ _ _ _ (by simp)]; rfl) | (rw [World.cell?_alloc_past _ _ _ (by simp <;> omega), World.cell?_alloc_past _ _ _ (by simp <;> omega), World.cell?_alloc_at _ _ _ _ (by simp)]; rfl)
    have tc3 : (W5.alloc (.cells #[.int .i64 0, .int .i64 0, .int .i64 0, .bool false, .int .i64 0] 40)).cell? ⟨W5.heap.size, 3, none⟩ = some (.bool false) := by first | (simp; done) | (rw [World.cell?_alloc_at _ _ _ _ (by simp)]; rfl) | (rw [World.cell?_alloc_past _ _ _ (by simp <;> omega), World.cell?_alloc_at _ _ _ _ (by simp)]; rfl) | (rw [World.cell?_alloc_past _ _ _ (by simp <;> omega), World.cell?_alloc_past _ _ _ (by simp <;> omega), World.cell?_alloc_at _ _ _ _ (by simp)]; rfl)
    have tc4 : (W5.alloc (.cells #[.int .i64 0, .int .i64 0, .int .i64 0, .bool false, .int .i64 0] 40)).cell? ⟨W5.heap.size, 4, none⟩ = some (.int .i64 0) := by first | (simp; done) | (rw [World.cell?_alloc_at _ _ _ _ (by simp)]; rfl) | (rw [World.cell?_alloc_past _ _ _ (by simp <;> omega), World.cell?_alloc_at _ _ _ _ (by simp)]; rfl) | (rw [World.cell?_alloc_past _ _ _ (by simp <;> omega), World.cell?_alloc_past _ _ _ (by simp <;> omega), World.cell?_alloc_at _ _ _ _ (by simp)]; rfl)
    have hb2 := (by repeat (first | exact hbel | refine belAlloc ?_ _ | refine belDrew ?_ | refine belSet ?_ _ _ (by simp)) : Below W5.heap.size W5 (W5.alloc (.cells #[.int .i64 0, .int .i64 0, .int .i64 0, .bool false, .int .i64 0] 40)))
    replace ta0 := keepOnP ta0 hb2
    replace ta1 := keepOnP ta1 hb2
    replace ta2 := keepOnP ta2 hb2
    replace ta3 := keepOnP ta3 hb2
    replace ta4 := keepOnP ta4 hb2
    replace tb0 := keepOnP tb0 hb2
    replace tb1 := keepOnP tb1 hb2
    replace tb2 := keepOnP tb2 hb2
    replace tb3 := keepOnP tb3 hb2
    replace tb4 := keepOnP tb4 hb2
    replace hw := belStep hw hb2
    clear hb2 hbel
    generalize W5.alloc (.cells #[.int .i64 0, .int .i64 0, .int .i64 0, .bool false, .int .i64 0] 40) = W6 at *
    replace tc0 := keep tc0
    replace tc1 := keep tc1
    replace tc2 := keep tc2
    replace tc3 := keep tc3
    replace tc4 := keep tc4
    have hbel : Below W6.heap.size W6 W6 := Below.refl _ _
    skip
    go_upto_region 11 with (first | (go_at_call 21; (with_reducible refine (CE.out _).mono ?_); rintro e w1 ⟨rfl, hb1⟩; replace hbel := belStep hbel hb1; clear hb1) | (go_at_call 23; (with_reducible refine (H4.out _ (belStep hw hbel)).mono ?_); rintro e w1 ⟨rfl, hb1⟩; replace hbel := belStep hbel hb1; clear hb1))
    replace ta0 := keepOnP ta0 hbel
    replace ta1 := keepOnP ta1 hbel
    replace ta2 := keepOnP ta2 hbel
    replace ta3 := keepOnP ta3 hbel
    replace ta4 := keepOnP ta4 hbel
    replace tb0 := keepOnP tb0 hbel
    replace tb1 := keepOnP tb1 hbel
    replace tb2 := keepOnP tb2 hbel
    replace tb3 := keepOnP tb3 hbel
    replace tb4 := keepOnP tb4 hbel
    replace tc0 := keepOnP tc0 hbel
    replace tc1 := keepOnP tc1 hbel
    replace tc2 := keepOnP tc2 hbel
    replace tc3 := keepOnP tc3 hbel
    replace tc4 := keepOnP tc4 hbel
    replace hw := belStep hw hbel
    clear hbel
    generalize w1 = W7 at *
    have hbel : Below W7.heap.size W7 W7 := Below.refl _ _
    have td0 : (W7.alloc (.cells #[.int .i64 0, .int .i64 0, .int .i64 0, .bool false, .int .i64 0] 40)).cell? ⟨W7.heap.size, 0, none⟩ = some (.int .i64 0) := by first | (simp; done) | (rw [World.cell?_alloc_at _ _ _ _ (by simp)]; rfl) | (rw [World.cell?_alloc_past _ _ _ (by simp <;> omega), World.cell?_alloc_at _ _ _ _ (by simp)]; rfl) | (rw [World.cell?_alloc_past _ _ _ (by simp <;> omega), World.cell?_alloc_past _ _ _ (by simp <;> omega), World.cell?_alloc_at _ _ _ _ (by simp)]; rfl)
    have td1 : (W7.alloc (.cells #[.int .i64 0, .int .i64 0, .int .i64 0, .bool false, .int .i64 0] 40)).cell? ⟨W7.heap.size, 1, none⟩ = some (.int .i64 0) := by first | (simp; done) | (rw [World.cell?_alloc_at _ _ _ _ (by simp)]; rfl) | (rw [World.cell?_alloc_past _ _ _ (by simp <;> omega), World.cell?_alloc_at _ _ _ _ (by simp)]; rfl) | (rw [World.cell?_alloc_past _ _ _ (by simp <;> omega), World.cell?_alloc_past _ _ _ (by simp <;> omega), World.cell?_alloc_at _ _ _ _ (by simp)]; rfl)
    have td2 : (W7.alloc (.cells #[.int .i64 0, .int .i64 0, .int .i64 0, .bool false, .int .i64 0] 40)).cell? ⟨W7.heap.size, 2, none⟩ = some (.int .i64 0) := by first | (simp; done) | (rw [World.cell?_alloc_at _ _ _ _ (by simp)]; rfl) | (rw [World.cell?_alloc_past _ _ _ (by simp <;> omega), World.cell?_alloc_at _ _ _ _ (by simp)]; rfl) | (rw [World.cell?_alloc_past _ _ _ (by simp <;> omega), World.cell?_alloc_past _ _ _ (by simp <;> omega), World.cell?_alloc_at _ _ _ _ (by simp)]; rfl)
    have td3 : (W7.alloc (.cells #[.int .i64 0, .int .i64 0, .int .i64 0, .bool false, .int .i64 0] 40)).cell? ⟨W7.heap.size, 3, none⟩ = some (.bool false) := by first | (simp; done) | (rw [World.cell?_alloc_at _ _ _ _ (by simp)]; rfl) | (rw [World.cell?_alloc_past _ _ _ (by simp <;> omega), World.cell?_alloc_at _ _ _ _ (by simp)]; rfl) | (rw [World.cell?_alloc_past _ _ _ (by simp <;> omega), World.cell?_alloc_past _ _ _ (by simp <;> omega), World.cell?_alloc_at _ _ _ _ (by simp)]; rfl)
    have td4 : (W7.alloc (.cells #[.int .i64 0, .int .i64 0, .int .i64 0, .bool false, .int .i64 0] 40)).cell? ⟨W7.heap.size, 4, none⟩ = some (.int .i64 0) := by first | (simp; done) | (rw [World.cell?_alloc_at _ _ _ _ (by simp)]; rfl) | (rw [World.cell?_alloc_past _ _ _ (by simp <;> omega), World.cell?_alloc_at _ _ _ _ (by simp)]; rfl) | (rw [World.cell?_alloc_past _ _ _ (by simp <;> omega), World.cell?_alloc_past _ _ _ (by simp <;> omega), World.cell?_alloc_at _ _ _ _ (by simp)]; rfl)
    have hb2 := (by repeat (first | exact hbel | refine belAlloc ?_ _ | refine belDrew ?_ | refine belSet ?_ _ _ (by simp)) : Below W7.heap.size W7 (W7.alloc (.cells #[.int .i64 0, .int .i64 0, .int .i64 0, .bool false, .int .i64 0] 40)))
    replace ta0 := keepOnP ta0 hb2
    replace ta1 := keepOnP ta1 hb2
    replace ta2 := keepOnP ta2 hb2
    replace ta3 := keepOnP ta3 hb2
    replace ta4 := keepOnP ta4 hb2
    replace tb0 := keepOnP tb0 hb2
    replace tb1 := keepOnP tb1 hb2
    replace tb2 := keepOnP tb2 hb2
    replace tb3 := keepOnP tb3 hb2
    replace tb4 := keepOnP tb4 hb2
    replace tc0 := keepOnP tc0 hb2
    replace tc1 := keepOnP tc1 hb2
    replace tc2 := keepOnP tc2 hb2
    replace tc3 := keepOnP tc3 hb2
    replace tc4 := keepOnP tc4 hb2
    replace hw := belStep hw hb2
    clear hb2 hbel
    generalize W7.alloc (.cells #[.int .i64 0, .int .i64 0, .int .i64 0, .bool false, .int .i64 0] 40) = W8 at *
    replace td0 := keep td0
    replace td1 := keep td1
    replace td2 := keep td2
    replace td3 := keep td3
    replace td4 := keep td4
    have hbel : Below W8.heap.size W8 W8 := Below.refl _ _
    skip
    rcases k5 with k5 | ⟨k5, k6⟩
    all_goals
      go_wp2
      go_ret
      exact ⟨rfl, belStep hw hbel⟩

set_option maxRecDepth 100000 in
theorem door_met (os : Os) (args : Array Value) : laidMet Tryd.prog Rows.threshTextsRow.laid ((World.doorLaid Tryd.prog 400 os).forCall (fun _ _ => 0) ⟨#[], args, []⟩).memory :=
  laidMet_of_run' 8 (by kernel_rfl) (by kernel_rfl)
set_option maxRecDepth 100000 in
theorem lifted (os : Os) (started : os.Started) (H : Type) (enc : TypeId × Value → H) :
    ReturnsInHanded {} Tryd.checked os 11 .any (fun w args => (Rows.threshTextsSpec.pre enc Tryd.prog Tryd.f11 [] false w args ∧ laidMetH Tryd.prog Rows.threshTextsRow.laid w) ∧ sizedMet enc Tryd.prog Tryd.f11 (OpenSpec.ofChange Rows.threshTextsSpec) false w args) (Rows.threshTextsSpec.post enc Tryd.prog Tryd.f11 false true false false) := by
  refine returnsInHanded_of_change_and_shaped (C := Tryd.checked) (X := fun w _ => laidMetH Tryd.prog Rows.threshTextsRow.laid w) (fun _ _ _ hh h => h.of_heap hh) own started (by kernel_rfl) Tryd.func11
    (ChangeSpec.witness_shaped (enc := enc) (C := Tryd.checked) (os := os) (X := fun w _ => laidMetH Tryd.prog Rows.threshTextsRow.laid w) false (World.doorLaid Tryd.prog 400 os) #[.int .u8 0, .int .u16 0, .int .u16 0] 8 rfl (World.shaped_of_RefB (by kernel_rfl) (by kernel_rfl)) (by kernel_rfl) (by kernel_rfl) (by kernel_rfl) (by rw [MakeChecks.laidMetH_plain _ _ _ (by kernel_rfl)]; exact door_met os _)) ?_
  intro W base args ds gs before hval0 hW hL hsh
  rw [MakeChecks.laidMetH_plain _ _ _ (by kernel_rfl)] at hL
  have ht : Env W := env_of hL hsh
  clear hL
  have hval : ∀ (j : Nat) t v, Tryd.f11.params[j]? = some t → args[j]? = some v → Value.okWide Tryd.prog W .any base t v := hval0
  have hW' := hW
  obtain ⟨p, q, hA0, hV, rfl, hfz, hnd⟩ := hW
  have hA : DataW.TrodAll enc Tryd.prog W 0 (fun _ => true) true Tryd.f11.params.toList args.toList ds p := hA0
  rw [Tryd.params11] at hA hval
  obtain ⟨v0, vs0, d0, ds0, p0, q0, hargs, rfl, rfl, h0, r0⟩ := trodAll_cons hA
  obtain ⟨v1, vs1, d1, ds1, p1, q1, rfl, rfl, rfl, h1, r1⟩ := trodAll_cons r0
  obtain ⟨v2, vs2, d2, ds2, p2, q2, rfl, rfl, rfl, h2, r2⟩ := trodAll_cons r1
  obtain ⟨rfl, rfl, rfl⟩ := trodAll_nil r2
  obtain rfl : args = #[v0, v1, v2] := by cases args; simp_all
  obtain ⟨rfl, rfl⟩ := trodVars_none hV
  have k0 := h0
  have lt0 : ∀ x ∈ p0, x.block < W.heap.size := by obtain ⟨m, hm⟩ := k0; exact DataW.trod_lt m _ _ _ hm
  have o0 : Value.okWide Tryd.prog W .any base 5 v0 := hval 0 5 v0 rfl rfl
  obtain ⟨a0, rfl, rfl, rfl, w0⟩ := open_int Tryd.underlying5 o0 h0
  have k1 := h1
  have lt1 : ∀ x ∈ p1, x.block < W.heap.size := by obtain ⟨m, hm⟩ := k1; exact DataW.trod_lt m _ _ _ hm
  have o1 : Value.okWide Tryd.prog W .any base 50 v1 := hval 1 50 v1 rfl rfl
  obtain ⟨a1, rfl, rfl, rfl, w1⟩ := open_int Tryd.underlying50 o1 h1
  have k2 := h2
  have lt2 : ∀ x ∈ p2, x.block < W.heap.size := by obtain ⟨m, hm⟩ := k2; exact DataW.trod_lt m _ _ _ hm
  have o2 : Value.okWide Tryd.prog W .any base 50 v2 := hval 2 50 v2 rfl rfl
  obtain ⟨a2, rfl, rfl, rfl, w2⟩ := open_int Tryd.underlying50 o2 h2
  clear hA0 hval0
  refine (walk a0 a1 a2 W ht (in8_of_wf w0) (in16_of_wf w1) (in16_of_wf w2)).mono fun e W' ⟨he, bel⟩ => ?_
  subst he
  exact ⟨_, rfl, _, _, _, [], _, [], hW', trodAll_mk1 (shut_bool Tryd.underlying4 _), (trodAll_cons_mk (Below.trod laidOut (by kernel_rfl) (of_decide_eq_true (by kernel_rfl)) k0 bel lt0) (trodAll_cons_mk (Below.trod laidOut (by kernel_rfl) (of_decide_eq_true (by kernel_rfl)) k1 bel lt1) (trodAll_cons_mk (Below.trod laidOut (by kernel_rfl) (of_decide_eq_true (by kernel_rfl)) k2 bel lt2) trodAll_mk0))), rfl, bel.frame _, fun h => by cases h⟩

theorem over : Rows.threshTextsRow.holds Tryd.pinned (OpenSpec.ofChange Rows.threshTextsSpec) :=
  OpenClaim.holds_of_wide 11 Tryd.f11 rfl rfl rfl rfl rfl rfl rfl ⟨rfl, rfl, rfl, rfl, rfl⟩ rfl rfl rfl rfl rfl (by kernel_rfl) Tryd.func11 (by kernel_rfl)
    (of_decide_eq_true (by kernel_rfl)) (by unfold Func.isWrapper; first | (rw [if_pos (by decide +kernel)]; kernel_rfl) | (rw [if_neg (by decide +kernel)]; exact ⟨rfl, rfl⟩))
    (fun os started H enc _ => lifted os started H enc)

/-- The statement. -/
theorem proved : Rows.ThreshTextsCardSaid :=
  Claim7.holds_tied_plain_at .later [] Rows.threshTextsCard.laidKinds true Rows.threshTextsCard.stood.harness true
    over (fun _ h => by cases h) (by kernel_rfl) (fun _ h => by cases h) threshTexts_row_tie rfl ⟨rfl, rfl⟩ (by kernel_rfl) rfl
    (fun f fn hf hfn => by
      obtain rfl : f = 11 := Option.some.inj ((show Tryd.prog.funcNamed Rows.threshTextsRow.func = some 11 by kernel_rfl).symm.trans hf) |>.symm
      obtain rfl : fn = Tryd.f11 := (Option.some.inj (Tryd.func11.symm.trans hfn)).symm
      exact ⟨by kernel_rfl, fun j t ht => by
        rw [Tryd.params11] at ht
        have hm : t ∈ [5, 50, 50] := by simpa using Array.mem_of_getElem? ht
        have hall : ([5, 50, 50].all fun u => !Tryd.prog.wantsStandIn u) = true := by kernel_rfl
        exact (show Tryd.prog.wantsStandIn t = false by simpa using List.all_eq_true.1 hall t hm)⟩)
    (by kernel_rfl)
#print axioms proved

end Go.Proofs.YtiaemcejgjobiaaDoor.threshTexts
