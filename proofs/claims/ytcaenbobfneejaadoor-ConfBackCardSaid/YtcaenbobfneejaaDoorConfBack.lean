
/- ConfBack holds for all its arguments. No conditions but that the library's variables lie as its own text lays them. -/
import Derived.Test.YtcaenbobfneejaaDoorCfLine
import Derived.Test.YtcaenbobfneejaaDoorThrCards
import Derived.Test.YtcaenbobfneejaaDoorKeepC
namespace Go.Proofs.YtcaenbobfneejaaDoor.confBack
open Go.ChangeShapes Go.WideShapes Go.ChangeAt Go.RowKit
open Go.ChangeMaps (open_string shut_string)
set_option linter.unusedVariables false
set_option linter.unusedSimpArgs false
theorem cfa_own {c : CfM} (hok : c.ok) {tn : Nat} (hT : c.T.length = tn) {w : World} {B : Nat} {dt : Option Addr} {dc : Nat} (h : OwnR w B 39 5 (.slice dt tn dc) tn (c.T.flatMap ThrV.cells)) : CfA c dt dc w := by
  subst hT
  obtain ⟨a, cap, e, hr⟩ := rowR_of_own h
  simp only [Value.slice.injEq, true_and] at e
  obtain ⟨rfl, rfl⟩ := e
  exact ⟨hok, hr⟩
structure TurnF (S : ByteArray) (R1 R2 : List UInt8) (p q : Nat) : Prop where
  pq : p < q
  ql : q < S.size
  ten : ∀ i (h : i < S.size), i ≤ q → (S[i] = 10 ↔ i = p ∨ i = q)
  one : S.extract (p + 1) S.size ++ S.extract 0 (p + 1) = bA R1
  two : S.extract (q + 1) S.size ++ S.extract 0 (q + 1) = bA R2
def cntT (p q i : Nat) : Int := if i ≤ p then 0 else if i ≤ q then 1 else 2
theorem cntT_zero (p q : Nat) : cntT p q 0 = 0 := by unfold cntT; rw [if_pos (Nat.zero_le _)]
theorem cntT_hit {S : ByteArray} {R1 R2 : List UInt8} {p q i : Nat} (h : TurnF S R1 R2 p q) (hi : i < S.size) (h10 : S[i] = 10) (hq : i ≤ q) : cntT p q (i + 1) = cntT p q i + 1 := by
  have hpq := h.pq
  rcases (h.ten i hi hq).1 h10 with rfl | rfl
  · unfold cntT; rw [if_neg (by omega), if_pos (by omega), if_pos (by omega)]; rfl
  · unfold cntT; rw [if_neg (by omega), if_neg (by omega), if_neg (by omega), if_pos (by omega)]; rfl
theorem cntT_miss {S : ByteArray} {R1 R2 : List UInt8} {p q i : Nat} (h : TurnF S R1 R2 p q) (hi : i < S.size) (h10 : ¬ S[i] = 10) (hq : i ≤ q) : cntT p q (i + 1) = cntT p q i := by
  have hn : ¬ (i = p ∨ i = q) := fun e => h10 ((h.ten i hi hq).2 e)
  unfold cntT
  split <;> split <;> (try split) <;> (try split) <;> omega
theorem turn_at {S : ByteArray} {R1 R2 : List UInt8} {p q i : Nat} (h : TurnF S R1 R2 p q) (hi : i < S.size) (h10 : S[i] = 10) (hq : i ≤ q) : (i = p ∧ S.extract (i + 1) S.size ++ S.extract 0 (i + 1) = bA R1) ∨ (i = q ∧ S.extract (i + 1) S.size ++ S.extract 0 (i + 1) = bA R2) := by
  rcases (h.ten i hi hq).1 h10 with rfl | rfl
  · exact .inl ⟨rfl, h.one⟩
  · exact .inr ⟨rfl, h.two⟩
theorem join_cons (F : List FldV) (LL : List (List FldV)) : joinF (F :: LL) = wordsF true F ++ 10 :: joinF LL := by unfold joinF; simp
theorem bA_ext {x y : ByteArray} (h : x.data.toList = y.data.toList) : x = y := by
  cases x; cases y
  simp only at h
  rw [Array.toList_inj.1 h]
theorem turn_text (A B D : List UInt8) (h0 : ∀ ch ∈ A, ch ≠ 10) (h1 : ∀ ch ∈ B, ch ≠ 10) : TurnF (bA (A ++ 10 :: (B ++ 10 :: D))) (B ++ 10 :: (D ++ (A ++ [10]))) (D ++ (A ++ 10 :: (B ++ [10]))) A.length (A.length + 1 + B.length) := by
  have hcut : ∀ X Y : List UInt8, (bA (X ++ Y)).extract X.length (bA (X ++ Y)).size ++ (bA (X ++ Y)).extract 0 X.length = bA (Y ++ X) := by
    intro X Y
    apply bA_ext
    rw [ByteArray.data_append, Array.toList_append, Lib.extract_data, Lib.extract_data, bA_data, bA_data, bA_size]
    simp
  refine ⟨by omega, by rw [bA_size]; simp; omega, fun i hi hq => ?_, ?_, ?_⟩
  · have hi2 : i < (A ++ 10 :: (B ++ 10 :: D)).length := by rw [bA_size] at hi; exact hi
    have e := bA_at (A ++ 10 :: (B ++ 10 :: D)) hi
    rw [e]
    rcases Nat.lt_trichotomy i A.length with h | h | h
    · rw [List.getElem_append_left h]
      exact ⟨fun h2 => absurd h2 (h0 _ (List.getElem_mem h)), fun h2 => by omega⟩
    · subst h
      simp
    · obtain ⟨j, rfl⟩ : ∃ j, i = A.length + 1 + j := ⟨i - A.length - 1, by omega⟩
      have e2 : (A ++ 10 :: (B ++ 10 :: D))[A.length + 1 + j]'hi2 = (B ++ 10 :: D)[j]'(by simp at hi2 ⊢; omega) := by
        rw [List.getElem_append_right (by omega)]
        simp only [show A.length + 1 + j - A.length = j + 1 by omega, List.getElem_cons_succ]
      rw [e2]
      rcases Nat.lt_or_ge j B.length with h2 | h2
      · rw [List.getElem_append_left h2]
        exact ⟨fun h3 => absurd h3 (h1 _ (List.getElem_mem h2)), fun h3 => by omega⟩
      · obtain rfl : j = B.length := by omega
        simp
  · have := hcut (A ++ [10]) (B ++ 10 :: D)
    simpa using this
  · have := hcut (A ++ 10 :: (B ++ [10])) D
    simp only [List.append_assoc, List.cons_append, List.nil_append, List.length_append, List.length_cons, List.length_nil] at this
    rw [show A.length + (B.length + (0 + 1) + 1) = A.length + 1 + B.length + 1 by omega] at this
    exact this
theorem turn_facts (c : CfM) (hp : CfP c) : ∃ p q, TurnF (bA (joinF (printC c))) (joinF (rotC c 1)) (joinF (rotC c 2)) p q := by
  have hR : printC c = rowC c 0 :: rowC c 1 :: (c.T.map thrL ++ [2, 3, 4, 5].map (rowC c)) := rfl
  have h0 : ∀ ch ∈ wordsF true (rowC c 0), ch ≠ 10 := fun ch h => (words_ok true _ (row_okC hp 0).2 ch h).2
  have h1 : ∀ ch ∈ wordsF true (rowC c 1), ch ≠ 10 := fun ch h => (words_ok true _ (row_okC hp 1).2 ch h).2
  unfold rotC
  rw [hR]
  generalize c.T.map thrL ++ [2, 3, 4, 5].map (rowC c) = R
  simp only [List.drop_succ_cons, List.drop_zero, List.take_succ_cons, List.take_zero, joinF_appC, join_cons]
  have e := turn_text _ _ (joinF R) h0 h1
  have ej : joinF [] = [] := rfl
  refine ⟨(wordsF true (rowC c 0)).length, (wordsF true (rowC c 0)).length + 1 + (wordsF true (rowC c 1)).length, ?_⟩
  rw [ej]
  simp only [List.append_assoc, List.cons_append, List.nil_append] at e ⊢
  exact e
set_option maxRecDepth 100000 in
set_option maxHeartbeats 16000000 in
theorem walk (c : CfM) (ta : Option Addr) (tc : Nat) (tn : Int) (W : World) (ht : Env W) (hc : CfA c ta tc W) (htn : 0 ≤ tn ∧ tn ≤ 255) : Calls Tryd.prog 4 #[c.v (.slice ta c.T.length tc), .int .u8 tn] W fun e w' => e = .returned (.bool true) ∧ Below W.heap.size W w' := by
  have hw : Below W.heap.size W W := Below.refl _ _
  have hbel := hw
  have HE := Lib.hid ht
  have HC := Lib.hid hc
  clear ht hc
  unfold CfM.v
  go_enter Tryd.func4, Tryd.ntmps4
  go_upto_region 1 with fail
  have cc0 : (W.alloc (.cells #[.int .i64 c.k0, .int .i64 c.k1, .int .i64 c.k2, .int .i64 c.a0, .int .i64 c.a1, .int .i64 c.a2, .slice ta c.T.length tc, .int .i64 c.per, .int .i64 c.ret, .int .i64 c.age, .int .i64 c.dead] 25)).cell? ⟨W.heap.size, 0, none⟩ = some (.int .i64 c.k0) := by first | (simp; done) | (rw [World.cell?_alloc_at _ _ _ _ (by simp)]; rfl) | (rw [World.cell?_alloc_past _ _ _ (by simp <;> omega), World.cell?_alloc_at _ _ _ _ (by simp)]; rfl) | (rw [World.cell?_alloc_past _ _ _ (by simp <;> omega), World.cell?_alloc_past _ _ _ (by simp <;> omega), World.cell?_alloc_at _ _ _ _ (by simp)]; rfl)
  have cc1 : (W.alloc (.cells #[.int .i64 c.k0, .int .i64 c.k1, .int .i64 c.k2, .int .i64 c.a0, .int .i64 c.a1, .int .i64 c.a2, .slice ta c.T.length tc, .int .i64 c.per, .int .i64 c.ret, .int .i64 c.age, .int .i64 c.dead] 25)).cell? ⟨W.heap.size, 1, none⟩ = some (.int .i64 c.k1) := by first | (simp; done) | (rw [World.cell?_alloc_at _ _ _ _ (by simp)]; rfl) | (rw [World.cell?_alloc_past _ _ _ (by simp <;> omega), World.cell?_alloc_at _ _ _ _ (by simp)]; rfl) | (rw [World.cell?_alloc_past _ _ _ (by simp <;> omega), World.cell?_alloc_past _ _ _ (by simp <;> omega), World.cell?_alloc_at _ _ _ _ (by simp)]; rfl)
  have cc2 : (W.alloc (.cells #[.int .i64 c.k0, .int .i64 c.k1, .int .i64 c.k2, .int .i64 c.a0, .int .i64 c.a1, .int .i64 c.a2, .slice ta c.T.length tc, .int .i64 c.per, .int .i64 c.ret, .int .i64 c.age, .int .i64 c.dead] 25)).cell? ⟨W.heap.size, 2, none⟩ = some (.int .i64 c.k2) := by first | (simp; done) | (rw [World.cell?_alloc_at _ _ _ _ (by simp)]; rfl) | (rw [World.cell?_alloc_past _ _ _ (by simp <;> omega), World.cell?_alloc_at _ _ _ _ (by simp)]; rfl) | (rw [World.cell?_alloc_past _ _ _ (by simp <;> omega), World.cell?_alloc_past _ _ _ (by simp <;> omega), World.cell?_alloc_at _ _ _ _ (by simp)]; rfl)
  have cc3 : (W.alloc (.cells #[.int .i64 c.k0, .int .i64 c.k1, .int .i64 c.k2, .int .i64 c.a0, .int .i64 c.a1, .int .i64 c.a2, .slice ta c.T.length tc, .int .i64 c.per, .int .i64 c.ret, .int .i64 c.age, .int .i64 c.dead] 25)).cell? ⟨W.heap.size, 3, none⟩ = some (.int .i64 c.a0) := by first | (simp; done) | (rw [World.cell?_alloc_at _ _ _ _ (by simp)]; rfl) | (rw [World.cell?_alloc_past _ _ _ (by simp <;> omega), World.cell?_alloc_at _ _ _ _ (by simp)]; rfl) | (rw [World.cell?_alloc_past _ _ _ (by simp <;> omega), World.cell?_alloc_past _ _ _ (by simp <;> omega), World.cell?_alloc_at _ _ _ _ (by simp)]; rfl)
  have cc4 : (W.alloc (.cells #[.int .i64 c.k0, .int .i64 c.k1, .int .i64 c.k2, .int .i64 c.a0, .int .i64 c.a1, .int .i64 c.a2, .slice ta c.T.length tc, .int .i64 c.per, .int .i64 c.ret, .int .i64 c.age, .int .i64 c.dead] 25)).cell? ⟨W.heap.size, 4, none⟩ = some (.int .i64 c.a1) := by first | (simp; done) | (rw [World.cell?_alloc_at _ _ _ _ (by simp)]; rfl) | (rw [World.cell?_alloc_past _ _ _ (by simp <;> omega), World.cell?_alloc_at _ _ _ _ (by simp)]; rfl) | (rw [World.cell?_alloc_past _ _ _ (by simp <;> omega), World.cell?_alloc_past _ _ _ (by simp <;> omega), World.cell?_alloc_at _ _ _ _ (by simp)]; rfl)
  have cc5 : (W.alloc (.cells #[.int .i64 c.k0, .int .i64 c.k1, .int .i64 c.k2, .int .i64 c.a0, .int .i64 c.a1, .int .i64 c.a2, .slice ta c.T.length tc, .int .i64 c.per, .int .i64 c.ret, .int .i64 c.age, .int .i64 c.dead] 25)).cell? ⟨W.heap.size, 5, none⟩ = some (.int .i64 c.a2) := by first | (simp; done) | (rw [World.cell?_alloc_at _ _ _ _ (by simp)]; rfl) | (rw [World.cell?_alloc_past _ _ _ (by simp <;> omega), World.cell?_alloc_at _ _ _ _ (by simp)]; rfl) | (rw [World.cell?_alloc_past _ _ _ (by simp <;> omega), World.cell?_alloc_past _ _ _ (by simp <;> omega), World.cell?_alloc_at _ _ _ _ (by simp)]; rfl)
  have cc6 : (W.alloc (.cells #[.int .i64 c.k0, .int .i64 c.k1, .int .i64 c.k2, .int .i64 c.a0, .int .i64 c.a1, .int .i64 c.a2, .slice ta c.T.length tc, .int .i64 c.per, .int .i64 c.ret, .int .i64 c.age, .int .i64 c.dead] 25)).cell? ⟨W.heap.size, 6, none⟩ = some (.slice ta c.T.length tc) := by first | (simp; done) | (rw [World.cell?_alloc_at _ _ _ _ (by simp)]; rfl) | (rw [World.cell?_alloc_past _ _ _ (by simp <;> omega), World.cell?_alloc_at _ _ _ _ (by simp)]; rfl) | (rw [World.cell?_alloc_past _ _ _ (by simp <;> omega), World.cell?_alloc_past _ _ _ (by simp <;> omega), World.cell?_alloc_at _ _ _ _ (by simp)]; rfl)
  have cc7 : (W.alloc (.cells #[.int .i64 c.k0, .int .i64 c.k1, .int .i64 c.k2, .int .i64 c.a0, .int .i64 c.a1, .int .i64 c.a2, .slice ta c.T.length tc, .int .i64 c.per, .int .i64 c.ret, .int .i64 c.age, .int .i64 c.dead] 25)).cell? ⟨W.heap.size, 7, none⟩ = some (.int .i64 c.per) := by first | (simp; done) | (rw [World.cell?_alloc_at _ _ _ _ (by simp)]; rfl) | (rw [World.cell?_alloc_past _ _ _ (by simp <;> omega), World.cell?_alloc_at _ _ _ _ (by simp)]; rfl) | (rw [World.cell?_alloc_past _ _ _ (by simp <;> omega), World.cell?_alloc_past _ _ _ (by simp <;> omega), World.cell?_alloc_at _ _ _ _ (by simp)]; rfl)
  have cc8 : (W.alloc (.cells #[.int .i64 c.k0, .int .i64 c.k1, .int .i64 c.k2, .int .i64 c.a0, .int .i64 c.a1, .int .i64 c.a2, .slice ta c.T.length tc, .int .i64 c.per, .int .i64 c.ret, .int .i64 c.age, .int .i64 c.dead] 25)).cell? ⟨W.heap.size, 8, none⟩ = some (.int .i64 c.ret) := by first | (simp; done) | (rw [World.cell?_alloc_at _ _ _ _ (by simp)]; rfl) | (rw [World.cell?_alloc_past _ _ _ (by simp <;> omega), World.cell?_alloc_at _ _ _ _ (by simp)]; rfl) | (rw [World.cell?_alloc_past _ _ _ (by simp <;> omega), World.cell?_alloc_past _ _ _ (by simp <;> omega), World.cell?_alloc_at _ _ _ _ (by simp)]; rfl)
  have cc9 : (W.alloc (.cells #[.int .i64 c.k0, .int .i64 c.k1, .int .i64 c.k2, .int .i64 c.a0, .int .i64 c.a1, .int .i64 c.a2, .slice ta c.T.length tc, .int .i64 c.per, .int .i64 c.ret, .int .i64 c.age, .int .i64 c.dead] 25)).cell? ⟨W.heap.size, 9, none⟩ = some (.int .i64 c.age) := by first | (simp; done) | (rw [World.cell?_alloc_at _ _ _ _ (by simp)]; rfl) | (rw [World.cell?_alloc_past _ _ _ (by simp <;> omega), World.cell?_alloc_at _ _ _ _ (by simp)]; rfl) | (rw [World.cell?_alloc_past _ _ _ (by simp <;> omega), World.cell?_alloc_past _ _ _ (by simp <;> omega), World.cell?_alloc_at _ _ _ _ (by simp)]; rfl)
  have cc10 : (W.alloc (.cells #[.int .i64 c.k0, .int .i64 c.k1, .int .i64 c.k2, .int .i64 c.a0, .int .i64 c.a1, .int .i64 c.a2, .slice ta c.T.length tc, .int .i64 c.per, .int .i64 c.ret, .int .i64 c.age, .int .i64 c.dead] 25)).cell? ⟨W.heap.size, 10, none⟩ = some (.int .i64 c.dead) := by first | (simp; done) | (rw [World.cell?_alloc_at _ _ _ _ (by simp)]; rfl) | (rw [World.cell?_alloc_past _ _ _ (by simp <;> omega), World.cell?_alloc_at _ _ _ _ (by simp)]; rfl) | (rw [World.cell?_alloc_past _ _ _ (by simp <;> omega), World.cell?_alloc_past _ _ _ (by simp <;> omega), World.cell?_alloc_at _ _ _ _ (by simp)]; rfl)
  have hb2 := (by repeat (first | exact hbel | refine belAlloc ?_ _ | refine belDrew ?_ | refine belSet ?_ _ _ (by simp)) : Below W.heap.size W (W.alloc (.cells #[.int .i64 c.k0, .int .i64 c.k1, .int .i64 c.k2, .int .i64 c.a0, .int .i64 c.a1, .int .i64 c.a2, .slice ta c.T.length tc, .int .i64 c.per, .int .i64 c.ret, .int .i64 c.age, .int .i64 c.dead] 25)))
  replace hw := belStep hw hb2
  have ccB : Blk (W.alloc (.cells #[.int .i64 c.k0, .int .i64 c.k1, .int .i64 c.k2, .int .i64 c.a0, .int .i64 c.a1, .int .i64 c.a2, .slice ta c.T.length tc, .int .i64 c.per, .int .i64 c.ret, .int .i64 c.age, .int .i64 c.dead] 25)) (W.heap.size) [.int .i64 c.k0, .int .i64 c.k1, .int .i64 c.k2, .int .i64 c.a0, .int .i64 c.a1, .int .i64 c.a2, .slice ta c.T.length tc, .int .i64 c.per, .int .i64 c.ret, .int .i64 c.age, .int .i64 c.dead] 25 := (Blk.at (by simp) : Blk (W.alloc (.cells #[.int .i64 c.k0, .int .i64 c.k1, .int .i64 c.k2, .int .i64 c.a0, .int .i64 c.a1, .int .i64 c.a2, .slice ta c.T.length tc, .int .i64 c.per, .int .i64 c.ret, .int .i64 c.age, .int .i64 c.dead] 25)) (W.heap.size) [.int .i64 c.k0, .int .i64 c.k1, .int .i64 c.k2, .int .i64 c.a0, .int .i64 c.a1, .int .i64 c.a2, .slice ta c.T.length tc, .int .i64 c.per, .int .i64 c.ret, .int .i64 c.age, .int .i64 c.dead] 25).later (by repeat (first | exact Below.refl _ _ | refine belAlloc ?_ _))
  have ccF := Blk.keepF ccB
  replace ccB := Blk.keepB ccB
  clear hb2 hbel
  generalize W.alloc (.cells #[.int .i64 c.k0, .int .i64 c.k1, .int .i64 c.k2, .int .i64 c.a0, .int .i64 c.a1, .int .i64 c.a2, .slice ta c.T.length tc, .int .i64 c.per, .int .i64 c.ret, .int .i64 c.age, .int .i64 c.dead] 25) = W1 at *
  replace cc0 := keep cc0
  replace cc1 := keep cc1
  replace cc2 := keep cc2
  replace cc3 := keep cc3
  replace cc4 := keep cc4
  replace cc5 := keep cc5
  replace cc6 := keep cc6
  replace cc7 := keep cc7
  replace cc8 := keep cc8
  replace cc9 := keep cc9
  replace cc10 := keep cc10
  have hbel : Below W1.heap.size W1 W1 := Below.refl _ _
  skip
  have HW := Lib.hid hw
  clear hw
  have HC1 := Lib.hid (HC.out.later HW.out)
  have HE1 := Lib.hid (HE.out.later HW.out)
  clear HC HE
  have CA := Lib.hid (fun u (hu : Below W1.heap.size W1 u) => awake07 u (HE1.out.later hu))
  have CF := Lib.hid (fun u => few7 c ta tc u)
  obtain ⟨f1, hf1⟩ : ∃ x, decide (c.T.length ≤ 30) = x := ⟨_, rfl⟩
  rw [hf1] at CF
  clear hf1
  have CR := Lib.hid (fun u (hu : Below W1.heap.size W1 u) => cf_Right c ta tc u (HC1.out.later hu))
  obtain ⟨r, hr⟩ : ∃ x, rightM c = x := ⟨_, rfl⟩
  rw [hr] at CR
  cases f1 with
  | false =>
    go_wp2_with (first | (go_at_call 8; (with_reducible refine (CA.out _ hbel).mono ?_); rintro e w1 ⟨rfl, hb1⟩; replace hbel := belStep hbel hb1; clear hb1) | (go_at_call 9; (with_reducible refine (CF.out _).mono ?_); rintro e w1 ⟨rfl, hb1⟩; replace hbel := belStep hbel hb1; clear hb1) | (go_at_call 11; (with_reducible refine (CR.out _ hbel).mono ?_); rintro e w1 ⟨rfl, hb1⟩; replace hbel := belStep hbel hb1; clear hb1))
    go_ret
    exact ⟨rfl, belStep HW.out hbel⟩
  | true =>
    cases r with
    | false =>
      go_wp2_with (first | (go_at_call 8; (with_reducible refine (CA.out _ hbel).mono ?_); rintro e w1 ⟨rfl, hb1⟩; replace hbel := belStep hbel hb1; clear hb1) | (go_at_call 9; (with_reducible refine (CF.out _).mono ?_); rintro e w1 ⟨rfl, hb1⟩; replace hbel := belStep hbel hb1; clear hb1) | (go_at_call 11; (with_reducible refine (CR.out _ hbel).mono ?_); rintro e w1 ⟨rfl, hb1⟩; replace hbel := belStep hbel hb1; clear hb1))
      go_ret
      exact ⟨rfl, belStep HW.out hbel⟩
    | true =>
      have hcr := hr
      have HCR := Lib.hid hcr
      clear hr hcr
      have CP := Lib.hid (fun u (hu : Below W1.heap.size W1 u) => cf_Print c ta tc u (HC1.out.later hu) (HE1.out.later hu).tab (fun h => Nat.le_trans (text_len c HC1.out.ok h) (by decide)))
      rw [HCR.out] at CP
      simp only [if_true] at CP
      obtain ⟨p, q, hT⟩ := turn_facts c (CfP.of HC1.out.ok HCR.out)
      have hJ0 := read_back c HC1.out.ok HCR.out
      have hJ1 := rot_read c HC1.out.ok HCR.out 1 (.inl rfl)
      have hJ2 := rot_read c HC1.out.ok HCR.out 2 (.inr rfl)
      have hL0 := text_len c HC1.out.ok HCR.out
      have hL1 := rot_len c 1
      have hL2 := rot_len c 2
      generalize joinF (rotC c 1) = R1 at *
      generalize joinF (rotC c 2) = R2 at *
      generalize joinF (printC c) = J at *
      obtain ⟨S, hS⟩ : ∃ s, bA J = s := ⟨_, rfl⟩
      rw [hS] at CP hT
      have hSz : S.size = J.length := by rw [← hS]; exact bA_size J
      have HT := Lib.hid hT
      have HJ0 := Lib.hid hJ0
      have HJ1 := Lib.hid hJ1
      have HJ2 := Lib.hid hJ2
      have HL0 := Lib.hid hL0
      have HSJ := Lib.hid hS
      have HL1 := Lib.hid (hL1.trans hSz.symm)
      have HL2 := Lib.hid (hL2.trans hSz.symm)
      have hS2 : S.size ≤ 20000 := by omega
      clear hT hJ0 hJ1 hJ2 hL0 hS hL1 hL2 hSz
      go_upto_region 4 with (first | (go_at_call 8; (with_reducible refine (CA.out _ hbel).mono ?_); rintro e w1 ⟨rfl, hb1⟩; replace hbel := belStep hbel hb1; clear hb1) | (go_at_call 9; (with_reducible refine (CF.out _).mono ?_); rintro e w1 ⟨rfl, hb1⟩; replace hbel := belStep hbel hb1; clear hb1) | (go_at_call 11; (with_reducible refine (CR.out _ hbel).mono ?_); rintro e w1 ⟨rfl, hb1⟩; replace hbel := belStep hbel hb1; clear hb1) | (go_at_call 10; (with_reducible refine (CP.out _ hbel).mono ?_); rintro e wp ⟨rfl, hbp⟩; have hbq := belStep hbel hbp; clear hbel hbp))
      obtain ⟨jc, W2, hrun, hji, hjb, -, -⟩ := HSJ.out ▸ conv_row J wp (Nat.le_trans HL0.out (by decide))
      have HB2 := Lib.hid (belStep hbq hjb)
      have HJI := Lib.hid hji
      have HEE := Lib.hid (HE1.out.later (belStep hbq hjb))
      clear hji hjb hbq
      go_upto_region 5 with (go_at_call 16; (with_reducible refine (readC_ok _ _ _ J c W2 HEE.out HJI.out HJ0.out).mono ?_); rintro e wm ⟨⟨dt, dc, rfl, ho, _⟩, hbm⟩; have HDC := Lib.hid (cfa_own HC1.out.ok rfl ho); have hbel := belStep HB2.out hbm; clear ho hbm)
      clear hrun HEE HJI HB2
      have hw := Below.refl W1.heap.size W1
      have hwm := belAlloc (Below.refl wm.heap.size wm) (.cells #[.int .i64 c.k0, .int .i64 c.k1, .int .i64 c.k2, .int .i64 c.a0, .int .i64 c.a1, .int .i64 c.a2, .slice dt c.T.length dc, .int .i64 c.per, .int .i64 c.ret, .int .i64 c.age, .int .i64 c.dead] 25)
      have HDC3 := Lib.hid (HDC.out.later hwm)
      clear hwm HDC
      have dd0 : (wm.alloc (.cells #[.int .i64 c.k0, .int .i64 c.k1, .int .i64 c.k2, .int .i64 c.a0, .int .i64 c.a1, .int .i64 c.a2, .slice dt c.T.length dc, .int .i64 c.per, .int .i64 c.ret, .int .i64 c.age, .int .i64 c.dead] 25)).cell? ⟨wm.heap.size, 0, none⟩ = some (.int .i64 c.k0) := by first | (simp; done) | (rw [World.cell?_alloc_at _ _ _ _ (by simp)]; rfl) | (rw [World.cell?_alloc_past _ _ _ (by simp <;> omega), World.cell?_alloc_at _ _ _ _ (by simp)]; rfl) | (rw [World.cell?_alloc_past _ _ _ (by simp <;> omega), World.cell?_alloc_past _ _ _ (by simp <;> omega), World.cell?_alloc_at _ _ _ _ (by simp)]; rfl)
      have dd1 : (wm.alloc (.cells #[.int .i64 c.k0, .int .i64 c.k1, .int .i64 c.k2, .int .i64 c.a0, .int .i64 c.a1, .int .i64 c.a2, .slice dt c.T.length dc, .int .i64 c.per, .int .i64 c.ret, .int .i64 c.age, .int .i64 c.dead] 25)).cell? ⟨wm.heap.size, 1, none⟩ = some (.int .i64 c.k1) := by first | (simp; done) | (rw [World.cell?_alloc_at _ _ _ _ (by simp)]; rfl) | (rw [World.cell?_alloc_past _ _ _ (by simp <;> omega), World.cell?_alloc_at _ _ _ _ (by simp)]; rfl) | (rw [World.cell?_alloc_past _ _ _ (by simp <;> omega), World.cell?_alloc_past _ _ _ (by simp <;> omega), World.cell?_alloc_at _ _ _ _ (by simp)]; rfl)
      have dd2 : (wm.alloc (.cells #[.int .i64 c.k0, .int .i64 c.k1, .int .i64 c.k2, .int .i64 c.a0, .int .i64 c.a1, .int .i64 c.a2, .slice dt c.T.length dc, .int .i64 c.per, .int .i64 c.ret, .int .i64 c.age, .int .i64 c.dead] 25)).cell? ⟨wm.heap.size, 2, none⟩ = some (.int .i64 c.k2) := by first | (simp; done) | (rw [World.cell?_alloc_at _ _ _ _ (by simp)]; rfl) | (rw [World.cell?_alloc_past _ _ _ (by simp <;> omega), World.cell?_alloc_at _ _ _ _ (by simp)]; rfl) | (rw [World.cell?_alloc_past _ _ _ (by simp <;> omega), World.cell?_alloc_past _ _ _ (by simp <;> omega), World.cell?_alloc_at _ _ _ _ (by simp)]; rfl)
      have dd3 : (wm.alloc (.cells #[.int .i64 c.k0, .int .i64 c.k1, .int .i64 c.k2, .int .i64 c.a0, .int .i64 c.a1, .int .i64 c.a2, .slice dt c.T.length dc, .int .i64 c.per, .int .i64 c.ret, .int .i64 c.age, .int .i64 c.dead] 25)).cell? ⟨wm.heap.size, 3, none⟩ = some (.int .i64 c.a0) := by first | (simp; done) | (rw [World.cell?_alloc_at _ _ _ _ (by simp)]; rfl) | (rw [World.cell?_alloc_past _ _ _ (by simp <;> omega), World.cell?_alloc_at _ _ _ _ (by simp)]; rfl) | (rw [World.cell?_alloc_past _ _ _ (by simp <;> omega), World.cell?_alloc_past _ _ _ (by simp <;> omega), World.cell?_alloc_at _ _ _ _ (by simp)]; rfl)
      have dd4 : (wm.alloc (.cells #[.int .i64 c.k0, .int .i64 c.k1, .int .i64 c.k2, .int .i64 c.a0, .int .i64 c.a1, .int .i64 c.a2, .slice dt c.T.length dc, .int .i64 c.per, .int .i64 c.ret, .int .i64 c.age, .int .i64 c.dead] 25)).cell? ⟨wm.heap.size, 4, none⟩ = some (.int .i64 c.a1) := by first | (simp; done) | (rw [World.cell?_alloc_at _ _ _ _ (by simp)]; rfl) | (rw [World.cell?_alloc_past _ _ _ (by simp <;> omega), World.cell?_alloc_at _ _ _ _ (by simp)]; rfl) | (rw [World.cell?_alloc_past _ _ _ (by simp <;> omega), World.cell?_alloc_past _ _ _ (by simp <;> omega), World.cell?_alloc_at _ _ _ _ (by simp)]; rfl)
      have dd5 : (wm.alloc (.cells #[.int .i64 c.k0, .int .i64 c.k1, .int .i64 c.k2, .int .i64 c.a0, .int .i64 c.a1, .int .i64 c.a2, .slice dt c.T.length dc, .int .i64 c.per, .int .i64 c.ret, .int .i64 c.age, .int .i64 c.dead] 25)).cell? ⟨wm.heap.size, 5, none⟩ = some (.int .i64 c.a2) := by first | (simp; done) | (rw [World.cell?_alloc_at _ _ _ _ (by simp)]; rfl) | (rw [World.cell?_alloc_past _ _ _ (by simp <;> omega), World.cell?_alloc_at _ _ _ _ (by simp)]; rfl) | (rw [World.cell?_alloc_past _ _ _ (by simp <;> omega), World.cell?_alloc_past _ _ _ (by simp <;> omega), World.cell?_alloc_at _ _ _ _ (by simp)]; rfl)
      have dd6 : (wm.alloc (.cells #[.int .i64 c.k0, .int .i64 c.k1, .int .i64 c.k2, .int .i64 c.a0, .int .i64 c.a1, .int .i64 c.a2, .slice dt c.T.length dc, .int .i64 c.per, .int .i64 c.ret, .int .i64 c.age, .int .i64 c.dead] 25)).cell? ⟨wm.heap.size, 6, none⟩ = some (.slice dt c.T.length dc) := by first | (simp; done) | (rw [World.cell?_alloc_at _ _ _ _ (by simp)]; rfl) | (rw [World.cell?_alloc_past _ _ _ (by simp <;> omega), World.cell?_alloc_at _ _ _ _ (by simp)]; rfl) | (rw [World.cell?_alloc_past _ _ _ (by simp <;> omega), World.cell?_alloc_past _ _ _ (by simp <;> omega), World.cell?_alloc_at _ _ _ _ (by simp)]; rfl)
      have dd7 : (wm.alloc (.cells #[.int .i64 c.k0, .int .i64 c.k1, .int .i64 c.k2, .int .i64 c.a0, .int .i64 c.a1, .int .i64 c.a2, .slice dt c.T.length dc, .int .i64 c.per, .int .i64 c.ret, .int .i64 c.age, .int .i64 c.dead] 25)).cell? ⟨wm.heap.size, 7, none⟩ = some (.int .i64 c.per) := by first | (simp; done) | (rw [World.cell?_alloc_at _ _ _ _ (by simp)]; rfl) | (rw [World.cell?_alloc_past _ _ _ (by simp <;> omega), World.cell?_alloc_at _ _ _ _ (by simp)]; rfl) | (rw [World.cell?_alloc_past _ _ _ (by simp <;> omega), World.cell?_alloc_past _ _ _ (by simp <;> omega), World.cell?_alloc_at _ _ _ _ (by simp)]; rfl)
      have dd8 : (wm.alloc (.cells #[.int .i64 c.k0, .int .i64 c.k1, .int .i64 c.k2, .int .i64 c.a0, .int .i64 c.a1, .int .i64 c.a2, .slice dt c.T.length dc, .int .i64 c.per, .int .i64 c.ret, .int .i64 c.age, .int .i64 c.dead] 25)).cell? ⟨wm.heap.size, 8, none⟩ = some (.int .i64 c.ret) := by first | (simp; done) | (rw [World.cell?_alloc_at _ _ _ _ (by simp)]; rfl) | (rw [World.cell?_alloc_past _ _ _ (by simp <;> omega), World.cell?_alloc_at _ _ _ _ (by simp)]; rfl) | (rw [World.cell?_alloc_past _ _ _ (by simp <;> omega), World.cell?_alloc_past _ _ _ (by simp <;> omega), World.cell?_alloc_at _ _ _ _ (by simp)]; rfl)
      have dd9 : (wm.alloc (.cells #[.int .i64 c.k0, .int .i64 c.k1, .int .i64 c.k2, .int .i64 c.a0, .int .i64 c.a1, .int .i64 c.a2, .slice dt c.T.length dc, .int .i64 c.per, .int .i64 c.ret, .int .i64 c.age, .int .i64 c.dead] 25)).cell? ⟨wm.heap.size, 9, none⟩ = some (.int .i64 c.age) := by first | (simp; done) | (rw [World.cell?_alloc_at _ _ _ _ (by simp)]; rfl) | (rw [World.cell?_alloc_past _ _ _ (by simp <;> omega), World.cell?_alloc_at _ _ _ _ (by simp)]; rfl) | (rw [World.cell?_alloc_past _ _ _ (by simp <;> omega), World.cell?_alloc_past _ _ _ (by simp <;> omega), World.cell?_alloc_at _ _ _ _ (by simp)]; rfl)
      have dd10 : (wm.alloc (.cells #[.int .i64 c.k0, .int .i64 c.k1, .int .i64 c.k2, .int .i64 c.a0, .int .i64 c.a1, .int .i64 c.a2, .slice dt c.T.length dc, .int .i64 c.per, .int .i64 c.ret, .int .i64 c.age, .int .i64 c.dead] 25)).cell? ⟨wm.heap.size, 10, none⟩ = some (.int .i64 c.dead) := by first | (simp; done) | (rw [World.cell?_alloc_at _ _ _ _ (by simp)]; rfl) | (rw [World.cell?_alloc_past _ _ _ (by simp <;> omega), World.cell?_alloc_at _ _ _ _ (by simp)]; rfl) | (rw [World.cell?_alloc_past _ _ _ (by simp <;> omega), World.cell?_alloc_past _ _ _ (by simp <;> omega), World.cell?_alloc_at _ _ _ _ (by simp)]; rfl)
      have hb2 := (by repeat (first | exact hbel | refine belAlloc ?_ _ | refine belDrew ?_ | refine belSet ?_ _ _ (by simp)) : Below W1.heap.size W1 (wm.alloc (.cells #[.int .i64 c.k0, .int .i64 c.k1, .int .i64 c.k2, .int .i64 c.a0, .int .i64 c.a1, .int .i64 c.a2, .slice dt c.T.length dc, .int .i64 c.per, .int .i64 c.ret, .int .i64 c.age, .int .i64 c.dead] 25)))
      replace cc0 := keepOnP cc0 hb2
      replace cc1 := keepOnP cc1 hb2
      replace cc2 := keepOnP cc2 hb2
      replace cc3 := keepOnP cc3 hb2
      replace cc4 := keepOnP cc4 hb2
      replace cc5 := keepOnP cc5 hb2
      replace cc6 := keepOnP cc6 hb2
      replace cc7 := keepOnP cc7 hb2
      replace cc8 := keepOnP cc8 hb2
      replace cc9 := keepOnP cc9 hb2
      replace cc10 := keepOnP cc10 hb2
      replace ccF := keepOnP ccF hb2
      replace ccB := keepOnP ccB hb2
      replace hw := belStep hw hb2
      clear hb2 hbel
      generalize wm.alloc (.cells #[.int .i64 c.k0, .int .i64 c.k1, .int .i64 c.k2, .int .i64 c.a0, .int .i64 c.a1, .int .i64 c.a2, .slice dt c.T.length dc, .int .i64 c.per, .int .i64 c.ret, .int .i64 c.age, .int .i64 c.dead] 25) = W3 at *
      replace dd0 := keep dd0
      replace dd1 := keep dd1
      replace dd2 := keep dd2
      replace dd3 := keep dd3
      replace dd4 := keep dd4
      replace dd5 := keep dd5
      replace dd6 := keep dd6
      replace dd7 := keep dd7
      replace dd8 := keep dd8
      replace dd9 := keep dd9
      replace dd10 := keep dd10
      generalize wm.heap.size = dn at *
      have hbel : Below W3.heap.size W3 W3 := Below.refl _ _
      clear wm
      have HW3 := Lib.hid hw
      clear hw ccB ccF
      have HC3 := Lib.hid (HC1.out.later HW3.out)
      have HEW := Lib.hid (fun u (hu : Below W3.heap.size W3 u) => HE1.out.later (belStep HW3.out hu))
      have CS := Lib.hid (fun u (hu : Below W3.heap.size W3 u) => rf_Same7 c c ta dt tc dc u (HC3.out.later hu) (HDC3.out.later hu))
      rw [sameM_refl] at CS
      obtain ⟨mt, hmt⟩ : ∃ n : Nat, tn % 3 = n := ⟨(tn % 3).toNat, by omega⟩
      have hm2 : mt ≤ 2 := by omega
      have hit : tn.tmod 3 = (mt : Int) := by rw [Int.tmod_eq_emod_of_nonneg htn.1]; exact hmt
      have wm1 : IntKind.u8.wrap (mt : Int) = (mt : Int) := IntWalk.u8_in _ (by omega)
      have wm2 : IntKind.i64.wrap (mt : Int) = (mt : Int) := IntWalk.i64_in _ (by omega)
      have HHW := Lib.hid (And.intro hit (And.intro wm1 wm2))
      clear hit wm1 wm2 hmt htn
      go_wp2_with ((go_at_call 14; (with_reducible refine (CS.out _ hbel).mono ?_); rintro e w1 ⟨rfl, hb1⟩; replace hbel := belStep hbel hb1; clear hb1))
      go_loopg [10, 11] S.size (fun gv nv iv wr => ∃ (i : Nat), i + gv = S.size ∧ nv = .int .i64 (cntT p q i) ∧ iv = .int .i64 i ∧ Below W3.heap.size W3 wr)
      case atStart => exact ⟨0, by omega, by rw [cntT_zero], rfl, hbel⟩
      case round =>
        obtain ⟨i, hig, rfl, rfl, hbel⟩ := hrel
        obtain ⟨hit, wm1, wm2⟩ := HHW.out
        cases gk with
        | zero =>
          obtain rfl : i = S.size := by omega
          have hd : decide ((S.size : Int) < (S.size : Int)) = false := decide_eq_false (by omega)
          go_wp2
          go_ret
          exact ⟨rfl, belStep HW.out (belStep HW3.out hbel)⟩
        | succ gq =>
          have hil : i < S.size := by omega
          have hd : decide ((i : Int) < (S.size : Int)) = true := decide_eq_true (by omega)
          have hii : (i : Int) < (S.size : Int) := by omega
          have hi0 : (0 : Int) ≤ (i : Int) := by omega
          rcases Classical.em (cntT p q i < (mt : Int)) with hlt2 | hlt2
          · have hd2 : decide (cntT p q i < (mt : Int)) = true := decide_eq_true hlt2
            have hpq := HT.out.pq
            have hiq : i ≤ q := by unfold cntT at hlt2; split at hlt2 <;> (try split at hlt2) <;> omega
            rcases Classical.em (S[i] = 10) with h10 | h10
            · have t10 : ((S[i].toNat : Int) == 10) = true := by rw [h10]; rfl
              have hxx0 := turn_at HT.out hil h10 hiq
              obtain ⟨X, hxa, hxb, hxc⟩ : ∃ X, confF X = .ok c ∧ X.length = S.size ∧ S.extract (i + 1) S.size ++ S.extract 0 (i + 1) = bA X := hxx0.elim (fun h => ⟨R1, HJ1.out, HL1.out, h.2⟩) (fun h => ⟨R2, HJ2.out, HL2.out, h.2⟩)
              have hcn := cntT_hit HT.out hil h10 hiq
              clear hxx0 h10
              have HX := Lib.hid hxa
              clear hxa
              have HXL := Lib.hid hxb
              have e1 : ((i : Int) + 1).toNat = i + 1 := by omega
              have hxx : S.extract (i + 1) S.size ++ S.extract 0 (i + 1) = bA X := hxc
              have HXX := Lib.hid hxx
              clear hxc hxx
              have hs0 : (0 : Int) ≤ (i : Int) + 1 := by omega
              have hs1 : (i : Int) + 1 ≤ (S.size : Int) := by omega
              have hwr : IntKind.i64.wrap ((i : Int) + 1) = (i : Int) + 1 := IntWalk.i64_in _ (by omega)
              have hXs : X.length ≤ 1000000 := by rw [hxb]; omega
              clear hxb
              skip
              obtain ⟨N, hN⟩ : ∃ N, cntT p q i = N := ⟨_, rfl⟩
              rw [hN] at hcn hlt2 hd2 ⊢
              have hN0 : 0 ≤ N ∧ N ≤ 1 := by rw [← hN] at hlt2 ⊢; unfold cntT at hlt2 ⊢; split at hlt2 <;> split <;> (try split at hlt2) <;> (try split) <;> omega
              clear hN
              obtain ⟨hN1, hN2⟩ := hN0
              go_upto_region 13 with fail
              have hxx := HXX.out
              refine wp_region_held_drew (S := fun u => Below W3.heap.size W3 u) (by kernel_rfl) (by exact (show Below W3.heap.size W3 _ by repeat (first | assumption | exact Below.refl _ _ | refine belDrew ?_ | refine belAlloc ?_ _ | refine belStep ?_ (by assumption)))) (fun hHeld => ?_)
              refine wpAnyH_take (i := 0) (oi := ?oi_k1) (v := ?v_k1) ?hi_k1 (by kernel_rfl) ?hf_k1 ?hr_k1 ?hQ_k1 (Or.inl ⟨?hw_k1, ?hy_k1⟩) (by assumption) ?rest_k1
              case hi_k1 => ((simp only [List.getElem?_toArray, List.getElem?_cons_succ, List.getElem?_cons_zero]); rfl)
              case hf_k1 => kernel_rfl
              case hr_k1 => kernel_rfl
              case hQ_k1 => exact fun _ _ _ h => h
              case hw_k1 => rfl
              case hy_k1 => ((intro w hSw; (try dsimp only at hSw); go_simp; (try rw [if_neg (by omega)])); all_goals (with_reducible rfl))
              try simp only [Act.put, List.setIfInBounds_toArray, List.set_cons_zero, List.set_cons_succ]
              refine wpAnyH_take (i := 1) (oi := ?oi_k2) (v := ?v_k2) ?hi_k2 (by kernel_rfl) ?hf_k2 ?hr_k2 ?hQ_k2 (Or.inl ⟨?hw_k2, ?hy_k2⟩) (by assumption) ?rest_k2
              case hi_k2 => ((simp only [List.getElem?_toArray, List.getElem?_cons_succ, List.getElem?_cons_zero]); rfl)
              case hf_k2 => kernel_rfl
              case hr_k2 => kernel_rfl
              case hQ_k2 => exact fun _ _ _ h => h
              case hw_k2 => rfl
              case hy_k2 => ((intro w hSw; (try dsimp only at hSw); go_simp; (try rw [if_neg (by omega)])); all_goals (with_reducible rfl))
              try simp only [Act.put, List.setIfInBounds_toArray, List.set_cons_zero, List.set_cons_succ]
              refine wpAnyH_take (i := 2) (oi := ?oi_k3) (v := ?v_k3) ?hi_k3 (by kernel_rfl) ?hf_k3 ?hr_k3 ?hQ_k3 (Or.inl ⟨?hw_k3, ?hy_k3⟩) (by assumption) ?rest_k3
              case hi_k3 => ((simp only [List.getElem?_toArray, List.getElem?_cons_succ, List.getElem?_cons_zero]); rfl)
              case hf_k3 => kernel_rfl
              case hr_k3 => kernel_rfl
              case hQ_k3 => exact fun _ _ _ h => h
              case hw_k3 => rfl
              case hy_k3 => ((intro w hSw; (try dsimp only at hSw); go_simp; (try rw [if_neg (by omega)])); all_goals (with_reducible rfl))
              try simp only [Act.put, List.setIfInBounds_toArray, List.set_cons_zero, List.set_cons_succ]
              refine wpAnyH_take (i := 3) (oi := ?oi_k4) (v := ?v_k4) ?hi_k4 (by kernel_rfl) ?hf_k4 ?hr_k4 ?hQ_k4 (Or.inl ⟨?hw_k4, ?hy_k4⟩) (by assumption) ?rest_k4
              case hi_k4 => ((simp only [List.getElem?_toArray, List.getElem?_cons_succ, List.getElem?_cons_zero]); rfl)
              case hf_k4 => kernel_rfl
              case hr_k4 => kernel_rfl
              case hQ_k4 => exact fun _ _ _ h => h
              case hw_k4 => rfl
              case hy_k4 => ((intro w hSw; (try dsimp only at hSw); go_simp; (try rw [if_neg (by omega)])); all_goals (with_reducible rfl))
              try simp only [Act.put, List.setIfInBounds_toArray, List.set_cons_zero, List.set_cons_succ]
              refine wpAnyH_take (i := 4) (oi := ?oi_k5) (v := ?v_k5) ?hi_k5 (by kernel_rfl) ?hf_k5 ?hr_k5 ?hQ_k5 (Or.inl ⟨?hw_k5, ?hy_k5⟩) (by assumption) ?rest_k5
              case hi_k5 => ((simp only [List.getElem?_toArray, List.getElem?_cons_succ, List.getElem?_cons_zero]); rfl)
              case hf_k5 => kernel_rfl
              case hr_k5 => kernel_rfl
              case hQ_k5 => exact fun _ _ _ h => h
              case hw_k5 => rfl
              case hy_k5 => ((intro w hSw; (try dsimp only at hSw); go_simp; (try rw [if_neg (by omega)])); all_goals (with_reducible rfl))
              try simp only [Act.put, List.setIfInBounds_toArray, List.set_cons_zero, List.set_cons_succ]
              refine wpAnyH_take (i := 5) (oi := ?oi_k6) (v := ?v_k6) ?hi_k6 (by kernel_rfl) ?hf_k6 ?hr_k6 ?hQ_k6 (Or.inl ⟨?hw_k6, ?hy_k6⟩) (by assumption) ?rest_k6
              case hi_k6 => ((simp only [List.getElem?_toArray, List.getElem?_cons_succ, List.getElem?_cons_zero]); rfl)
              case hf_k6 => kernel_rfl
              case hr_k6 => kernel_rfl
              case hQ_k6 => exact fun _ _ _ h => h
              case hw_k6 => rfl
              case hy_k6 => ((intro w hSw; (try dsimp only at hSw); go_simp; (try rw [if_neg (by omega)])); all_goals (with_reducible rfl))
              try simp only [Act.put, List.setIfInBounds_toArray, List.set_cons_zero, List.set_cons_succ]
              refine wpAnyH_take (i := 6) (oi := ?oi_k7) (v := ?v_k7) ?hi_k7 (by kernel_rfl) ?hf_k7 ?hr_k7 ?hQ_k7 (Or.inl ⟨?hw_k7, ?hy_k7⟩) (by assumption) ?rest_k7
              case hi_k7 => ((simp only [List.getElem?_toArray, List.getElem?_cons_succ, List.getElem?_cons_zero]); rfl)
              case hf_k7 => kernel_rfl
              case hr_k7 => kernel_rfl
              case hQ_k7 => exact fun _ _ _ h => h
              case hw_k7 => rfl
              case hy_k7 => ((intro w hSw; (try dsimp only at hSw); go_simp; (try rw [if_neg (by omega)])); all_goals (with_reducible rfl))
              try simp only [Act.put, List.setIfInBounds_toArray, List.set_cons_zero, List.set_cons_succ]
              refine wpAnyH_take (i := 7) (oi := ?oi_k8) (v := ?v_k8) ?hi_k8 (by kernel_rfl) ?hf_k8 ?hr_k8 ?hQ_k8 (Or.inl ⟨?hw_k8, ?hy_k8⟩) (by assumption) ?rest_k8
              case hi_k8 => ((simp only [List.getElem?_toArray, List.getElem?_cons_succ, List.getElem?_cons_zero]); rfl)
              case hf_k8 => kernel_rfl
              case hr_k8 => kernel_rfl
              case hQ_k8 => exact fun _ _ _ h => h
              case hw_k8 => rfl
              case hy_k8 => ((intro w hSw; (try dsimp only at hSw); go_simp; (try rw [if_neg (by omega)])); all_goals (with_reducible rfl))
              try simp only [Act.put, List.setIfInBounds_toArray, List.set_cons_zero, List.set_cons_succ]
              refine wpAnyH_take (i := 8) (oi := ?oi_k9) (v := ?v_k9) ?hi_k9 (by kernel_rfl) ?hf_k9 ?hr_k9 ?hQ_k9 (Or.inl ⟨?hw_k9, ?hy_k9⟩) (by assumption) ?rest_k9
              case hi_k9 => ((simp only [List.getElem?_toArray, List.getElem?_cons_succ, List.getElem?_cons_zero]); rfl)
              case hf_k9 => kernel_rfl
              case hr_k9 => kernel_rfl
              case hQ_k9 => exact fun _ _ _ h => h
              case hw_k9 => rfl
              case hy_k9 => ((intro w hSw; (try dsimp only at hSw); go_simp; (try rw [if_neg (by omega)])); all_goals (with_reducible rfl))
              try simp only [Act.put, List.setIfInBounds_toArray, List.set_cons_zero, List.set_cons_succ]
              generalize wr.drew = u0 at *
              refine wpAnyH_ready (rs := [9, 15]) (by kernel_rfl) (by simp) ?_
              refine AllReadyH.cons (o := ?o1_r36) ?hi_r36 (fun K hK => ?ra_r36) (AllReadyH.cons (o := ?o2_r36) ?hj_r36 (fun K hK => ?rb_r36) AllReadyH.nil)
              case hi_r36 => ((simp only [List.getElem?_toArray, List.getElem?_cons_succ, List.getElem?_cons_zero]); rfl)
              case hj_r36 => ((simp only [List.getElem?_toArray, List.getElem?_cons_succ, List.getElem?_cons_zero]); rfl)
              case ra_r36 =>
                obtain ⟨c9, W9, hrun9, hi9, hb9, -, -⟩ := conv_row X u0 (by first | assumption | omega)
                go_simp
                have hu9 := belStep hHeld hb9
                refine hK.out _ _ (by exact hu9) (fun hHeld => ?_)
                clear hK K hrun9 hu9
                try simp only [Act.put, List.setIfInBounds_toArray, List.set_cons_zero, List.set_cons_succ]
                clear hb9
                refine wpAnyH_ready (rs := [10, 15]) (by kernel_rfl) (by simp) ?_
                refine AllReadyH.cons (o := ?o1_r26) ?hi_r26 (fun K hK => ?ra_r26) (AllReadyH.cons (o := ?o2_r26) ?hj_r26 (fun K hK => ?rb_r26) AllReadyH.nil)
                case hi_r26 => ((simp only [List.getElem?_toArray, List.getElem?_cons_succ, List.getElem?_cons_zero]); rfl)
                case hj_r26 => ((simp only [List.getElem?_toArray, List.getElem?_cons_succ, List.getElem?_cons_zero]); rfl)
                case ra_r26 =>
                  go_simp
                  (go_at_call 16; (with_reducible refine (readC_ok _ _ _ X c _ (HEW.out _ hHeld) hi9 HX.out).mono ?_); rintro e wq ⟨⟨dtC, dcC, rfl, hoC0, _⟩, hbq⟩)
                  try go_simp
                  have huq := belStep hHeld hbq
                  have hoC := OwnR.mono hoC0 (Below.size hHeld)
                  clear hoC0
                  refine hK.out _ _ (by exact huq) (fun hHeld => ?_)
                  clear hK K hi9 huq
                  try simp only [Act.put, List.setIfInBounds_toArray, List.set_cons_zero, List.set_cons_succ]
                  clear hbq
                  refine wpAnyH_take (i := 11) (oi := ?oi_k10) (v := ?v_k10) ?hi_k10 (by kernel_rfl) ?hf_k10 ?hr_k10 ?hQ_k10 (Or.inl ⟨?hw_k10, ?hy_k10⟩) (by assumption) ?rest_k10
                  case hi_k10 => ((simp only [List.getElem?_toArray, List.getElem?_cons_succ, List.getElem?_cons_zero]); rfl)
                  case hf_k10 => kernel_rfl
                  case hr_k10 => kernel_rfl
                  case hQ_k10 => exact fun _ _ _ h => h
                  case hw_k10 => rfl
                  case hy_k10 => ((intro w hSw; (try dsimp only at hSw); go_simp); all_goals (with_reducible rfl))
                  try simp only [Act.put, List.setIfInBounds_toArray, List.set_cons_zero, List.set_cons_succ]
                  refine wpAnyH_take (i := 12) (oi := ?oi_k11) (v := ?v_k11) ?hi_k11 (by kernel_rfl) ?hf_k11 ?hr_k11 ?hQ_k11 (Or.inl ⟨?hw_k11, ?hy_k11⟩) (by assumption) ?rest_k11
                  case hi_k11 => ((simp only [List.getElem?_toArray, List.getElem?_cons_succ, List.getElem?_cons_zero]); rfl)
                  case hf_k11 => kernel_rfl
                  case hr_k11 => kernel_rfl
                  case hQ_k11 => exact fun _ _ _ h => h
                  case hw_k11 => rfl
                  case hy_k11 => ((intro w hSw; (try dsimp only at hSw); go_simp); all_goals (with_reducible rfl))
                  try simp only [Act.put, List.setIfInBounds_toArray, List.set_cons_zero, List.set_cons_succ]
                  refine wpAnyH_take (i := 13) (oi := ?oi_k12) (v := ?v_k12) ?hi_k12 (by kernel_rfl) ?hf_k12 ?hr_k12 ?hQ_k12 (Or.inl ⟨?hw_k12, ?hy_k12⟩) (by assumption) ?rest_k12
                  case hi_k12 => ((simp only [List.getElem?_toArray, List.getElem?_cons_succ, List.getElem?_cons_zero]); rfl)
                  case hf_k12 => kernel_rfl
                  case hr_k12 => kernel_rfl
                  case hQ_k12 => exact fun _ _ _ h => h
                  case hw_k12 => rfl
                  case hy_k12 => ((intro w hSw; (try dsimp only at hSw); go_simp); all_goals (with_reducible rfl))
                  try simp only [Act.put, List.setIfInBounds_toArray, List.set_cons_zero, List.set_cons_succ]
                  refine wpAnyH_take (i := 14) (oi := ?oi_k13) (v := ?v_k13) ?hi_k13 (by kernel_rfl) ?hf_k13 ?hr_k13 ?hQ_k13 (Or.inl ⟨?hw_k13, ?hy_k13⟩) (by assumption) ?rest_k13
                  case hi_k13 => ((simp only [List.getElem?_toArray, List.getElem?_cons_succ, List.getElem?_cons_zero]); rfl)
                  case hf_k13 => kernel_rfl
                  case hr_k13 => kernel_rfl
                  case hQ_k13 => exact fun _ _ _ h => h
                  case hw_k13 => rfl
                  case hy_k13 => ((intro w hSw; (try dsimp only at hSw); go_simp); all_goals (with_reducible rfl))
                  try simp only [Act.put, List.setIfInBounds_toArray, List.set_cons_zero, List.set_cons_succ]
                  refine wpAnyH_ready (rs := [15]) (by kernel_rfl) (by simp) ?_
                  refine AllReadyH.cons (o := ?o1_r17) ?hi_r17 (fun K hK => ?rest_r17) AllReadyH.nil
                  case hi_r17 => ((simp only [List.getElem?_toArray, List.getElem?_cons_succ, List.getElem?_cons_zero]); rfl)
                  have hg8 : W3.heap.size ≤ wq.heap.size := Below.size hHeld
                  go_simp
                  refine hK.out _ _ (by exact belAlloc hHeld _) (fun hHeld => ?_)
                  clear hK K
                  try simp only [Act.put, List.setIfInBounds_toArray, List.set_cons_zero, List.set_cons_succ]
                  have hB8 : Blk (wq.alloc (.cells #[.int .i64 0, .int .i64 0, .int .i64 0, .int .i64 0, .int .i64 0, .int .i64 0, .slice none 0 0, .int .i64 0, .int .i64 0, .int .i64 0, .int .i64 0] 25)) wq.heap.size [.int .i64 0, .int .i64 0, .int .i64 0, .int .i64 0, .int .i64 0, .int .i64 0, .slice none 0 0, .int .i64 0, .int .i64 0, .int .i64 0, .int .i64 0] 25 := Blk.new wq [.int .i64 0, .int .i64 0, .int .i64 0, .int .i64 0, .int .i64 0, .int .i64 0, .slice none 0 0, .int .i64 0, .int .i64 0, .int .i64 0, .int .i64 0] 25
                  have hal := belAlloc (Below.refl wq.heap.size wq) (.cells #[.int .i64 0, .int .i64 0, .int .i64 0, .int .i64 0, .int .i64 0, .int .i64 0, .slice none 0 0, .int .i64 0, .int .i64 0, .int .i64 0, .int .i64 0] 25)
                  replace hoC := OwnR.later hoC hal
                  clear hal
                  generalize wq.alloc (.cells #[.int .i64 0, .int .i64 0, .int .i64 0, .int .i64 0, .int .i64 0, .int .i64 0, .slice none 0 0, .int .i64 0, .int .i64 0, .int .i64 0, .int .i64 0] 25) = u15 at *
                  generalize wq.heap.size = g8 at *
                  have y0 := hB8.cell (j := 0) rfl
                  have y1 := hB8.cell (j := 1) rfl
                  have y2 := hB8.cell (j := 2) rfl
                  have y3 := hB8.cell (j := 3) rfl
                  have y4 := hB8.cell (j := 4) rfl
                  have y5 := hB8.cell (j := 5) rfl
                  have y6 := hB8.cell (j := 6) rfl
                  have y7 := hB8.cell (j := 7) rfl
                  have y8 := hB8.cell (j := 8) rfl
                  have y9 := hB8.cell (j := 9) rfl
                  have y10 := hB8.cell (j := 10) rfl
                  have yf := hB8.frozen
                  have hb16 := (belSet (belSet (belSet (belSet (belSet (belSet (belSet (belSet (belSet (belSet (belSet hHeld ⟨g8, 0, none⟩ (.int .i64 c.k0) hg8) ⟨g8, 1, none⟩ (.int .i64 c.k1) hg8) ⟨g8, 2, none⟩ (.int .i64 c.k2) hg8) ⟨g8, 3, none⟩ (.int .i64 c.a0) hg8) ⟨g8, 4, none⟩ (.int .i64 c.a1) hg8) ⟨g8, 5, none⟩ (.int .i64 c.a2) hg8) ⟨g8, 6, none⟩ (.slice dtC c.T.length dcC) hg8) ⟨g8, 7, none⟩ (.int .i64 c.per) hg8) ⟨g8, 8, none⟩ (.int .i64 c.ret) hg8) ⟨g8, 9, none⟩ (.int .i64 c.age) hg8) ⟨g8, 10, none⟩ (.int .i64 c.dead) hg8)
                  have hR16 : Blk (((((((((((u15.setCell ⟨g8, 0, none⟩ (.int .i64 c.k0)).setCell ⟨g8, 1, none⟩ (.int .i64 c.k1)).setCell ⟨g8, 2, none⟩ (.int .i64 c.k2)).setCell ⟨g8, 3, none⟩ (.int .i64 c.a0)).setCell ⟨g8, 4, none⟩ (.int .i64 c.a1)).setCell ⟨g8, 5, none⟩ (.int .i64 c.a2)).setCell ⟨g8, 6, none⟩ (.slice dtC c.T.length dcC)).setCell ⟨g8, 7, none⟩ (.int .i64 c.per)).setCell ⟨g8, 8, none⟩ (.int .i64 c.ret)).setCell ⟨g8, 9, none⟩ (.int .i64 c.age)).setCell ⟨g8, 10, none⟩ (.int .i64 c.dead)) g8 [.int .i64 c.k0, .int .i64 c.k1, .int .i64 c.k2, .int .i64 c.a0, .int .i64 c.a1, .int .i64 c.a2, .slice dtC c.T.length dcC, .int .i64 c.per, .int .i64 c.ret, .int .i64 c.age, .int .i64 c.dead] 25 := (((((((((((hB8.set 0 (.int .i64 c.k0)).set 1 (.int .i64 c.k1)).set 2 (.int .i64 c.k2)).set 3 (.int .i64 c.a0)).set 4 (.int .i64 c.a1)).set 5 (.int .i64 c.a2)).set 6 (.slice dtC c.T.length dcC)).set 7 (.int .i64 c.per)).set 8 (.int .i64 c.ret)).set 9 (.int .i64 c.age)).set 10 (.int .i64 c.dead))
                  have hO16 := (own_far (own_far (own_far (own_far (own_far (own_far (own_far (own_far (own_far (own_far (own_far hoC hB8 (by decide) ⟨g8, 0, none⟩ rfl (.int .i64 c.k0)) (hB8.set 0 (.int .i64 c.k0)) (by decide) ⟨g8, 1, none⟩ rfl (.int .i64 c.k1)) ((hB8.set 0 (.int .i64 c.k0)).set 1 (.int .i64 c.k1)) (by decide) ⟨g8, 2, none⟩ rfl (.int .i64 c.k2)) (((hB8.set 0 (.int .i64 c.k0)).set 1 (.int .i64 c.k1)).set 2 (.int .i64 c.k2)) (by decide) ⟨g8, 3, none⟩ rfl (.int .i64 c.a0)) ((((hB8.set 0 (.int .i64 c.k0)).set 1 (.int .i64 c.k1)).set 2 (.int .i64 c.k2)).set 3 (.int .i64 c.a0)) (by decide) ⟨g8, 4, none⟩ rfl (.int .i64 c.a1)) (((((hB8.set 0 (.int .i64 c.k0)).set 1 (.int .i64 c.k1)).set 2 (.int .i64 c.k2)).set 3 (.int .i64 c.a0)).set 4 (.int .i64 c.a1)) (by decide) ⟨g8, 5, none⟩ rfl (.int .i64 c.a2)) ((((((hB8.set 0 (.int .i64 c.k0)).set 1 (.int .i64 c.k1)).set 2 (.int .i64 c.k2)).set 3 (.int .i64 c.a0)).set 4 (.int .i64 c.a1)).set 5 (.int .i64 c.a2)) (by decide) ⟨g8, 6, none⟩ rfl (.slice dtC c.T.length dcC)) (((((((hB8.set 0 (.int .i64 c.k0)).set 1 (.int .i64 c.k1)).set 2 (.int .i64 c.k2)).set 3 (.int .i64 c.a0)).set 4 (.int .i64 c.a1)).set 5 (.int .i64 c.a2)).set 6 (.slice dtC c.T.length dcC)) (by decide) ⟨g8, 7, none⟩ rfl (.int .i64 c.per)) ((((((((hB8.set 0 (.int .i64 c.k0)).set 1 (.int .i64 c.k1)).set 2 (.int .i64 c.k2)).set 3 (.int .i64 c.a0)).set 4 (.int .i64 c.a1)).set 5 (.int .i64 c.a2)).set 6 (.slice dtC c.T.length dcC)).set 7 (.int .i64 c.per)) (by decide) ⟨g8, 8, none⟩ rfl (.int .i64 c.ret)) (((((((((hB8.set 0 (.int .i64 c.k0)).set 1 (.int .i64 c.k1)).set 2 (.int .i64 c.k2)).set 3 (.int .i64 c.a0)).set 4 (.int .i64 c.a1)).set 5 (.int .i64 c.a2)).set 6 (.slice dtC c.T.length dcC)).set 7 (.int .i64 c.per)).set 8 (.int .i64 c.ret)) (by decide) ⟨g8, 9, none⟩ rfl (.int .i64 c.age)) ((((((((((hB8.set 0 (.int .i64 c.k0)).set 1 (.int .i64 c.k1)).set 2 (.int .i64 c.k2)).set 3 (.int .i64 c.a0)).set 4 (.int .i64 c.a1)).set 5 (.int .i64 c.a2)).set 6 (.slice dtC c.T.length dcC)).set 7 (.int .i64 c.per)).set 8 (.int .i64 c.ret)).set 9 (.int .i64 c.age)) (by decide) ⟨g8, 10, none⟩ rfl (.int .i64 c.dead))
                  refine wpAnyH_ready (rs := [16]) (by kernel_rfl) (by simp) ?_
                  refine AllReadyH.cons (o := ?o1_k14) ?hi_k14 (fun K hK => ?rest_k14) AllReadyH.nil
                  case hi_k14 => ((simp only [List.getElem?_toArray, List.getElem?_cons_succ, List.getElem?_cons_zero]); rfl)
                  go_simp
                  refine hK.out _ _ (by exact hb16) (fun hHeld => ?_)
                  clear hK K
                  try simp only [Act.put, List.setIfInBounds_toArray, List.set_cons_zero, List.set_cons_succ]
                  refine wpAnyH_take (i := 17) (oi := ?oi_k15) (v := ?v_k15) ?hi_k15 (by kernel_rfl) ?hf_k15 ?hr_k15 ?hQ_k15 (Or.inl ⟨?hw_k15, ?hy_k15⟩) (by assumption) ?rest_k15
                  case hi_k15 => ((simp only [List.getElem?_toArray, List.getElem?_cons_succ, List.getElem?_cons_zero]); rfl)
                  case hf_k15 => kernel_rfl
                  case hr_k15 => kernel_rfl
                  case hQ_k15 => exact fun _ _ _ h => h
                  case hw_k15 => rfl
                  case hy_k15 => ((intro w hSw; (try dsimp only at hSw); go_simp); all_goals (with_reducible rfl))
                  try simp only [Act.put, List.setIfInBounds_toArray, List.set_cons_zero, List.set_cons_succ]
                  refine wpAnyH_take (i := 18) (oi := ?oi_k16) (v := ?v_k16) ?hi_k16 (by kernel_rfl) ?hf_k16 ?hr_k16 ?hQ_k16 (Or.inl ⟨?hw_k16, ?hy_k16⟩) (by assumption) ?rest_k16
                  case hi_k16 => ((simp only [List.getElem?_toArray, List.getElem?_cons_succ, List.getElem?_cons_zero]); rfl)
                  case hf_k16 => kernel_rfl
                  case hr_k16 => kernel_rfl
                  case hQ_k16 => exact fun _ _ _ h => h
                  case hw_k16 => rfl
                  case hy_k16 => ((intro w hSw; (try dsimp only at hSw); go_simp); all_goals (with_reducible rfl))
                  try simp only [Act.put, List.setIfInBounds_toArray, List.set_cons_zero, List.set_cons_succ]
                  refine wpAnyH_done (by kernel_rfl) ?_ _
                  clear hHeld hB8 yf y0 y1 y2 y3 y4 y5 y6 y7 y8 y9 y10 hoC
                  generalize ((((((((((u15.setCell ⟨g8, 0, none⟩ (.int .i64 c.k0)).setCell ⟨g8, 1, none⟩ (.int .i64 c.k1)).setCell ⟨g8, 2, none⟩ (.int .i64 c.k2)).setCell ⟨g8, 3, none⟩ (.int .i64 c.a0)).setCell ⟨g8, 4, none⟩ (.int .i64 c.a1)).setCell ⟨g8, 5, none⟩ (.int .i64 c.a2)).setCell ⟨g8, 6, none⟩ (.slice dtC c.T.length dcC)).setCell ⟨g8, 7, none⟩ (.int .i64 c.per)).setCell ⟨g8, 8, none⟩ (.int .i64 c.ret)).setCell ⟨g8, 9, none⟩ (.int .i64 c.age)).setCell ⟨g8, 10, none⟩ (.int .i64 c.dead) = W4 at *
                  try clear hbel
                  have hbel := hb16
                  have HBxx := Lib.hid hR16
                  have HOxx := Lib.hid hO16
                  clear hO16
                  clear hb16 hR16
                  have hn3 : N + 1 < 3 := by omega
                  have xx0 := HBxx.out.cell (j := 0) rfl
                  have xx1 := HBxx.out.cell (j := 1) rfl
                  have xx2 := HBxx.out.cell (j := 2) rfl
                  have xx3 := HBxx.out.cell (j := 3) rfl
                  have xx4 := HBxx.out.cell (j := 4) rfl
                  have xx5 := HBxx.out.cell (j := 5) rfl
                  have xx6 := HBxx.out.cell (j := 6) rfl
                  have xx7 := HBxx.out.cell (j := 7) rfl
                  have xx8 := HBxx.out.cell (j := 8) rfl
                  have xx9 := HBxx.out.cell (j := 9) rfl
                  have xx10 := HBxx.out.cell (j := 10) rfl
                  have HXC := Lib.hid (cfa_own HC3.out.ok rfl HOxx.out)
                  have CX := Lib.hid (rf_Same7 c c dtC ta dcC tc W4 HXC.out (HC3.out.later hbel))
                  rw [sameM_refl] at CX
                  go_wp2_with ((go_at_call 14; (with_reducible refine (CX.out).mono ?_); rintro e w1 ⟨rfl, hb1⟩; replace hbel := belStep hbel hb1; clear hb1))
                  go_roundg gq
                  case rel => exact ⟨i + 1, by omega, by rw [hcn], by push_cast; rfl, hbel⟩
                  case measure => omega
                case rb_r26 =>
                  have hg8 : W3.heap.size ≤ W9.heap.size := Below.size hHeld
                  go_simp
                  refine hK.out _ _ (by exact belAlloc hHeld _) (fun hHeld => ?_)
                  clear hK K
                  try simp only [Act.put, List.setIfInBounds_toArray, List.set_cons_zero, List.set_cons_succ]
                  have hB8 : Blk (W9.alloc (.cells #[.int .i64 0, .int .i64 0, .int .i64 0, .int .i64 0, .int .i64 0, .int .i64 0, .slice none 0 0, .int .i64 0, .int .i64 0, .int .i64 0, .int .i64 0] 25)) W9.heap.size [.int .i64 0, .int .i64 0, .int .i64 0, .int .i64 0, .int .i64 0, .int .i64 0, .slice none 0 0, .int .i64 0, .int .i64 0, .int .i64 0, .int .i64 0] 25 := Blk.new W9 [.int .i64 0, .int .i64 0, .int .i64 0, .int .i64 0, .int .i64 0, .int .i64 0, .slice none 0 0, .int .i64 0, .int .i64 0, .int .i64 0, .int .i64 0] 25
                  have hal := belAlloc (Below.refl W9.heap.size W9) (.cells #[.int .i64 0, .int .i64 0, .int .i64 0, .int .i64 0, .int .i64 0, .int .i64 0, .slice none 0 0, .int .i64 0, .int .i64 0, .int .i64 0, .int .i64 0] 25)
                  replace hi9 := Ints.later hi9 hal
                  clear hal
                  generalize W9.alloc (.cells #[.int .i64 0, .int .i64 0, .int .i64 0, .int .i64 0, .int .i64 0, .int .i64 0, .slice none 0 0, .int .i64 0, .int .i64 0, .int .i64 0, .int .i64 0] 25) = u15 at *
                  generalize W9.heap.size = g8 at *
                  refine wpAnyH_ready (rs := [10]) (by kernel_rfl) (by simp) ?_
                  refine AllReadyH.cons (o := ?o1_r25) ?hi_r25 (fun K hK => ?rest_r25) AllReadyH.nil
                  case hi_r25 => ((simp only [List.getElem?_toArray, List.getElem?_cons_succ, List.getElem?_cons_zero]); rfl)
                  go_simp
                  (go_at_call 16; (with_reducible refine (readC_ok _ _ _ X c _ (HEW.out _ hHeld) hi9 HX.out).mono ?_); rintro e wq ⟨⟨dtC, dcC, rfl, hoC0, _⟩, hbq⟩)
                  try go_simp
                  have huq := belStep hHeld hbq
                  have hoC := OwnR.mono hoC0 (Below.size hHeld)
                  clear hoC0
                  refine hK.out _ _ (by exact huq) (fun hHeld => ?_)
                  clear hK K hi9 huq
                  try simp only [Act.put, List.setIfInBounds_toArray, List.set_cons_zero, List.set_cons_succ]
                  replace hB8 := hB8.later hbq
                  clear hbq
                  refine wpAnyH_take (i := 11) (oi := ?oi_k18) (v := ?v_k18) ?hi_k18 (by kernel_rfl) ?hf_k18 ?hr_k18 ?hQ_k18 (Or.inl ⟨?hw_k18, ?hy_k18⟩) (by assumption) ?rest_k18
                  case hi_k18 => ((simp only [List.getElem?_toArray, List.getElem?_cons_succ, List.getElem?_cons_zero]); rfl)
                  case hf_k18 => kernel_rfl
                  case hr_k18 => kernel_rfl
                  case hQ_k18 => exact fun _ _ _ h => h
                  case hw_k18 => rfl
                  case hy_k18 => ((intro w hSw; (try dsimp only at hSw); go_simp); all_goals (with_reducible rfl))
                  try simp only [Act.put, List.setIfInBounds_toArray, List.set_cons_zero, List.set_cons_succ]
                  refine wpAnyH_take (i := 12) (oi := ?oi_k19) (v := ?v_k19) ?hi_k19 (by kernel_rfl) ?hf_k19 ?hr_k19 ?hQ_k19 (Or.inl ⟨?hw_k19, ?hy_k19⟩) (by assumption) ?rest_k19
                  case hi_k19 => ((simp only [List.getElem?_toArray, List.getElem?_cons_succ, List.getElem?_cons_zero]); rfl)
                  case hf_k19 => kernel_rfl
                  case hr_k19 => kernel_rfl
                  case hQ_k19 => exact fun _ _ _ h => h
                  case hw_k19 => rfl
                  case hy_k19 => ((intro w hSw; (try dsimp only at hSw); go_simp); all_goals (with_reducible rfl))
                  try simp only [Act.put, List.setIfInBounds_toArray, List.set_cons_zero, List.set_cons_succ]
                  refine wpAnyH_take (i := 13) (oi := ?oi_k20) (v := ?v_k20) ?hi_k20 (by kernel_rfl) ?hf_k20 ?hr_k20 ?hQ_k20 (Or.inl ⟨?hw_k20, ?hy_k20⟩) (by assumption) ?rest_k20
                  case hi_k20 => ((simp only [List.getElem?_toArray, List.getElem?_cons_succ, List.getElem?_cons_zero]); rfl)
                  case hf_k20 => kernel_rfl
                  case hr_k20 => kernel_rfl
                  case hQ_k20 => exact fun _ _ _ h => h
                  case hw_k20 => rfl
                  case hy_k20 => ((intro w hSw; (try dsimp only at hSw); go_simp); all_goals (with_reducible rfl))
                  try simp only [Act.put, List.setIfInBounds_toArray, List.set_cons_zero, List.set_cons_succ]
                  refine wpAnyH_take (i := 14) (oi := ?oi_k21) (v := ?v_k21) ?hi_k21 (by kernel_rfl) ?hf_k21 ?hr_k21 ?hQ_k21 (Or.inl ⟨?hw_k21, ?hy_k21⟩) (by assumption) ?rest_k21
                  case hi_k21 => ((simp only [List.getElem?_toArray, List.getElem?_cons_succ, List.getElem?_cons_zero]); rfl)
                  case hf_k21 => kernel_rfl
                  case hr_k21 => kernel_rfl
                  case hQ_k21 => exact fun _ _ _ h => h
                  case hw_k21 => rfl
                  case hy_k21 => ((intro w hSw; (try dsimp only at hSw); go_simp); all_goals (with_reducible rfl))
                  try simp only [Act.put, List.setIfInBounds_toArray, List.set_cons_zero, List.set_cons_succ]
                  have y0 := hB8.cell (j := 0) rfl
                  have y1 := hB8.cell (j := 1) rfl
                  have y2 := hB8.cell (j := 2) rfl
                  have y3 := hB8.cell (j := 3) rfl
                  have y4 := hB8.cell (j := 4) rfl
                  have y5 := hB8.cell (j := 5) rfl
                  have y6 := hB8.cell (j := 6) rfl
                  have y7 := hB8.cell (j := 7) rfl
                  have y8 := hB8.cell (j := 8) rfl
                  have y9 := hB8.cell (j := 9) rfl
                  have y10 := hB8.cell (j := 10) rfl
                  have yf := hB8.frozen
                  have hb16 := (belSet (belSet (belSet (belSet (belSet (belSet (belSet (belSet (belSet (belSet (belSet hHeld ⟨g8, 0, none⟩ (.int .i64 c.k0) hg8) ⟨g8, 1, none⟩ (.int .i64 c.k1) hg8) ⟨g8, 2, none⟩ (.int .i64 c.k2) hg8) ⟨g8, 3, none⟩ (.int .i64 c.a0) hg8) ⟨g8, 4, none⟩ (.int .i64 c.a1) hg8) ⟨g8, 5, none⟩ (.int .i64 c.a2) hg8) ⟨g8, 6, none⟩ (.slice dtC c.T.length dcC) hg8) ⟨g8, 7, none⟩ (.int .i64 c.per) hg8) ⟨g8, 8, none⟩ (.int .i64 c.ret) hg8) ⟨g8, 9, none⟩ (.int .i64 c.age) hg8) ⟨g8, 10, none⟩ (.int .i64 c.dead) hg8)
                  have hR16 : Blk (((((((((((wq.setCell ⟨g8, 0, none⟩ (.int .i64 c.k0)).setCell ⟨g8, 1, none⟩ (.int .i64 c.k1)).setCell ⟨g8, 2, none⟩ (.int .i64 c.k2)).setCell ⟨g8, 3, none⟩ (.int .i64 c.a0)).setCell ⟨g8, 4, none⟩ (.int .i64 c.a1)).setCell ⟨g8, 5, none⟩ (.int .i64 c.a2)).setCell ⟨g8, 6, none⟩ (.slice dtC c.T.length dcC)).setCell ⟨g8, 7, none⟩ (.int .i64 c.per)).setCell ⟨g8, 8, none⟩ (.int .i64 c.ret)).setCell ⟨g8, 9, none⟩ (.int .i64 c.age)).setCell ⟨g8, 10, none⟩ (.int .i64 c.dead)) g8 [.int .i64 c.k0, .int .i64 c.k1, .int .i64 c.k2, .int .i64 c.a0, .int .i64 c.a1, .int .i64 c.a2, .slice dtC c.T.length dcC, .int .i64 c.per, .int .i64 c.ret, .int .i64 c.age, .int .i64 c.dead] 25 := (((((((((((hB8.set 0 (.int .i64 c.k0)).set 1 (.int .i64 c.k1)).set 2 (.int .i64 c.k2)).set 3 (.int .i64 c.a0)).set 4 (.int .i64 c.a1)).set 5 (.int .i64 c.a2)).set 6 (.slice dtC c.T.length dcC)).set 7 (.int .i64 c.per)).set 8 (.int .i64 c.ret)).set 9 (.int .i64 c.age)).set 10 (.int .i64 c.dead))
                  have hO16 := (own_far (own_far (own_far (own_far (own_far (own_far (own_far (own_far (own_far (own_far (own_far hoC hB8 (by decide) ⟨g8, 0, none⟩ rfl (.int .i64 c.k0)) (hB8.set 0 (.int .i64 c.k0)) (by decide) ⟨g8, 1, none⟩ rfl (.int .i64 c.k1)) ((hB8.set 0 (.int .i64 c.k0)).set 1 (.int .i64 c.k1)) (by decide) ⟨g8, 2, none⟩ rfl (.int .i64 c.k2)) (((hB8.set 0 (.int .i64 c.k0)).set 1 (.int .i64 c.k1)).set 2 (.int .i64 c.k2)) (by decide) ⟨g8, 3, none⟩ rfl (.int .i64 c.a0)) ((((hB8.set 0 (.int .i64 c.k0)).set 1 (.int .i64 c.k1)).set 2 (.int .i64 c.k2)).set 3 (.int .i64 c.a0)) (by decide) ⟨g8, 4, none⟩ rfl (.int .i64 c.a1)) (((((hB8.set 0 (.int .i64 c.k0)).set 1 (.int .i64 c.k1)).set 2 (.int .i64 c.k2)).set 3 (.int .i64 c.a0)).set 4 (.int .i64 c.a1)) (by decide) ⟨g8, 5, none⟩ rfl (.int .i64 c.a2)) ((((((hB8.set 0 (.int .i64 c.k0)).set 1 (.int .i64 c.k1)).set 2 (.int .i64 c.k2)).set 3 (.int .i64 c.a0)).set 4 (.int .i64 c.a1)).set 5 (.int .i64 c.a2)) (by decide) ⟨g8, 6, none⟩ rfl (.slice dtC c.T.length dcC)) (((((((hB8.set 0 (.int .i64 c.k0)).set 1 (.int .i64 c.k1)).set 2 (.int .i64 c.k2)).set 3 (.int .i64 c.a0)).set 4 (.int .i64 c.a1)).set 5 (.int .i64 c.a2)).set 6 (.slice dtC c.T.length dcC)) (by decide) ⟨g8, 7, none⟩ rfl (.int .i64 c.per)) ((((((((hB8.set 0 (.int .i64 c.k0)).set 1 (.int .i64 c.k1)).set 2 (.int .i64 c.k2)).set 3 (.int .i64 c.a0)).set 4 (.int .i64 c.a1)).set 5 (.int .i64 c.a2)).set 6 (.slice dtC c.T.length dcC)).set 7 (.int .i64 c.per)) (by decide) ⟨g8, 8, none⟩ rfl (.int .i64 c.ret)) (((((((((hB8.set 0 (.int .i64 c.k0)).set 1 (.int .i64 c.k1)).set 2 (.int .i64 c.k2)).set 3 (.int .i64 c.a0)).set 4 (.int .i64 c.a1)).set 5 (.int .i64 c.a2)).set 6 (.slice dtC c.T.length dcC)).set 7 (.int .i64 c.per)).set 8 (.int .i64 c.ret)) (by decide) ⟨g8, 9, none⟩ rfl (.int .i64 c.age)) ((((((((((hB8.set 0 (.int .i64 c.k0)).set 1 (.int .i64 c.k1)).set 2 (.int .i64 c.k2)).set 3 (.int .i64 c.a0)).set 4 (.int .i64 c.a1)).set 5 (.int .i64 c.a2)).set 6 (.slice dtC c.T.length dcC)).set 7 (.int .i64 c.per)).set 8 (.int .i64 c.ret)).set 9 (.int .i64 c.age)) (by decide) ⟨g8, 10, none⟩ rfl (.int .i64 c.dead))
                  refine wpAnyH_ready (rs := [16]) (by kernel_rfl) (by simp) ?_
                  refine AllReadyH.cons (o := ?o1_k22) ?hi_k22 (fun K hK => ?rest_k22) AllReadyH.nil
                  case hi_k22 => ((simp only [List.getElem?_toArray, List.getElem?_cons_succ, List.getElem?_cons_zero]); rfl)
                  go_simp
                  refine hK.out _ _ (by exact hb16) (fun hHeld => ?_)
                  clear hK K
                  try simp only [Act.put, List.setIfInBounds_toArray, List.set_cons_zero, List.set_cons_succ]
                  refine wpAnyH_take (i := 17) (oi := ?oi_k23) (v := ?v_k23) ?hi_k23 (by kernel_rfl) ?hf_k23 ?hr_k23 ?hQ_k23 (Or.inl ⟨?hw_k23, ?hy_k23⟩) (by assumption) ?rest_k23
                  case hi_k23 => ((simp only [List.getElem?_toArray, List.getElem?_cons_succ, List.getElem?_cons_zero]); rfl)
                  case hf_k23 => kernel_rfl
                  case hr_k23 => kernel_rfl
                  case hQ_k23 => exact fun _ _ _ h => h
                  case hw_k23 => rfl
                  case hy_k23 => ((intro w hSw; (try dsimp only at hSw); go_simp); all_goals (with_reducible rfl))
                  try simp only [Act.put, List.setIfInBounds_toArray, List.set_cons_zero, List.set_cons_succ]
                  refine wpAnyH_take (i := 18) (oi := ?oi_k24) (v := ?v_k24) ?hi_k24 (by kernel_rfl) ?hf_k24 ?hr_k24 ?hQ_k24 (Or.inl ⟨?hw_k24, ?hy_k24⟩) (by assumption) ?rest_k24
                  case hi_k24 => ((simp only [List.getElem?_toArray, List.getElem?_cons_succ, List.getElem?_cons_zero]); rfl)
                  case hf_k24 => kernel_rfl
                  case hr_k24 => kernel_rfl
                  case hQ_k24 => exact fun _ _ _ h => h
                  case hw_k24 => rfl
                  case hy_k24 => ((intro w hSw; (try dsimp only at hSw); go_simp); all_goals (with_reducible rfl))
                  try simp only [Act.put, List.setIfInBounds_toArray, List.set_cons_zero, List.set_cons_succ]
                  refine wpAnyH_done (by kernel_rfl) ?_ _
                  clear hHeld hB8 yf y0 y1 y2 y3 y4 y5 y6 y7 y8 y9 y10 hoC
                  generalize ((((((((((wq.setCell ⟨g8, 0, none⟩ (.int .i64 c.k0)).setCell ⟨g8, 1, none⟩ (.int .i64 c.k1)).setCell ⟨g8, 2, none⟩ (.int .i64 c.k2)).setCell ⟨g8, 3, none⟩ (.int .i64 c.a0)).setCell ⟨g8, 4, none⟩ (.int .i64 c.a1)).setCell ⟨g8, 5, none⟩ (.int .i64 c.a2)).setCell ⟨g8, 6, none⟩ (.slice dtC c.T.length dcC)).setCell ⟨g8, 7, none⟩ (.int .i64 c.per)).setCell ⟨g8, 8, none⟩ (.int .i64 c.ret)).setCell ⟨g8, 9, none⟩ (.int .i64 c.age)).setCell ⟨g8, 10, none⟩ (.int .i64 c.dead) = W4 at *
                  try clear hbel
                  have hbel := hb16
                  have HBxx := Lib.hid hR16
                  have HOxx := Lib.hid hO16
                  clear hO16
                  clear hb16 hR16
                  have hn3 : N + 1 < 3 := by omega
                  have xx0 := HBxx.out.cell (j := 0) rfl
                  have xx1 := HBxx.out.cell (j := 1) rfl
                  have xx2 := HBxx.out.cell (j := 2) rfl
                  have xx3 := HBxx.out.cell (j := 3) rfl
                  have xx4 := HBxx.out.cell (j := 4) rfl
                  have xx5 := HBxx.out.cell (j := 5) rfl
                  have xx6 := HBxx.out.cell (j := 6) rfl
                  have xx7 := HBxx.out.cell (j := 7) rfl
                  have xx8 := HBxx.out.cell (j := 8) rfl
                  have xx9 := HBxx.out.cell (j := 9) rfl
                  have xx10 := HBxx.out.cell (j := 10) rfl
                  have HXC := Lib.hid (cfa_own HC3.out.ok rfl HOxx.out)
                  have CX := Lib.hid (rf_Same7 c c dtC ta dcC tc W4 HXC.out (HC3.out.later hbel))
                  rw [sameM_refl] at CX
                  go_wp2_with ((go_at_call 14; (with_reducible refine (CX.out).mono ?_); rintro e w1 ⟨rfl, hb1⟩; replace hbel := belStep hbel hb1; clear hb1))
                  go_roundg gq
                  case rel => exact ⟨i + 1, by omega, by rw [hcn], by push_cast; rfl, hbel⟩
                  case measure => omega
              case rb_r36 =>
                have hg8 : W3.heap.size ≤ u0.heap.size := Below.size hHeld
                go_simp
                refine hK.out _ _ (by exact belAlloc hHeld _) (fun hHeld => ?_)
                clear hK K
                try simp only [Act.put, List.setIfInBounds_toArray, List.set_cons_zero, List.set_cons_succ]
                have hB8 : Blk (u0.alloc (.cells #[.int .i64 0, .int .i64 0, .int .i64 0, .int .i64 0, .int .i64 0, .int .i64 0, .slice none 0 0, .int .i64 0, .int .i64 0, .int .i64 0, .int .i64 0] 25)) u0.heap.size [.int .i64 0, .int .i64 0, .int .i64 0, .int .i64 0, .int .i64 0, .int .i64 0, .slice none 0 0, .int .i64 0, .int .i64 0, .int .i64 0, .int .i64 0] 25 := Blk.new u0 [.int .i64 0, .int .i64 0, .int .i64 0, .int .i64 0, .int .i64 0, .int .i64 0, .slice none 0 0, .int .i64 0, .int .i64 0, .int .i64 0, .int .i64 0] 25
                have hal := belAlloc (Below.refl u0.heap.size u0) (.cells #[.int .i64 0, .int .i64 0, .int .i64 0, .int .i64 0, .int .i64 0, .int .i64 0, .slice none 0 0, .int .i64 0, .int .i64 0, .int .i64 0, .int .i64 0] 25)
                clear hal
                generalize u0.alloc (.cells #[.int .i64 0, .int .i64 0, .int .i64 0, .int .i64 0, .int .i64 0, .int .i64 0, .slice none 0 0, .int .i64 0, .int .i64 0, .int .i64 0, .int .i64 0] 25) = u15 at *
                generalize u0.heap.size = g8 at *
                refine wpAnyH_ready (rs := [9]) (by kernel_rfl) (by simp) ?_
                refine AllReadyH.cons (o := ?o1_r35) ?hi_r35 (fun K hK => ?rest_r35) AllReadyH.nil
                case hi_r35 => ((simp only [List.getElem?_toArray, List.getElem?_cons_succ, List.getElem?_cons_zero]); rfl)
                obtain ⟨c9, W9, hrun9, hi9, hb9, -, -⟩ := conv_row X u15 (by first | assumption | omega)
                go_simp
                have hu9 := belStep hHeld hb9
                refine hK.out _ _ (by exact hu9) (fun hHeld => ?_)
                clear hK K hrun9 hu9
                try simp only [Act.put, List.setIfInBounds_toArray, List.set_cons_zero, List.set_cons_succ]
                replace hB8 := hB8.later hb9
                clear hb9
                refine wpAnyH_ready (rs := [10]) (by kernel_rfl) (by simp) ?_
                refine AllReadyH.cons (o := ?o1_r34) ?hi_r34 (fun K hK => ?rest_r34) AllReadyH.nil
                case hi_r34 => ((simp only [List.getElem?_toArray, List.getElem?_cons_succ, List.getElem?_cons_zero]); rfl)
                go_simp
                (go_at_call 16; (with_reducible refine (readC_ok _ _ _ X c _ (HEW.out _ hHeld) hi9 HX.out).mono ?_); rintro e wq ⟨⟨dtC, dcC, rfl, hoC0, _⟩, hbq⟩)
                try go_simp
                have huq := belStep hHeld hbq
                have hoC := OwnR.mono hoC0 (Below.size hHeld)
                clear hoC0
                refine hK.out _ _ (by exact huq) (fun hHeld => ?_)
                clear hK K hi9 huq
                try simp only [Act.put, List.setIfInBounds_toArray, List.set_cons_zero, List.set_cons_succ]
                replace hB8 := hB8.later hbq
                clear hbq
                refine wpAnyH_take (i := 11) (oi := ?oi_k27) (v := ?v_k27) ?hi_k27 (by kernel_rfl) ?hf_k27 ?hr_k27 ?hQ_k27 (Or.inl ⟨?hw_k27, ?hy_k27⟩) (by assumption) ?rest_k27
                case hi_k27 => ((simp only [List.getElem?_toArray, List.getElem?_cons_succ, List.getElem?_cons_zero]); rfl)
                case hf_k27 => kernel_rfl
                case hr_k27 => kernel_rfl
                case hQ_k27 => exact fun _ _ _ h => h
                case hw_k27 => rfl
                case hy_k27 => ((intro w hSw; (try dsimp only at hSw); go_simp); all_goals (with_reducible rfl))
                try simp only [Act.put, List.setIfInBounds_toArray, List.set_cons_zero, List.set_cons_succ]
                refine wpAnyH_take (i := 12) (oi := ?oi_k28) (v := ?v_k28) ?hi_k28 (by kernel_rfl) ?hf_k28 ?hr_k28 ?hQ_k28 (Or.inl ⟨?hw_k28, ?hy_k28⟩) (by assumption) ?rest_k28
                case hi_k28 => ((simp only [List.getElem?_toArray, List.getElem?_cons_succ, List.getElem?_cons_zero]); rfl)
                case hf_k28 => kernel_rfl
                case hr_k28 => kernel_rfl
                case hQ_k28 => exact fun _ _ _ h => h
                case hw_k28 => rfl
                case hy_k28 => ((intro w hSw; (try dsimp only at hSw); go_simp); all_goals (with_reducible rfl))
                try simp only [Act.put, List.setIfInBounds_toArray, List.set_cons_zero, List.set_cons_succ]
                refine wpAnyH_take (i := 13) (oi := ?oi_k29) (v := ?v_k29) ?hi_k29 (by kernel_rfl) ?hf_k29 ?hr_k29 ?hQ_k29 (Or.inl ⟨?hw_k29, ?hy_k29⟩) (by assumption) ?rest_k29
                case hi_k29 => ((simp only [List.getElem?_toArray, List.getElem?_cons_succ, List.getElem?_cons_zero]); rfl)
                case hf_k29 => kernel_rfl
                case hr_k29 => kernel_rfl
                case hQ_k29 => exact fun _ _ _ h => h
                case hw_k29 => rfl
                case hy_k29 => ((intro w hSw; (try dsimp only at hSw); go_simp); all_goals (with_reducible rfl))
                try simp only [Act.put, List.setIfInBounds_toArray, List.set_cons_zero, List.set_cons_succ]
                refine wpAnyH_take (i := 14) (oi := ?oi_k30) (v := ?v_k30) ?hi_k30 (by kernel_rfl) ?hf_k30 ?hr_k30 ?hQ_k30 (Or.inl ⟨?hw_k30, ?hy_k30⟩) (by assumption) ?rest_k30
                case hi_k30 => ((simp only [List.getElem?_toArray, List.getElem?_cons_succ, List.getElem?_cons_zero]); rfl)
                case hf_k30 => kernel_rfl
                case hr_k30 => kernel_rfl
                case hQ_k30 => exact fun _ _ _ h => h
                case hw_k30 => rfl
                case hy_k30 => ((intro w hSw; (try dsimp only at hSw); go_simp); all_goals (with_reducible rfl))
                try simp only [Act.put, List.setIfInBounds_toArray, List.set_cons_zero, List.set_cons_succ]
                have y0 := hB8.cell (j := 0) rfl
                have y1 := hB8.cell (j := 1) rfl
                have y2 := hB8.cell (j := 2) rfl
                have y3 := hB8.cell (j := 3) rfl
                have y4 := hB8.cell (j := 4) rfl
                have y5 := hB8.cell (j := 5) rfl
                have y6 := hB8.cell (j := 6) rfl
                have y7 := hB8.cell (j := 7) rfl
                have y8 := hB8.cell (j := 8) rfl
                have y9 := hB8.cell (j := 9) rfl
                have y10 := hB8.cell (j := 10) rfl
                have yf := hB8.frozen
                have hb16 := (belSet (belSet (belSet (belSet (belSet (belSet (belSet (belSet (belSet (belSet (belSet hHeld ⟨g8, 0, none⟩ (.int .i64 c.k0) hg8) ⟨g8, 1, none⟩ (.int .i64 c.k1) hg8) ⟨g8, 2, none⟩ (.int .i64 c.k2) hg8) ⟨g8, 3, none⟩ (.int .i64 c.a0) hg8) ⟨g8, 4, none⟩ (.int .i64 c.a1) hg8) ⟨g8, 5, none⟩ (.int .i64 c.a2) hg8) ⟨g8, 6, none⟩ (.slice dtC c.T.length dcC) hg8) ⟨g8, 7, none⟩ (.int .i64 c.per) hg8) ⟨g8, 8, none⟩ (.int .i64 c.ret) hg8) ⟨g8, 9, none⟩ (.int .i64 c.age) hg8) ⟨g8, 10, none⟩ (.int .i64 c.dead) hg8)
                have hR16 : Blk (((((((((((wq.setCell ⟨g8, 0, none⟩ (.int .i64 c.k0)).setCell ⟨g8, 1, none⟩ (.int .i64 c.k1)).setCell ⟨g8, 2, none⟩ (.int .i64 c.k2)).setCell ⟨g8, 3, none⟩ (.int .i64 c.a0)).setCell ⟨g8, 4, none⟩ (.int .i64 c.a1)).setCell ⟨g8, 5, none⟩ (.int .i64 c.a2)).setCell ⟨g8, 6, none⟩ (.slice dtC c.T.length dcC)).setCell ⟨g8, 7, none⟩ (.int .i64 c.per)).setCell ⟨g8, 8, none⟩ (.int .i64 c.ret)).setCell ⟨g8, 9, none⟩ (.int .i64 c.age)).setCell ⟨g8, 10, none⟩ (.int .i64 c.dead)) g8 [.int .i64 c.k0, .int .i64 c.k1, .int .i64 c.k2, .int .i64 c.a0, .int .i64 c.a1, .int .i64 c.a2, .slice dtC c.T.length dcC, .int .i64 c.per, .int .i64 c.ret, .int .i64 c.age, .int .i64 c.dead] 25 := (((((((((((hB8.set 0 (.int .i64 c.k0)).set 1 (.int .i64 c.k1)).set 2 (.int .i64 c.k2)).set 3 (.int .i64 c.a0)).set 4 (.int .i64 c.a1)).set 5 (.int .i64 c.a2)).set 6 (.slice dtC c.T.length dcC)).set 7 (.int .i64 c.per)).set 8 (.int .i64 c.ret)).set 9 (.int .i64 c.age)).set 10 (.int .i64 c.dead))
                have hO16 := (own_far (own_far (own_far (own_far (own_far (own_far (own_far (own_far (own_far (own_far (own_far hoC hB8 (by decide) ⟨g8, 0, none⟩ rfl (.int .i64 c.k0)) (hB8.set 0 (.int .i64 c.k0)) (by decide) ⟨g8, 1, none⟩ rfl (.int .i64 c.k1)) ((hB8.set 0 (.int .i64 c.k0)).set 1 (.int .i64 c.k1)) (by decide) ⟨g8, 2, none⟩ rfl (.int .i64 c.k2)) (((hB8.set 0 (.int .i64 c.k0)).set 1 (.int .i64 c.k1)).set 2 (.int .i64 c.k2)) (by decide) ⟨g8, 3, none⟩ rfl (.int .i64 c.a0)) ((((hB8.set 0 (.int .i64 c.k0)).set 1 (.int .i64 c.k1)).set 2 (.int .i64 c.k2)).set 3 (.int .i64 c.a0)) (by decide) ⟨g8, 4, none⟩ rfl (.int .i64 c.a1)) (((((hB8.set 0 (.int .i64 c.k0)).set 1 (.int .i64 c.k1)).set 2 (.int .i64 c.k2)).set 3 (.int .i64 c.a0)).set 4 (.int .i64 c.a1)) (by decide) ⟨g8, 5, none⟩ rfl (.int .i64 c.a2)) ((((((hB8.set 0 (.int .i64 c.k0)).set 1 (.int .i64 c.k1)).set 2 (.int .i64 c.k2)).set 3 (.int .i64 c.a0)).set 4 (.int .i64 c.a1)).set 5 (.int .i64 c.a2)) (by decide) ⟨g8, 6, none⟩ rfl (.slice dtC c.T.length dcC)) (((((((hB8.set 0 (.int .i64 c.k0)).set 1 (.int .i64 c.k1)).set 2 (.int .i64 c.k2)).set 3 (.int .i64 c.a0)).set 4 (.int .i64 c.a1)).set 5 (.int .i64 c.a2)).set 6 (.slice dtC c.T.length dcC)) (by decide) ⟨g8, 7, none⟩ rfl (.int .i64 c.per)) ((((((((hB8.set 0 (.int .i64 c.k0)).set 1 (.int .i64 c.k1)).set 2 (.int .i64 c.k2)).set 3 (.int .i64 c.a0)).set 4 (.int .i64 c.a1)).set 5 (.int .i64 c.a2)).set 6 (.slice dtC c.T.length dcC)).set 7 (.int .i64 c.per)) (by decide) ⟨g8, 8, none⟩ rfl (.int .i64 c.ret)) (((((((((hB8.set 0 (.int .i64 c.k0)).set 1 (.int .i64 c.k1)).set 2 (.int .i64 c.k2)).set 3 (.int .i64 c.a0)).set 4 (.int .i64 c.a1)).set 5 (.int .i64 c.a2)).set 6 (.slice dtC c.T.length dcC)).set 7 (.int .i64 c.per)).set 8 (.int .i64 c.ret)) (by decide) ⟨g8, 9, none⟩ rfl (.int .i64 c.age)) ((((((((((hB8.set 0 (.int .i64 c.k0)).set 1 (.int .i64 c.k1)).set 2 (.int .i64 c.k2)).set 3 (.int .i64 c.a0)).set 4 (.int .i64 c.a1)).set 5 (.int .i64 c.a2)).set 6 (.slice dtC c.T.length dcC)).set 7 (.int .i64 c.per)).set 8 (.int .i64 c.ret)).set 9 (.int .i64 c.age)) (by decide) ⟨g8, 10, none⟩ rfl (.int .i64 c.dead))
                refine wpAnyH_ready (rs := [16]) (by kernel_rfl) (by simp) ?_
                refine AllReadyH.cons (o := ?o1_k31) ?hi_k31 (fun K hK => ?rest_k31) AllReadyH.nil
                case hi_k31 => ((simp only [List.getElem?_toArray, List.getElem?_cons_succ, List.getElem?_cons_zero]); rfl)
                go_simp
                refine hK.out _ _ (by exact hb16) (fun hHeld => ?_)
                clear hK K
                try simp only [Act.put, List.setIfInBounds_toArray, List.set_cons_zero, List.set_cons_succ]
                refine wpAnyH_take (i := 17) (oi := ?oi_k32) (v := ?v_k32) ?hi_k32 (by kernel_rfl) ?hf_k32 ?hr_k32 ?hQ_k32 (Or.inl ⟨?hw_k32, ?hy_k32⟩) (by assumption) ?rest_k32
                case hi_k32 => ((simp only [List.getElem?_toArray, List.getElem?_cons_succ, List.getElem?_cons_zero]); rfl)
                case hf_k32 => kernel_rfl
                case hr_k32 => kernel_rfl
                case hQ_k32 => exact fun _ _ _ h => h
                case hw_k32 => rfl
                case hy_k32 => ((intro w hSw; (try dsimp only at hSw); go_simp); all_goals (with_reducible rfl))
                try simp only [Act.put, List.setIfInBounds_toArray, List.set_cons_zero, List.set_cons_succ]
                refine wpAnyH_take (i := 18) (oi := ?oi_k33) (v := ?v_k33) ?hi_k33 (by kernel_rfl) ?hf_k33 ?hr_k33 ?hQ_k33 (Or.inl ⟨?hw_k33, ?hy_k33⟩) (by assumption) ?rest_k33
                case hi_k33 => ((simp only [List.getElem?_toArray, List.getElem?_cons_succ, List.getElem?_cons_zero]); rfl)
                case hf_k33 => kernel_rfl
                case hr_k33 => kernel_rfl
                case hQ_k33 => exact fun _ _ _ h => h
                case hw_k33 => rfl
                case hy_k33 => ((intro w hSw; (try dsimp only at hSw); go_simp); all_goals (with_reducible rfl))
                try simp only [Act.put, List.setIfInBounds_toArray, List.set_cons_zero, List.set_cons_succ]
                refine wpAnyH_done (by kernel_rfl) ?_ _
                clear hHeld hB8 yf y0 y1 y2 y3 y4 y5 y6 y7 y8 y9 y10 hoC
                generalize ((((((((((wq.setCell ⟨g8, 0, none⟩ (.int .i64 c.k0)).setCell ⟨g8, 1, none⟩ (.int .i64 c.k1)).setCell ⟨g8, 2, none⟩ (.int .i64 c.k2)).setCell ⟨g8, 3, none⟩ (.int .i64 c.a0)).setCell ⟨g8, 4, none⟩ (.int .i64 c.a1)).setCell ⟨g8, 5, none⟩ (.int .i64 c.a2)).setCell ⟨g8, 6, none⟩ (.slice dtC c.T.length dcC)).setCell ⟨g8, 7, none⟩ (.int .i64 c.per)).setCell ⟨g8, 8, none⟩ (.int .i64 c.ret)).setCell ⟨g8, 9, none⟩ (.int .i64 c.age)).setCell ⟨g8, 10, none⟩ (.int .i64 c.dead) = W4 at *
                try clear hbel
                have hbel := hb16
                have HBxx := Lib.hid hR16
                have HOxx := Lib.hid hO16
                clear hO16
                clear hb16 hR16
                have hn3 : N + 1 < 3 := by omega
                have xx0 := HBxx.out.cell (j := 0) rfl
                have xx1 := HBxx.out.cell (j := 1) rfl
                have xx2 := HBxx.out.cell (j := 2) rfl
                have xx3 := HBxx.out.cell (j := 3) rfl
                have xx4 := HBxx.out.cell (j := 4) rfl
                have xx5 := HBxx.out.cell (j := 5) rfl
                have xx6 := HBxx.out.cell (j := 6) rfl
                have xx7 := HBxx.out.cell (j := 7) rfl
                have xx8 := HBxx.out.cell (j := 8) rfl
                have xx9 := HBxx.out.cell (j := 9) rfl
                have xx10 := HBxx.out.cell (j := 10) rfl
                have HXC := Lib.hid (cfa_own HC3.out.ok rfl HOxx.out)
                have CX := Lib.hid (rf_Same7 c c dtC ta dcC tc W4 HXC.out (HC3.out.later hbel))
                rw [sameM_refl] at CX
                go_wp2_with ((go_at_call 14; (with_reducible refine (CX.out).mono ?_); rintro e w1 ⟨rfl, hb1⟩; replace hbel := belStep hbel hb1; clear hb1))
                go_roundg gq
                case rel => exact ⟨i + 1, by omega, by rw [hcn], by push_cast; rfl, hbel⟩
                case measure => omega
            · have t10 : ((S[i].toNat : Int) == 10) = false := by rw [beq_eq_false_iff_ne]; exact u8_ne h10
              have hcn := cntT_miss HT.out hil h10 hiq
              clear h10
              go_wp2
              go_roundg gq
              case rel => exact ⟨i + 1, by omega, by rw [hcn], by push_cast; rfl, hbel⟩
              case measure => omega
          · have hd2 : decide (cntT p q i < (mt : Int)) = false := decide_eq_false hlt2
            go_wp2
            go_ret
            exact ⟨rfl, belStep HW.out (belStep HW3.out hbel)⟩
theorem env_of {W : World} (h : laidMet Tryd.prog Rows.confBackRow.laid W) (hs : W.ShapedOpen Tryd.prog) : Env W := env_of7 h hs

set_option maxRecDepth 100000 in
set_option maxRecDepth 100000 in
theorem lifted (os : Os) (started : os.Started) (H : Type) (enc : TypeId × Value → H) :
    ReturnsInHanded {} Tryd.checked os 4 .any (fun w args => (Rows.confBackSpec.pre enc Tryd.prog Tryd.f4 [] false w args ∧ laidMetH Tryd.prog Rows.confBackRow.laid w) ∧ sizedMet enc Tryd.prog Tryd.f4 (OpenSpec.ofChange Rows.confBackSpec) false w args) (Rows.confBackSpec.post enc Tryd.prog Tryd.f4 false true false false) := by
  refine returnsInHanded_of_change_and_shaped (C := Tryd.checked) (X := fun w _ => laidMetH Tryd.prog Rows.confBackRow.laid w) (fun _ _ _ hh h => h.of_heap hh) own started (by kernel_rfl) Tryd.func4
    (ChangeSpec.witness_shaped (enc := enc) (C := Tryd.checked) (os := os) (X := fun w _ => laidMetH Tryd.prog Rows.confBackRow.laid w) false (World.laidAll Tryd.prog os Rows.confBackRow.laid) #[.agg #[.int .i64 0, .int .i64 0, .int .i64 0, .int .i64 0, .int .i64 0, .int .i64 0, .slice none 0 0, .int .i64 0, .int .i64 0, .int .i64 0, .int .i64 0], .int .u8 0] 8 (World.laidAll_os _ _ _) (World.shaped_of_ZipB (by kernel_rfl) (by kernel_rfl)) (by kernel_rfl) (by kernel_rfl) (by kernel_rfl) (by rw [MakeChecks.laidMetH_plain _ _ _ (by kernel_rfl)]; exact laidMet_laidAll _ (by kernel_rfl) (by kernel_rfl))) ?_
  intro W base args ds gs before hval0 hW hL hsh
  rw [MakeChecks.laidMetH_plain _ _ _ (by kernel_rfl)] at hL
  have ht : Env W := env_of hL hsh
  clear hL
  have hval : ∀ (j : Nat) t v, Tryd.f4.params[j]? = some t → args[j]? = some v → Value.okWide Tryd.prog W .any base t v := hval0
  have hW' := hW
  obtain ⟨p, q, hA0, hV, rfl, hfz, hnd⟩ := hW
  have hA : DataW.TrodAll enc Tryd.prog W 0 (fun _ => true) true Tryd.f4.params.toList args.toList ds p := hA0
  rw [Tryd.params4] at hA hval
  obtain ⟨v0, vs0, d0, ds0, p0, q0, hargs, rfl, rfl, h0, r0⟩ := trodAll_cons hA
  obtain ⟨v1, vs1, d1, ds1, p1, q1, rfl, rfl, rfl, h1, r1⟩ := trodAll_cons r0
  obtain ⟨rfl, rfl, rfl⟩ := trodAll_nil r1
  obtain rfl : args = #[v0, v1] := by cases args; simp_all
  obtain ⟨rfl, rfl⟩ := trodVars_none hV
  have k0 := h0
  have lt0 : ∀ x ∈ p0, x.block < W.heap.size := by obtain ⟨m, hm⟩ := k0; exact DataW.trod_lt m _ _ _ hm
  have o0 : Value.okWide Tryd.prog W .any base 25 v0 := hval 0 25 v0 rfl rfl
  obtain ⟨c0, ta0, tc0, rfl, hc0⟩ := open_cfg o0 h0
  have k1 := h1
  have lt1 : ∀ x ∈ p1, x.block < W.heap.size := by obtain ⟨m, hm⟩ := k1; exact DataW.trod_lt m _ _ _ hm
  have o1 : Value.okWide Tryd.prog W .any base 5 v1 := hval 1 5 v1 rfl rfl
  obtain ⟨a1, rfl, rfl, rfl, w1⟩ := open_int Tryd.underlying5 o1 h1
  clear hA0 hval0
  refine (walk c0 ta0 tc0 a1 W ht hc0 (in8_of_wf w1)).mono fun e W' ⟨he, bel⟩ => ?_
  subst he
  exact ⟨_, rfl, _, _, _, [], _, [], hW', trodAll_mk1 (shut_bool Tryd.underlying4 _), (trodAll_cons_mk (Below.trod laidOut (by kernel_rfl) (of_decide_eq_true (by kernel_rfl)) k0 bel lt0) (trodAll_cons_mk (Below.trod laidOut (by kernel_rfl) (of_decide_eq_true (by kernel_rfl)) k1 bel lt1) trodAll_mk0)), rfl, bel.frame _, fun h => by cases h⟩

theorem over : Rows.confBackRow.holds Tryd.pinned (OpenSpec.ofChange Rows.confBackSpec) :=
  OpenClaim.holds_of_wide 4 Tryd.f4 rfl rfl rfl rfl rfl rfl rfl ⟨rfl, rfl, rfl, rfl, rfl⟩ rfl rfl rfl rfl rfl (by kernel_rfl) Tryd.func4 (by kernel_rfl)
    (of_decide_eq_true (by kernel_rfl)) (by unfold Func.isWrapper; first | (rw [if_pos (by decide +kernel)]; kernel_rfl) | (rw [if_neg (by decide +kernel)]; exact ⟨rfl, rfl⟩))
    (fun os started H enc _ => lifted os started H enc)

/-- The statement. -/
theorem proved : Rows.ConfBackCardSaid :=
  Claim7.holds_tied_plain_at .later [] Rows.confBackCard.laidKinds true Rows.confBackCard.stood.harness true
    over (fun _ h => by cases h) (by kernel_rfl) (fun _ h => by cases h) confBack_row_tie rfl ⟨rfl, rfl⟩ (by kernel_rfl) rfl
    (fun f fn hf hfn => by
      obtain rfl : f = 4 := Option.some.inj ((show Tryd.prog.funcNamed Rows.confBackRow.func = some 4 by kernel_rfl).symm.trans hf) |>.symm
      obtain rfl : fn = Tryd.f4 := (Option.some.inj (Tryd.func4.symm.trans hfn)).symm
      exact ⟨by kernel_rfl, fun j t ht => by
        rw [Tryd.params4] at ht
        have hm : t ∈ [25, 5] := by simpa using Array.mem_of_getElem? ht
        have hall : ([25, 5].all fun u => !Tryd.prog.wantsStandIn u) = true := by kernel_rfl
        exact (show Tryd.prog.wantsStandIn t = false by simpa using List.all_eq_true.1 hall t hm)⟩)
    (by kernel_rfl)
#print axioms proved

end Go.Proofs.YtcaenbobfneejaaDoor.confBack
