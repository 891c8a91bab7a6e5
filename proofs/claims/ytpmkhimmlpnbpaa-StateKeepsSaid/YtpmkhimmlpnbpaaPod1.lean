
/- pod.Named, pod.Right: contracts. -/
import Derived.Test.YtpmkhimmlpnbpaaPodFew
namespace Go.Proofs.Ytpmkhimmlpnbpaa
open Go.RowKit
set_option linter.unusedVariables false
set_option linter.unusedSimpArgs false

theorem okc_cases2 (c : Int) :
    (okc c = true ∧ ((c != 45) = false ∨ ((c != 45) = true ∧ ¬ c < 97 ∧ ¬ 122 < c) ∨ ((c != 45) = true ∧ c < 97 ∧ ¬ c < 48 ∧ ¬ 57 < c))) ∨
    (okc c = false ∧ (((c != 45) = true ∧ c < 97 ∧ c < 48) ∨ ((c != 45) = true ∧ c < 97 ∧ ¬ c < 48 ∧ 57 < c) ∨ ((c != 45) = true ∧ ¬ c < 97 ∧ 122 < c ∧ ¬ c < 48 ∧ 57 < c))) := by
  unfold okc
  rcases Int.lt_or_le c 97 with a | a <;> rcases Int.lt_or_le 122 c with b | b <;> rcases Int.lt_or_le c 48 with d | d <;> rcases Int.lt_or_le 57 c with e | e <;> rcases Int.decEq c 45 with f | f <;> simp [f] <;> omega

set_option maxHeartbeats 2000000 in
theorem pod_Named (s : ByteArray) (w : World) (hs : s.size ≤ maxLen) :
    Calls Try.prog 51 #[.string s] w fun e w' => e = .returned (.bool (nameB s)) ∧ w = w' := by
  have hs' : (s.size : Int) ≤ 9223372036854775807 := by unfold maxLen at hs; omega
  go_enter Try.func51, Try.ntmps51
  go_wp2
  go_loopw [7] (fun i wr => ∃ k : Nat, k ≤ s.size ∧ i = .int .i64 k ∧ namedN s k = true ∧ w = wr) (fun i _ => s.size - (intOf i).toNat)
  case atStart => exact ⟨0, Nat.zero_le _, rfl, rfl, rfl⟩
  case round =>
    obtain ⟨k, hk, rfl, hn, rfl⟩ := hrel
    by_cases hlt : k < s.size
    · have hb : byteI s k = (s[k].toNat : Int) := by unfold byteI; rw [dif_pos hlt]
      have h0 : (0 : Int) ≤ (s[k].toNat : Int) := by omega
      have hnext : namedN s (k + 1) = (namedN s k && okc (byteI s k)) := rfl
      have hfalse := fun (h : okc (byteI s k) = false) => namedN_false s hlt h
      have key := okc_cases2 (byteI s k)
      rw [hn] at hnext
      rw [hb] at key hnext hfalse
      clear hb
      have HN := Lib.hid hnext
      have HF := Lib.hid hfalse
      clear hnext hfalse
      rcases key with ⟨e, m⟩ | ⟨e, m⟩
      · have HE := Lib.hid e
        clear e
        rcases m with m1 | ⟨m1, m2, m3⟩ | ⟨m1, m2, m3, m4⟩
        all_goals
          go_wp2
          go_roundw
          case rel => exact ⟨k + 1, by omega, by push_cast; rfl, by rw [HN.out, HE.out]; rfl, by first | rfl | trivial⟩
          case measure => simp [intOf] <;> omega
      · have HE := Lib.hid (HF.out e)
        clear e HF
        rcases m with ⟨m1, m2, m3⟩ | ⟨m1, m2, m3, m4⟩ | ⟨m1, m2, m3, m4, m5⟩
        all_goals
          go_wp2
          go_ret
          exact ⟨ret_bool (by unfold nameB; rw [HE.out]; rfl), by first | rfl | trivial⟩
    · obtain rfl : k = s.size := by omega
      have HN := Lib.hid hn
      clear hn
      have key : (1 ≤ s.size ∧ s.size ≤ 24) ∨ (1 ≤ s.size ∧ ¬ s.size ≤ 24) ∨ ¬ 1 ≤ s.size := by omega
      rcases key with ⟨m1, m2⟩ | ⟨m1, m2⟩ | m1
      all_goals
        go_wp2
        go_ret
        exact ⟨ret_bool (by unfold nameB; rw [HN.out]; simp [*] <;> omega), by first | rfl | trivial⟩

theorem okr_cases2 (r l : Int) :
    (okr r l = true ∧ ¬ r < 0 ∧ ¬ l < 0 ∧ ((l != 0) = false ∨ ((l != 0) = true ∧ ¬ l < r))) ∨
    (okr r l = false ∧ (r < 0 ∨ (¬ r < 0 ∧ l < 0) ∨ (¬ r < 0 ∧ ¬ l < 0 ∧ (l != 0) = true ∧ l < r))) := by
  unfold okr
  rcases Int.lt_or_le r 0 with a | a <;> rcases Int.lt_or_le l 0 with b | b <;> rcases Int.decEq l 0 with f | f <;> rcases Int.lt_or_le l r with g | g <;> simp [f] <;> omega

set_option maxRecDepth 100000 in
set_option maxHeartbeats 4000000 in
theorem pod_Right (p : PodV) (w : World) (hp : p.ok) :
    Calls Try.prog 34 #[.agg #[.string p.id, .int .i64 p.prio, .bool p.crit, .int .i64 p.r0, .int .i64 p.r1, .int .i64 p.r2, .int .i64 p.l0, .int .i64 p.l1, .int .i64 p.l2, .string p.img, .int .i64 p.size]] w fun e w' => e = .returned (.bool (rightB p)) ∧ Below w.heap.size w w' := by
  have hw : Below w.heap.size w w := Below.refl _ _
  have hbel := hw
  have cn1 := fun v => pod_Named p.id v hp.1
  have cn2 := fun v => pod_Named p.img v hp.2.1
  obtain ⟨b1, eb1⟩ : ∃ y, nameB p.id = y := ⟨_, rfl⟩
  obtain ⟨b2, eb2⟩ : ∃ y, nameB p.img = y := ⟨_, rfl⟩
  rw [eb1] at cn1
  rw [eb2] at cn2
  have hix0 : ∀ u : World, (Instr.index 42 (.agg #[.int .i64 p.r0, .int .i64 p.r1, .int .i64 p.r2]) (.int .i64 0)).run Try.prog u = .ok (.int .i64 p.r0) u := fun _ => by kernel_rfl
  have hix1 : ∀ u : World, (Instr.index 42 (.agg #[.int .i64 p.r0, .int .i64 p.r1, .int .i64 p.r2]) (.int .i64 1)).run Try.prog u = .ok (.int .i64 p.r1) u := fun _ => by kernel_rfl
  have hix2 : ∀ u : World, (Instr.index 42 (.agg #[.int .i64 p.r0, .int .i64 p.r1, .int .i64 p.r2]) (.int .i64 2)).run Try.prog u = .ok (.int .i64 p.r2) u := fun _ => by kernel_rfl
  go_enter Try.func34, Try.ntmps34
  go_upto_region 1 with fail
  have a0 : (w.alloc (.cells #[.string p.id, .int .i64 p.prio, .bool p.crit, .int .i64 p.r0, .int .i64 p.r1, .int .i64 p.r2, .int .i64 p.l0, .int .i64 p.l1, .int .i64 p.l2, .string p.img, .int .i64 p.size] 44)).cell? ⟨w.heap.size, 0, none⟩ = some (.string p.id) := by first | (simp; done) | (rw [World.cell?_alloc_at _ _ _ _ (by simp)]; rfl) | (rw [World.cell?_alloc_past _ _ _ (by simp <;> omega), World.cell?_alloc_at _ _ _ _ (by simp)]; rfl) | (rw [World.cell?_alloc_past _ _ _ (by simp <;> omega), World.cell?_alloc_past _ _ _ (by simp <;> omega), World.cell?_alloc_at _ _ _ _ (by simp)]; rfl)
  have a1 : (w.alloc (.cells #[.string p.id, .int .i64 p.prio, .bool p.crit, .int .i64 p.r0, .int .i64 p.r1, .int .i64 p.r2, .int .i64 p.l0, .int .i64 p.l1, .int .i64 p.l2, .string p.img, .int .i64 p.size] 44)).cell? ⟨w.heap.size, 1, none⟩ = some (.int .i64 p.prio) := by first | (simp; done) | (rw [World.cell?_alloc_at _ _ _ _ (by simp)]; rfl) | (rw [World.cell?_alloc_past _ _ _ (by simp <;> omega), World.cell?_alloc_at _ _ _ _ (by simp)]; rfl) | (rw [World.cell?_alloc_past _ _ _ (by simp <;> omega), World.cell?_alloc_past _ _ _ (by simp <;> omega), World.cell?_alloc_at _ _ _ _ (by simp)]; rfl)
  have a2 : (w.alloc (.cells #[.string p.id, .int .i64 p.prio, .bool p.crit, .int .i64 p.r0, .int .i64 p.r1, .int .i64 p.r2, .int .i64 p.l0, .int .i64 p.l1, .int .i64 p.l2, .string p.img, .int .i64 p.size] 44)).cell? ⟨w.heap.size, 2, none⟩ = some (.bool p.crit) := by first | (simp; done) | (rw [World.cell?_alloc_at _ _ _ _ (by simp)]; rfl) | (rw [World.cell?_alloc_past _ _ _ (by simp <;> omega), World.cell?_alloc_at _ _ _ _ (by simp)]; rfl) | (rw [World.cell?_alloc_past _ _ _ (by simp <;> omega), World.cell?_alloc_past _ _ _ (by simp <;> omega), World.cell?_alloc_at _ _ _ _ (by simp)]; rfl)
  have a3 : (w.alloc (.cells #[.string p.id, .int .i64 p.prio, .bool p.crit, .int .i64 p.r0, .int .i64 p.r1, .int .i64 p.r2, .int .i64 p.l0, .int .i64 p.l1, .int .i64 p.l2, .string p.img, .int .i64 p.size] 44)).cell? ⟨w.heap.size, 3, none⟩ = some (.int .i64 p.r0) := by first | (simp; done) | (rw [World.cell?_alloc_at _ _ _ _ (by simp)]; rfl) | (rw [World.cell?_alloc_past _ _ _ (by simp <;> omega), World.cell?_alloc_at _ _ _ _ (by simp)]; rfl) | (rw [World.cell?_alloc_past _ _ _ (by simp <;> omega), World.cell?_alloc_past _ _ _ (by simp <;> omega), World.cell?_alloc_at _ _ _ _ (by simp)]; rfl)
  have a4 : (w.alloc (.cells #[.string p.id, .int .i64 p.prio, .bool p.crit, .int .i64 p.r0, .int .i64 p.r1, .int .i64 p.r2, .int .i64 p.l0, .int .i64 p.l1, .int .i64 p.l2, .string p.img, .int .i64 p.size] 44)).cell? ⟨w.heap.size, 4, none⟩ = some (.int .i64 p.r1) := by first | (simp; done) | (rw [World.cell?_alloc_at _ _ _ _ (by simp)]; rfl) | (rw [World.cell?_alloc_past _ _ _ (by simp <;> omega), World.cell?_alloc_at _ _ _ _ (by simp)]; rfl) | (rw [World.cell?_alloc_past _ _ _ (by simp <;> omega), World.cell?_alloc_past _ _ _ (by simp <;> omega), World.cell?_alloc_at _ _ _ _ (by simp)]; rfl)
  have a5 : (w.alloc (.cells #[.string p.id, .int .i64 p.prio, .bool p.crit, .int .i64 p.r0, .int .i64 p.r1, .int .i64 p.r2, .int .i64 p.l0, .int .i64 p.l1, .int .i64 p.l2, .string p.img, .int .i64 p.size] 44)).cell? ⟨w.heap.size, 5, none⟩ = some (.int .i64 p.r2) := by first | (simp; done) | (rw [World.cell?_alloc_at _ _ _ _ (by simp)]; rfl) | (rw [World.cell?_alloc_past _ _ _ (by simp <;> omega), World.cell?_alloc_at _ _ _ _ (by simp)]; rfl) | (rw [World.cell?_alloc_past _ _ _ (by simp <;> omega), World.cell?_alloc_past _ _ _ (by simp <;> omega), World.cell?_alloc_at _ _ _ _ (by simp)]; rfl)
  have a6 : (w.alloc (.cells #[.string p.id, .int .i64 p.prio, .bool p.crit, .int .i64 p.r0, .int .i64 p.r1, .int .i64 p.r2, .int .i64 p.l0, .int .i64 p.l1, .int .i64 p.l2, .string p.img, .int .i64 p.size] 44)).cell? ⟨w.heap.size, 6, none⟩ = some (.int .i64 p.l0) := by first | (simp; done) | (rw [World.cell?_alloc_at _ _ _ _ (by simp)]; rfl) | (rw [World.cell?_alloc_past _ _ _ (by simp <;> omega), World.cell?_alloc_at _ _ _ _ (by simp)]; rfl) | (rw [World.cell?_alloc_past _ _ _ (by simp <;> omega), World.cell?_alloc_past _ _ _ (by simp <;> omega), World.cell?_alloc_at _ _ _ _ (by simp)]; rfl)
  have a7 : (w.alloc (.cells #[.string p.id, .int .i64 p.prio, .bool p.crit, .int .i64 p.r0, .int .i64 p.r1, .int .i64 p.r2, .int .i64 p.l0, .int .i64 p.l1, .int .i64 p.l2, .string p.img, .int .i64 p.size] 44)).cell? ⟨w.heap.size, 7, none⟩ = some (.int .i64 p.l1) := by first | (simp; done) | (rw [World.cell?_alloc_at _ _ _ _ (by simp)]; rfl) | (rw [World.cell?_alloc_past _ _ _ (by simp <;> omega), World.cell?_alloc_at _ _ _ _ (by simp)]; rfl) | (rw [World.cell?_alloc_past _ _ _ (by simp <;> omega), World.cell?_alloc_past _ _ _ (by simp <;> omega), World.cell?_alloc_at _ _ _ _ (by simp)]; rfl)
  have a8 : (w.alloc (.cells #[.string p.id, .int .i64 p.prio, .bool p.crit, .int .i64 p.r0, .int .i64 p.r1, .int .i64 p.r2, .int .i64 p.l0, .int .i64 p.l1, .int .i64 p.l2, .string p.img, .int .i64 p.size] 44)).cell? ⟨w.heap.size, 8, none⟩ = some (.int .i64 p.l2) := by first | (simp; done) | (rw [World.cell?_alloc_at _ _ _ _ (by simp)]; rfl) | (rw [World.cell?_alloc_past _ _ _ (by simp <;> omega), World.cell?_alloc_at _ _ _ _ (by simp)]; rfl) | (rw [World.cell?_alloc_past _ _ _ (by simp <;> omega), World.cell?_alloc_past _ _ _ (by simp <;> omega), World.cell?_alloc_at _ _ _ _ (by simp)]; rfl)
  have a9 : (w.alloc (.cells #[.string p.id, .int .i64 p.prio, .bool p.crit, .int .i64 p.r0, .int .i64 p.r1, .int .i64 p.r2, .int .i64 p.l0, .int .i64 p.l1, .int .i64 p.l2, .string p.img, .int .i64 p.size] 44)).cell? ⟨w.heap.size, 9, none⟩ = some (.string p.img) := by first | (simp; done) | (rw [World.cell?_alloc_at _ _ _ _ (by simp)]; rfl) | (rw [World.cell?_alloc_past _ _ _ (by simp <;> omega), World.cell?_alloc_at _ _ _ _ (by simp)]; rfl) | (rw [World.cell?_alloc_past _ _ _ (by simp <;> omega), World.cell?_alloc_past _ _ _ (by simp <;> omega), World.cell?_alloc_at _ _ _ _ (by simp)]; rfl)
  have a10 : (w.alloc (.cells #[.string p.id, .int .i64 p.prio, .bool p.crit, .int .i64 p.r0, .int .i64 p.r1, .int .i64 p.r2, .int .i64 p.l0, .int .i64 p.l1, .int .i64 p.l2, .string p.img, .int .i64 p.size] 44)).cell? ⟨w.heap.size, 10, none⟩ = some (.int .i64 p.size) := by first | (simp; done) | (rw [World.cell?_alloc_at _ _ _ _ (by simp)]; rfl) | (rw [World.cell?_alloc_past _ _ _ (by simp <;> omega), World.cell?_alloc_at _ _ _ _ (by simp)]; rfl) | (rw [World.cell?_alloc_past _ _ _ (by simp <;> omega), World.cell?_alloc_past _ _ _ (by simp <;> omega), World.cell?_alloc_at _ _ _ _ (by simp)]; rfl)
  have hb2 := (by repeat (first | exact hbel | refine belAlloc ?_ _ | refine belDrew ?_ | refine belSet ?_ _ _ (by simp)) : Below w.heap.size w (w.alloc (.cells #[.string p.id, .int .i64 p.prio, .bool p.crit, .int .i64 p.r0, .int .i64 p.r1, .int .i64 p.r2, .int .i64 p.l0, .int .i64 p.l1, .int .i64 p.l2, .string p.img, .int .i64 p.size] 44)))
  replace hw := belStep hw hb2
  clear hb2 hbel
  generalize w.alloc (.cells #[.string p.id, .int .i64 p.prio, .bool p.crit, .int .i64 p.r0, .int .i64 p.r1, .int .i64 p.r2, .int .i64 p.l0, .int .i64 p.l1, .int .i64 p.l2, .string p.img, .int .i64 p.size] 44) = W1 at *
  replace a0 := keep a0
  replace a1 := keep a1
  replace a2 := keep a2
  replace a3 := keep a3
  replace a4 := keep a4
  replace a5 := keep a5
  replace a6 := keep a6
  replace a7 := keep a7
  replace a8 := keep a8
  replace a9 := keep a9
  replace a10 := keep a10
  have hbel : Below W1.heap.size W1 W1 := Below.refl _ _
  skip
  go_wp2
  go_loopw [8] (fun i wr => ((i = .int .i64 0 ∧ okrN p 0 = true) ∨ (i = .int .i64 1 ∧ okrN p 1 = true) ∨ (i = .int .i64 2 ∧ okrN p 2 = true) ∨ (i = .int .i64 3 ∧ okrN p 3 = true)) ∧ W1 = wr) (fun i _ => 3 - (intOf i).toNat)
  case atStart => exact ⟨.inl ⟨rfl, rfl⟩, rfl⟩
  case round =>
    obtain ⟨hr4, rfl⟩ := hrel
    have step : ∀ (r l : Int) (k : Nat), okrN p k = true → okrN p (k + 1) = (okrN p k && okr r l) → okr r l = true → okrN p (k + 1) = true := fun r l k h1 h2 h3 => by rw [h2, h1, h3]; rfl
    rcases hr4 with ⟨rfl, hn⟩ | ⟨rfl, hn⟩ | ⟨rfl, hn⟩ | ⟨rfl, hn⟩
    · have HF := Lib.hid (show okr p.r0 p.l0 = false → rightB p = false from fun h => by unfold rightB; rw [h]; rfl)
      have HT := Lib.hid (show okr p.r0 p.l0 = true → okrN p 1 = true from fun h => h)
      clear hn step
      rcases okr_cases2 p.r0 p.l0 with ⟨e, k1, k2, k3⟩ | ⟨e, k3⟩
      · have HE := Lib.hid (HT.out e)
        clear e HF HT
        rcases k3 with k3 | ⟨k3, k4⟩
        all_goals
          go_wp2
          go_roundw
          case rel => exact ⟨.inr (.inl ⟨rfl, HE.out⟩), by first | rfl | trivial⟩
          case measure => simp [intOf]
      · have HE := Lib.hid (HF.out e)
        clear e HF HT
        rcases k3 with k1 | ⟨k1, k2⟩ | ⟨k1, k2, k3, k4⟩
        all_goals
          go_wp2
          go_ret
          exact ⟨ret_bool HE.out.symm, hw⟩
    · have HF := Lib.hid (show okr p.r1 p.l1 = false → rightB p = false from fun h => by unfold rightB; rw [h]; simp)
      have HT := Lib.hid (show okr p.r1 p.l1 = true → okrN p 2 = true from fun h => step _ _ 1 hn rfl h)
      clear hn step
      rcases okr_cases2 p.r1 p.l1 with ⟨e, k1, k2, k3⟩ | ⟨e, k3⟩
      · have HE := Lib.hid (HT.out e)
        clear e HF HT
        rcases k3 with k3 | ⟨k3, k4⟩
        all_goals
          go_wp2
          go_roundw
          case rel => exact ⟨.inr (.inr (.inl ⟨rfl, HE.out⟩)), by first | rfl | trivial⟩
          case measure => simp [intOf]
      · have HE := Lib.hid (HF.out e)
        clear e HF HT
        rcases k3 with k1 | ⟨k1, k2⟩ | ⟨k1, k2, k3, k4⟩
        all_goals
          go_wp2
          go_ret
          exact ⟨ret_bool HE.out.symm, hw⟩
    · have HF := Lib.hid (show okr p.r2 p.l2 = false → rightB p = false from fun h => by unfold rightB; rw [h]; simp)
      have HT := Lib.hid (show okr p.r2 p.l2 = true → okrN p 3 = true from fun h => step _ _ 2 hn rfl h)
      clear hn step
      rcases okr_cases2 p.r2 p.l2 with ⟨e, k1, k2, k3⟩ | ⟨e, k3⟩
      · have HE := Lib.hid (HT.out e)
        clear e HF HT
        rcases k3 with k3 | ⟨k3, k4⟩
        all_goals
          go_wp2
          go_roundw
          case rel => exact ⟨.inr (.inr (.inr ⟨rfl, HE.out⟩)), by first | rfl | trivial⟩
          case measure => simp [intOf]
      · have HE := Lib.hid (HF.out e)
        clear e HF HT
        rcases k3 with k1 | ⟨k1, k2⟩ | ⟨k1, k2, k3, k4⟩
        all_goals
          go_wp2
          go_ret
          exact ⟨ret_bool HE.out.symm, hw⟩
    · have hr : rightB p = (b1 && b2 && decide (-1073741824 ≤ p.prio) && decide (p.prio ≤ 1073741824) && decide (0 ≤ p.size)) := by
        have : okrN p 3 = (okr p.r0 p.l0 && okr p.r1 p.l1 && okr p.r2 p.l2) := rfl
        unfold rightB
        rw [← this, hn, eb1, eb2]
        simp
      have C1 := Lib.hid cn1
      have C2 := Lib.hid cn2
      have HR := Lib.hid hr
      clear cn1 cn2 hr hn step
      have key : b1 = false ∨ (b1 = true ∧ b2 = false) ∨ (b1 = true ∧ b2 = true ∧ ¬ -1073741824 ≤ p.prio) ∨ (b1 = true ∧ b2 = true ∧ -1073741824 ≤ p.prio ∧ ¬ p.prio ≤ 1073741824) ∨ (b1 = true ∧ b2 = true ∧ -1073741824 ≤ p.prio ∧ p.prio ≤ 1073741824) := by
        cases b1 <;> cases b2 <;> simp <;> omega
      rcases key with rfl | ⟨rfl, rfl⟩ | ⟨rfl, rfl, k1⟩ | ⟨rfl, rfl, k1, k2⟩ | ⟨rfl, rfl, k1, k2⟩
      all_goals
        go_wp2_with (first | (go_at_call 51; (with_reducible refine (C1.out _).mono ?_); rintro e w' ⟨rfl, rfl⟩) | (go_at_call 51; (with_reducible refine (C2.out _).mono ?_); rintro e w' ⟨rfl, rfl⟩))
        go_ret
        exact ⟨ret_bool (by rw [HR.out]; simp [*] <;> (intros; omega)), hw⟩
end Go.Proofs.Ytpmkhimmlpnbpaa
