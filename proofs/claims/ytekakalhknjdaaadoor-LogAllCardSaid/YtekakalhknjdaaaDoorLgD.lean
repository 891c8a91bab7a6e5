
/- Stage 27: the reference: Line: contract. -/
import Derived.Test.YtekakalhknjdaaaDoorLgC
import Derived.Test.YtekakalhknjdaaaDoorLg6
namespace Go.Proofs.YtekakalhknjdaaaDoor
open Go.RowKit
open Go.Lib (decDigits)
set_option linter.unusedVariables false
set_option linter.unusedSimpArgs false
theorem line_noR {r : Int} {e : EvV} (h : ¬ (0 ≤ r ∧ r ≤ 1099511627776)) : lineE r e = none := by unfold lineE; rw [if_neg h]
theorem line_noK {r : Int} {e : EvV} (h : ¬ (1 ≤ e.kind ∧ e.kind ≤ 16)) : lineE r e = none := by unfold lineE fieldsE; rw [if_neg h]; simp
theorem line_noT {r : Int} {e : EvV} (h : tailE e = none) : lineE r e = none := by unfold lineE fieldsE; rw [h]; simp
theorem line_yesT {r : Int} {e : EvV} {l : List (List UInt8)} (hr : 0 ≤ r ∧ r ≤ 1099511627776) (hk : 1 ≤ e.kind ∧ e.kind ≤ 16) (h : tailE e = some l) : lineE r e = some (joinW 32 (decDigits r.toNat :: kwE e.kind.toNat :: l)) := by unfold lineE fieldsE; rw [if_pos hr, if_pos hk, h]; rfl
theorem word_len {l : List UInt8} (h : wordB l = true) : l.length ≤ 60 := by
  unfold wordB at h
  simp only [Bool.and_eq_true, decide_eq_true_eq] at h
  exact h.2.2.1
theorem wB_sg {i : Int} (h : 0 ≤ i ∧ i ≤ 2) : wB i = bA (sgE i.toNat) := by
  rcases (show i = 0 ∨ i = 1 ∨ i = 2 by omega) with rfl | rfl | rfl <;> rfl
theorem sgE_size (k : Nat) : (sgE k).length ≤ 6 := by unfold sgE; split <;> simp
theorem kwI_good {k : Int} (h : 1 ≤ k ∧ k ≤ 16) : kwI k = kwE k.toNat := by unfold kwI; rw [if_pos (by omega)]
theorem kwI_bad {k : Int} (h : ¬ (1 ≤ k ∧ k ≤ 16)) : kwI k = [] := by
  unfold kwI
  split
  · rename_i q
    obtain rfl : k = 0 := by omega
    rfl
  · rfl
set_option maxRecDepth 100000 in
set_option maxHeartbeats 64000000 in
theorem rf_Line27 (k sg n r : Int) (id : ByteArray) (w : World) (hs : id.size ≤ maxLen) (hr : InI r) (hn : InI n) :
    Calls Tryd.prog 12 #[.int .i64 r, .agg #[.int .i64 k, .string id, .int .i64 sg, .int .i64 n]] w fun e w' => RlnP r ⟨k, id, sg, n⟩ e ∧ Below w.heap.size w w' := by
  have hw : Below w.heap.size w w := Below.refl _ _
  have hbel := hw
  have HS := Lib.hid hs
  have CW := Lib.hid (fun u => rf_Word27 k u)
  have CN := Lib.hid (fun u => rf_Word26 id u HS.out)
  have HNI := Lib.hid hn
  clear hs hr hn
  by_cases hk : 1 ≤ k ∧ k ≤ 16
  · rw [kwI_good hk] at CW
    obtain ⟨tk, htk⟩ : ∃ x, bA (kwE k.toNat) = x := ⟨_, rfl⟩
    rw [htk] at CW
    have HTK := Lib.hid (show tk.data.toList = kwE k.toNat from by rw [← htk, bA_data])
    have htl : tk.size ≤ 10 := by rw [← htk, bA_size]; exact kwE_size _
    have tke : tk.toList ≠ [] := by rw [← htk, bA_toL]; exact kwE_ne _ (by omega) (by omega)
    have tk1 : tk.toList.isEmpty = false := by cases h : tk.toList with | nil => exact absurd h tke | cons a l => rfl
    have tk2 : (tk.toList == []) = false := beq_eq_false_iff_ne.2 tke
    clear htk tke
    by_cases h1 : r < 0
    · have t1 : decide (r < 0) = true := decide_eq_true h1
      have HNO := Lib.hid (line_noR (r := r) (e := ⟨k, id, sg, n⟩) (by omega))
      clear hk
      go_enter Tryd.func12, Tryd.ntmps12
      go_upto_region 1 with fail
      have ee0 : (w.alloc (.cells #[.int .i64 k, .string id, .int .i64 sg, .int .i64 n] 23)).cell? ⟨w.heap.size, 0, none⟩ = some (.int .i64 k) := by first | (simp; done) | (rw [World.cell?_alloc_at _ _ _ _ (by simp)]; rfl) | (rw [World.cell?_alloc_past _ _ _ (by simp <;> omega), World.cell?_alloc_at _ _ _ _ (by simp)]; rfl) | (rw [World.cell?_alloc_past _ _ _ (by simp <;> omega), World.cell?_alloc_past _ _ _ (by simp <;> omega), World.cell?_alloc_at _ _ _ _ (by simp)]; rfl)
      have ee1 : (w.alloc (.cells #[.int .i64 k, .string id, .int .i64 sg, .int .i64 n] 23)).cell? ⟨w.heap.size, 1, none⟩ = some (.string id) := by first | (simp; done) | (rw [World.cell?_alloc_at _ _ _ _ (by simp)]; rfl) | (rw [World.cell?_alloc_past _ _ _ (by simp <;> omega), World.cell?_alloc_at _ _ _ _ (by simp)]; rfl) | (rw [World.cell?_alloc_past _ _ _ (by simp <;> omega), World.cell?_alloc_past _ _ _ (by simp <;> omega), World.cell?_alloc_at _ _ _ _ (by simp)]; rfl)
      have ee2 : (w.alloc (.cells #[.int .i64 k, .string id, .int .i64 sg, .int .i64 n] 23)).cell? ⟨w.heap.size, 2, none⟩ = some (.int .i64 sg) := by first | (simp; done) | (rw [World.cell?_alloc_at _ _ _ _ (by simp)]; rfl) | (rw [World.cell?_alloc_past _ _ _ (by simp <;> omega), World.cell?_alloc_at _ _ _ _ (by simp)]; rfl) | (rw [World.cell?_alloc_past _ _ _ (by simp <;> omega), World.cell?_alloc_past _ _ _ (by simp <;> omega), World.cell?_alloc_at _ _ _ _ (by simp)]; rfl)
      have ee3 : (w.alloc (.cells #[.int .i64 k, .string id, .int .i64 sg, .int .i64 n] 23)).cell? ⟨w.heap.size, 3, none⟩ = some (.int .i64 n) := by first | (simp; done) | (rw [World.cell?_alloc_at _ _ _ _ (by simp)]; rfl) | (rw [World.cell?_alloc_past _ _ _ (by simp <;> omega), World.cell?_alloc_at _ _ _ _ (by simp)]; rfl) | (rw [World.cell?_alloc_past _ _ _ (by simp <;> omega), World.cell?_alloc_past _ _ _ (by simp <;> omega), World.cell?_alloc_at _ _ _ _ (by simp)]; rfl)
      have hb2 := (by repeat (first | exact hbel | refine belAlloc ?_ _ | refine belDrew ?_ | refine belSet ?_ _ _ (by simp)) : Below w.heap.size w (w.alloc (.cells #[.int .i64 k, .string id, .int .i64 sg, .int .i64 n] 23)))
      replace hw := belStep hw hb2
      have eeB : Blk (w.alloc (.cells #[.int .i64 k, .string id, .int .i64 sg, .int .i64 n] 23)) (w.heap.size) [.int .i64 k, .string id, .int .i64 sg, .int .i64 n] 23 := (Blk.at (by simp) : Blk (w.alloc (.cells #[.int .i64 k, .string id, .int .i64 sg, .int .i64 n] 23)) (w.heap.size) [.int .i64 k, .string id, .int .i64 sg, .int .i64 n] 23).later (by repeat (first | exact Below.refl _ _ | refine belAlloc ?_ _))
      have eeF := Blk.keepF eeB
      replace eeB := Blk.keepB eeB
      clear hb2 hbel
      generalize w.alloc (.cells #[.int .i64 k, .string id, .int .i64 sg, .int .i64 n] 23) = W1 at *
      replace ee0 := keep ee0
      replace ee1 := keep ee1
      replace ee2 := keep ee2
      replace ee3 := keep ee3
      have hbel : Below W1.heap.size W1 W1 := Below.refl _ _
      skip
      go_wp2_with (first | (go_at_call 24; (with_reducible refine (CW.out _).mono ?_); rintro e9 w9 ⟨rfl, hb9⟩; replace hbel := belStep hbel hb9; clear hb9))
      go_ret2
      exact ⟨rln_no (HNO.out), belStep hw hbel⟩
    · have t1 : decide (r < 0) = false := decide_eq_false h1
      by_cases h2 : 1099511627776 < r
      · have t2 : decide ((1099511627776 : Int) < r) = true := decide_eq_true h2
        have HNO := Lib.hid (line_noR (r := r) (e := ⟨k, id, sg, n⟩) (by omega))
        clear hk
        go_enter Tryd.func12, Tryd.ntmps12
        go_upto_region 1 with fail
        have ee0 : (w.alloc (.cells #[.int .i64 k, .string id, .int .i64 sg, .int .i64 n] 23)).cell? ⟨w.heap.size, 0, none⟩ = some (.int .i64 k) := by first | (simp; done) | (rw [World.cell?_alloc_at _ _ _ _ (by simp)]; rfl) | (rw [World.cell?_alloc_past _ _ _ (by simp <;> omega), World.cell?_alloc_at _ _ _ _ (by simp)]; rfl) | (rw [World.cell?_alloc_past _ _ _ (by simp <;> omega), World.cell?_alloc_past _ _ _ (by simp <;> omega), World.cell?_alloc_at _ _ _ _ (by simp)]; rfl)
        have ee1 : (w.alloc (.cells #[.int .i64 k, .string id, .int .i64 sg, .int .i64 n] 23)).cell? ⟨w.heap.size, 1, none⟩ = some (.string id) := by first | (simp; done) | (rw [World.cell?_alloc_at _ _ _ _ (by simp)]; rfl) | (rw [World.cell?_alloc_past _ _ _ (by simp <;> omega), World.cell?_alloc_at _ _ _ _ (by simp)]; rfl) | (rw [World.cell?_alloc_past _ _ _ (by simp <;> omega), World.cell?_alloc_past _ _ _ (by simp <;> omega), World.cell?_alloc_at _ _ _ _ (by simp)]; rfl)
        have ee2 : (w.alloc (.cells #[.int .i64 k, .string id, .int .i64 sg, .int .i64 n] 23)).cell? ⟨w.heap.size, 2, none⟩ = some (.int .i64 sg) := by first | (simp; done) | (rw [World.cell?_alloc_at _ _ _ _ (by simp)]; rfl) | (rw [World.cell?_alloc_past _ _ _ (by simp <;> omega), World.cell?_alloc_at _ _ _ _ (by simp)]; rfl) | (rw [World.cell?_alloc_past _ _ _ (by simp <;> omega), World.cell?_alloc_past _ _ _ (by simp <;> omega), World.cell?_alloc_at _ _ _ _ (by simp)]; rfl)
        have ee3 : (w.alloc (.cells #[.int .i64 k, .string id, .int .i64 sg, .int .i64 n] 23)).cell? ⟨w.heap.size, 3, none⟩ = some (.int .i64 n) := by first | (simp; done) | (rw [World.cell?_alloc_at _ _ _ _ (by simp)]; rfl) | (rw [World.cell?_alloc_past _ _ _ (by simp <;> omega), World.cell?_alloc_at _ _ _ _ (by simp)]; rfl) | (rw [World.cell?_alloc_past _ _ _ (by simp <;> omega), World.cell?_alloc_past _ _ _ (by simp <;> omega), World.cell?_alloc_at _ _ _ _ (by simp)]; rfl)
        have hb2 := (by repeat (first | exact hbel | refine belAlloc ?_ _ | refine belDrew ?_ | refine belSet ?_ _ _ (by simp)) : Below w.heap.size w (w.alloc (.cells #[.int .i64 k, .string id, .int .i64 sg, .int .i64 n] 23)))
        replace hw := belStep hw hb2
        have eeB : Blk (w.alloc (.cells #[.int .i64 k, .string id, .int .i64 sg, .int .i64 n] 23)) (w.heap.size) [.int .i64 k, .string id, .int .i64 sg, .int .i64 n] 23 := (Blk.at (by simp) : Blk (w.alloc (.cells #[.int .i64 k, .string id, .int .i64 sg, .int .i64 n] 23)) (w.heap.size) [.int .i64 k, .string id, .int .i64 sg, .int .i64 n] 23).later (by repeat (first | exact Below.refl _ _ | refine belAlloc ?_ _))
        have eeF := Blk.keepF eeB
        replace eeB := Blk.keepB eeB
        clear hb2 hbel
        generalize w.alloc (.cells #[.int .i64 k, .string id, .int .i64 sg, .int .i64 n] 23) = W1 at *
        replace ee0 := keep ee0
        replace ee1 := keep ee1
        replace ee2 := keep ee2
        replace ee3 := keep ee3
        have hbel : Below W1.heap.size W1 W1 := Below.refl _ _
        skip
        go_wp2_with (first | (go_at_call 24; (with_reducible refine (CW.out _).mono ?_); rintro e9 w9 ⟨rfl, hb9⟩; replace hbel := belStep hbel hb9; clear hb9))
        go_ret2
        exact ⟨rln_no (HNO.out), belStep hw hbel⟩
      · have t2 : decide ((1099511627776 : Int) < r) = false := decide_eq_false h2
        have HRR := Lib.hid (show 0 ≤ r ∧ r ≤ 1099511627776 from by omega)
        have CD := Lib.hid (fun u => Digits_any r (by omega) (by omega) u)
        obtain ⟨td, htd⟩ : ∃ x, ddB r.toNat = x := ⟨_, rfl⟩
        rw [htd] at CD
        have HTD := Lib.hid (show td.data.toList = decDigits r.toNat from by rw [← htd]; rfl)
        have hdl : td.size ≤ 21 := by rw [← htd]; exact ddB_size _ (by omega)
        clear htd
        have s1 : ¬ 9223372036854775807 < td.size + 1 := by omega
        have s2 : ¬ 9223372036854775807 < td.size + 1 + tk.size := by omega
        have s3 : ¬ 9223372036854775807 < td.size + 1 + tk.size + 1 := by omega
        by_cases hq9 : k = 9
        · subst hq9
          clear hk
          cases hwd : wordB id.data.toList with
          | false =>
            rw [hwd] at CN
            go_enter Tryd.func12, Tryd.ntmps12
            go_upto_region 1 with fail
            have ee0 : (w.alloc (.cells #[.int .i64 9, .string id, .int .i64 sg, .int .i64 n] 23)).cell? ⟨w.heap.size, 0, none⟩ = some (.int .i64 9) := by first | (simp; done) | (rw [World.cell?_alloc_at _ _ _ _ (by simp)]; rfl) | (rw [World.cell?_alloc_past _ _ _ (by simp <;> omega), World.cell?_alloc_at _ _ _ _ (by simp)]; rfl) | (rw [World.cell?_alloc_past _ _ _ (by simp <;> omega), World.cell?_alloc_past _ _ _ (by simp <;> omega), World.cell?_alloc_at _ _ _ _ (by simp)]; rfl)
            have ee1 : (w.alloc (.cells #[.int .i64 9, .string id, .int .i64 sg, .int .i64 n] 23)).cell? ⟨w.heap.size, 1, none⟩ = some (.string id) := by first | (simp; done) | (rw [World.cell?_alloc_at _ _ _ _ (by simp)]; rfl) | (rw [World.cell?_alloc_past _ _ _ (by simp <;> omega), World.cell?_alloc_at _ _ _ _ (by simp)]; rfl) | (rw [World.cell?_alloc_past _ _ _ (by simp <;> omega), World.cell?_alloc_past _ _ _ (by simp <;> omega), World.cell?_alloc_at _ _ _ _ (by simp)]; rfl)
            have ee2 : (w.alloc (.cells #[.int .i64 9, .string id, .int .i64 sg, .int .i64 n] 23)).cell? ⟨w.heap.size, 2, none⟩ = some (.int .i64 sg) := by first | (simp; done) | (rw [World.cell?_alloc_at _ _ _ _ (by simp)]; rfl) | (rw [World.cell?_alloc_past _ _ _ (by simp <;> omega), World.cell?_alloc_at _ _ _ _ (by simp)]; rfl) | (rw [World.cell?_alloc_past _ _ _ (by simp <;> omega), World.cell?_alloc_past _ _ _ (by simp <;> omega), World.cell?_alloc_at _ _ _ _ (by simp)]; rfl)
            have ee3 : (w.alloc (.cells #[.int .i64 9, .string id, .int .i64 sg, .int .i64 n] 23)).cell? ⟨w.heap.size, 3, none⟩ = some (.int .i64 n) := by first | (simp; done) | (rw [World.cell?_alloc_at _ _ _ _ (by simp)]; rfl) | (rw [World.cell?_alloc_past _ _ _ (by simp <;> omega), World.cell?_alloc_at _ _ _ _ (by simp)]; rfl) | (rw [World.cell?_alloc_past _ _ _ (by simp <;> omega), World.cell?_alloc_past _ _ _ (by simp <;> omega), World.cell?_alloc_at _ _ _ _ (by simp)]; rfl)
            have hb2 := (by repeat (first | exact hbel | refine belAlloc ?_ _ | refine belDrew ?_ | refine belSet ?_ _ _ (by simp)) : Below w.heap.size w (w.alloc (.cells #[.int .i64 9, .string id, .int .i64 sg, .int .i64 n] 23)))
            replace hw := belStep hw hb2
            have eeB : Blk (w.alloc (.cells #[.int .i64 9, .string id, .int .i64 sg, .int .i64 n] 23)) (w.heap.size) [.int .i64 9, .string id, .int .i64 sg, .int .i64 n] 23 := (Blk.at (by simp) : Blk (w.alloc (.cells #[.int .i64 9, .string id, .int .i64 sg, .int .i64 n] 23)) (w.heap.size) [.int .i64 9, .string id, .int .i64 sg, .int .i64 n] 23).later (by repeat (first | exact Below.refl _ _ | refine belAlloc ?_ _))
            have eeF := Blk.keepF eeB
            replace eeB := Blk.keepB eeB
            clear hb2 hbel
            generalize w.alloc (.cells #[.int .i64 9, .string id, .int .i64 sg, .int .i64 n] 23) = W1 at *
            replace ee0 := keep ee0
            replace ee1 := keep ee1
            replace ee2 := keep ee2
            replace ee3 := keep ee3
            have hbel : Below W1.heap.size W1 W1 := Below.refl _ _
            skip
            go_wp2_with (first | (go_at_call 24; (with_reducible refine (CW.out _).mono ?_); rintro e9 w9 ⟨rfl, hb9⟩; replace hbel := belStep hbel hb9; clear hb9) | (go_at_call 25; (with_reducible refine (CD.out _).mono ?_); rintro e9 w9 ⟨rfl, hb9⟩; replace hbel := belStep hbel hb9; clear hb9) | (go_at_call 26; (with_reducible refine (CN.out _).mono ?_); rintro e9 w9 ⟨rfl, rfl⟩))
            go_ret2
            exact ⟨rln_no (line_noT (by unfold tailE; simp [hwd])), belStep hw hbel⟩
          | true =>
            rw [hwd] at CN
            have hil : id.size ≤ 60 := word_len hwd
            have s4 : ¬ 9223372036854775807 < td.size + 1 + tk.size + 1 + id.size := by omega
            have s5 : ¬ 9223372036854775807 < td.size + 1 + tk.size + 1 + id.size + 1 := by omega
            by_cases h3 : n < 0
            · have t3 : decide (n < 0) = true := decide_eq_true h3
              go_enter Tryd.func12, Tryd.ntmps12
              go_upto_region 1 with fail
              have ee0 : (w.alloc (.cells #[.int .i64 9, .string id, .int .i64 sg, .int .i64 n] 23)).cell? ⟨w.heap.size, 0, none⟩ = some (.int .i64 9) := by first | (simp; done) | (rw [World.cell?_alloc_at _ _ _ _ (by simp)]; rfl) | (rw [World.cell?_alloc_past _ _ _ (by simp <;> omega), World.cell?_alloc_at _ _ _ _ (by simp)]; rfl) | (rw [World.cell?_alloc_past _ _ _ (by simp <;> omega), World.cell?_alloc_past _ _ _ (by simp <;> omega), World.cell?_alloc_at _ _ _ _ (by simp)]; rfl)
              have ee1 : (w.alloc (.cells #[.int .i64 9, .string id, .int .i64 sg, .int .i64 n] 23)).cell? ⟨w.heap.size, 1, none⟩ = some (.string id) := by first | (simp; done) | (rw [World.cell?_alloc_at _ _ _ _ (by simp)]; rfl) | (rw [World.cell?_alloc_past _ _ _ (by simp <;> omega), World.cell?_alloc_at _ _ _ _ (by simp)]; rfl) | (rw [World.cell?_alloc_past _ _ _ (by simp <;> omega), World.cell?_alloc_past _ _ _ (by simp <;> omega), World.cell?_alloc_at _ _ _ _ (by simp)]; rfl)
              have ee2 : (w.alloc (.cells #[.int .i64 9, .string id, .int .i64 sg, .int .i64 n] 23)).cell? ⟨w.heap.size, 2, none⟩ = some (.int .i64 sg) := by first | (simp; done) | (rw [World.cell?_alloc_at _ _ _ _ (by simp)]; rfl) | (rw [World.cell?_alloc_past _ _ _ (by simp <;> omega), World.cell?_alloc_at _ _ _ _ (by simp)]; rfl) | (rw [World.cell?_alloc_past _ _ _ (by simp <;> omega), World.cell?_alloc_past _ _ _ (by simp <;> omega), World.cell?_alloc_at _ _ _ _ (by simp)]; rfl)
              have ee3 : (w.alloc (.cells #[.int .i64 9, .string id, .int .i64 sg, .int .i64 n] 23)).cell? ⟨w.heap.size, 3, none⟩ = some (.int .i64 n) := by first | (simp; done) | (rw [World.cell?_alloc_at _ _ _ _ (by simp)]; rfl) | (rw [World.cell?_alloc_past _ _ _ (by simp <;> omega), World.cell?_alloc_at _ _ _ _ (by simp)]; rfl) | (rw [World.cell?_alloc_past _ _ _ (by simp <;> omega), World.cell?_alloc_past _ _ _ (by simp <;> omega), World.cell?_alloc_at _ _ _ _ (by simp)]; rfl)
              have hb2 := (by repeat (first | exact hbel | refine belAlloc ?_ _ | refine belDrew ?_ | refine belSet ?_ _ _ (by simp)) : Below w.heap.size w (w.alloc (.cells #[.int .i64 9, .string id, .int .i64 sg, .int .i64 n] 23)))
              replace hw := belStep hw hb2
              have eeB : Blk (w.alloc (.cells #[.int .i64 9, .string id, .int .i64 sg, .int .i64 n] 23)) (w.heap.size) [.int .i64 9, .string id, .int .i64 sg, .int .i64 n] 23 := (Blk.at (by simp) : Blk (w.alloc (.cells #[.int .i64 9, .string id, .int .i64 sg, .int .i64 n] 23)) (w.heap.size) [.int .i64 9, .string id, .int .i64 sg, .int .i64 n] 23).later (by repeat (first | exact Below.refl _ _ | refine belAlloc ?_ _))
              have eeF := Blk.keepF eeB
              replace eeB := Blk.keepB eeB
              clear hb2 hbel
              generalize w.alloc (.cells #[.int .i64 9, .string id, .int .i64 sg, .int .i64 n] 23) = W1 at *
              replace ee0 := keep ee0
              replace ee1 := keep ee1
              replace ee2 := keep ee2
              replace ee3 := keep ee3
              have hbel : Below W1.heap.size W1 W1 := Below.refl _ _
              skip
              go_wp2_with (first | (go_at_call 24; (with_reducible refine (CW.out _).mono ?_); rintro e9 w9 ⟨rfl, hb9⟩; replace hbel := belStep hbel hb9; clear hb9) | (go_at_call 25; (with_reducible refine (CD.out _).mono ?_); rintro e9 w9 ⟨rfl, hb9⟩; replace hbel := belStep hbel hb9; clear hb9) | (go_at_call 26; (with_reducible refine (CN.out _).mono ?_); rintro e9 w9 ⟨rfl, rfl⟩))
              go_ret2
              exact ⟨rln_no (line_noT (by unfold tailE; simp [hwd, show ¬ 0 ≤ n by omega])), belStep hw hbel⟩
            · have t3 : decide (n < 0) = false := decide_eq_false h3
              by_cases h4 : sg = 0
              · subst h4
                have CDn := Lib.hid (fun u => Digits_any n (by omega) HNI.out.2 u)
                obtain ⟨tn, htn⟩ : ∃ x, ddB n.toNat = x := ⟨_, rfl⟩
                rw [htn] at CDn
                have HTN := Lib.hid (show tn.data.toList = decDigits n.toNat from by rw [← htn]; rfl)
                have hnl : tn.size ≤ 21 := by rw [← htn]; exact ddB_size _ (by have := HNI.out.2; omega)
                clear htn
                have s6 : ¬ 9223372036854775807 < td.size + 1 + tk.size + 1 + id.size + 1 + tn.size := by omega
                go_enter Tryd.func12, Tryd.ntmps12
                go_upto_region 1 with fail
                have ee0 : (w.alloc (.cells #[.int .i64 9, .string id, .int .i64 0, .int .i64 n] 23)).cell? ⟨w.heap.size, 0, none⟩ = some (.int .i64 9) := by first | (simp; done) | (rw [World.cell?_alloc_at _ _ _ _ (by simp)]; rfl) | (rw [World.cell?_alloc_past _ _ _ (by simp <;> omega), World.cell?_alloc_at _ _ _ _ (by simp)]; rfl) | (rw [World.cell?_alloc_past _ _ _ (by simp <;> omega), World.cell?_alloc_past _ _ _ (by simp <;> omega), World.cell?_alloc_at _ _ _ _ (by simp)]; rfl)
                have ee1 : (w.alloc (.cells #[.int .i64 9, .string id, .int .i64 0, .int .i64 n] 23)).cell? ⟨w.heap.size, 1, none⟩ = some (.string id) := by first | (simp; done) | (rw [World.cell?_alloc_at _ _ _ _ (by simp)]; rfl) | (rw [World.cell?_alloc_past _ _ _ (by simp <;> omega), World.cell?_alloc_at _ _ _ _ (by simp)]; rfl) | (rw [World.cell?_alloc_past _ _ _ (by simp <;> omega), World.cell?_alloc_past _ _ _ (by simp <;> omega), World.cell?_alloc_at _ _ _ _ (by simp)]; rfl)
                have ee2 : (w.alloc (.cells #[.int .i64 9, .string id, .int .i64 0, .int .i64 n] 23)).cell? ⟨w.heap.size, 2, none⟩ = some (.int .i64 0) := by first | (simp; done) | (rw [World.cell?_alloc_at _ _ _ _ (by simp)]; rfl) | (rw [World.cell?_alloc_past _ _ _ (by simp <;> omega), World.cell?_alloc_at _ _ _ _ (by simp)]; rfl) | (rw [World.cell?_alloc_past _ _ _ (by simp <;> omega), World.cell?_alloc_past _ _ _ (by simp <;> omega), World.cell?_alloc_at _ _ _ _ (by simp)]; rfl)
                have ee3 : (w.alloc (.cells #[.int .i64 9, .string id, .int .i64 0, .int .i64 n] 23)).cell? ⟨w.heap.size, 3, none⟩ = some (.int .i64 n) := by first | (simp; done) | (rw [World.cell?_alloc_at _ _ _ _ (by simp)]; rfl) | (rw [World.cell?_alloc_past _ _ _ (by simp <;> omega), World.cell?_alloc_at _ _ _ _ (by simp)]; rfl) | (rw [World.cell?_alloc_past _ _ _ (by simp <;> omega), World.cell?_alloc_past _ _ _ (by simp <;> omega), World.cell?_alloc_at _ _ _ _ (by simp)]; rfl)
                have hb2 := (by repeat (first | exact hbel | refine belAlloc ?_ _ | refine belDrew ?_ | refine belSet ?_ _ _ (by simp)) : Below w.heap.size w (w.alloc (.cells #[.int .i64 9, .string id, .int .i64 0, .int .i64 n] 23)))
                replace hw := belStep hw hb2
                have eeB : Blk (w.alloc (.cells #[.int .i64 9, .string id, .int .i64 0, .int .i64 n] 23)) (w.heap.size) [.int .i64 9, .string id, .int .i64 0, .int .i64 n] 23 := (Blk.at (by simp) : Blk (w.alloc (.cells #[.int .i64 9, .string id, .int .i64 0, .int .i64 n] 23)) (w.heap.size) [.int .i64 9, .string id, .int .i64 0, .int .i64 n] 23).later (by repeat (first | exact Below.refl _ _ | refine belAlloc ?_ _))
                have eeF := Blk.keepF eeB
                replace eeB := Blk.keepB eeB
                clear hb2 hbel
                generalize w.alloc (.cells #[.int .i64 9, .string id, .int .i64 0, .int .i64 n] 23) = W1 at *
                replace ee0 := keep ee0
                replace ee1 := keep ee1
                replace ee2 := keep ee2
                replace ee3 := keep ee3
                have hbel : Below W1.heap.size W1 W1 := Below.refl _ _
                skip
                go_wp2_with (first | (go_at_call 24; (with_reducible refine (CW.out _).mono ?_); rintro e9 w9 ⟨rfl, hb9⟩; replace hbel := belStep hbel hb9; clear hb9) | (go_at_call 25; (with_reducible refine (CD.out _).mono ?_); rintro e9 w9 ⟨rfl, hb9⟩; replace hbel := belStep hbel hb9; clear hb9) | (go_at_call 26; (with_reducible refine (CN.out _).mono ?_); rintro e9 w9 ⟨rfl, rfl⟩) | (go_at_call 25; (with_reducible refine (CDn.out _).mono ?_); rintro e9 w9 ⟨rfl, hb9⟩; replace hbel := belStep hbel hb9; clear hb9))
                go_ret2
                exact ⟨rln_yes (line_yesT HRR.out (by dsimp only; omega) (show tailE ⟨9, id, 0, n⟩ = some [id.data.toList, decDigits n.toNat] from by unfold tailE; simp [hwd, show 0 ≤ n by omega])) (by simp only [ByteArray.data_append, Array.toList_append, HTD.out, HTK.out, HTN.out]; simp [joinW]), belStep hw hbel⟩
              · have t4 : (sg == 0) = false := beq_eq_false_iff_ne.2 h4
                have t4n : (sg != 0) = true := bne_iff_ne.2 h4
                go_enter Tryd.func12, Tryd.ntmps12
                go_upto_region 1 with fail
                have ee0 : (w.alloc (.cells #[.int .i64 9, .string id, .int .i64 sg, .int .i64 n] 23)).cell? ⟨w.heap.size, 0, none⟩ = some (.int .i64 9) := by first | (simp; done) | (rw [World.cell?_alloc_at _ _ _ _ (by simp)]; rfl) | (rw [World.cell?_alloc_past _ _ _ (by simp <;> omega), World.cell?_alloc_at _ _ _ _ (by simp)]; rfl) | (rw [World.cell?_alloc_past _ _ _ (by simp <;> omega), World.cell?_alloc_past _ _ _ (by simp <;> omega), World.cell?_alloc_at _ _ _ _ (by simp)]; rfl)
                have ee1 : (w.alloc (.cells #[.int .i64 9, .string id, .int .i64 sg, .int .i64 n] 23)).cell? ⟨w.heap.size, 1, none⟩ = some (.string id) := by first | (simp; done) | (rw [World.cell?_alloc_at _ _ _ _ (by simp)]; rfl) | (rw [World.cell?_alloc_past _ _ _ (by simp <;> omega), World.cell?_alloc_at _ _ _ _ (by simp)]; rfl) | (rw [World.cell?_alloc_past _ _ _ (by simp <;> omega), World.cell?_alloc_past _ _ _ (by simp <;> omega), World.cell?_alloc_at _ _ _ _ (by simp)]; rfl)
                have ee2 : (w.alloc (.cells #[.int .i64 9, .string id, .int .i64 sg, .int .i64 n] 23)).cell? ⟨w.heap.size, 2, none⟩ = some (.int .i64 sg) := by first | (simp; done) | (rw [World.cell?_alloc_at _ _ _ _ (by simp)]; rfl) | (rw [World.cell?_alloc_past _ _ _ (by simp <;> omega), World.cell?_alloc_at _ _ _ _ (by simp)]; rfl) | (rw [World.cell?_alloc_past _ _ _ (by simp <;> omega), World.cell?_alloc_past _ _ _ (by simp <;> omega), World.cell?_alloc_at _ _ _ _ (by simp)]; rfl)
                have ee3 : (w.alloc (.cells #[.int .i64 9, .string id, .int .i64 sg, .int .i64 n] 23)).cell? ⟨w.heap.size, 3, none⟩ = some (.int .i64 n) := by first | (simp; done) | (rw [World.cell?_alloc_at _ _ _ _ (by simp)]; rfl) | (rw [World.cell?_alloc_past _ _ _ (by simp <;> omega), World.cell?_alloc_at _ _ _ _ (by simp)]; rfl) | (rw [World.cell?_alloc_past _ _ _ (by simp <;> omega), World.cell?_alloc_past _ _ _ (by simp <;> omega), World.cell?_alloc_at _ _ _ _ (by simp)]; rfl)
                have hb2 := (by repeat (first | exact hbel | refine belAlloc ?_ _ | refine belDrew ?_ | refine belSet ?_ _ _ (by simp)) : Below w.heap.size w (w.alloc (.cells #[.int .i64 9, .string id, .int .i64 sg, .int .i64 n] 23)))
                replace hw := belStep hw hb2
                have eeB : Blk (w.alloc (.cells #[.int .i64 9, .string id, .int .i64 sg, .int .i64 n] 23)) (w.heap.size) [.int .i64 9, .string id, .int .i64 sg, .int .i64 n] 23 := (Blk.at (by simp) : Blk (w.alloc (.cells #[.int .i64 9, .string id, .int .i64 sg, .int .i64 n] 23)) (w.heap.size) [.int .i64 9, .string id, .int .i64 sg, .int .i64 n] 23).later (by repeat (first | exact Below.refl _ _ | refine belAlloc ?_ _))
                have eeF := Blk.keepF eeB
                replace eeB := Blk.keepB eeB
                clear hb2 hbel
                generalize w.alloc (.cells #[.int .i64 9, .string id, .int .i64 sg, .int .i64 n] 23) = W1 at *
                replace ee0 := keep ee0
                replace ee1 := keep ee1
                replace ee2 := keep ee2
                replace ee3 := keep ee3
                have hbel : Below W1.heap.size W1 W1 := Below.refl _ _
                skip
                go_wp2_with (first | (go_at_call 24; (with_reducible refine (CW.out _).mono ?_); rintro e9 w9 ⟨rfl, hb9⟩; replace hbel := belStep hbel hb9; clear hb9) | (go_at_call 25; (with_reducible refine (CD.out _).mono ?_); rintro e9 w9 ⟨rfl, hb9⟩; replace hbel := belStep hbel hb9; clear hb9) | (go_at_call 26; (with_reducible refine (CN.out _).mono ?_); rintro e9 w9 ⟨rfl, rfl⟩))
                go_ret2
                exact ⟨rln_no (line_noT (by unfold tailE; simp [hwd, h4])), belStep hw hbel⟩
        · by_cases hq14 : k = 14
          · subst hq14
            clear hk
            cases hwd : wordB id.data.toList with
            | false =>
              rw [hwd] at CN
              go_enter Tryd.func12, Tryd.ntmps12
              go_upto_region 1 with fail
              have ee0 : (w.alloc (.cells #[.int .i64 14, .string id, .int .i64 sg, .int .i64 n] 23)).cell? ⟨w.heap.size, 0, none⟩ = some (.int .i64 14) := by first | (simp; done) | (rw [World.cell?_alloc_at _ _ _ _ (by simp)]; rfl) | (rw [World.cell?_alloc_past _ _ _ (by simp <;> omega), World.cell?_alloc_at _ _ _ _ (by simp)]; rfl) | (rw [World.cell?_alloc_past _ _ _ (by simp <;> omega), World.cell?_alloc_past _ _ _ (by simp <;> omega), World.cell?_alloc_at _ _ _ _ (by simp)]; rfl)
              have ee1 : (w.alloc (.cells #[.int .i64 14, .string id, .int .i64 sg, .int .i64 n] 23)).cell? ⟨w.heap.size, 1, none⟩ = some (.string id) := by first | (simp; done) | (rw [World.cell?_alloc_at _ _ _ _ (by simp)]; rfl) | (rw [World.cell?_alloc_past _ _ _ (by simp <;> omega), World.cell?_alloc_at _ _ _ _ (by simp)]; rfl) | (rw [World.cell?_alloc_past _ _ _ (by simp <;> omega), World.cell?_alloc_past _ _ _ (by simp <;> omega), World.cell?_alloc_at _ _ _ _ (by simp)]; rfl)
              have ee2 : (w.alloc (.cells #[.int .i64 14, .string id, .int .i64 sg, .int .i64 n] 23)).cell? ⟨w.heap.size, 2, none⟩ = some (.int .i64 sg) := by first | (simp; done) | (rw [World.cell?_alloc_at _ _ _ _ (by simp)]; rfl) | (rw [World.cell?_alloc_past _ _ _ (by simp <;> omega), World.cell?_alloc_at _ _ _ _ (by simp)]; rfl) | (rw [World.cell?_alloc_past _ _ _ (by simp <;> omega), World.cell?_alloc_past _ _ _ (by simp <;> omega), World.cell?_alloc_at _ _ _ _ (by simp)]; rfl)
              have ee3 : (w.alloc (.cells #[.int .i64 14, .string id, .int .i64 sg, .int .i64 n] 23)).cell? ⟨w.heap.size, 3, none⟩ = some (.int .i64 n) := by first | (simp; done) | (rw [World.cell?_alloc_at _ _ _ _ (by simp)]; rfl) | (rw [World.cell?_alloc_past _ _ _ (by simp <;> omega), World.cell?_alloc_at _ _ _ _ (by simp)]; rfl) | (rw [World.cell?_alloc_past _ _ _ (by simp <;> omega), World.cell?_alloc_past _ _ _ (by simp <;> omega), World.cell?_alloc_at _ _ _ _ (by simp)]; rfl)
              have hb2 := (by repeat (first | exact hbel | refine belAlloc ?_ _ | refine belDrew ?_ | refine belSet ?_ _ _ (by simp)) : Below w.heap.size w (w.alloc (.cells #[.int .i64 14, .string id, .int .i64 sg, .int .i64 n] 23)))
              replace hw := belStep hw hb2
              have eeB : Blk (w.alloc (.cells #[.int .i64 14, .string id, .int .i64 sg, .int .i64 n] 23)) (w.heap.size) [.int .i64 14, .string id, .int .i64 sg, .int .i64 n] 23 := (Blk.at (by simp) : Blk (w.alloc (.cells #[.int .i64 14, .string id, .int .i64 sg, .int .i64 n] 23)) (w.heap.size) [.int .i64 14, .string id, .int .i64 sg, .int .i64 n] 23).later (by repeat (first | exact Below.refl _ _ | refine belAlloc ?_ _))
              have eeF := Blk.keepF eeB
              replace eeB := Blk.keepB eeB
              clear hb2 hbel
              generalize w.alloc (.cells #[.int .i64 14, .string id, .int .i64 sg, .int .i64 n] 23) = W1 at *
              replace ee0 := keep ee0
              replace ee1 := keep ee1
              replace ee2 := keep ee2
              replace ee3 := keep ee3
              have hbel : Below W1.heap.size W1 W1 := Below.refl _ _
              skip
              go_wp2_with (first | (go_at_call 24; (with_reducible refine (CW.out _).mono ?_); rintro e9 w9 ⟨rfl, hb9⟩; replace hbel := belStep hbel hb9; clear hb9) | (go_at_call 25; (with_reducible refine (CD.out _).mono ?_); rintro e9 w9 ⟨rfl, hb9⟩; replace hbel := belStep hbel hb9; clear hb9) | (go_at_call 26; (with_reducible refine (CN.out _).mono ?_); rintro e9 w9 ⟨rfl, rfl⟩))
              go_ret2
              exact ⟨rln_no (line_noT (by unfold tailE; simp [hwd])), belStep hw hbel⟩
            | true =>
              rw [hwd] at CN
              have hil : id.size ≤ 60 := word_len hwd
              have s4 : ¬ 9223372036854775807 < td.size + 1 + tk.size + 1 + id.size := by omega
              have s5 : ¬ 9223372036854775807 < td.size + 1 + tk.size + 1 + id.size + 1 := by omega
              by_cases h3 : n < 0
              · have t3 : decide (n < 0) = true := decide_eq_true h3
                go_enter Tryd.func12, Tryd.ntmps12
                go_upto_region 1 with fail
                have ee0 : (w.alloc (.cells #[.int .i64 14, .string id, .int .i64 sg, .int .i64 n] 23)).cell? ⟨w.heap.size, 0, none⟩ = some (.int .i64 14) := by first | (simp; done) | (rw [World.cell?_alloc_at _ _ _ _ (by simp)]; rfl) | (rw [World.cell?_alloc_past _ _ _ (by simp <;> omega), World.cell?_alloc_at _ _ _ _ (by simp)]; rfl) | (rw [World.cell?_alloc_past _ _ _ (by simp <;> omega), World.cell?_alloc_past _ _ _ (by simp <;> omega), World.cell?_alloc_at _ _ _ _ (by simp)]; rfl)
                have ee1 : (w.alloc (.cells #[.int .i64 14, .string id, .int .i64 sg, .int .i64 n] 23)).cell? ⟨w.heap.size, 1, none⟩ = some (.string id) := by first | (simp; done) | (rw [World.cell?_alloc_at _ _ _ _ (by simp)]; rfl) | (rw [World.cell?_alloc_past _ _ _ (by simp <;> omega), World.cell?_alloc_at _ _ _ _ (by simp)]; rfl) | (rw [World.cell?_alloc_past _ _ _ (by simp <;> omega), World.cell?_alloc_past _ _ _ (by simp <;> omega), World.cell?_alloc_at _ _ _ _ (by simp)]; rfl)
                have ee2 : (w.alloc (.cells #[.int .i64 14, .string id, .int .i64 sg, .int .i64 n] 23)).cell? ⟨w.heap.size, 2, none⟩ = some (.int .i64 sg) := by first | (simp; done) | (rw [World.cell?_alloc_at _ _ _ _ (by simp)]; rfl) | (rw [World.cell?_alloc_past _ _ _ (by simp <;> omega), World.cell?_alloc_at _ _ _ _ (by simp)]; rfl) | (rw [World.cell?_alloc_past _ _ _ (by simp <;> omega), World.cell?_alloc_past _ _ _ (by simp <;> omega), World.cell?_alloc_at _ _ _ _ (by simp)]; rfl)
                have ee3 : (w.alloc (.cells #[.int .i64 14, .string id, .int .i64 sg, .int .i64 n] 23)).cell? ⟨w.heap.size, 3, none⟩ = some (.int .i64 n) := by first | (simp; done) | (rw [World.cell?_alloc_at _ _ _ _ (by simp)]; rfl) | (rw [World.cell?_alloc_past _ _ _ (by simp <;> omega), World.cell?_alloc_at _ _ _ _ (by simp)]; rfl) | (rw [World.cell?_alloc_past _ _ _ (by simp <;> omega), World.cell?_alloc_past _ _ _ (by simp <;> omega), World.cell?_alloc_at _ _ _ _ (by simp)]; rfl)
                have hb2 := (by repeat (first | exact hbel | refine belAlloc ?_ _ | refine belDrew ?_ | refine belSet ?_ _ _ (by simp)) : Below w.heap.size w (w.alloc (.cells #[.int .i64 14, .string id, .int .i64 sg, .int .i64 n] 23)))
                replace hw := belStep hw hb2
                have eeB : Blk (w.alloc (.cells #[.int .i64 14, .string id, .int .i64 sg, .int .i64 n] 23)) (w.heap.size) [.int .i64 14, .string id, .int .i64 sg, .int .i64 n] 23 := (Blk.at (by simp) : Blk (w.alloc (.cells #[.int .i64 14, .string id, .int .i64 sg, .int .i64 n] 23)) (w.heap.size) [.int .i64 14, .string id, .int .i64 sg, .int .i64 n] 23).later (by repeat (first | exact Below.refl _ _ | refine belAlloc ?_ _))
                have eeF := Blk.keepF eeB
                replace eeB := Blk.keepB eeB
                clear hb2 hbel
                generalize w.alloc (.cells #[.int .i64 14, .string id, .int .i64 sg, .int .i64 n] 23) = W1 at *
                replace ee0 := keep ee0
                replace ee1 := keep ee1
                replace ee2 := keep ee2
                replace ee3 := keep ee3
                have hbel : Below W1.heap.size W1 W1 := Below.refl _ _
                skip
                go_wp2_with (first | (go_at_call 24; (with_reducible refine (CW.out _).mono ?_); rintro e9 w9 ⟨rfl, hb9⟩; replace hbel := belStep hbel hb9; clear hb9) | (go_at_call 25; (with_reducible refine (CD.out _).mono ?_); rintro e9 w9 ⟨rfl, hb9⟩; replace hbel := belStep hbel hb9; clear hb9) | (go_at_call 26; (with_reducible refine (CN.out _).mono ?_); rintro e9 w9 ⟨rfl, rfl⟩))
                go_ret2
                exact ⟨rln_no (line_noT (by unfold tailE; simp [hwd, show ¬ 0 ≤ n by omega])), belStep hw hbel⟩
              · have t3 : decide (n < 0) = false := decide_eq_false h3
                by_cases h4 : sg = 0
                · subst h4
                  have CDn := Lib.hid (fun u => Digits_any n (by omega) HNI.out.2 u)
                  obtain ⟨tn, htn⟩ : ∃ x, ddB n.toNat = x := ⟨_, rfl⟩
                  rw [htn] at CDn
                  have HTN := Lib.hid (show tn.data.toList = decDigits n.toNat from by rw [← htn]; rfl)
                  have hnl : tn.size ≤ 21 := by rw [← htn]; exact ddB_size _ (by have := HNI.out.2; omega)
                  clear htn
                  have s6 : ¬ 9223372036854775807 < td.size + 1 + tk.size + 1 + id.size + 1 + tn.size := by omega
                  go_enter Tryd.func12, Tryd.ntmps12
                  go_upto_region 1 with fail
                  have ee0 : (w.alloc (.cells #[.int .i64 14, .string id, .int .i64 0, .int .i64 n] 23)).cell? ⟨w.heap.size, 0, none⟩ = some (.int .i64 14) := by first | (simp; done) | (rw [World.cell?_alloc_at _ _ _ _ (by simp)]; rfl) | (rw [World.cell?_alloc_past _ _ _ (by simp <;> omega), World.cell?_alloc_at _ _ _ _ (by simp)]; rfl) | (rw [World.cell?_alloc_past _ _ _ (by simp <;> omega), World.cell?_alloc_past _ _ _ (by simp <;> omega), World.cell?_alloc_at _ _ _ _ (by simp)]; rfl)
                  have ee1 : (w.alloc (.cells #[.int .i64 14, .string id, .int .i64 0, .int .i64 n] 23)).cell? ⟨w.heap.size, 1, none⟩ = some (.string id) := by first | (simp; done) | (rw [World.cell?_alloc_at _ _ _ _ (by simp)]; rfl) | (rw [World.cell?_alloc_past _ _ _ (by simp <;> omega), World.cell?_alloc_at _ _ _ _ (by simp)]; rfl) | (rw [World.cell?_alloc_past _ _ _ (by simp <;> omega), World.cell?_alloc_past _ _ _ (by simp <;> omega), World.cell?_alloc_at _ _ _ _ (by simp)]; rfl)
                  have ee2 : (w.alloc (.cells #[.int .i64 14, .string id, .int .i64 0, .int .i64 n] 23)).cell? ⟨w.heap.size, 2, none⟩ = some (.int .i64 0) := by first | (simp; done) | (rw [World.cell?_alloc_at _ _ _ _ (by simp)]; rfl) | (rw [World.cell?_alloc_past _ _ _ (by simp <;> omega), World.cell?_alloc_at _ _ _ _ (by simp)]; rfl) | (rw [World.cell?_alloc_past _ _ _ (by simp <;> omega), World.cell?_alloc_past _ _ _ (by simp <;> omega), World.cell?_alloc_at _ _ _ _ (by simp)]; rfl)
                  have ee3 : (w.alloc (.cells #[.int .i64 14, .string id, .int .i64 0, .int .i64 n] 23)).cell? ⟨w.heap.size, 3, none⟩ = some (.int .i64 n) := by first | (simp; done) | (rw [World.cell?_alloc_at _ _ _ _ (by simp)]; rfl) | (rw [World.cell?_alloc_past _ _ _ (by simp <;> omega), World.cell?_alloc_at _ _ _ _ (by simp)]; rfl) | (rw [World.cell?_alloc_past _ _ _ (by simp <;> omega), World.cell?_alloc_past _ _ _ (by simp <;> omega), World.cell?_alloc_at _ _ _ _ (by simp)]; rfl)
                  have hb2 := (by repeat (first | exact hbel | refine belAlloc ?_ _ | refine belDrew ?_ | refine belSet ?_ _ _ (by simp)) : Below w.heap.size w (w.alloc (.cells #[.int .i64 14, .string id, .int .i64 0, .int .i64 n] 23)))
                  replace hw := belStep hw hb2
                  have eeB : Blk (w.alloc (.cells #[.int .i64 14, .string id, .int .i64 0, .int .i64 n] 23)) (w.heap.size) [.int .i64 14, .string id, .int .i64 0, .int .i64 n] 23 := (Blk.at (by simp) : Blk (w.alloc (.cells #[.int .i64 14, .string id, .int .i64 0, .int .i64 n] 23)) (w.heap.size) [.int .i64 14, .string id, .int .i64 0, .int .i64 n] 23).later (by repeat (first | exact Below.refl _ _ | refine belAlloc ?_ _))
                  have eeF := Blk.keepF eeB
                  replace eeB := Blk.keepB eeB
                  clear hb2 hbel
                  generalize w.alloc (.cells #[.int .i64 14, .string id, .int .i64 0, .int .i64 n] 23) = W1 at *
                  replace ee0 := keep ee0
                  replace ee1 := keep ee1
                  replace ee2 := keep ee2
                  replace ee3 := keep ee3
                  have hbel : Below W1.heap.size W1 W1 := Below.refl _ _
                  skip
                  go_wp2_with (first | (go_at_call 24; (with_reducible refine (CW.out _).mono ?_); rintro e9 w9 ⟨rfl, hb9⟩; replace hbel := belStep hbel hb9; clear hb9) | (go_at_call 25; (with_reducible refine (CD.out _).mono ?_); rintro e9 w9 ⟨rfl, hb9⟩; replace hbel := belStep hbel hb9; clear hb9) | (go_at_call 26; (with_reducible refine (CN.out _).mono ?_); rintro e9 w9 ⟨rfl, rfl⟩) | (go_at_call 25; (with_reducible refine (CDn.out _).mono ?_); rintro e9 w9 ⟨rfl, hb9⟩; replace hbel := belStep hbel hb9; clear hb9))
                  go_ret2
                  exact ⟨rln_yes (line_yesT HRR.out (by dsimp only; omega) (show tailE ⟨14, id, 0, n⟩ = some [id.data.toList, decDigits n.toNat] from by unfold tailE; simp [hwd, show 0 ≤ n by omega])) (by simp only [ByteArray.data_append, Array.toList_append, HTD.out, HTK.out, HTN.out]; simp [joinW]), belStep hw hbel⟩
                · have t4 : (sg == 0) = false := beq_eq_false_iff_ne.2 h4
                  have t4n : (sg != 0) = true := bne_iff_ne.2 h4
                  go_enter Tryd.func12, Tryd.ntmps12
                  go_upto_region 1 with fail
                  have ee0 : (w.alloc (.cells #[.int .i64 14, .string id, .int .i64 sg, .int .i64 n] 23)).cell? ⟨w.heap.size, 0, none⟩ = some (.int .i64 14) := by first | (simp; done) | (rw [World.cell?_alloc_at _ _ _ _ (by simp)]; rfl) | (rw [World.cell?_alloc_past _ _ _ (by simp <;> omega), World.cell?_alloc_at _ _ _ _ (by simp)]; rfl) | (rw [World.cell?_alloc_past _ _ _ (by simp <;> omega), World.cell?_alloc_past _ _ _ (by simp <;> omega), World.cell?_alloc_at _ _ _ _ (by simp)]; rfl)
                  have ee1 : (w.alloc (.cells #[.int .i64 14, .string id, .int .i64 sg, .int .i64 n] 23)).cell? ⟨w.heap.size, 1, none⟩ = some (.string id) := by first | (simp; done) | (rw [World.cell?_alloc_at _ _ _ _ (by simp)]; rfl) | (rw [World.cell?_alloc_past _ _ _ (by simp <;> omega), World.cell?_alloc_at _ _ _ _ (by simp)]; rfl) | (rw [World.cell?_alloc_past _ _ _ (by simp <;> omega), World.cell?_alloc_past _ _ _ (by simp <;> omega), World.cell?_alloc_at _ _ _ _ (by simp)]; rfl)
                  have ee2 : (w.alloc (.cells #[.int .i64 14, .string id, .int .i64 sg, .int .i64 n] 23)).cell? ⟨w.heap.size, 2, none⟩ = some (.int .i64 sg) := by first | (simp; done) | (rw [World.cell?_alloc_at _ _ _ _ (by simp)]; rfl) | (rw [World.cell?_alloc_past _ _ _ (by simp <;> omega), World.cell?_alloc_at _ _ _ _ (by simp)]; rfl) | (rw [World.cell?_alloc_past _ _ _ (by simp <;> omega), World.cell?_alloc_past _ _ _ (by simp <;> omega), World.cell?_alloc_at _ _ _ _ (by simp)]; rfl)
                  have ee3 : (w.alloc (.cells #[.int .i64 14, .string id, .int .i64 sg, .int .i64 n] 23)).cell? ⟨w.heap.size, 3, none⟩ = some (.int .i64 n) := by first | (simp; done) | (rw [World.cell?_alloc_at _ _ _ _ (by simp)]; rfl) | (rw [World.cell?_alloc_past _ _ _ (by simp <;> omega), World.cell?_alloc_at _ _ _ _ (by simp)]; rfl) | (rw [World.cell?_alloc_past _ _ _ (by simp <;> omega), World.cell?_alloc_past _ _ _ (by simp <;> omega), World.cell?_alloc_at _ _ _ _ (by simp)]; rfl)
                  have hb2 := (by repeat (first | exact hbel | refine belAlloc ?_ _ | refine belDrew ?_ | refine belSet ?_ _ _ (by simp)) : Below w.heap.size w (w.alloc (.cells #[.int .i64 14, .string id, .int .i64 sg, .int .i64 n] 23)))
                  replace hw := belStep hw hb2
                  have eeB : Blk (w.alloc (.cells #[.int .i64 14, .string id, .int .i64 sg, .int .i64 n] 23)) (w.heap.size) [.int .i64 14, .string id, .int .i64 sg, .int .i64 n] 23 := (Blk.at (by simp) : Blk (w.alloc (.cells #[.int .i64 14, .string id, .int .i64 sg, .int .i64 n] 23)) (w.heap.size) [.int .i64 14, .string id, .int .i64 sg, .int .i64 n] 23).later (by repeat (first | exact Below.refl _ _ | refine belAlloc ?_ _))
                  have eeF := Blk.keepF eeB
                  replace eeB := Blk.keepB eeB
                  clear hb2 hbel
                  generalize w.alloc (.cells #[.int .i64 14, .string id, .int .i64 sg, .int .i64 n] 23) = W1 at *
                  replace ee0 := keep ee0
                  replace ee1 := keep ee1
                  replace ee2 := keep ee2
                  replace ee3 := keep ee3
                  have hbel : Below W1.heap.size W1 W1 := Below.refl _ _
                  skip
                  go_wp2_with (first | (go_at_call 24; (with_reducible refine (CW.out _).mono ?_); rintro e9 w9 ⟨rfl, hb9⟩; replace hbel := belStep hbel hb9; clear hb9) | (go_at_call 25; (with_reducible refine (CD.out _).mono ?_); rintro e9 w9 ⟨rfl, hb9⟩; replace hbel := belStep hbel hb9; clear hb9) | (go_at_call 26; (with_reducible refine (CN.out _).mono ?_); rintro e9 w9 ⟨rfl, rfl⟩))
                  go_ret2
                  exact ⟨rln_no (line_noT (by unfold tailE; simp [hwd, h4])), belStep hw hbel⟩
          · by_cases hq5 : k = 5
            · subst hq5
              clear hk
              cases hwd : wordB id.data.toList with
              | false =>
                rw [hwd] at CN
                go_enter Tryd.func12, Tryd.ntmps12
                go_upto_region 1 with fail
                have ee0 : (w.alloc (.cells #[.int .i64 5, .string id, .int .i64 sg, .int .i64 n] 23)).cell? ⟨w.heap.size, 0, none⟩ = some (.int .i64 5) := by first | (simp; done) | (rw [World.cell?_alloc_at _ _ _ _ (by simp)]; rfl) | (rw [World.cell?_alloc_past _ _ _ (by simp <;> omega), World.cell?_alloc_at _ _ _ _ (by simp)]; rfl) | (rw [World.cell?_alloc_past _ _ _ (by simp <;> omega), World.cell?_alloc_past _ _ _ (by simp <;> omega), World.cell?_alloc_at _ _ _ _ (by simp)]; rfl)
                have ee1 : (w.alloc (.cells #[.int .i64 5, .string id, .int .i64 sg, .int .i64 n] 23)).cell? ⟨w.heap.size, 1, none⟩ = some (.string id) := by first | (simp; done) | (rw [World.cell?_alloc_at _ _ _ _ (by simp)]; rfl) | (rw [World.cell?_alloc_past _ _ _ (by simp <;> omega), World.cell?_alloc_at _ _ _ _ (by simp)]; rfl) | (rw [World.cell?_alloc_past _ _ _ (by simp <;> omega), World.cell?_alloc_past _ _ _ (by simp <;> omega), World.cell?_alloc_at _ _ _ _ (by simp)]; rfl)
                have ee2 : (w.alloc (.cells #[.int .i64 5, .string id, .int .i64 sg, .int .i64 n] 23)).cell? ⟨w.heap.size, 2, none⟩ = some (.int .i64 sg) := by first | (simp; done) | (rw [World.cell?_alloc_at _ _ _ _ (by simp)]; rfl) | (rw [World.cell?_alloc_past _ _ _ (by simp <;> omega), World.cell?_alloc_at _ _ _ _ (by simp)]; rfl) | (rw [World.cell?_alloc_past _ _ _ (by simp <;> omega), World.cell?_alloc_past _ _ _ (by simp <;> omega), World.cell?_alloc_at _ _ _ _ (by simp)]; rfl)
                have ee3 : (w.alloc (.cells #[.int .i64 5, .string id, .int .i64 sg, .int .i64 n] 23)).cell? ⟨w.heap.size, 3, none⟩ = some (.int .i64 n) := by first | (simp; done) | (rw [World.cell?_alloc_at _ _ _ _ (by simp)]; rfl) | (rw [World.cell?_alloc_past _ _ _ (by simp <;> omega), World.cell?_alloc_at _ _ _ _ (by simp)]; rfl) | (rw [World.cell?_alloc_past _ _ _ (by simp <;> omega), World.cell?_alloc_past _ _ _ (by simp <;> omega), World.cell?_alloc_at _ _ _ _ (by simp)]; rfl)
                have hb2 := (by repeat (first | exact hbel | refine belAlloc ?_ _ | refine belDrew ?_ | refine belSet ?_ _ _ (by simp)) : Below w.heap.size w (w.alloc (.cells #[.int .i64 5, .string id, .int .i64 sg, .int .i64 n] 23)))
                replace hw := belStep hw hb2
                have eeB : Blk (w.alloc (.cells #[.int .i64 5, .string id, .int .i64 sg, .int .i64 n] 23)) (w.heap.size) [.int .i64 5, .string id, .int .i64 sg, .int .i64 n] 23 := (Blk.at (by simp) : Blk (w.alloc (.cells #[.int .i64 5, .string id, .int .i64 sg, .int .i64 n] 23)) (w.heap.size) [.int .i64 5, .string id, .int .i64 sg, .int .i64 n] 23).later (by repeat (first | exact Below.refl _ _ | refine belAlloc ?_ _))
                have eeF := Blk.keepF eeB
                replace eeB := Blk.keepB eeB
                clear hb2 hbel
                generalize w.alloc (.cells #[.int .i64 5, .string id, .int .i64 sg, .int .i64 n] 23) = W1 at *
                replace ee0 := keep ee0
                replace ee1 := keep ee1
                replace ee2 := keep ee2
                replace ee3 := keep ee3
                have hbel : Below W1.heap.size W1 W1 := Below.refl _ _
                skip
                go_wp2_with (first | (go_at_call 24; (with_reducible refine (CW.out _).mono ?_); rintro e9 w9 ⟨rfl, hb9⟩; replace hbel := belStep hbel hb9; clear hb9) | (go_at_call 25; (with_reducible refine (CD.out _).mono ?_); rintro e9 w9 ⟨rfl, hb9⟩; replace hbel := belStep hbel hb9; clear hb9) | (go_at_call 26; (with_reducible refine (CN.out _).mono ?_); rintro e9 w9 ⟨rfl, rfl⟩))
                go_ret2
                exact ⟨rln_no (line_noT (by unfold tailE; simp [hwd])), belStep hw hbel⟩
              | true =>
                rw [hwd] at CN
                have hil : id.size ≤ 60 := word_len hwd
                have s4 : ¬ 9223372036854775807 < td.size + 1 + tk.size + 1 + id.size := by omega
                have s5 : ¬ 9223372036854775807 < td.size + 1 + tk.size + 1 + id.size + 1 := by omega
                by_cases h3 : sg < 0
                · have t3 : decide (sg < 0) = true := decide_eq_true h3
                  go_enter Tryd.func12, Tryd.ntmps12
                  go_upto_region 1 with fail
                  have ee0 : (w.alloc (.cells #[.int .i64 5, .string id, .int .i64 sg, .int .i64 n] 23)).cell? ⟨w.heap.size, 0, none⟩ = some (.int .i64 5) := by first | (simp; done) | (rw [World.cell?_alloc_at _ _ _ _ (by simp)]; rfl) | (rw [World.cell?_alloc_past _ _ _ (by simp <;> omega), World.cell?_alloc_at _ _ _ _ (by simp)]; rfl) | (rw [World.cell?_alloc_past _ _ _ (by simp <;> omega), World.cell?_alloc_past _ _ _ (by simp <;> omega), World.cell?_alloc_at _ _ _ _ (by simp)]; rfl)
                  have ee1 : (w.alloc (.cells #[.int .i64 5, .string id, .int .i64 sg, .int .i64 n] 23)).cell? ⟨w.heap.size, 1, none⟩ = some (.string id) := by first | (simp; done) | (rw [World.cell?_alloc_at _ _ _ _ (by simp)]; rfl) | (rw [World.cell?_alloc_past _ _ _ (by simp <;> omega), World.cell?_alloc_at _ _ _ _ (by simp)]; rfl) | (rw [World.cell?_alloc_past _ _ _ (by simp <;> omega), World.cell?_alloc_past _ _ _ (by simp <;> omega), World.cell?_alloc_at _ _ _ _ (by simp)]; rfl)
                  have ee2 : (w.alloc (.cells #[.int .i64 5, .string id, .int .i64 sg, .int .i64 n] 23)).cell? ⟨w.heap.size, 2, none⟩ = some (.int .i64 sg) := by first | (simp; done) | (rw [World.cell?_alloc_at _ _ _ _ (by simp)]; rfl) | (rw [World.cell?_alloc_past _ _ _ (by simp <;> omega), World.cell?_alloc_at _ _ _ _ (by simp)]; rfl) | (rw [World.cell?_alloc_past _ _ _ (by simp <;> omega), World.cell?_alloc_past _ _ _ (by simp <;> omega), World.cell?_alloc_at _ _ _ _ (by simp)]; rfl)
                  have ee3 : (w.alloc (.cells #[.int .i64 5, .string id, .int .i64 sg, .int .i64 n] 23)).cell? ⟨w.heap.size, 3, none⟩ = some (.int .i64 n) := by first | (simp; done) | (rw [World.cell?_alloc_at _ _ _ _ (by simp)]; rfl) | (rw [World.cell?_alloc_past _ _ _ (by simp <;> omega), World.cell?_alloc_at _ _ _ _ (by simp)]; rfl) | (rw [World.cell?_alloc_past _ _ _ (by simp <;> omega), World.cell?_alloc_past _ _ _ (by simp <;> omega), World.cell?_alloc_at _ _ _ _ (by simp)]; rfl)
                  have hb2 := (by repeat (first | exact hbel | refine belAlloc ?_ _ | refine belDrew ?_ | refine belSet ?_ _ _ (by simp)) : Below w.heap.size w (w.alloc (.cells #[.int .i64 5, .string id, .int .i64 sg, .int .i64 n] 23)))
                  replace hw := belStep hw hb2
                  have eeB : Blk (w.alloc (.cells #[.int .i64 5, .string id, .int .i64 sg, .int .i64 n] 23)) (w.heap.size) [.int .i64 5, .string id, .int .i64 sg, .int .i64 n] 23 := (Blk.at (by simp) : Blk (w.alloc (.cells #[.int .i64 5, .string id, .int .i64 sg, .int .i64 n] 23)) (w.heap.size) [.int .i64 5, .string id, .int .i64 sg, .int .i64 n] 23).later (by repeat (first | exact Below.refl _ _ | refine belAlloc ?_ _))
                  have eeF := Blk.keepF eeB
                  replace eeB := Blk.keepB eeB
                  clear hb2 hbel
                  generalize w.alloc (.cells #[.int .i64 5, .string id, .int .i64 sg, .int .i64 n] 23) = W1 at *
                  replace ee0 := keep ee0
                  replace ee1 := keep ee1
                  replace ee2 := keep ee2
                  replace ee3 := keep ee3
                  have hbel : Below W1.heap.size W1 W1 := Below.refl _ _
                  skip
                  go_wp2_with (first | (go_at_call 24; (with_reducible refine (CW.out _).mono ?_); rintro e9 w9 ⟨rfl, hb9⟩; replace hbel := belStep hbel hb9; clear hb9) | (go_at_call 25; (with_reducible refine (CD.out _).mono ?_); rintro e9 w9 ⟨rfl, hb9⟩; replace hbel := belStep hbel hb9; clear hb9) | (go_at_call 26; (with_reducible refine (CN.out _).mono ?_); rintro e9 w9 ⟨rfl, rfl⟩))
                  go_ret2
                  exact ⟨rln_no (line_noT (by unfold tailE; simp [hwd, show ¬ 0 ≤ sg by omega])), belStep hw hbel⟩
                · have t3 : decide (sg < 0) = false := decide_eq_false h3
                  by_cases h4 : 2 < sg
                  · have t4 : decide ((2 : Int) < sg) = true := decide_eq_true h4
                    go_enter Tryd.func12, Tryd.ntmps12
                    go_upto_region 1 with fail
                    have ee0 : (w.alloc (.cells #[.int .i64 5, .string id, .int .i64 sg, .int .i64 n] 23)).cell? ⟨w.heap.size, 0, none⟩ = some (.int .i64 5) := by first | (simp; done) | (rw [World.cell?_alloc_at _ _ _ _ (by simp)]; rfl) | (rw [World.cell?_alloc_past _ _ _ (by simp <;> omega), World.cell?_alloc_at _ _ _ _ (by simp)]; rfl) | (rw [World.cell?_alloc_past _ _ _ (by simp <;> omega), World.cell?_alloc_past _ _ _ (by simp <;> omega), World.cell?_alloc_at _ _ _ _ (by simp)]; rfl)
                    have ee1 : (w.alloc (.cells #[.int .i64 5, .string id, .int .i64 sg, .int .i64 n] 23)).cell? ⟨w.heap.size, 1, none⟩ = some (.string id) := by first | (simp; done) | (rw [World.cell?_alloc_at _ _ _ _ (by simp)]; rfl) | (rw [World.cell?_alloc_past _ _ _ (by simp <;> omega), World.cell?_alloc_at _ _ _ _ (by simp)]; rfl) | (rw [World.cell?_alloc_past _ _ _ (by simp <;> omega), World.cell?_alloc_past _ _ _ (by simp <;> omega), World.cell?_alloc_at _ _ _ _ (by simp)]; rfl)
                    have ee2 : (w.alloc (.cells #[.int .i64 5, .string id, .int .i64 sg, .int .i64 n] 23)).cell? ⟨w.heap.size, 2, none⟩ = some (.int .i64 sg) := by first | (simp; done) | (rw [World.cell?_alloc_at _ _ _ _ (by simp)]; rfl) | (rw [World.cell?_alloc_past _ _ _ (by simp <;> omega), World.cell?_alloc_at _ _ _ _ (by simp)]; rfl) | (rw [World.cell?_alloc_past _ _ _ (by simp <;> omega), World.cell?_alloc_past _ _ _ (by simp <;> omega), World.cell?_alloc_at _ _ _ _ (by simp)]; rfl)
                    have ee3 : (w.alloc (.cells #[.int .i64 5, .string id, .int .i64 sg, .int .i64 n] 23)).cell? ⟨w.heap.size, 3, none⟩ = some (.int .i64 n) := by first | (simp; done) | (rw [World.cell?_alloc_at _ _ _ _ (by simp)]; rfl) | (rw [World.cell?_alloc_past _ _ _ (by simp <;> omega), World.cell?_alloc_at _ _ _ _ (by simp)]; rfl) | (rw [World.cell?_alloc_past _ _ _ (by simp <;> omega), World.cell?_alloc_past _ _ _ (by simp <;> omega), World.cell?_alloc_at _ _ _ _ (by simp)]; rfl)
                    have hb2 := (by repeat (first | exact hbel | refine belAlloc ?_ _ | refine belDrew ?_ | refine belSet ?_ _ _ (by simp)) : Below w.heap.size w (w.alloc (.cells #[.int .i64 5, .string id, .int .i64 sg, .int .i64 n] 23)))
                    replace hw := belStep hw hb2
                    have eeB : Blk (w.alloc (.cells #[.int .i64 5, .string id, .int .i64 sg, .int .i64 n] 23)) (w.heap.size) [.int .i64 5, .string id, .int .i64 sg, .int .i64 n] 23 := (Blk.at (by simp) : Blk (w.alloc (.cells #[.int .i64 5, .string id, .int .i64 sg, .int .i64 n] 23)) (w.heap.size) [.int .i64 5, .string id, .int .i64 sg, .int .i64 n] 23).later (by repeat (first | exact Below.refl _ _ | refine belAlloc ?_ _))
                    have eeF := Blk.keepF eeB
                    replace eeB := Blk.keepB eeB
                    clear hb2 hbel
                    generalize w.alloc (.cells #[.int .i64 5, .string id, .int .i64 sg, .int .i64 n] 23) = W1 at *
                    replace ee0 := keep ee0
                    replace ee1 := keep ee1
                    replace ee2 := keep ee2
                    replace ee3 := keep ee3
                    have hbel : Below W1.heap.size W1 W1 := Below.refl _ _
                    skip
                    go_wp2_with (first | (go_at_call 24; (with_reducible refine (CW.out _).mono ?_); rintro e9 w9 ⟨rfl, hb9⟩; replace hbel := belStep hbel hb9; clear hb9) | (go_at_call 25; (with_reducible refine (CD.out _).mono ?_); rintro e9 w9 ⟨rfl, hb9⟩; replace hbel := belStep hbel hb9; clear hb9) | (go_at_call 26; (with_reducible refine (CN.out _).mono ?_); rintro e9 w9 ⟨rfl, rfl⟩))
                    go_ret2
                    exact ⟨rln_no (line_noT (by unfold tailE; simp [hwd, show ¬ sg ≤ 2 by omega])), belStep hw hbel⟩
                  · have t4 : decide ((2 : Int) < sg) = false := decide_eq_false h4
                    by_cases h5 : n = 0
                    · subst h5
                      have CS := Lib.hid (fun u => ref_Word sg u (by omega))
                      rw [wB_sg (show 0 ≤ sg ∧ sg ≤ 2 by omega)] at CS
                      obtain ⟨ts, hts⟩ : ∃ x, bA (sgE sg.toNat) = x := ⟨_, rfl⟩
                      rw [hts] at CS
                      have HTS := Lib.hid (show ts.data.toList = sgE sg.toNat from by rw [← hts, bA_data])
                      have hsl : ts.size ≤ 6 := by rw [← hts, bA_size]; exact sgE_size _
                      clear hts
                      have s6 : ¬ 9223372036854775807 < td.size + 1 + tk.size + 1 + id.size + 1 + ts.size := by omega
                      go_enter Tryd.func12, Tryd.ntmps12
                      go_upto_region 1 with fail
                      have ee0 : (w.alloc (.cells #[.int .i64 5, .string id, .int .i64 sg, .int .i64 0] 23)).cell? ⟨w.heap.size, 0, none⟩ = some (.int .i64 5) := by first | (simp; done) | (rw [World.cell?_alloc_at _ _ _ _ (by simp)]; rfl) | (rw [World.cell?_alloc_past _ _ _ (by simp <;> omega), World.cell?_alloc_at _ _ _ _ (by simp)]; rfl) | (rw [World.cell?_alloc_past _ _ _ (by simp <;> omega), World.cell?_alloc_past _ _ _ (by simp <;> omega), World.cell?_alloc_at _ _ _ _ (by simp)]; rfl)
                      have ee1 : (w.alloc (.cells #[.int .i64 5, .string id, .int .i64 sg, .int .i64 0] 23)).cell? ⟨w.heap.size, 1, none⟩ = some (.string id) := by first | (simp; done) | (rw [World.cell?_alloc_at _ _ _ _ (by simp)]; rfl) | (rw [World.cell?_alloc_past _ _ _ (by simp <;> omega), World.cell?_alloc_at _ _ _ _ (by simp)]; rfl) | (rw [World.cell?_alloc_past _ _ _ (by simp <;> omega), World.cell?_alloc_past _ _ _ (by simp <;> omega), World.cell?_alloc_at _ _ _ _ (by simp)]; rfl)
                      have ee2 : (w.alloc (.cells #[.int .i64 5, .string id, .int .i64 sg, .int .i64 0] 23)).cell? ⟨w.heap.size, 2, none⟩ = some (.int .i64 sg) := by first | (simp; done) | (rw [World.cell?_alloc_at _ _ _ _ (by simp)]; rfl) | (rw [World.cell?_alloc_past _ _ _ (by simp <;> omega), World.cell?_alloc_at _ _ _ _ (by simp)]; rfl) | (rw [World.cell?_alloc_past _ _ _ (by simp <;> omega), World.cell?_alloc_past _ _ _ (by simp <;> omega), World.cell?_alloc_at _ _ _ _ (by simp)]; rfl)
                      have ee3 : (w.alloc (.cells #[.int .i64 5, .string id, .int .i64 sg, .int .i64 0] 23)).cell? ⟨w.heap.size, 3, none⟩ = some (.int .i64 0) := by first | (simp; done) | (rw [World.cell?_alloc_at _ _ _ _ (by simp)]; rfl) | (rw [World.cell?_alloc_past _ _ _ (by simp <;> omega), World.cell?_alloc_at _ _ _ _ (by simp)]; rfl) | (rw [World.cell?_alloc_past _ _ _ (by simp <;> omega), World.cell?_alloc_past _ _ _ (by simp <;> omega), World.cell?_alloc_at _ _ _ _ (by simp)]; rfl)
                      have hb2 := (by repeat (first | exact hbel | refine belAlloc ?_ _ | refine belDrew ?_ | refine belSet ?_ _ _ (by simp)) : Below w.heap.size w (w.alloc (.cells #[.int .i64 5, .string id, .int .i64 sg, .int .i64 0] 23)))
                      replace hw := belStep hw hb2
                      have eeB : Blk (w.alloc (.cells #[.int .i64 5, .string id, .int .i64 sg, .int .i64 0] 23)) (w.heap.size) [.int .i64 5, .string id, .int .i64 sg, .int .i64 0] 23 := (Blk.at (by simp) : Blk (w.alloc (.cells #[.int .i64 5, .string id, .int .i64 sg, .int .i64 0] 23)) (w.heap.size) [.int .i64 5, .string id, .int .i64 sg, .int .i64 0] 23).later (by repeat (first | exact Below.refl _ _ | refine belAlloc ?_ _))
                      have eeF := Blk.keepF eeB
                      replace eeB := Blk.keepB eeB
                      clear hb2 hbel
                      generalize w.alloc (.cells #[.int .i64 5, .string id, .int .i64 sg, .int .i64 0] 23) = W1 at *
                      replace ee0 := keep ee0
                      replace ee1 := keep ee1
                      replace ee2 := keep ee2
                      replace ee3 := keep ee3
                      have hbel : Below W1.heap.size W1 W1 := Below.refl _ _
                      skip
                      go_wp2_with (first | (go_at_call 24; (with_reducible refine (CW.out _).mono ?_); rintro e9 w9 ⟨rfl, hb9⟩; replace hbel := belStep hbel hb9; clear hb9) | (go_at_call 25; (with_reducible refine (CD.out _).mono ?_); rintro e9 w9 ⟨rfl, hb9⟩; replace hbel := belStep hbel hb9; clear hb9) | (go_at_call 26; (with_reducible refine (CN.out _).mono ?_); rintro e9 w9 ⟨rfl, rfl⟩) | (go_at_call 27; (with_reducible refine (CS.out _).mono ?_); rintro e9 w9 ⟨rfl, rfl⟩))
                      go_ret2
                      exact ⟨rln_yes (line_yesT HRR.out (by dsimp only; omega) (show tailE ⟨5, id, sg, 0⟩ = some [id.data.toList, sgE sg.toNat] from by unfold tailE; simp [hwd, show 0 ≤ sg by omega, show sg ≤ 2 by omega])) (by simp only [ByteArray.data_append, Array.toList_append, HTD.out, HTK.out, HTS.out]; simp [joinW, pressL]), belStep hw hbel⟩
                    · have t5 : (n == 0) = false := beq_eq_false_iff_ne.2 h5
                      have t5n : (n != 0) = true := bne_iff_ne.2 h5
                      go_enter Tryd.func12, Tryd.ntmps12
                      go_upto_region 1 with fail
                      have ee0 : (w.alloc (.cells #[.int .i64 5, .string id, .int .i64 sg, .int .i64 n] 23)).cell? ⟨w.heap.size, 0, none⟩ = some (.int .i64 5) := by first | (simp; done) | (rw [World.cell?_alloc_at _ _ _ _ (by simp)]; rfl) | (rw [World.cell?_alloc_past _ _ _ (by simp <;> omega), World.cell?_alloc_at _ _ _ _ (by simp)]; rfl) | (rw [World.cell?_alloc_past _ _ _ (by simp <;> omega), World.cell?_alloc_past _ _ _ (by simp <;> omega), World.cell?_alloc_at _ _ _ _ (by simp)]; rfl)
                      have ee1 : (w.alloc (.cells #[.int .i64 5, .string id, .int .i64 sg, .int .i64 n] 23)).cell? ⟨w.heap.size, 1, none⟩ = some (.string id) := by first | (simp; done) | (rw [World.cell?_alloc_at _ _ _ _ (by simp)]; rfl) | (rw [World.cell?_alloc_past _ _ _ (by simp <;> omega), World.cell?_alloc_at _ _ _ _ (by simp)]; rfl) | (rw [World.cell?_alloc_past _ _ _ (by simp <;> omega), World.cell?_alloc_past _ _ _ (by simp <;> omega), World.cell?_alloc_at _ _ _ _ (by simp)]; rfl)
                      have ee2 : (w.alloc (.cells #[.int .i64 5, .string id, .int .i64 sg, .int .i64 n] 23)).cell? ⟨w.heap.size, 2, none⟩ = some (.int .i64 sg) := by first | (simp; done) | (rw [World.cell?_alloc_at _ _ _ _ (by simp)]; rfl) | (rw [World.cell?_alloc_past _ _ _ (by simp <;> omega), World.cell?_alloc_at _ _ _ _ (by simp)]; rfl) | (rw [World.cell?_alloc_past _ _ _ (by simp <;> omega), World.cell?_alloc_past _ _ _ (by simp <;> omega), World.cell?_alloc_at _ _ _ _ (by simp)]; rfl)
                      have ee3 : (w.alloc (.cells #[.int .i64 5, .string id, .int .i64 sg, .int .i64 n] 23)).cell? ⟨w.heap.size, 3, none⟩ = some (.int .i64 n) := by first | (simp; done) | (rw [World.cell?_alloc_at _ _ _ _ (by simp)]; rfl) | (rw [World.cell?_alloc_past _ _ _ (by simp <;> omega), World.cell?_alloc_at _ _ _ _ (by simp)]; rfl) | (rw [World.cell?_alloc_past _ _ _ (by simp <;> omega), World.cell?_alloc_past _ _ _ (by simp <;> omega), World.cell?_alloc_at _ _ _ _ (by simp)]; rfl)
                      have hb2 := (by repeat (first | exact hbel | refine belAlloc ?_ _ | refine belDrew ?_ | refine belSet ?_ _ _ (by simp)) : Below w.heap.size w (w.alloc (.cells #[.int .i64 5, .string id, .int .i64 sg, .int .i64 n] 23)))
                      replace hw := belStep hw hb2
                      have eeB : Blk (w.alloc (.cells #[.int .i64 5, .string id, .int .i64 sg, .int .i64 n] 23)) (w.heap.size) [.int .i64 5, .string id, .int .i64 sg, .int .i64 n] 23 := (Blk.at (by simp) : Blk (w.alloc (.cells #[.int .i64 5, .string id, .int .i64 sg, .int .i64 n] 23)) (w.heap.size) [.int .i64 5, .string id, .int .i64 sg, .int .i64 n] 23).later (by repeat (first | exact Below.refl _ _ | refine belAlloc ?_ _))
                      have eeF := Blk.keepF eeB
                      replace eeB := Blk.keepB eeB
                      clear hb2 hbel
                      generalize w.alloc (.cells #[.int .i64 5, .string id, .int .i64 sg, .int .i64 n] 23) = W1 at *
                      replace ee0 := keep ee0
                      replace ee1 := keep ee1
                      replace ee2 := keep ee2
                      replace ee3 := keep ee3
                      have hbel : Below W1.heap.size W1 W1 := Below.refl _ _
                      skip
                      go_wp2_with (first | (go_at_call 24; (with_reducible refine (CW.out _).mono ?_); rintro e9 w9 ⟨rfl, hb9⟩; replace hbel := belStep hbel hb9; clear hb9) | (go_at_call 25; (with_reducible refine (CD.out _).mono ?_); rintro e9 w9 ⟨rfl, hb9⟩; replace hbel := belStep hbel hb9; clear hb9) | (go_at_call 26; (with_reducible refine (CN.out _).mono ?_); rintro e9 w9 ⟨rfl, rfl⟩))
                      go_ret2
                      exact ⟨rln_no (line_noT (by unfold tailE; simp [hwd, h5])), belStep hw hbel⟩
            · by_cases hq16 : k = 16
              · subst hq16
                clear hk
                by_cases hid0 : id.data.toList = []
                · obtain rfl : id = ⟨#[]⟩ := ext_data (by rw [hid0])
                  by_cases h3 : n < 0
                  · have t3 : decide (n < 0) = true := decide_eq_true h3
                    go_enter Tryd.func12, Tryd.ntmps12
                    go_upto_region 1 with fail
                    have ee0 : (w.alloc (.cells #[.int .i64 16, .string ⟨#[]⟩, .int .i64 sg, .int .i64 n] 23)).cell? ⟨w.heap.size, 0, none⟩ = some (.int .i64 16) := by first | (simp; done) | (rw [World.cell?_alloc_at _ _ _ _ (by simp)]; rfl) | (rw [World.cell?_alloc_past _ _ _ (by simp <;> omega), World.cell?_alloc_at _ _ _ _ (by simp)]; rfl) | (rw [World.cell?_alloc_past _ _ _ (by simp <;> omega), World.cell?_alloc_past _ _ _ (by simp <;> omega), World.cell?_alloc_at _ _ _ _ (by simp)]; rfl)
                    have ee1 : (w.alloc (.cells #[.int .i64 16, .string ⟨#[]⟩, .int .i64 sg, .int .i64 n] 23)).cell? ⟨w.heap.size, 1, none⟩ = some (.string ⟨#[]⟩) := by first | (simp; done) | (rw [World.cell?_alloc_at _ _ _ _ (by simp)]; rfl) | (rw [World.cell?_alloc_past _ _ _ (by simp <;> omega), World.cell?_alloc_at _ _ _ _ (by simp)]; rfl) | (rw [World.cell?_alloc_past _ _ _ (by simp <;> omega), World.cell?_alloc_past _ _ _ (by simp <;> omega), World.cell?_alloc_at _ _ _ _ (by simp)]; rfl)
                    have ee2 : (w.alloc (.cells #[.int .i64 16, .string ⟨#[]⟩, .int .i64 sg, .int .i64 n] 23)).cell? ⟨w.heap.size, 2, none⟩ = some (.int .i64 sg) := by first | (simp; done) | (rw [World.cell?_alloc_at _ _ _ _ (by simp)]; rfl) | (rw [World.cell?_alloc_past _ _ _ (by simp <;> omega), World.cell?_alloc_at _ _ _ _ (by simp)]; rfl) | (rw [World.cell?_alloc_past _ _ _ (by simp <;> omega), World.cell?_alloc_past _ _ _ (by simp <;> omega), World.cell?_alloc_at _ _ _ _ (by simp)]; rfl)
                    have ee3 : (w.alloc (.cells #[.int .i64 16, .string ⟨#[]⟩, .int .i64 sg, .int .i64 n] 23)).cell? ⟨w.heap.size, 3, none⟩ = some (.int .i64 n) := by first | (simp; done) | (rw [World.cell?_alloc_at _ _ _ _ (by simp)]; rfl) | (rw [World.cell?_alloc_past _ _ _ (by simp <;> omega), World.cell?_alloc_at _ _ _ _ (by simp)]; rfl) | (rw [World.cell?_alloc_past _ _ _ (by simp <;> omega), World.cell?_alloc_past _ _ _ (by simp <;> omega), World.cell?_alloc_at _ _ _ _ (by simp)]; rfl)
                    have hb2 := (by repeat (first | exact hbel | refine belAlloc ?_ _ | refine belDrew ?_ | refine belSet ?_ _ _ (by simp)) : Below w.heap.size w (w.alloc (.cells #[.int .i64 16, .string ⟨#[]⟩, .int .i64 sg, .int .i64 n] 23)))
                    replace hw := belStep hw hb2
                    have eeB : Blk (w.alloc (.cells #[.int .i64 16, .string ⟨#[]⟩, .int .i64 sg, .int .i64 n] 23)) (w.heap.size) [.int .i64 16, .string ⟨#[]⟩, .int .i64 sg, .int .i64 n] 23 := (Blk.at (by simp) : Blk (w.alloc (.cells #[.int .i64 16, .string ⟨#[]⟩, .int .i64 sg, .int .i64 n] 23)) (w.heap.size) [.int .i64 16, .string ⟨#[]⟩, .int .i64 sg, .int .i64 n] 23).later (by repeat (first | exact Below.refl _ _ | refine belAlloc ?_ _))
                    have eeF := Blk.keepF eeB
                    replace eeB := Blk.keepB eeB
                    clear hb2 hbel
                    generalize w.alloc (.cells #[.int .i64 16, .string ⟨#[]⟩, .int .i64 sg, .int .i64 n] 23) = W1 at *
                    replace ee0 := keep ee0
                    replace ee1 := keep ee1
                    replace ee2 := keep ee2
                    replace ee3 := keep ee3
                    have hbel : Below W1.heap.size W1 W1 := Below.refl _ _
                    skip
                    go_wp2_with (first | (go_at_call 24; (with_reducible refine (CW.out _).mono ?_); rintro e9 w9 ⟨rfl, hb9⟩; replace hbel := belStep hbel hb9; clear hb9) | (go_at_call 25; (with_reducible refine (CD.out _).mono ?_); rintro e9 w9 ⟨rfl, hb9⟩; replace hbel := belStep hbel hb9; clear hb9) | (go_at_call 26; (with_reducible refine (CN.out _).mono ?_); rintro e9 w9 ⟨rfl, rfl⟩))
                    go_ret2
                    exact ⟨rln_no (line_noT (by unfold tailE; simp [show ¬ 0 ≤ n by omega])), belStep hw hbel⟩
                  · have t3 : decide (n < 0) = false := decide_eq_false h3
                    by_cases h4 : sg = 0
                    · subst h4
                      have CDn := Lib.hid (fun u => Digits_any n (by omega) HNI.out.2 u)
                      obtain ⟨tn, htn⟩ : ∃ x, ddB n.toNat = x := ⟨_, rfl⟩
                      rw [htn] at CDn
                      have HTN := Lib.hid (show tn.data.toList = decDigits n.toNat from by rw [← htn]; rfl)
                      have hnl : tn.size ≤ 21 := by rw [← htn]; exact ddB_size _ (by have := HNI.out.2; omega)
                      clear htn
                      have s6 : ¬ 9223372036854775807 < td.size + 1 + tk.size + 1 + tn.size := by omega
                      go_enter Tryd.func12, Tryd.ntmps12
                      go_upto_region 1 with fail
                      have ee0 : (w.alloc (.cells #[.int .i64 16, .string ⟨#[]⟩, .int .i64 0, .int .i64 n] 23)).cell? ⟨w.heap.size, 0, none⟩ = some (.int .i64 16) := by first | (simp; done) | (rw [World.cell?_alloc_at _ _ _ _ (by simp)]; rfl) | (rw [World.cell?_alloc_past _ _ _ (by simp <;> omega), World.cell?_alloc_at _ _ _ _ (by simp)]; rfl) | (rw [World.cell?_alloc_past _ _ _ (by simp <;> omega), World.cell?_alloc_past _ _ _ (by simp <;> omega), World.cell?_alloc_at _ _ _ _ (by simp)]; rfl)
                      have ee1 : (w.alloc (.cells #[.int .i64 16, .string ⟨#[]⟩, .int .i64 0, .int .i64 n] 23)).cell? ⟨w.heap.size, 1, none⟩ = some (.string ⟨#[]⟩) := by first | (simp; done) | (rw [World.cell?_alloc_at _ _ _ _ (by simp)]; rfl) | (rw [World.cell?_alloc_past _ _ _ (by simp <;> omega), World.cell?_alloc_at _ _ _ _ (by simp)]; rfl) | (rw [World.cell?_alloc_past _ _ _ (by simp <;> omega), World.cell?_alloc_past _ _ _ (by simp <;> omega), World.cell?_alloc_at _ _ _ _ (by simp)]; rfl)
                      have ee2 : (w.alloc (.cells #[.int .i64 16, .string ⟨#[]⟩, .int .i64 0, .int .i64 n] 23)).cell? ⟨w.heap.size, 2, none⟩ = some (.int .i64 0) := by first | (simp; done) | (rw [World.cell?_alloc_at _ _ _ _ (by simp)]; rfl) | (rw [World.cell?_alloc_past _ _ _ (by simp <;> omega), World.cell?_alloc_at _ _ _ _ (by simp)]; rfl) | (rw [World.cell?_alloc_past _ _ _ (by simp <;> omega), World.cell?_alloc_past _ _ _ (by simp <;> omega), World.cell?_alloc_at _ _ _ _ (by simp)]; rfl)
                      have ee3 : (w.alloc (.cells #[.int .i64 16, .string ⟨#[]⟩, .int .i64 0, .int .i64 n] 23)).cell? ⟨w.heap.size, 3, none⟩ = some (.int .i64 n) := by first | (simp; done) | (rw [World.cell?_alloc_at _ _ _ _ (by simp)]; rfl) | (rw [World.cell?_alloc_past _ _ _ (by simp <;> omega), World.cell?_alloc_at _ _ _ _ (by simp)]; rfl) | (rw [World.cell?_alloc_past _ _ _ (by simp <;> omega), World.cell?_alloc_past _ _ _ (by simp <;> omega), World.cell?_alloc_at _ _ _ _ (by simp)]; rfl)
                      have hb2 := (by repeat (first | exact hbel | refine belAlloc ?_ _ | refine belDrew ?_ | refine belSet ?_ _ _ (by simp)) : Below w.heap.size w (w.alloc (.cells #[.int .i64 16, .string ⟨#[]⟩, .int .i64 0, .int .i64 n] 23)))
                      replace hw := belStep hw hb2
                      have eeB : Blk (w.alloc (.cells #[.int .i64 16, .string ⟨#[]⟩, .int .i64 0, .int .i64 n] 23)) (w.heap.size) [.int .i64 16, .string ⟨#[]⟩, .int .i64 0, .int .i64 n] 23 := (Blk.at (by simp) : Blk (w.alloc (.cells #[.int .i64 16, .string ⟨#[]⟩, .int .i64 0, .int .i64 n] 23)) (w.heap.size) [.int .i64 16, .string ⟨#[]⟩, .int .i64 0, .int .i64 n] 23).later (by repeat (first | exact Below.refl _ _ | refine belAlloc ?_ _))
                      have eeF := Blk.keepF eeB
                      replace eeB := Blk.keepB eeB
                      clear hb2 hbel
                      generalize w.alloc (.cells #[.int .i64 16, .string ⟨#[]⟩, .int .i64 0, .int .i64 n] 23) = W1 at *
                      replace ee0 := keep ee0
                      replace ee1 := keep ee1
                      replace ee2 := keep ee2
                      replace ee3 := keep ee3
                      have hbel : Below W1.heap.size W1 W1 := Below.refl _ _
                      skip
                      go_wp2_with (first | (go_at_call 24; (with_reducible refine (CW.out _).mono ?_); rintro e9 w9 ⟨rfl, hb9⟩; replace hbel := belStep hbel hb9; clear hb9) | (go_at_call 25; (with_reducible refine (CD.out _).mono ?_); rintro e9 w9 ⟨rfl, hb9⟩; replace hbel := belStep hbel hb9; clear hb9) | (go_at_call 26; (with_reducible refine (CN.out _).mono ?_); rintro e9 w9 ⟨rfl, rfl⟩) | (go_at_call 25; (with_reducible refine (CDn.out _).mono ?_); rintro e9 w9 ⟨rfl, hb9⟩; replace hbel := belStep hbel hb9; clear hb9))
                      go_ret2
                      exact ⟨rln_yes (line_yesT HRR.out (by dsimp only; omega) (show tailE ⟨16, ⟨#[]⟩, 0, n⟩ = some [decDigits n.toNat] from by unfold tailE; simp [show 0 ≤ n by omega])) (by simp only [ByteArray.data_append, Array.toList_append, HTD.out, HTK.out, HTN.out]; simp [joinW]), belStep hw hbel⟩
                    · have t4 : (sg == 0) = false := beq_eq_false_iff_ne.2 h4
                      have t4n : (sg != 0) = true := bne_iff_ne.2 h4
                      go_enter Tryd.func12, Tryd.ntmps12
                      go_upto_region 1 with fail
                      have ee0 : (w.alloc (.cells #[.int .i64 16, .string ⟨#[]⟩, .int .i64 sg, .int .i64 n] 23)).cell? ⟨w.heap.size, 0, none⟩ = some (.int .i64 16) := by first | (simp; done) | (rw [World.cell?_alloc_at _ _ _ _ (by simp)]; rfl) | (rw [World.cell?_alloc_past _ _ _ (by simp <;> omega), World.cell?_alloc_at _ _ _ _ (by simp)]; rfl) | (rw [World.cell?_alloc_past _ _ _ (by simp <;> omega), World.cell?_alloc_past _ _ _ (by simp <;> omega), World.cell?_alloc_at _ _ _ _ (by simp)]; rfl)
                      have ee1 : (w.alloc (.cells #[.int .i64 16, .string ⟨#[]⟩, .int .i64 sg, .int .i64 n] 23)).cell? ⟨w.heap.size, 1, none⟩ = some (.string ⟨#[]⟩) := by first | (simp; done) | (rw [World.cell?_alloc_at _ _ _ _ (by simp)]; rfl) | (rw [World.cell?_alloc_past _ _ _ (by simp <;> omega), World.cell?_alloc_at _ _ _ _ (by simp)]; rfl) | (rw [World.cell?_alloc_past _ _ _ (by simp <;> omega), World.cell?_alloc_past _ _ _ (by simp <;> omega), World.cell?_alloc_at _ _ _ _ (by simp)]; rfl)
                      have ee2 : (w.alloc (.cells #[.int .i64 16, .string ⟨#[]⟩, .int .i64 sg, .int .i64 n] 23)).cell? ⟨w.heap.size, 2, none⟩ = some (.int .i64 sg) := by first | (simp; done) | (rw [World.cell?_alloc_at _ _ _ _ (by simp)]; rfl) | (rw [World.cell?_alloc_past _ _ _ (by simp <;> omega), World.cell?_alloc_at _ _ _ _ (by simp)]; rfl) | (rw [World.cell?_alloc_past _ _ _ (by simp <;> omega), World.cell?_alloc_past _ _ _ (by simp <;> omega), World.cell?_alloc_at _ _ _ _ (by simp)]; rfl)
                      have ee3 : (w.alloc (.cells #[.int .i64 16, .string ⟨#[]⟩, .int .i64 sg, .int .i64 n] 23)).cell? ⟨w.heap.size, 3, none⟩ = some (.int .i64 n) := by first | (simp; done) | (rw [World.cell?_alloc_at _ _ _ _ (by simp)]; rfl) | (rw [World.cell?_alloc_past _ _ _ (by simp <;> omega), World.cell?_alloc_at _ _ _ _ (by simp)]; rfl) | (rw [World.cell?_alloc_past _ _ _ (by simp <;> omega), World.cell?_alloc_past _ _ _ (by simp <;> omega), World.cell?_alloc_at _ _ _ _ (by simp)]; rfl)
                      have hb2 := (by repeat (first | exact hbel | refine belAlloc ?_ _ | refine belDrew ?_ | refine belSet ?_ _ _ (by simp)) : Below w.heap.size w (w.alloc (.cells #[.int .i64 16, .string ⟨#[]⟩, .int .i64 sg, .int .i64 n] 23)))
                      replace hw := belStep hw hb2
                      have eeB : Blk (w.alloc (.cells #[.int .i64 16, .string ⟨#[]⟩, .int .i64 sg, .int .i64 n] 23)) (w.heap.size) [.int .i64 16, .string ⟨#[]⟩, .int .i64 sg, .int .i64 n] 23 := (Blk.at (by simp) : Blk (w.alloc (.cells #[.int .i64 16, .string ⟨#[]⟩, .int .i64 sg, .int .i64 n] 23)) (w.heap.size) [.int .i64 16, .string ⟨#[]⟩, .int .i64 sg, .int .i64 n] 23).later (by repeat (first | exact Below.refl _ _ | refine belAlloc ?_ _))
                      have eeF := Blk.keepF eeB
                      replace eeB := Blk.keepB eeB
                      clear hb2 hbel
                      generalize w.alloc (.cells #[.int .i64 16, .string ⟨#[]⟩, .int .i64 sg, .int .i64 n] 23) = W1 at *
                      replace ee0 := keep ee0
                      replace ee1 := keep ee1
                      replace ee2 := keep ee2
                      replace ee3 := keep ee3
                      have hbel : Below W1.heap.size W1 W1 := Below.refl _ _
                      skip
                      go_wp2_with (first | (go_at_call 24; (with_reducible refine (CW.out _).mono ?_); rintro e9 w9 ⟨rfl, hb9⟩; replace hbel := belStep hbel hb9; clear hb9) | (go_at_call 25; (with_reducible refine (CD.out _).mono ?_); rintro e9 w9 ⟨rfl, hb9⟩; replace hbel := belStep hbel hb9; clear hb9) | (go_at_call 26; (with_reducible refine (CN.out _).mono ?_); rintro e9 w9 ⟨rfl, rfl⟩))
                      go_ret2
                      exact ⟨rln_no (line_noT (by unfold tailE; simp [h4])), belStep hw hbel⟩
                · have hie : (id.toList == []) = false := beq_eq_false_iff_ne.2 (by rw [sl]; exact hid0)
                  have hie2 : id.toList.isEmpty = false := by rw [sl]; cases h : id.data.toList with | nil => exact absurd h hid0 | cons a l => rfl
                  have hie3 : (id.toList != []) = true := by simp [hie, bne]
                  go_enter Tryd.func12, Tryd.ntmps12
                  go_upto_region 1 with fail
                  have ee0 : (w.alloc (.cells #[.int .i64 16, .string id, .int .i64 sg, .int .i64 n] 23)).cell? ⟨w.heap.size, 0, none⟩ = some (.int .i64 16) := by first | (simp; done) | (rw [World.cell?_alloc_at _ _ _ _ (by simp)]; rfl) | (rw [World.cell?_alloc_past _ _ _ (by simp <;> omega), World.cell?_alloc_at _ _ _ _ (by simp)]; rfl) | (rw [World.cell?_alloc_past _ _ _ (by simp <;> omega), World.cell?_alloc_past _ _ _ (by simp <;> omega), World.cell?_alloc_at _ _ _ _ (by simp)]; rfl)
                  have ee1 : (w.alloc (.cells #[.int .i64 16, .string id, .int .i64 sg, .int .i64 n] 23)).cell? ⟨w.heap.size, 1, none⟩ = some (.string id) := by first | (simp; done) | (rw [World.cell?_alloc_at _ _ _ _ (by simp)]; rfl) | (rw [World.cell?_alloc_past _ _ _ (by simp <;> omega), World.cell?_alloc_at _ _ _ _ (by simp)]; rfl) | (rw [World.cell?_alloc_past _ _ _ (by simp <;> omega), World.cell?_alloc_past _ _ _ (by simp <;> omega), World.cell?_alloc_at _ _ _ _ (by simp)]; rfl)
                  have ee2 : (w.alloc (.cells #[.int .i64 16, .string id, .int .i64 sg, .int .i64 n] 23)).cell? ⟨w.heap.size, 2, none⟩ = some (.int .i64 sg) := by first | (simp; done) | (rw [World.cell?_alloc_at _ _ _ _ (by simp)]; rfl) | (rw [World.cell?_alloc_past _ _ _ (by simp <;> omega), World.cell?_alloc_at _ _ _ _ (by simp)]; rfl) | (rw [World.cell?_alloc_past _ _ _ (by simp <;> omega), World.cell?_alloc_past _ _ _ (by simp <;> omega), World.cell?_alloc_at _ _ _ _ (by simp)]; rfl)
                  have ee3 : (w.alloc (.cells #[.int .i64 16, .string id, .int .i64 sg, .int .i64 n] 23)).cell? ⟨w.heap.size, 3, none⟩ = some (.int .i64 n) := by first | (simp; done) | (rw [World.cell?_alloc_at _ _ _ _ (by simp)]; rfl) | (rw [World.cell?_alloc_past _ _ _ (by simp <;> omega), World.cell?_alloc_at _ _ _ _ (by simp)]; rfl) | (rw [World.cell?_alloc_past _ _ _ (by simp <;> omega), World.cell?_alloc_past _ _ _ (by simp <;> omega), World.cell?_alloc_at _ _ _ _ (by simp)]; rfl)
                  have hb2 := (by repeat (first | exact hbel | refine belAlloc ?_ _ | refine belDrew ?_ | refine belSet ?_ _ _ (by simp)) : Below w.heap.size w (w.alloc (.cells #[.int .i64 16, .string id, .int .i64 sg, .int .i64 n] 23)))
                  replace hw := belStep hw hb2
                  have eeB : Blk (w.alloc (.cells #[.int .i64 16, .string id, .int .i64 sg, .int .i64 n] 23)) (w.heap.size) [.int .i64 16, .string id, .int .i64 sg, .int .i64 n] 23 := (Blk.at (by simp) : Blk (w.alloc (.cells #[.int .i64 16, .string id, .int .i64 sg, .int .i64 n] 23)) (w.heap.size) [.int .i64 16, .string id, .int .i64 sg, .int .i64 n] 23).later (by repeat (first | exact Below.refl _ _ | refine belAlloc ?_ _))
                  have eeF := Blk.keepF eeB
                  replace eeB := Blk.keepB eeB
                  clear hb2 hbel
                  generalize w.alloc (.cells #[.int .i64 16, .string id, .int .i64 sg, .int .i64 n] 23) = W1 at *
                  replace ee0 := keep ee0
                  replace ee1 := keep ee1
                  replace ee2 := keep ee2
                  replace ee3 := keep ee3
                  have hbel : Below W1.heap.size W1 W1 := Below.refl _ _
                  skip
                  go_wp2_with (first | (go_at_call 24; (with_reducible refine (CW.out _).mono ?_); rintro e9 w9 ⟨rfl, hb9⟩; replace hbel := belStep hbel hb9; clear hb9) | (go_at_call 25; (with_reducible refine (CD.out _).mono ?_); rintro e9 w9 ⟨rfl, hb9⟩; replace hbel := belStep hbel hb9; clear hb9) | (go_at_call 26; (with_reducible refine (CN.out _).mono ?_); rintro e9 w9 ⟨rfl, rfl⟩))
                  go_ret2
                  exact ⟨rln_no (line_noT (by unfold tailE; simp [hid0])), belStep hw hbel⟩
              · by_cases hq6 : k = 6
                · subst hq6
                  clear hk
                  by_cases hid0 : id.data.toList = []
                  · obtain rfl : id = ⟨#[]⟩ := ext_data (by rw [hid0])
                    by_cases h3 : sg < 0
                    · have t3 : decide (sg < 0) = true := decide_eq_true h3
                      go_enter Tryd.func12, Tryd.ntmps12
                      go_upto_region 1 with fail
                      have ee0 : (w.alloc (.cells #[.int .i64 6, .string ⟨#[]⟩, .int .i64 sg, .int .i64 n] 23)).cell? ⟨w.heap.size, 0, none⟩ = some (.int .i64 6) := by first | (simp; done) | (rw [World.cell?_alloc_at _ _ _ _ (by simp)]; rfl) | (rw [World.cell?_alloc_past _ _ _ (by simp <;> omega), World.cell?_alloc_at _ _ _ _ (by simp)]; rfl) | (rw [World.cell?_alloc_past _ _ _ (by simp <;> omega), World.cell?_alloc_past _ _ _ (by simp <;> omega), World.cell?_alloc_at _ _ _ _ (by simp)]; rfl)
                      have ee1 : (w.alloc (.cells #[.int .i64 6, .string ⟨#[]⟩, .int .i64 sg, .int .i64 n] 23)).cell? ⟨w.heap.size, 1, none⟩ = some (.string ⟨#[]⟩) := by first | (simp; done) | (rw [World.cell?_alloc_at _ _ _ _ (by simp)]; rfl) | (rw [World.cell?_alloc_past _ _ _ (by simp <;> omega), World.cell?_alloc_at _ _ _ _ (by simp)]; rfl) | (rw [World.cell?_alloc_past _ _ _ (by simp <;> omega), World.cell?_alloc_past _ _ _ (by simp <;> omega), World.cell?_alloc_at _ _ _ _ (by simp)]; rfl)
                      have ee2 : (w.alloc (.cells #[.int .i64 6, .string ⟨#[]⟩, .int .i64 sg, .int .i64 n] 23)).cell? ⟨w.heap.size, 2, none⟩ = some (.int .i64 sg) := by first | (simp; done) | (rw [World.cell?_alloc_at _ _ _ _ (by simp)]; rfl) | (rw [World.cell?_alloc_past _ _ _ (by simp <;> omega), World.cell?_alloc_at _ _ _ _ (by simp)]; rfl) | (rw [World.cell?_alloc_past _ _ _ (by simp <;> omega), World.cell?_alloc_past _ _ _ (by simp <;> omega), World.cell?_alloc_at _ _ _ _ (by simp)]; rfl)
                      have ee3 : (w.alloc (.cells #[.int .i64 6, .string ⟨#[]⟩, .int .i64 sg, .int .i64 n] 23)).cell? ⟨w.heap.size, 3, none⟩ = some (.int .i64 n) := by first | (simp; done) | (rw [World.cell?_alloc_at _ _ _ _ (by simp)]; rfl) | (rw [World.cell?_alloc_past _ _ _ (by simp <;> omega), World.cell?_alloc_at _ _ _ _ (by simp)]; rfl) | (rw [World.cell?_alloc_past _ _ _ (by simp <;> omega), World.cell?_alloc_past _ _ _ (by simp <;> omega), World.cell?_alloc_at _ _ _ _ (by simp)]; rfl)
                      have hb2 := (by repeat (first | exact hbel | refine belAlloc ?_ _ | refine belDrew ?_ | refine belSet ?_ _ _ (by simp)) : Below w.heap.size w (w.alloc (.cells #[.int .i64 6, .string ⟨#[]⟩, .int .i64 sg, .int .i64 n] 23)))
                      replace hw := belStep hw hb2
                      have eeB : Blk (w.alloc (.cells #[.int .i64 6, .string ⟨#[]⟩, .int .i64 sg, .int .i64 n] 23)) (w.heap.size) [.int .i64 6, .string ⟨#[]⟩, .int .i64 sg, .int .i64 n] 23 := (Blk.at (by simp) : Blk (w.alloc (.cells #[.int .i64 6, .string ⟨#[]⟩, .int .i64 sg, .int .i64 n] 23)) (w.heap.size) [.int .i64 6, .string ⟨#[]⟩, .int .i64 sg, .int .i64 n] 23).later (by repeat (first | exact Below.refl _ _ | refine belAlloc ?_ _))
                      have eeF := Blk.keepF eeB
                      replace eeB := Blk.keepB eeB
                      clear hb2 hbel
                      generalize w.alloc (.cells #[.int .i64 6, .string ⟨#[]⟩, .int .i64 sg, .int .i64 n] 23) = W1 at *
                      replace ee0 := keep ee0
                      replace ee1 := keep ee1
                      replace ee2 := keep ee2
                      replace ee3 := keep ee3
                      have hbel : Below W1.heap.size W1 W1 := Below.refl _ _
                      skip
                      go_wp2_with (first | (go_at_call 24; (with_reducible refine (CW.out _).mono ?_); rintro e9 w9 ⟨rfl, hb9⟩; replace hbel := belStep hbel hb9; clear hb9) | (go_at_call 25; (with_reducible refine (CD.out _).mono ?_); rintro e9 w9 ⟨rfl, hb9⟩; replace hbel := belStep hbel hb9; clear hb9) | (go_at_call 26; (with_reducible refine (CN.out _).mono ?_); rintro e9 w9 ⟨rfl, rfl⟩))
                      go_ret2
                      exact ⟨rln_no (line_noT (by unfold tailE; simp [show ¬ 0 ≤ sg by omega])), belStep hw hbel⟩
                    · have t3 : decide (sg < 0) = false := decide_eq_false h3
                      by_cases h4 : 2 < sg
                      · have t4 : decide ((2 : Int) < sg) = true := decide_eq_true h4
                        go_enter Tryd.func12, Tryd.ntmps12
                        go_upto_region 1 with fail
                        have ee0 : (w.alloc (.cells #[.int .i64 6, .string ⟨#[]⟩, .int .i64 sg, .int .i64 n] 23)).cell? ⟨w.heap.size, 0, none⟩ = some (.int .i64 6) := by first | (simp; done) | (rw [World.cell?_alloc_at _ _ _ _ (by simp)]; rfl) | (rw [World.cell?_alloc_past _ _ _ (by simp <;> omega), World.cell?_alloc_at _ _ _ _ (by simp)]; rfl) | (rw [World.cell?_alloc_past _ _ _ (by simp <;> omega), World.cell?_alloc_past _ _ _ (by simp <;> omega), World.cell?_alloc_at _ _ _ _ (by simp)]; rfl)
                        have ee1 : (w.alloc (.cells #[.int .i64 6, .string ⟨#[]⟩, .int .i64 sg, .int .i64 n] 23)).cell? ⟨w.heap.size, 1, none⟩ = some (.string ⟨#[]⟩) := by first | (simp; done) | (rw [World.cell?_alloc_at _ _ _ _ (by simp)]; rfl) | (rw [World.cell?_alloc_past _ _ _ (by simp <;> omega), World.cell?_alloc_at _ _ _ _ (by simp)]; rfl) | (rw [World.cell?_alloc_past _ _ _ (by simp <;> omega), World.cell?_alloc_past _ _ _ (by simp <;> omega), World.cell?_alloc_at _ _ _ _ (by simp)]; rfl)
                        have ee2 : (w.alloc (.cells #[.int .i64 6, .string ⟨#[]⟩, .int .i64 sg, .int .i64 n] 23)).cell? ⟨w.heap.size, 2, none⟩ = some (.int .i64 sg) := by first | (simp; done) | (rw [World.cell?_alloc_at _ _ _ _ (by simp)]; rfl) | (rw [World.cell?_alloc_past _ _ _ (by simp <;> omega), World.cell?_alloc_at _ _ _ _ (by simp)]; rfl) | (rw [World.cell?_alloc_past _ _ _ (by simp <;> omega), World.cell?_alloc_past _ _ _ (by simp <;> omega), World.cell?_alloc_at _ _ _ _ (by simp)]; rfl)
                        have ee3 : (w.alloc (.cells #[.int .i64 6, .string ⟨#[]⟩, .int .i64 sg, .int .i64 n] 23)).cell? ⟨w.heap.size, 3, none⟩ = some (.int .i64 n) := by first | (simp; done) | (rw [World.cell?_alloc_at _ _ _ _ (by simp)]; rfl) | (rw [World.cell?_alloc_past _ _ _ (by simp <;> omega), World.cell?_alloc_at _ _ _ _ (by simp)]; rfl) | (rw [World.cell?_alloc_past _ _ _ (by simp <;> omega), World.cell?_alloc_past _ _ _ (by simp <;> omega), World.cell?_alloc_at _ _ _ _ (by simp)]; rfl)
                        have hb2 := (by repeat (first | exact hbel | refine belAlloc ?_ _ | refine belDrew ?_ | refine belSet ?_ _ _ (by simp)) : Below w.heap.size w (w.alloc (.cells #[.int .i64 6, .string ⟨#[]⟩, .int .i64 sg, .int .i64 n] 23)))
                        replace hw := belStep hw hb2
                        have eeB : Blk (w.alloc (.cells #[.int .i64 6, .string ⟨#[]⟩, .int .i64 sg, .int .i64 n] 23)) (w.heap.size) [.int .i64 6, .string ⟨#[]⟩, .int .i64 sg, .int .i64 n] 23 := (Blk.at (by simp) : Blk (w.alloc (.cells #[.int .i64 6, .string ⟨#[]⟩, .int .i64 sg, .int .i64 n] 23)) (w.heap.size) [.int .i64 6, .string ⟨#[]⟩, .int .i64 sg, .int .i64 n] 23).later (by repeat (first | exact Below.refl _ _ | refine belAlloc ?_ _))
                        have eeF := Blk.keepF eeB
                        replace eeB := Blk.keepB eeB
                        clear hb2 hbel
                        generalize w.alloc (.cells #[.int .i64 6, .string ⟨#[]⟩, .int .i64 sg, .int .i64 n] 23) = W1 at *
                        replace ee0 := keep ee0
                        replace ee1 := keep ee1
                        replace ee2 := keep ee2
                        replace ee3 := keep ee3
                        have hbel : Below W1.heap.size W1 W1 := Below.refl _ _
                        skip
                        go_wp2_with (first | (go_at_call 24; (with_reducible refine (CW.out _).mono ?_); rintro e9 w9 ⟨rfl, hb9⟩; replace hbel := belStep hbel hb9; clear hb9) | (go_at_call 25; (with_reducible refine (CD.out _).mono ?_); rintro e9 w9 ⟨rfl, hb9⟩; replace hbel := belStep hbel hb9; clear hb9) | (go_at_call 26; (with_reducible refine (CN.out _).mono ?_); rintro e9 w9 ⟨rfl, rfl⟩))
                        go_ret2
                        exact ⟨rln_no (line_noT (by unfold tailE; simp [show ¬ sg ≤ 2 by omega])), belStep hw hbel⟩
                      · have t4 : decide ((2 : Int) < sg) = false := decide_eq_false h4
                        by_cases h5 : n = 0
                        · subst h5
                          have CS := Lib.hid (fun u => ref_Word sg u (by omega))
                          rw [wB_sg (show 0 ≤ sg ∧ sg ≤ 2 by omega)] at CS
                          obtain ⟨ts, hts⟩ : ∃ x, bA (sgE sg.toNat) = x := ⟨_, rfl⟩
                          rw [hts] at CS
                          have HTS := Lib.hid (show ts.data.toList = sgE sg.toNat from by rw [← hts, bA_data])
                          have hsl : ts.size ≤ 6 := by rw [← hts, bA_size]; exact sgE_size _
                          clear hts
                          have s6 : ¬ 9223372036854775807 < td.size + 1 + tk.size + 1 + ts.size := by omega
                          go_enter Tryd.func12, Tryd.ntmps12
                          go_upto_region 1 with fail
                          have ee0 : (w.alloc (.cells #[.int .i64 6, .string ⟨#[]⟩, .int .i64 sg, .int .i64 0] 23)).cell? ⟨w.heap.size, 0, none⟩ = some (.int .i64 6) := by first | (simp; done) | (rw [World.cell?_alloc_at _ _ _ _ (by simp)]; rfl) | (rw [World.cell?_alloc_past _ _ _ (by simp <;> omega), World.cell?_alloc_at _ _ _ _ (by simp)]; rfl) | (rw [World.cell?_alloc_past _ _ _ (by simp <;> omega), World.cell?_alloc_past _ _ _ (by simp <;> omega), World.cell?_alloc_at _ _ _ _ (by simp)]; rfl)
                          have ee1 : (w.alloc (.cells #[.int .i64 6, .string ⟨#[]⟩, .int .i64 sg, .int .i64 0] 23)).cell? ⟨w.heap.size, 1, none⟩ = some (.string ⟨#[]⟩) := by first | (simp; done) | (rw [World.cell?_alloc_at _ _ _ _ (by simp)]; rfl) | (rw [World.cell?_alloc_past _ _ _ (by simp <;> omega), World.cell?_alloc_at _ _ _ _ (by simp)]; rfl) | (rw [World.cell?_alloc_past _ _ _ (by simp <;> omega), World.cell?_alloc_past _ _ _ (by simp <;> omega), World.cell?_alloc_at _ _ _ _ (by simp)]; rfl)
                          have ee2 : (w.alloc (.cells #[.int .i64 6, .string ⟨#[]⟩, .int .i64 sg, .int .i64 0] 23)).cell? ⟨w.heap.size, 2, none⟩ = some (.int .i64 sg) := by first | (simp; done) | (rw [World.cell?_alloc_at _ _ _ _ (by simp)]; rfl) | (rw [World.cell?_alloc_past _ _ _ (by simp <;> omega), World.cell?_alloc_at _ _ _ _ (by simp)]; rfl) | (rw [World.cell?_alloc_past _ _ _ (by simp <;> omega), World.cell?_alloc_past _ _ _ (by simp <;> omega), World.cell?_alloc_at _ _ _ _ (by simp)]; rfl)
                          have ee3 : (w.alloc (.cells #[.int .i64 6, .string ⟨#[]⟩, .int .i64 sg, .int .i64 0] 23)).cell? ⟨w.heap.size, 3, none⟩ = some (.int .i64 0) := by first | (simp; done) | (rw [World.cell?_alloc_at _ _ _ _ (by simp)]; rfl) | (rw [World.cell?_alloc_past _ _ _ (by simp <;> omega), World.cell?_alloc_at _ _ _ _ (by simp)]; rfl) | (rw [World.cell?_alloc_past _ _ _ (by simp <;> omega), World.cell?_alloc_past _ _ _ (by simp <;> omega), World.cell?_alloc_at _ _ _ _ (by simp)]; rfl)
                          have hb2 := (by repeat (first | exact hbel | refine belAlloc ?_ _ | refine belDrew ?_ | refine belSet ?_ _ _ (by simp)) : Below w.heap.size w (w.alloc (.cells #[.int .i64 6, .string ⟨#[]⟩, .int .i64 sg, .int .i64 0] 23)))
                          replace hw := belStep hw hb2
                          have eeB : Blk (w.alloc (.cells #[.int .i64 6, .string ⟨#[]⟩, .int .i64 sg, .int .i64 0] 23)) (w.heap.size) [.int .i64 6, .string ⟨#[]⟩, .int .i64 sg, .int .i64 0] 23 := (Blk.at (by simp) : Blk (w.alloc (.cells #[.int .i64 6, .string ⟨#[]⟩, .int .i64 sg, .int .i64 0] 23)) (w.heap.size) [.int .i64 6, .string ⟨#[]⟩, .int .i64 sg, .int .i64 0] 23).later (by repeat (first | exact Below.refl _ _ | refine belAlloc ?_ _))
                          have eeF := Blk.keepF eeB
                          replace eeB := Blk.keepB eeB
                          clear hb2 hbel
                          generalize w.alloc (.cells #[.int .i64 6, .string ⟨#[]⟩, .int .i64 sg, .int .i64 0] 23) = W1 at *
                          replace ee0 := keep ee0
                          replace ee1 := keep ee1
                          replace ee2 := keep ee2
                          replace ee3 := keep ee3
                          have hbel : Below W1.heap.size W1 W1 := Below.refl _ _
                          skip
                          go_wp2_with (first | (go_at_call 24; (with_reducible refine (CW.out _).mono ?_); rintro e9 w9 ⟨rfl, hb9⟩; replace hbel := belStep hbel hb9; clear hb9) | (go_at_call 25; (with_reducible refine (CD.out _).mono ?_); rintro e9 w9 ⟨rfl, hb9⟩; replace hbel := belStep hbel hb9; clear hb9) | (go_at_call 26; (with_reducible refine (CN.out _).mono ?_); rintro e9 w9 ⟨rfl, rfl⟩) | (go_at_call 27; (with_reducible refine (CS.out _).mono ?_); rintro e9 w9 ⟨rfl, rfl⟩))
                          go_ret2
                          exact ⟨rln_yes (line_yesT HRR.out (by dsimp only; omega) (show tailE ⟨6, ⟨#[]⟩, sg, 0⟩ = some [sgE sg.toNat] from by unfold tailE; simp [show 0 ≤ sg by omega, show sg ≤ 2 by omega])) (by simp only [ByteArray.data_append, Array.toList_append, HTD.out, HTK.out, HTS.out]; simp [joinW, pressL]), belStep hw hbel⟩
                        · have t5 : (n == 0) = false := beq_eq_false_iff_ne.2 h5
                          have t5n : (n != 0) = true := bne_iff_ne.2 h5
                          go_enter Tryd.func12, Tryd.ntmps12
                          go_upto_region 1 with fail
                          have ee0 : (w.alloc (.cells #[.int .i64 6, .string ⟨#[]⟩, .int .i64 sg, .int .i64 n] 23)).cell? ⟨w.heap.size, 0, none⟩ = some (.int .i64 6) := by first | (simp; done) | (rw [World.cell?_alloc_at _ _ _ _ (by simp)]; rfl) | (rw [World.cell?_alloc_past _ _ _ (by simp <;> omega), World.cell?_alloc_at _ _ _ _ (by simp)]; rfl) | (rw [World.cell?_alloc_past _ _ _ (by simp <;> omega), World.cell?_alloc_past _ _ _ (by simp <;> omega), World.cell?_alloc_at _ _ _ _ (by simp)]; rfl)
                          have ee1 : (w.alloc (.cells #[.int .i64 6, .string ⟨#[]⟩, .int .i64 sg, .int .i64 n] 23)).cell? ⟨w.heap.size, 1, none⟩ = some (.string ⟨#[]⟩) := by first | (simp; done) | (rw [World.cell?_alloc_at _ _ _ _ (by simp)]; rfl) | (rw [World.cell?_alloc_past _ _ _ (by simp <;> omega), World.cell?_alloc_at _ _ _ _ (by simp)]; rfl) | (rw [World.cell?_alloc_past _ _ _ (by simp <;> omega), World.cell?_alloc_past _ _ _ (by simp <;> omega), World.cell?_alloc_at _ _ _ _ (by simp)]; rfl)
                          have ee2 : (w.alloc (.cells #[.int .i64 6, .string ⟨#[]⟩, .int .i64 sg, .int .i64 n] 23)).cell? ⟨w.heap.size, 2, none⟩ = some (.int .i64 sg) := by first | (simp; done) | (rw [World.cell?_alloc_at _ _ _ _ (by simp)]; rfl) | (rw [World.cell?_alloc_past _ _ _ (by simp <;> omega), World.cell?_alloc_at _ _ _ _ (by simp)]; rfl) | (rw [World.cell?_alloc_past _ _ _ (by simp <;> omega), World.cell?_alloc_past _ _ _ (by simp <;> omega), World.cell?_alloc_at _ _ _ _ (by simp)]; rfl)
                          have ee3 : (w.alloc (.cells #[.int .i64 6, .string ⟨#[]⟩, .int .i64 sg, .int .i64 n] 23)).cell? ⟨w.heap.size, 3, none⟩ = some (.int .i64 n) := by first | (simp; done) | (rw [World.cell?_alloc_at _ _ _ _ (by simp)]; rfl) | (rw [World.cell?_alloc_past _ _ _ (by simp <;> omega), World.cell?_alloc_at _ _ _ _ (by simp)]; rfl) | (rw [World.cell?_alloc_past _ _ _ (by simp <;> omega), World.cell?_alloc_past _ _ _ (by simp <;> omega), World.cell?_alloc_at _ _ _ _ (by simp)]; rfl)
                          have hb2 := (by repeat (first | exact hbel | refine belAlloc ?_ _ | refine belDrew ?_ | refine belSet ?_ _ _ (by simp)) : Below w.heap.size w (w.alloc (.cells #[.int .i64 6, .string ⟨#[]⟩, .int .i64 sg, .int .i64 n] 23)))
                          replace hw := belStep hw hb2
                          have eeB : Blk (w.alloc (.cells #[.int .i64 6, .string ⟨#[]⟩, .int .i64 sg, .int .i64 n] 23)) (w.heap.size) [.int .i64 6, .string ⟨#[]⟩, .int .i64 sg, .int .i64 n] 23 := (Blk.at (by simp) : Blk (w.alloc (.cells #[.int .i64 6, .string ⟨#[]⟩, .int .i64 sg, .int .i64 n] 23)) (w.heap.size) [.int .i64 6, .string ⟨#[]⟩, .int .i64 sg, .int .i64 n] 23).later (by repeat (first | exact Below.refl _ _ | refine belAlloc ?_ _))
                          have eeF := Blk.keepF eeB
                          replace eeB := Blk.keepB eeB
                          clear hb2 hbel
                          generalize w.alloc (.cells #[.int .i64 6, .string ⟨#[]⟩, .int .i64 sg, .int .i64 n] 23) = W1 at *
                          replace ee0 := keep ee0
                          replace ee1 := keep ee1
                          replace ee2 := keep ee2
                          replace ee3 := keep ee3
                          have hbel : Below W1.heap.size W1 W1 := Below.refl _ _
                          skip
                          go_wp2_with (first | (go_at_call 24; (with_reducible refine (CW.out _).mono ?_); rintro e9 w9 ⟨rfl, hb9⟩; replace hbel := belStep hbel hb9; clear hb9) | (go_at_call 25; (with_reducible refine (CD.out _).mono ?_); rintro e9 w9 ⟨rfl, hb9⟩; replace hbel := belStep hbel hb9; clear hb9) | (go_at_call 26; (with_reducible refine (CN.out _).mono ?_); rintro e9 w9 ⟨rfl, rfl⟩))
                          go_ret2
                          exact ⟨rln_no (line_noT (by unfold tailE; simp [h5])), belStep hw hbel⟩
                  · have hie : (id.toList == []) = false := beq_eq_false_iff_ne.2 (by rw [sl]; exact hid0)
                    have hie2 : id.toList.isEmpty = false := by rw [sl]; cases h : id.data.toList with | nil => exact absurd h hid0 | cons a l => rfl
                    have hie3 : (id.toList != []) = true := by simp [hie, bne]
                    go_enter Tryd.func12, Tryd.ntmps12
                    go_upto_region 1 with fail
                    have ee0 : (w.alloc (.cells #[.int .i64 6, .string id, .int .i64 sg, .int .i64 n] 23)).cell? ⟨w.heap.size, 0, none⟩ = some (.int .i64 6) := by first | (simp; done) | (rw [World.cell?_alloc_at _ _ _ _ (by simp)]; rfl) | (rw [World.cell?_alloc_past _ _ _ (by simp <;> omega), World.cell?_alloc_at _ _ _ _ (by simp)]; rfl) | (rw [World.cell?_alloc_past _ _ _ (by simp <;> omega), World.cell?_alloc_past _ _ _ (by simp <;> omega), World.cell?_alloc_at _ _ _ _ (by simp)]; rfl)
                    have ee1 : (w.alloc (.cells #[.int .i64 6, .string id, .int .i64 sg, .int .i64 n] 23)).cell? ⟨w.heap.size, 1, none⟩ = some (.string id) := by first | (simp; done) | (rw [World.cell?_alloc_at _ _ _ _ (by simp)]; rfl) | (rw [World.cell?_alloc_past _ _ _ (by simp <;> omega), World.cell?_alloc_at _ _ _ _ (by simp)]; rfl) | (rw [World.cell?_alloc_past _ _ _ (by simp <;> omega), World.cell?_alloc_past _ _ _ (by simp <;> omega), World.cell?_alloc_at _ _ _ _ (by simp)]; rfl)
                    have ee2 : (w.alloc (.cells #[.int .i64 6, .string id, .int .i64 sg, .int .i64 n] 23)).cell? ⟨w.heap.size, 2, none⟩ = some (.int .i64 sg) := by first | (simp; done) | (rw [World.cell?_alloc_at _ _ _ _ (by simp)]; rfl) | (rw [World.cell?_alloc_past _ _ _ (by simp <;> omega), World.cell?_alloc_at _ _ _ _ (by simp)]; rfl) | (rw [World.cell?_alloc_past _ _ _ (by simp <;> omega), World.cell?_alloc_past _ _ _ (by simp <;> omega), World.cell?_alloc_at _ _ _ _ (by simp)]; rfl)
                    have ee3 : (w.alloc (.cells #[.int .i64 6, .string id, .int .i64 sg, .int .i64 n] 23)).cell? ⟨w.heap.size, 3, none⟩ = some (.int .i64 n) := by first | (simp; done) | (rw [World.cell?_alloc_at _ _ _ _ (by simp)]; rfl) | (rw [World.cell?_alloc_past _ _ _ (by simp <;> omega), World.cell?_alloc_at _ _ _ _ (by simp)]; rfl) | (rw [World.cell?_alloc_past _ _ _ (by simp <;> omega), World.cell?_alloc_past _ _ _ (by simp <;> omega), World.cell?_alloc_at _ _ _ _ (by simp)]; rfl)
                    have hb2 := (by repeat (first | exact hbel | refine belAlloc ?_ _ | refine belDrew ?_ | refine belSet ?_ _ _ (by simp)) : Below w.heap.size w (w.alloc (.cells #[.int .i64 6, .string id, .int .i64 sg, .int .i64 n] 23)))
                    replace hw := belStep hw hb2
                    have eeB : Blk (w.alloc (.cells #[.int .i64 6, .string id, .int .i64 sg, .int .i64 n] 23)) (w.heap.size) [.int .i64 6, .string id, .int .i64 sg, .int .i64 n] 23 := (Blk.at (by simp) : Blk (w.alloc (.cells #[.int .i64 6, .string id, .int .i64 sg, .int .i64 n] 23)) (w.heap.size) [.int .i64 6, .string id, .int .i64 sg, .int .i64 n] 23).later (by repeat (first | exact Below.refl _ _ | refine belAlloc ?_ _))
                    have eeF := Blk.keepF eeB
                    replace eeB := Blk.keepB eeB
                    clear hb2 hbel
                    generalize w.alloc (.cells #[.int .i64 6, .string id, .int .i64 sg, .int .i64 n] 23) = W1 at *
                    replace ee0 := keep ee0
                    replace ee1 := keep ee1
                    replace ee2 := keep ee2
                    replace ee3 := keep ee3
                    have hbel : Below W1.heap.size W1 W1 := Below.refl _ _
                    skip
                    go_wp2_with (first | (go_at_call 24; (with_reducible refine (CW.out _).mono ?_); rintro e9 w9 ⟨rfl, hb9⟩; replace hbel := belStep hbel hb9; clear hb9) | (go_at_call 25; (with_reducible refine (CD.out _).mono ?_); rintro e9 w9 ⟨rfl, hb9⟩; replace hbel := belStep hbel hb9; clear hb9) | (go_at_call 26; (with_reducible refine (CN.out _).mono ?_); rintro e9 w9 ⟨rfl, rfl⟩))
                    go_ret2
                    exact ⟨rln_no (line_noT (by unfold tailE; simp [hid0])), belStep hw hbel⟩
                · by_cases hq7 : k = 7
                  · subst hq7
                    clear hk
                    by_cases hid0 : id.data.toList = []
                    · obtain rfl : id = ⟨#[]⟩ := ext_data (by rw [hid0])
                      by_cases h3 : sg < 0
                      · have t3 : decide (sg < 0) = true := decide_eq_true h3
                        go_enter Tryd.func12, Tryd.ntmps12
                        go_upto_region 1 with fail
                        have ee0 : (w.alloc (.cells #[.int .i64 7, .string ⟨#[]⟩, .int .i64 sg, .int .i64 n] 23)).cell? ⟨w.heap.size, 0, none⟩ = some (.int .i64 7) := by first | (simp; done) | (rw [World.cell?_alloc_at _ _ _ _ (by simp)]; rfl) | (rw [World.cell?_alloc_past _ _ _ (by simp <;> omega), World.cell?_alloc_at _ _ _ _ (by simp)]; rfl) | (rw [World.cell?_alloc_past _ _ _ (by simp <;> omega), World.cell?_alloc_past _ _ _ (by simp <;> omega), World.cell?_alloc_at _ _ _ _ (by simp)]; rfl)
                        have ee1 : (w.alloc (.cells #[.int .i64 7, .string ⟨#[]⟩, .int .i64 sg, .int .i64 n] 23)).cell? ⟨w.heap.size, 1, none⟩ = some (.string ⟨#[]⟩) := by first | (simp; done) | (rw [World.cell?_alloc_at _ _ _ _ (by simp)]; rfl) | (rw [World.cell?_alloc_past _ _ _ (by simp <;> omega), World.cell?_alloc_at _ _ _ _ (by simp)]; rfl) | (rw [World.cell?_alloc_past _ _ _ (by simp <;> omega), World.cell?_alloc_past _ _ _ (by simp <;> omega), World.cell?_alloc_at _ _ _ _ (by simp)]; rfl)
                        have ee2 : (w.alloc (.cells #[.int .i64 7, .string ⟨#[]⟩, .int .i64 sg, .int .i64 n] 23)).cell? ⟨w.heap.size, 2, none⟩ = some (.int .i64 sg) := by first | (simp; done) | (rw [World.cell?_alloc_at _ _ _ _ (by simp)]; rfl) | (rw [World.cell?_alloc_past _ _ _ (by simp <;> omega), World.cell?_alloc_at _ _ _ _ (by simp)]; rfl) | (rw [World.cell?_alloc_past _ _ _ (by simp <;> omega), World.cell?_alloc_past _ _ _ (by simp <;> omega), World.cell?_alloc_at _ _ _ _ (by simp)]; rfl)
                        have ee3 : (w.alloc (.cells #[.int .i64 7, .string ⟨#[]⟩, .int .i64 sg, .int .i64 n] 23)).cell? ⟨w.heap.size, 3, none⟩ = some (.int .i64 n) := by first | (simp; done) | (rw [World.cell?_alloc_at _ _ _ _ (by simp)]; rfl) | (rw [World.cell?_alloc_past _ _ _ (by simp <;> omega), World.cell?_alloc_at _ _ _ _ (by simp)]; rfl) | (rw [World.cell?_alloc_past _ _ _ (by simp <;> omega), World.cell?_alloc_past _ _ _ (by simp <;> omega), World.cell?_alloc_at _ _ _ _ (by simp)]; rfl)
                        have hb2 := (by repeat (first | exact hbel | refine belAlloc ?_ _ | refine belDrew ?_ | refine belSet ?_ _ _ (by simp)) : Below w.heap.size w (w.alloc (.cells #[.int .i64 7, .string ⟨#[]⟩, .int .i64 sg, .int .i64 n] 23)))
                        replace hw := belStep hw hb2
                        have eeB : Blk (w.alloc (.cells #[.int .i64 7, .string ⟨#[]⟩, .int .i64 sg, .int .i64 n] 23)) (w.heap.size) [.int .i64 7, .string ⟨#[]⟩, .int .i64 sg, .int .i64 n] 23 := (Blk.at (by simp) : Blk (w.alloc (.cells #[.int .i64 7, .string ⟨#[]⟩, .int .i64 sg, .int .i64 n] 23)) (w.heap.size) [.int .i64 7, .string ⟨#[]⟩, .int .i64 sg, .int .i64 n] 23).later (by repeat (first | exact Below.refl _ _ | refine belAlloc ?_ _))
                        have eeF := Blk.keepF eeB
                        replace eeB := Blk.keepB eeB
                        clear hb2 hbel
                        generalize w.alloc (.cells #[.int .i64 7, .string ⟨#[]⟩, .int .i64 sg, .int .i64 n] 23) = W1 at *
                        replace ee0 := keep ee0
                        replace ee1 := keep ee1
                        replace ee2 := keep ee2
                        replace ee3 := keep ee3
                        have hbel : Below W1.heap.size W1 W1 := Below.refl _ _
                        skip
                        go_wp2_with (first | (go_at_call 24; (with_reducible refine (CW.out _).mono ?_); rintro e9 w9 ⟨rfl, hb9⟩; replace hbel := belStep hbel hb9; clear hb9) | (go_at_call 25; (with_reducible refine (CD.out _).mono ?_); rintro e9 w9 ⟨rfl, hb9⟩; replace hbel := belStep hbel hb9; clear hb9) | (go_at_call 26; (with_reducible refine (CN.out _).mono ?_); rintro e9 w9 ⟨rfl, rfl⟩))
                        go_ret2
                        exact ⟨rln_no (line_noT (by unfold tailE; simp [show ¬ 0 ≤ sg by omega])), belStep hw hbel⟩
                      · have t3 : decide (sg < 0) = false := decide_eq_false h3
                        by_cases h4 : 2 < sg
                        · have t4 : decide ((2 : Int) < sg) = true := decide_eq_true h4
                          go_enter Tryd.func12, Tryd.ntmps12
                          go_upto_region 1 with fail
                          have ee0 : (w.alloc (.cells #[.int .i64 7, .string ⟨#[]⟩, .int .i64 sg, .int .i64 n] 23)).cell? ⟨w.heap.size, 0, none⟩ = some (.int .i64 7) := by first | (simp; done) | (rw [World.cell?_alloc_at _ _ _ _ (by simp)]; rfl) | (rw [World.cell?_alloc_past _ _ _ (by simp <;> omega), World.cell?_alloc_at _ _ _ _ (by simp)]; rfl) | (rw [World.cell?_alloc_past _ _ _ (by simp <;> omega), World.cell?_alloc_past _ _ _ (by simp <;> omega), World.cell?_alloc_at _ _ _ _ (by simp)]; rfl)
                          have ee1 : (w.alloc (.cells #[.int .i64 7, .string ⟨#[]⟩, .int .i64 sg, .int .i64 n] 23)).cell? ⟨w.heap.size, 1, none⟩ = some (.string ⟨#[]⟩) := by first | (simp; done) | (rw [World.cell?_alloc_at _ _ _ _ (by simp)]; rfl) | (rw [World.cell?_alloc_past _ _ _ (by simp <;> omega), World.cell?_alloc_at _ _ _ _ (by simp)]; rfl) | (rw [World.cell?_alloc_past _ _ _ (by simp <;> omega), World.cell?_alloc_past _ _ _ (by simp <;> omega), World.cell?_alloc_at _ _ _ _ (by simp)]; rfl)
                          have ee2 : (w.alloc (.cells #[.int .i64 7, .string ⟨#[]⟩, .int .i64 sg, .int .i64 n] 23)).cell? ⟨w.heap.size, 2, none⟩ = some (.int .i64 sg) := by first | (simp; done) | (rw [World.cell?_alloc_at _ _ _ _ (by simp)]; rfl) | (rw [World.cell?_alloc_past _ _ _ (by simp <;> omega), World.cell?_alloc_at _ _ _ _ (by simp)]; rfl) | (rw [World.cell?_alloc_past _ _ _ (by simp <;> omega), World.cell?_alloc_past _ _ _ (by simp <;> omega), World.cell?_alloc_at _ _ _ _ (by simp)]; rfl)
                          have ee3 : (w.alloc (.cells #[.int .i64 7, .string ⟨#[]⟩, .int .i64 sg, .int .i64 n] 23)).cell? ⟨w.heap.size, 3, none⟩ = some (.int .i64 n) := by first | (simp; done) | (rw [World.cell?_alloc_at _ _ _ _ (by simp)]; rfl) | (rw [World.cell?_alloc_past _ _ _ (by simp <;> omega), World.cell?_alloc_at _ _ _ _ (by simp)]; rfl) | (rw [World.cell?_alloc_past _ _ _ (by simp <;> omega), World.cell?_alloc_past _ _ _ (by simp <;> omega), World.cell?_alloc_at _ _ _ _ (by simp)]; rfl)
                          have hb2 := (by repeat (first | exact hbel | refine belAlloc ?_ _ | refine belDrew ?_ | refine belSet ?_ _ _ (by simp)) : Below w.heap.size w (w.alloc (.cells #[.int .i64 7, .string ⟨#[]⟩, .int .i64 sg, .int .i64 n] 23)))
                          replace hw := belStep hw hb2
                          have eeB : Blk (w.alloc (.cells #[.int .i64 7, .string ⟨#[]⟩, .int .i64 sg, .int .i64 n] 23)) (w.heap.size) [.int .i64 7, .string ⟨#[]⟩, .int .i64 sg, .int .i64 n] 23 := (Blk.at (by simp) : Blk (w.alloc (.cells #[.int .i64 7, .string ⟨#[]⟩, .int .i64 sg, .int .i64 n] 23)) (w.heap.size) [.int .i64 7, .string ⟨#[]⟩, .int .i64 sg, .int .i64 n] 23).later (by repeat (first | exact Below.refl _ _ | refine belAlloc ?_ _))
                          have eeF := Blk.keepF eeB
                          replace eeB := Blk.keepB eeB
                          clear hb2 hbel
                          generalize w.alloc (.cells #[.int .i64 7, .string ⟨#[]⟩, .int .i64 sg, .int .i64 n] 23) = W1 at *
                          replace ee0 := keep ee0
                          replace ee1 := keep ee1
                          replace ee2 := keep ee2
                          replace ee3 := keep ee3
                          have hbel : Below W1.heap.size W1 W1 := Below.refl _ _
                          skip
                          go_wp2_with (first | (go_at_call 24; (with_reducible refine (CW.out _).mono ?_); rintro e9 w9 ⟨rfl, hb9⟩; replace hbel := belStep hbel hb9; clear hb9) | (go_at_call 25; (with_reducible refine (CD.out _).mono ?_); rintro e9 w9 ⟨rfl, hb9⟩; replace hbel := belStep hbel hb9; clear hb9) | (go_at_call 26; (with_reducible refine (CN.out _).mono ?_); rintro e9 w9 ⟨rfl, rfl⟩))
                          go_ret2
                          exact ⟨rln_no (line_noT (by unfold tailE; simp [show ¬ sg ≤ 2 by omega])), belStep hw hbel⟩
                        · have t4 : decide ((2 : Int) < sg) = false := decide_eq_false h4
                          by_cases h5 : n = 0
                          · subst h5
                            have CS := Lib.hid (fun u => ref_Word sg u (by omega))
                            rw [wB_sg (show 0 ≤ sg ∧ sg ≤ 2 by omega)] at CS
                            obtain ⟨ts, hts⟩ : ∃ x, bA (sgE sg.toNat) = x := ⟨_, rfl⟩
                            rw [hts] at CS
                            have HTS := Lib.hid (show ts.data.toList = sgE sg.toNat from by rw [← hts, bA_data])
                            have hsl : ts.size ≤ 6 := by rw [← hts, bA_size]; exact sgE_size _
                            clear hts
                            have s6 : ¬ 9223372036854775807 < td.size + 1 + tk.size + 1 + ts.size := by omega
                            go_enter Tryd.func12, Tryd.ntmps12
                            go_upto_region 1 with fail
                            have ee0 : (w.alloc (.cells #[.int .i64 7, .string ⟨#[]⟩, .int .i64 sg, .int .i64 0] 23)).cell? ⟨w.heap.size, 0, none⟩ = some (.int .i64 7) := by first | (simp; done) | (rw [World.cell?_alloc_at _ _ _ _ (by simp)]; rfl) | (rw [World.cell?_alloc_past _ _ _ (by simp <;> omega), World.cell?_alloc_at _ _ _ _ (by simp)]; rfl) | (rw [World.cell?_alloc_past _ _ _ (by simp <;> omega), World.cell?_alloc_past _ _ _ (by simp <;> omega), World.cell?_alloc_at _ _ _ _ (by simp)]; rfl)
                            have ee1 : (w.alloc (.cells #[.int .i64 7, .string ⟨#[]⟩, .int .i64 sg, .int .i64 0] 23)).cell? ⟨w.heap.size, 1, none⟩ = some (.string ⟨#[]⟩) := by first | (simp; done) | (rw [World.cell?_alloc_at _ _ _ _ (by simp)]; rfl) | (rw [World.cell?_alloc_past _ _ _ (by simp <;> omega), World.cell?_alloc_at _ _ _ _ (by simp)]; rfl) | (rw [World.cell?_alloc_past _ _ _ (by simp <;> omega), World.cell?_alloc_past _ _ _ (by simp <;> omega), World.cell?_alloc_at _ _ _ _ (by simp)]; rfl)
                            have ee2 : (w.alloc (.cells #[.int .i64 7, .string ⟨#[]⟩, .int .i64 sg, .int .i64 0] 23)).cell? ⟨w.heap.size, 2, none⟩ = some (.int .i64 sg) := by first | (simp; done) | (rw [World.cell?_alloc_at _ _ _ _ (by simp)]; rfl) | (rw [World.cell?_alloc_past _ _ _ (by simp <;> omega), World.cell?_alloc_at _ _ _ _ (by simp)]; rfl) | (rw [World.cell?_alloc_past _ _ _ (by simp <;> omega), World.cell?_alloc_past _ _ _ (by simp <;> omega), World.cell?_alloc_at _ _ _ _ (by simp)]; rfl)
                            have ee3 : (w.alloc (.cells #[.int .i64 7, .string ⟨#[]⟩, .int .i64 sg, .int .i64 0] 23)).cell? ⟨w.heap.size, 3, none⟩ = some (.int .i64 0) := by first | (simp; done) | (rw [World.cell?_alloc_at _ _ _ _ (by simp)]; rfl) | (rw [World.cell?_alloc_past _ _ _ (by simp <;> omega), World.cell?_alloc_at _ _ _ _ (by simp)]; rfl) | (rw [World.cell?_alloc_past _ _ _ (by simp <;> omega), World.cell?_alloc_past _ _ _ (by simp <;> omega), World.cell?_alloc_at _ _ _ _ (by simp)]; rfl)
                            have hb2 := (by repeat (first | exact hbel | refine belAlloc ?_ _ | refine belDrew ?_ | refine belSet ?_ _ _ (by simp)) : Below w.heap.size w (w.alloc (.cells #[.int .i64 7, .string ⟨#[]⟩, .int .i64 sg, .int .i64 0] 23)))
                            replace hw := belStep hw hb2
                            have eeB : Blk (w.alloc (.cells #[.int .i64 7, .string ⟨#[]⟩, .int .i64 sg, .int .i64 0] 23)) (w.heap.size) [.int .i64 7, .string ⟨#[]⟩, .int .i64 sg, .int .i64 0] 23 := (Blk.at (by simp) : Blk (w.alloc (.cells #[.int .i64 7, .string ⟨#[]⟩, .int .i64 sg, .int .i64 0] 23)) (w.heap.size) [.int .i64 7, .string ⟨#[]⟩, .int .i64 sg, .int .i64 0] 23).later (by repeat (first | exact Below.refl _ _ | refine belAlloc ?_ _))
                            have eeF := Blk.keepF eeB
                            replace eeB := Blk.keepB eeB
                            clear hb2 hbel
                            generalize w.alloc (.cells #[.int .i64 7, .string ⟨#[]⟩, .int .i64 sg, .int .i64 0] 23) = W1 at *
                            replace ee0 := keep ee0
                            replace ee1 := keep ee1
                            replace ee2 := keep ee2
                            replace ee3 := keep ee3
                            have hbel : Below W1.heap.size W1 W1 := Below.refl _ _
                            skip
                            go_wp2_with (first | (go_at_call 24; (with_reducible refine (CW.out _).mono ?_); rintro e9 w9 ⟨rfl, hb9⟩; replace hbel := belStep hbel hb9; clear hb9) | (go_at_call 25; (with_reducible refine (CD.out _).mono ?_); rintro e9 w9 ⟨rfl, hb9⟩; replace hbel := belStep hbel hb9; clear hb9) | (go_at_call 26; (with_reducible refine (CN.out _).mono ?_); rintro e9 w9 ⟨rfl, rfl⟩) | (go_at_call 27; (with_reducible refine (CS.out _).mono ?_); rintro e9 w9 ⟨rfl, rfl⟩))
                            go_ret2
                            exact ⟨rln_yes (line_yesT HRR.out (by dsimp only; omega) (show tailE ⟨7, ⟨#[]⟩, sg, 0⟩ = some [sgE sg.toNat] from by unfold tailE; simp [show 0 ≤ sg by omega, show sg ≤ 2 by omega])) (by simp only [ByteArray.data_append, Array.toList_append, HTD.out, HTK.out, HTS.out]; simp [joinW, pressL]), belStep hw hbel⟩
                          · have t5 : (n == 0) = false := beq_eq_false_iff_ne.2 h5
                            have t5n : (n != 0) = true := bne_iff_ne.2 h5
                            go_enter Tryd.func12, Tryd.ntmps12
                            go_upto_region 1 with fail
                            have ee0 : (w.alloc (.cells #[.int .i64 7, .string ⟨#[]⟩, .int .i64 sg, .int .i64 n] 23)).cell? ⟨w.heap.size, 0, none⟩ = some (.int .i64 7) := by first | (simp; done) | (rw [World.cell?_alloc_at _ _ _ _ (by simp)]; rfl) | (rw [World.cell?_alloc_past _ _ _ (by simp <;> omega), World.cell?_alloc_at _ _ _ _ (by simp)]; rfl) | (rw [World.cell?_alloc_past _ _ _ (by simp <;> omega), World.cell?_alloc_past _ _ _ (by simp <;> omega), World.cell?_alloc_at _ _ _ _ (by simp)]; rfl)
                            have ee1 : (w.alloc (.cells #[.int .i64 7, .string ⟨#[]⟩, .int .i64 sg, .int .i64 n] 23)).cell? ⟨w.heap.size, 1, none⟩ = some (.string ⟨#[]⟩) := by first | (simp; done) | (rw [World.cell?_alloc_at _ _ _ _ (by simp)]; rfl) | (rw [World.cell?_alloc_past _ _ _ (by simp <;> omega), World.cell?_alloc_at _ _ _ _ (by simp)]; rfl) | (rw [World.cell?_alloc_past _ _ _ (by simp <;> omega), World.cell?_alloc_past _ _ _ (by simp <;> omega), World.cell?_alloc_at _ _ _ _ (by simp)]; rfl)
                            have ee2 : (w.alloc (.cells #[.int .i64 7, .string ⟨#[]⟩, .int .i64 sg, .int .i64 n] 23)).cell? ⟨w.heap.size, 2, none⟩ = some (.int .i64 sg) := by first | (simp; done) | (rw [World.cell?_alloc_at _ _ _ _ (by simp)]; rfl) | (rw [World.cell?_alloc_past _ _ _ (by simp <;> omega), World.cell?_alloc_at _ _ _ _ (by simp)]; rfl) | (rw [World.cell?_alloc_past _ _ _ (by simp <;> omega), World.cell?_alloc_past _ _ _ (by simp <;> omega), World.cell?_alloc_at _ _ _ _ (by simp)]; rfl)
                            have ee3 : (w.alloc (.cells #[.int .i64 7, .string ⟨#[]⟩, .int .i64 sg, .int .i64 n] 23)).cell? ⟨w.heap.size, 3, none⟩ = some (.int .i64 n) := by first | (simp; done) | (rw [World.cell?_alloc_at _ _ _ _ (by simp)]; rfl) | (rw [World.cell?_alloc_past _ _ _ (by simp <;> omega), World.cell?_alloc_at _ _ _ _ (by simp)]; rfl) | (rw [World.cell?_alloc_past _ _ _ (by simp <;> omega), World.cell?_alloc_past _ _ _ (by simp <;> omega), World.cell?_alloc_at _ _ _ _ (by simp)]; rfl)
                            have hb2 := (by repeat (first | exact hbel | refine belAlloc ?_ _ | refine belDrew ?_ | refine belSet ?_ _ _ (by simp)) : Below w.heap.size w (w.alloc (.cells #[.int .i64 7, .string ⟨#[]⟩, .int .i64 sg, .int .i64 n] 23)))
                            replace hw := belStep hw hb2
                            have eeB : Blk (w.alloc (.cells #[.int .i64 7, .string ⟨#[]⟩, .int .i64 sg, .int .i64 n] 23)) (w.heap.size) [.int .i64 7, .string ⟨#[]⟩, .int .i64 sg, .int .i64 n] 23 := (Blk.at (by simp) : Blk (w.alloc (.cells #[.int .i64 7, .string ⟨#[]⟩, .int .i64 sg, .int .i64 n] 23)) (w.heap.size) [.int .i64 7, .string ⟨#[]⟩, .int .i64 sg, .int .i64 n] 23).later (by repeat (first | exact Below.refl _ _ | refine belAlloc ?_ _))
                            have eeF := Blk.keepF eeB
                            replace eeB := Blk.keepB eeB
                            clear hb2 hbel
                            generalize w.alloc (.cells #[.int .i64 7, .string ⟨#[]⟩, .int .i64 sg, .int .i64 n] 23) = W1 at *
                            replace ee0 := keep ee0
                            replace ee1 := keep ee1
                            replace ee2 := keep ee2
                            replace ee3 := keep ee3
                            have hbel : Below W1.heap.size W1 W1 := Below.refl _ _
                            skip
                            go_wp2_with (first | (go_at_call 24; (with_reducible refine (CW.out _).mono ?_); rintro e9 w9 ⟨rfl, hb9⟩; replace hbel := belStep hbel hb9; clear hb9) | (go_at_call 25; (with_reducible refine (CD.out _).mono ?_); rintro e9 w9 ⟨rfl, hb9⟩; replace hbel := belStep hbel hb9; clear hb9) | (go_at_call 26; (with_reducible refine (CN.out _).mono ?_); rintro e9 w9 ⟨rfl, rfl⟩))
                            go_ret2
                            exact ⟨rln_no (line_noT (by unfold tailE; simp [h5])), belStep hw hbel⟩
                    · have hie : (id.toList == []) = false := beq_eq_false_iff_ne.2 (by rw [sl]; exact hid0)
                      have hie2 : id.toList.isEmpty = false := by rw [sl]; cases h : id.data.toList with | nil => exact absurd h hid0 | cons a l => rfl
                      have hie3 : (id.toList != []) = true := by simp [hie, bne]
                      go_enter Tryd.func12, Tryd.ntmps12
                      go_upto_region 1 with fail
                      have ee0 : (w.alloc (.cells #[.int .i64 7, .string id, .int .i64 sg, .int .i64 n] 23)).cell? ⟨w.heap.size, 0, none⟩ = some (.int .i64 7) := by first | (simp; done) | (rw [World.cell?_alloc_at _ _ _ _ (by simp)]; rfl) | (rw [World.cell?_alloc_past _ _ _ (by simp <;> omega), World.cell?_alloc_at _ _ _ _ (by simp)]; rfl) | (rw [World.cell?_alloc_past _ _ _ (by simp <;> omega), World.cell?_alloc_past _ _ _ (by simp <;> omega), World.cell?_alloc_at _ _ _ _ (by simp)]; rfl)
                      have ee1 : (w.alloc (.cells #[.int .i64 7, .string id, .int .i64 sg, .int .i64 n] 23)).cell? ⟨w.heap.size, 1, none⟩ = some (.string id) := by first | (simp; done) | (rw [World.cell?_alloc_at _ _ _ _ (by simp)]; rfl) | (rw [World.cell?_alloc_past _ _ _ (by simp <;> omega), World.cell?_alloc_at _ _ _ _ (by simp)]; rfl) | (rw [World.cell?_alloc_past _ _ _ (by simp <;> omega), World.cell?_alloc_past _ _ _ (by simp <;> omega), World.cell?_alloc_at _ _ _ _ (by simp)]; rfl)
                      have ee2 : (w.alloc (.cells #[.int .i64 7, .string id, .int .i64 sg, .int .i64 n] 23)).cell? ⟨w.heap.size, 2, none⟩ = some (.int .i64 sg) := by first | (simp; done) | (rw [World.cell?_alloc_at _ _ _ _ (by simp)]; rfl) | (rw [World.cell?_alloc_past _ _ _ (by simp <;> omega), World.cell?_alloc_at _ _ _ _ (by simp)]; rfl) | (rw [World.cell?_alloc_past _ _ _ (by simp <;> omega), World.cell?_alloc_past _ _ _ (by simp <;> omega), World.cell?_alloc_at _ _ _ _ (by simp)]; rfl)
                      have ee3 : (w.alloc (.cells #[.int .i64 7, .string id, .int .i64 sg, .int .i64 n] 23)).cell? ⟨w.heap.size, 3, none⟩ = some (.int .i64 n) := by first | (simp; done) | (rw [World.cell?_alloc_at _ _ _ _ (by simp)]; rfl) | (rw [World.cell?_alloc_past _ _ _ (by simp <;> omega), World.cell?_alloc_at _ _ _ _ (by simp)]; rfl) | (rw [World.cell?_alloc_past _ _ _ (by simp <;> omega), World.cell?_alloc_past _ _ _ (by simp <;> omega), World.cell?_alloc_at _ _ _ _ (by simp)]; rfl)
                      have hb2 := (by repeat (first | exact hbel | refine belAlloc ?_ _ | refine belDrew ?_ | refine belSet ?_ _ _ (by simp)) : Below w.heap.size w (w.alloc (.cells #[.int .i64 7, .string id, .int .i64 sg, .int .i64 n] 23)))
                      replace hw := belStep hw hb2
                      have eeB : Blk (w.alloc (.cells #[.int .i64 7, .string id, .int .i64 sg, .int .i64 n] 23)) (w.heap.size) [.int .i64 7, .string id, .int .i64 sg, .int .i64 n] 23 := (Blk.at (by simp) : Blk (w.alloc (.cells #[.int .i64 7, .string id, .int .i64 sg, .int .i64 n] 23)) (w.heap.size) [.int .i64 7, .string id, .int .i64 sg, .int .i64 n] 23).later (by repeat (first | exact Below.refl _ _ | refine belAlloc ?_ _))
                      have eeF := Blk.keepF eeB
                      replace eeB := Blk.keepB eeB
                      clear hb2 hbel
                      generalize w.alloc (.cells #[.int .i64 7, .string id, .int .i64 sg, .int .i64 n] 23) = W1 at *
                      replace ee0 := keep ee0
                      replace ee1 := keep ee1
                      replace ee2 := keep ee2
                      replace ee3 := keep ee3
                      have hbel : Below W1.heap.size W1 W1 := Below.refl _ _
                      skip
                      go_wp2_with (first | (go_at_call 24; (with_reducible refine (CW.out _).mono ?_); rintro e9 w9 ⟨rfl, hb9⟩; replace hbel := belStep hbel hb9; clear hb9) | (go_at_call 25; (with_reducible refine (CD.out _).mono ?_); rintro e9 w9 ⟨rfl, hb9⟩; replace hbel := belStep hbel hb9; clear hb9) | (go_at_call 26; (with_reducible refine (CN.out _).mono ?_); rintro e9 w9 ⟨rfl, rfl⟩))
                      go_ret2
                      exact ⟨rln_no (line_noT (by unfold tailE; simp [hid0])), belStep hw hbel⟩
                  · by_cases hq3 : k = 3
                    · subst hq3
                      clear hk
                      cases hwd : wordB id.data.toList with
                      | false =>
                        rw [hwd] at CN
                        go_enter Tryd.func12, Tryd.ntmps12
                        go_upto_region 1 with fail
                        have ee0 : (w.alloc (.cells #[.int .i64 3, .string id, .int .i64 sg, .int .i64 n] 23)).cell? ⟨w.heap.size, 0, none⟩ = some (.int .i64 3) := by first | (simp; done) | (rw [World.cell?_alloc_at _ _ _ _ (by simp)]; rfl) | (rw [World.cell?_alloc_past _ _ _ (by simp <;> omega), World.cell?_alloc_at _ _ _ _ (by simp)]; rfl) | (rw [World.cell?_alloc_past _ _ _ (by simp <;> omega), World.cell?_alloc_past _ _ _ (by simp <;> omega), World.cell?_alloc_at _ _ _ _ (by simp)]; rfl)
                        have ee1 : (w.alloc (.cells #[.int .i64 3, .string id, .int .i64 sg, .int .i64 n] 23)).cell? ⟨w.heap.size, 1, none⟩ = some (.string id) := by first | (simp; done) | (rw [World.cell?_alloc_at _ _ _ _ (by simp)]; rfl) | (rw [World.cell?_alloc_past _ _ _ (by simp <;> omega), World.cell?_alloc_at _ _ _ _ (by simp)]; rfl) | (rw [World.cell?_alloc_past _ _ _ (by simp <;> omega), World.cell?_alloc_past _ _ _ (by simp <;> omega), World.cell?_alloc_at _ _ _ _ (by simp)]; rfl)
                        have ee2 : (w.alloc (.cells #[.int .i64 3, .string id, .int .i64 sg, .int .i64 n] 23)).cell? ⟨w.heap.size, 2, none⟩ = some (.int .i64 sg) := by first | (simp; done) | (rw [World.cell?_alloc_at _ _ _ _ (by simp)]; rfl) | (rw [World.cell?_alloc_past _ _ _ (by simp <;> omega), World.cell?_alloc_at _ _ _ _ (by simp)]; rfl) | (rw [World.cell?_alloc_past _ _ _ (by simp <;> omega), World.cell?_alloc_past _ _ _ (by simp <;> omega), World.cell?_alloc_at _ _ _ _ (by simp)]; rfl)
                        have ee3 : (w.alloc (.cells #[.int .i64 3, .string id, .int .i64 sg, .int .i64 n] 23)).cell? ⟨w.heap.size, 3, none⟩ = some (.int .i64 n) := by first | (simp; done) | (rw [World.cell?_alloc_at _ _ _ _ (by simp)]; rfl) | (rw [World.cell?_alloc_past _ _ _ (by simp <;> omega), World.cell?_alloc_at _ _ _ _ (by simp)]; rfl) | (rw [World.cell?_alloc_past _ _ _ (by simp <;> omega), World.cell?_alloc_past _ _ _ (by simp <;> omega), World.cell?_alloc_at _ _ _ _ (by simp)]; rfl)
                        have hb2 := (by repeat (first | exact hbel | refine belAlloc ?_ _ | refine belDrew ?_ | refine belSet ?_ _ _ (by simp)) : Below w.heap.size w (w.alloc (.cells #[.int .i64 3, .string id, .int .i64 sg, .int .i64 n] 23)))
                        replace hw := belStep hw hb2
                        have eeB : Blk (w.alloc (.cells #[.int .i64 3, .string id, .int .i64 sg, .int .i64 n] 23)) (w.heap.size) [.int .i64 3, .string id, .int .i64 sg, .int .i64 n] 23 := (Blk.at (by simp) : Blk (w.alloc (.cells #[.int .i64 3, .string id, .int .i64 sg, .int .i64 n] 23)) (w.heap.size) [.int .i64 3, .string id, .int .i64 sg, .int .i64 n] 23).later (by repeat (first | exact Below.refl _ _ | refine belAlloc ?_ _))
                        have eeF := Blk.keepF eeB
                        replace eeB := Blk.keepB eeB
                        clear hb2 hbel
                        generalize w.alloc (.cells #[.int .i64 3, .string id, .int .i64 sg, .int .i64 n] 23) = W1 at *
                        replace ee0 := keep ee0
                        replace ee1 := keep ee1
                        replace ee2 := keep ee2
                        replace ee3 := keep ee3
                        have hbel : Below W1.heap.size W1 W1 := Below.refl _ _
                        skip
                        go_wp2_with (first | (go_at_call 24; (with_reducible refine (CW.out _).mono ?_); rintro e9 w9 ⟨rfl, hb9⟩; replace hbel := belStep hbel hb9; clear hb9) | (go_at_call 25; (with_reducible refine (CD.out _).mono ?_); rintro e9 w9 ⟨rfl, hb9⟩; replace hbel := belStep hbel hb9; clear hb9) | (go_at_call 26; (with_reducible refine (CN.out _).mono ?_); rintro e9 w9 ⟨rfl, rfl⟩))
                        go_ret2
                        exact ⟨rln_no (line_noT (by unfold tailE; simp [hwd])), belStep hw hbel⟩
                      | true =>
                        rw [hwd] at CN
                        have hil : id.size ≤ 60 := word_len hwd
                        have s4 : ¬ 9223372036854775807 < td.size + 1 + tk.size + 1 + id.size := by omega
                        have s5 : ¬ 9223372036854775807 < td.size + 1 + tk.size + 1 + id.size + 1 := by omega
                        by_cases h6 : n = 4
                        · subst h6
                          have s7 : ¬ 9223372036854775807 < td.size + 1 + tk.size + 1 + id.size + 5 := by omega
                          by_cases h7 : sg = 0
                          · subst h7
                            go_enter Tryd.func12, Tryd.ntmps12
                            go_upto_region 1 with fail
                            have ee0 : (w.alloc (.cells #[.int .i64 3, .string id, .int .i64 0, .int .i64 4] 23)).cell? ⟨w.heap.size, 0, none⟩ = some (.int .i64 3) := by first | (simp; done) | (rw [World.cell?_alloc_at _ _ _ _ (by simp)]; rfl) | (rw [World.cell?_alloc_past _ _ _ (by simp <;> omega), World.cell?_alloc_at _ _ _ _ (by simp)]; rfl) | (rw [World.cell?_alloc_past _ _ _ (by simp <;> omega), World.cell?_alloc_past _ _ _ (by simp <;> omega), World.cell?_alloc_at _ _ _ _ (by simp)]; rfl)
                            have ee1 : (w.alloc (.cells #[.int .i64 3, .string id, .int .i64 0, .int .i64 4] 23)).cell? ⟨w.heap.size, 1, none⟩ = some (.string id) := by first | (simp; done) | (rw [World.cell?_alloc_at _ _ _ _ (by simp)]; rfl) | (rw [World.cell?_alloc_past _ _ _ (by simp <;> omega), World.cell?_alloc_at _ _ _ _ (by simp)]; rfl) | (rw [World.cell?_alloc_past _ _ _ (by simp <;> omega), World.cell?_alloc_past _ _ _ (by simp <;> omega), World.cell?_alloc_at _ _ _ _ (by simp)]; rfl)
                            have ee2 : (w.alloc (.cells #[.int .i64 3, .string id, .int .i64 0, .int .i64 4] 23)).cell? ⟨w.heap.size, 2, none⟩ = some (.int .i64 0) := by first | (simp; done) | (rw [World.cell?_alloc_at _ _ _ _ (by simp)]; rfl) | (rw [World.cell?_alloc_past _ _ _ (by simp <;> omega), World.cell?_alloc_at _ _ _ _ (by simp)]; rfl) | (rw [World.cell?_alloc_past _ _ _ (by simp <;> omega), World.cell?_alloc_past _ _ _ (by simp <;> omega), World.cell?_alloc_at _ _ _ _ (by simp)]; rfl)
                            have ee3 : (w.alloc (.cells #[.int .i64 3, .string id, .int .i64 0, .int .i64 4] 23)).cell? ⟨w.heap.size, 3, none⟩ = some (.int .i64 4) := by first | (simp; done) | (rw [World.cell?_alloc_at _ _ _ _ (by simp)]; rfl) | (rw [World.cell?_alloc_past _ _ _ (by simp <;> omega), World.cell?_alloc_at _ _ _ _ (by simp)]; rfl) | (rw [World.cell?_alloc_past _ _ _ (by simp <;> omega), World.cell?_alloc_past _ _ _ (by simp <;> omega), World.cell?_alloc_at _ _ _ _ (by simp)]; rfl)
                            have hb2 := (by repeat (first | exact hbel | refine belAlloc ?_ _ | refine belDrew ?_ | refine belSet ?_ _ _ (by simp)) : Below w.heap.size w (w.alloc (.cells #[.int .i64 3, .string id, .int .i64 0, .int .i64 4] 23)))
                            replace hw := belStep hw hb2
                            have eeB : Blk (w.alloc (.cells #[.int .i64 3, .string id, .int .i64 0, .int .i64 4] 23)) (w.heap.size) [.int .i64 3, .string id, .int .i64 0, .int .i64 4] 23 := (Blk.at (by simp) : Blk (w.alloc (.cells #[.int .i64 3, .string id, .int .i64 0, .int .i64 4] 23)) (w.heap.size) [.int .i64 3, .string id, .int .i64 0, .int .i64 4] 23).later (by repeat (first | exact Below.refl _ _ | refine belAlloc ?_ _))
                            have eeF := Blk.keepF eeB
                            replace eeB := Blk.keepB eeB
                            clear hb2 hbel
                            generalize w.alloc (.cells #[.int .i64 3, .string id, .int .i64 0, .int .i64 4] 23) = W1 at *
                            replace ee0 := keep ee0
                            replace ee1 := keep ee1
                            replace ee2 := keep ee2
                            replace ee3 := keep ee3
                            have hbel : Below W1.heap.size W1 W1 := Below.refl _ _
                            skip
                            go_upto_region 12 with (first | (go_at_call 24; (with_reducible refine (CW.out _).mono ?_); rintro e9 w9 ⟨rfl, hb9⟩; replace hbel := belStep hbel hb9; clear hb9) | (go_at_call 25; (with_reducible refine (CD.out _).mono ?_); rintro e9 w9 ⟨rfl, hb9⟩; replace hbel := belStep hbel hb9; clear hb9) | (go_at_call 26; (with_reducible refine (CN.out _).mono ?_); rintro e9 w9 ⟨rfl, rfl⟩))
                            have kk := fun d os => belStep hbel (below_regrown _ d os)
                            refine wp_region_quiet_below (by kernel_rfl) (by kernel_rfl) ?_
                            repeat ((with_reducible refine wpQuiet_step (fun K hK => ?_)); go_simp; (try (rw [if_neg]; rotate_left; · decide)); first | ((with_reducible refine hK _ ?_); clear hK K) | (apply Exists.intro; refine ⟨fun _ => ?_, hK _ ?_⟩; (fail); clear hK K))
                            refine wpQuiet_nil (fun w1 hw1 => ?_)
                            replace hbel := belStep hbel (bel_of_class hw1)
                            clear hw1 kk
                            go_wp2
                            go_ret2
                            exact ⟨rln_yes (line_yesT HRR.out (by dsimp only; omega) (show tailE ⟨3, id, 0, 4⟩ = some [id.data.toList, roomL] from by unfold tailE; simp [hwd])) (by simp only [ByteArray.data_append, Array.toList_append, HTD.out, HTK.out]; simp [joinW, roomL]), belStep hw hbel⟩
                          · have t7 : (sg == 0) = false := beq_eq_false_iff_ne.2 h7
                            go_enter Tryd.func12, Tryd.ntmps12
                            go_upto_region 1 with fail
                            have ee0 : (w.alloc (.cells #[.int .i64 3, .string id, .int .i64 sg, .int .i64 4] 23)).cell? ⟨w.heap.size, 0, none⟩ = some (.int .i64 3) := by first | (simp; done) | (rw [World.cell?_alloc_at _ _ _ _ (by simp)]; rfl) | (rw [World.cell?_alloc_past _ _ _ (by simp <;> omega), World.cell?_alloc_at _ _ _ _ (by simp)]; rfl) | (rw [World.cell?_alloc_past _ _ _ (by simp <;> omega), World.cell?_alloc_past _ _ _ (by simp <;> omega), World.cell?_alloc_at _ _ _ _ (by simp)]; rfl)
                            have ee1 : (w.alloc (.cells #[.int .i64 3, .string id, .int .i64 sg, .int .i64 4] 23)).cell? ⟨w.heap.size, 1, none⟩ = some (.string id) := by first | (simp; done) | (rw [World.cell?_alloc_at _ _ _ _ (by simp)]; rfl) | (rw [World.cell?_alloc_past _ _ _ (by simp <;> omega), World.cell?_alloc_at _ _ _ _ (by simp)]; rfl) | (rw [World.cell?_alloc_past _ _ _ (by simp <;> omega), World.cell?_alloc_past _ _ _ (by simp <;> omega), World.cell?_alloc_at _ _ _ _ (by simp)]; rfl)
                            have ee2 : (w.alloc (.cells #[.int .i64 3, .string id, .int .i64 sg, .int .i64 4] 23)).cell? ⟨w.heap.size, 2, none⟩ = some (.int .i64 sg) := by first | (simp; done) | (rw [World.cell?_alloc_at _ _ _ _ (by simp)]; rfl) | (rw [World.cell?_alloc_past _ _ _ (by simp <;> omega), World.cell?_alloc_at _ _ _ _ (by simp)]; rfl) | (rw [World.cell?_alloc_past _ _ _ (by simp <;> omega), World.cell?_alloc_past _ _ _ (by simp <;> omega), World.cell?_alloc_at _ _ _ _ (by simp)]; rfl)
                            have ee3 : (w.alloc (.cells #[.int .i64 3, .string id, .int .i64 sg, .int .i64 4] 23)).cell? ⟨w.heap.size, 3, none⟩ = some (.int .i64 4) := by first | (simp; done) | (rw [World.cell?_alloc_at _ _ _ _ (by simp)]; rfl) | (rw [World.cell?_alloc_past _ _ _ (by simp <;> omega), World.cell?_alloc_at _ _ _ _ (by simp)]; rfl) | (rw [World.cell?_alloc_past _ _ _ (by simp <;> omega), World.cell?_alloc_past _ _ _ (by simp <;> omega), World.cell?_alloc_at _ _ _ _ (by simp)]; rfl)
                            have hb2 := (by repeat (first | exact hbel | refine belAlloc ?_ _ | refine belDrew ?_ | refine belSet ?_ _ _ (by simp)) : Below w.heap.size w (w.alloc (.cells #[.int .i64 3, .string id, .int .i64 sg, .int .i64 4] 23)))
                            replace hw := belStep hw hb2
                            have eeB : Blk (w.alloc (.cells #[.int .i64 3, .string id, .int .i64 sg, .int .i64 4] 23)) (w.heap.size) [.int .i64 3, .string id, .int .i64 sg, .int .i64 4] 23 := (Blk.at (by simp) : Blk (w.alloc (.cells #[.int .i64 3, .string id, .int .i64 sg, .int .i64 4] 23)) (w.heap.size) [.int .i64 3, .string id, .int .i64 sg, .int .i64 4] 23).later (by repeat (first | exact Below.refl _ _ | refine belAlloc ?_ _))
                            have eeF := Blk.keepF eeB
                            replace eeB := Blk.keepB eeB
                            clear hb2 hbel
                            generalize w.alloc (.cells #[.int .i64 3, .string id, .int .i64 sg, .int .i64 4] 23) = W1 at *
                            replace ee0 := keep ee0
                            replace ee1 := keep ee1
                            replace ee2 := keep ee2
                            replace ee3 := keep ee3
                            have hbel : Below W1.heap.size W1 W1 := Below.refl _ _
                            skip
                            go_upto_region 12 with (first | (go_at_call 24; (with_reducible refine (CW.out _).mono ?_); rintro e9 w9 ⟨rfl, hb9⟩; replace hbel := belStep hbel hb9; clear hb9) | (go_at_call 25; (with_reducible refine (CD.out _).mono ?_); rintro e9 w9 ⟨rfl, hb9⟩; replace hbel := belStep hbel hb9; clear hb9) | (go_at_call 26; (with_reducible refine (CN.out _).mono ?_); rintro e9 w9 ⟨rfl, rfl⟩))
                            have kk := fun d os => belStep hbel (below_regrown _ d os)
                            refine wp_region_quiet_below (by kernel_rfl) (by kernel_rfl) ?_
                            repeat ((with_reducible refine wpQuiet_step (fun K hK => ?_)); go_simp; (try (rw [if_neg]; rotate_left; · decide)); first | ((with_reducible refine hK _ ?_); clear hK K) | (apply Exists.intro; refine ⟨fun _ => ?_, hK _ ?_⟩; (fail); clear hK K))
                            refine wpQuiet_nil (fun w1 hw1 => ?_)
                            replace hbel := belStep hbel (bel_of_class hw1)
                            clear hw1 kk
                            go_wp2
                            go_ret2
                            exact ⟨rln_no (line_noT (by unfold tailE; simp [hwd, h7])), belStep hw hbel⟩
                        · by_cases h8 : n = 3
                          · subst h8
                            have s8 : ¬ 9223372036854775807 < td.size + 1 + tk.size + 1 + id.size + 9 := by omega
                            have s9 : ¬ 9223372036854775807 < td.size + 1 + tk.size + 1 + id.size + 9 + 1 := by omega
                            by_cases h3 : sg < 0
                            · have t3 : decide (sg < 0) = true := decide_eq_true h3
                              go_enter Tryd.func12, Tryd.ntmps12
                              go_upto_region 1 with fail
                              have ee0 : (w.alloc (.cells #[.int .i64 3, .string id, .int .i64 sg, .int .i64 3] 23)).cell? ⟨w.heap.size, 0, none⟩ = some (.int .i64 3) := by first | (simp; done) | (rw [World.cell?_alloc_at _ _ _ _ (by simp)]; rfl) | (rw [World.cell?_alloc_past _ _ _ (by simp <;> omega), World.cell?_alloc_at _ _ _ _ (by simp)]; rfl) | (rw [World.cell?_alloc_past _ _ _ (by simp <;> omega), World.cell?_alloc_past _ _ _ (by simp <;> omega), World.cell?_alloc_at _ _ _ _ (by simp)]; rfl)
                              have ee1 : (w.alloc (.cells #[.int .i64 3, .string id, .int .i64 sg, .int .i64 3] 23)).cell? ⟨w.heap.size, 1, none⟩ = some (.string id) := by first | (simp; done) | (rw [World.cell?_alloc_at _ _ _ _ (by simp)]; rfl) | (rw [World.cell?_alloc_past _ _ _ (by simp <;> omega), World.cell?_alloc_at _ _ _ _ (by simp)]; rfl) | (rw [World.cell?_alloc_past _ _ _ (by simp <;> omega), World.cell?_alloc_past _ _ _ (by simp <;> omega), World.cell?_alloc_at _ _ _ _ (by simp)]; rfl)
                              have ee2 : (w.alloc (.cells #[.int .i64 3, .string id, .int .i64 sg, .int .i64 3] 23)).cell? ⟨w.heap.size, 2, none⟩ = some (.int .i64 sg) := by first | (simp; done) | (rw [World.cell?_alloc_at _ _ _ _ (by simp)]; rfl) | (rw [World.cell?_alloc_past _ _ _ (by simp <;> omega), World.cell?_alloc_at _ _ _ _ (by simp)]; rfl) | (rw [World.cell?_alloc_past _ _ _ (by simp <;> omega), World.cell?_alloc_past _ _ _ (by simp <;> omega), World.cell?_alloc_at _ _ _ _ (by simp)]; rfl)
                              have ee3 : (w.alloc (.cells #[.int .i64 3, .string id, .int .i64 sg, .int .i64 3] 23)).cell? ⟨w.heap.size, 3, none⟩ = some (.int .i64 3) := by first | (simp; done) | (rw [World.cell?_alloc_at _ _ _ _ (by simp)]; rfl) | (rw [World.cell?_alloc_past _ _ _ (by simp <;> omega), World.cell?_alloc_at _ _ _ _ (by simp)]; rfl) | (rw [World.cell?_alloc_past _ _ _ (by simp <;> omega), World.cell?_alloc_past _ _ _ (by simp <;> omega), World.cell?_alloc_at _ _ _ _ (by simp)]; rfl)
                              have hb2 := (by repeat (first | exact hbel | refine belAlloc ?_ _ | refine belDrew ?_ | refine belSet ?_ _ _ (by simp)) : Below w.heap.size w (w.alloc (.cells #[.int .i64 3, .string id, .int .i64 sg, .int .i64 3] 23)))
                              replace hw := belStep hw hb2
                              have eeB : Blk (w.alloc (.cells #[.int .i64 3, .string id, .int .i64 sg, .int .i64 3] 23)) (w.heap.size) [.int .i64 3, .string id, .int .i64 sg, .int .i64 3] 23 := (Blk.at (by simp) : Blk (w.alloc (.cells #[.int .i64 3, .string id, .int .i64 sg, .int .i64 3] 23)) (w.heap.size) [.int .i64 3, .string id, .int .i64 sg, .int .i64 3] 23).later (by repeat (first | exact Below.refl _ _ | refine belAlloc ?_ _))
                              have eeF := Blk.keepF eeB
                              replace eeB := Blk.keepB eeB
                              clear hb2 hbel
                              generalize w.alloc (.cells #[.int .i64 3, .string id, .int .i64 sg, .int .i64 3] 23) = W1 at *
                              replace ee0 := keep ee0
                              replace ee1 := keep ee1
                              replace ee2 := keep ee2
                              replace ee3 := keep ee3
                              have hbel : Below W1.heap.size W1 W1 := Below.refl _ _
                              skip
                              go_wp2_with (first | (go_at_call 24; (with_reducible refine (CW.out _).mono ?_); rintro e9 w9 ⟨rfl, hb9⟩; replace hbel := belStep hbel hb9; clear hb9) | (go_at_call 25; (with_reducible refine (CD.out _).mono ?_); rintro e9 w9 ⟨rfl, hb9⟩; replace hbel := belStep hbel hb9; clear hb9) | (go_at_call 26; (with_reducible refine (CN.out _).mono ?_); rintro e9 w9 ⟨rfl, rfl⟩))
                              go_ret2
                              exact ⟨rln_no (line_noT (by unfold tailE; simp [hwd, show ¬ 0 ≤ sg by omega])), belStep hw hbel⟩
                            · have t3 : decide (sg < 0) = false := decide_eq_false h3
                              by_cases h4 : 2 < sg
                              · have t4 : decide ((2 : Int) < sg) = true := decide_eq_true h4
                                go_enter Tryd.func12, Tryd.ntmps12
                                go_upto_region 1 with fail
                                have ee0 : (w.alloc (.cells #[.int .i64 3, .string id, .int .i64 sg, .int .i64 3] 23)).cell? ⟨w.heap.size, 0, none⟩ = some (.int .i64 3) := by first | (simp; done) | (rw [World.cell?_alloc_at _ _ _ _ (by simp)]; rfl) | (rw [World.cell?_alloc_past _ _ _ (by simp <;> omega), World.cell?_alloc_at _ _ _ _ (by simp)]; rfl) | (rw [World.cell?_alloc_past _ _ _ (by simp <;> omega), World.cell?_alloc_past _ _ _ (by simp <;> omega), World.cell?_alloc_at _ _ _ _ (by simp)]; rfl)
                                have ee1 : (w.alloc (.cells #[.int .i64 3, .string id, .int .i64 sg, .int .i64 3] 23)).cell? ⟨w.heap.size, 1, none⟩ = some (.string id) := by first | (simp; done) | (rw [World.cell?_alloc_at _ _ _ _ (by simp)]; rfl) | (rw [World.cell?_alloc_past _ _ _ (by simp <;> omega), World.cell?_alloc_at _ _ _ _ (by simp)]; rfl) | (rw [World.cell?_alloc_past _ _ _ (by simp <;> omega), World.cell?_alloc_past _ _ _ (by simp <;> omega), World.cell?_alloc_at _ _ _ _ (by simp)]; rfl)
                                have ee2 : (w.alloc (.cells #[.int .i64 3, .string id, .int .i64 sg, .int .i64 3] 23)).cell? ⟨w.heap.size, 2, none⟩ = some (.int .i64 sg) := by first | (simp; done) | (rw [World.cell?_alloc_at _ _ _ _ (by simp)]; rfl) | (rw [World.cell?_alloc_past _ _ _ (by simp <;> omega), World.cell?_alloc_at _ _ _ _ (by simp)]; rfl) | (rw [World.cell?_alloc_past _ _ _ (by simp <;> omega), World.cell?_alloc_past _ _ _ (by simp <;> omega), World.cell?_alloc_at _ _ _ _ (by simp)]; rfl)
                                have ee3 : (w.alloc (.cells #[.int .i64 3, .string id, .int .i64 sg, .int .i64 3] 23)).cell? ⟨w.heap.size, 3, none⟩ = some (.int .i64 3) := by first | (simp; done) | (rw [World.cell?_alloc_at _ _ _ _ (by simp)]; rfl) | (rw [World.cell?_alloc_past _ _ _ (by simp <;> omega), World.cell?_alloc_at _ _ _ _ (by simp)]; rfl) | (rw [World.cell?_alloc_past _ _ _ (by simp <;> omega), World.cell?_alloc_past _ _ _ (by simp <;> omega), World.cell?_alloc_at _ _ _ _ (by simp)]; rfl)
                                have hb2 := (by repeat (first | exact hbel | refine belAlloc ?_ _ | refine belDrew ?_ | refine belSet ?_ _ _ (by simp)) : Below w.heap.size w (w.alloc (.cells #[.int .i64 3, .string id, .int .i64 sg, .int .i64 3] 23)))
                                replace hw := belStep hw hb2
                                have eeB : Blk (w.alloc (.cells #[.int .i64 3, .string id, .int .i64 sg, .int .i64 3] 23)) (w.heap.size) [.int .i64 3, .string id, .int .i64 sg, .int .i64 3] 23 := (Blk.at (by simp) : Blk (w.alloc (.cells #[.int .i64 3, .string id, .int .i64 sg, .int .i64 3] 23)) (w.heap.size) [.int .i64 3, .string id, .int .i64 sg, .int .i64 3] 23).later (by repeat (first | exact Below.refl _ _ | refine belAlloc ?_ _))
                                have eeF := Blk.keepF eeB
                                replace eeB := Blk.keepB eeB
                                clear hb2 hbel
                                generalize w.alloc (.cells #[.int .i64 3, .string id, .int .i64 sg, .int .i64 3] 23) = W1 at *
                                replace ee0 := keep ee0
                                replace ee1 := keep ee1
                                replace ee2 := keep ee2
                                replace ee3 := keep ee3
                                have hbel : Below W1.heap.size W1 W1 := Below.refl _ _
                                skip
                                go_wp2_with (first | (go_at_call 24; (with_reducible refine (CW.out _).mono ?_); rintro e9 w9 ⟨rfl, hb9⟩; replace hbel := belStep hbel hb9; clear hb9) | (go_at_call 25; (with_reducible refine (CD.out _).mono ?_); rintro e9 w9 ⟨rfl, hb9⟩; replace hbel := belStep hbel hb9; clear hb9) | (go_at_call 26; (with_reducible refine (CN.out _).mono ?_); rintro e9 w9 ⟨rfl, rfl⟩))
                                go_ret2
                                exact ⟨rln_no (line_noT (by unfold tailE; simp [hwd, show ¬ sg ≤ 2 by omega])), belStep hw hbel⟩
                              · have t4 : decide ((2 : Int) < sg) = false := decide_eq_false h4
                                have CS := Lib.hid (fun u => ref_Word sg u (by omega))
                                rw [wB_sg (show 0 ≤ sg ∧ sg ≤ 2 by omega)] at CS
                                obtain ⟨ts, hts⟩ : ∃ x, bA (sgE sg.toNat) = x := ⟨_, rfl⟩
                                rw [hts] at CS
                                have HTS := Lib.hid (show ts.data.toList = sgE sg.toNat from by rw [← hts, bA_data])
                                have hsl : ts.size ≤ 6 := by rw [← hts, bA_size]; exact sgE_size _
                                clear hts
                                have s6 : ¬ 9223372036854775807 < td.size + 1 + tk.size + 1 + id.size + 9 + 1 + ts.size := by omega
                                go_enter Tryd.func12, Tryd.ntmps12
                                go_upto_region 1 with fail
                                have ee0 : (w.alloc (.cells #[.int .i64 3, .string id, .int .i64 sg, .int .i64 3] 23)).cell? ⟨w.heap.size, 0, none⟩ = some (.int .i64 3) := by first | (simp; done) | (rw [World.cell?_alloc_at _ _ _ _ (by simp)]; rfl) | (rw [World.cell?_alloc_past _ _ _ (by simp <;> omega), World.cell?_alloc_at _ _ _ _ (by simp)]; rfl) | (rw [World.cell?_alloc_past _ _ _ (by simp <;> omega), World.cell?_alloc_past _ _ _ (by simp <;> omega), World.cell?_alloc_at _ _ _ _ (by simp)]; rfl)
                                have ee1 : (w.alloc (.cells #[.int .i64 3, .string id, .int .i64 sg, .int .i64 3] 23)).cell? ⟨w.heap.size, 1, none⟩ = some (.string id) := by first | (simp; done) | (rw [World.cell?_alloc_at _ _ _ _ (by simp)]; rfl) | (rw [World.cell?_alloc_past _ _ _ (by simp <;> omega), World.cell?_alloc_at _ _ _ _ (by simp)]; rfl) | (rw [World.cell?_alloc_past _ _ _ (by simp <;> omega), World.cell?_alloc_past _ _ _ (by simp <;> omega), World.cell?_alloc_at _ _ _ _ (by simp)]; rfl)
                                have ee2 : (w.alloc (.cells #[.int .i64 3, .string id, .int .i64 sg, .int .i64 3] 23)).cell? ⟨w.heap.size, 2, none⟩ = some (.int .i64 sg) := by first | (simp; done) | (rw [World.cell?_alloc_at _ _ _ _ (by simp)]; rfl) | (rw [World.cell?_alloc_past _ _ _ (by simp <;> omega), World.cell?_alloc_at _ _ _ _ (by simp)]; rfl) | (rw [World.cell?_alloc_past _ _ _ (by simp <;> omega), World.cell?_alloc_past _ _ _ (by simp <;> omega), World.cell?_alloc_at _ _ _ _ (by simp)]; rfl)
                                have ee3 : (w.alloc (.cells #[.int .i64 3, .string id, .int .i64 sg, .int .i64 3] 23)).cell? ⟨w.heap.size, 3, none⟩ = some (.int .i64 3) := by first | (simp; done) | (rw [World.cell?_alloc_at _ _ _ _ (by simp)]; rfl) | (rw [World.cell?_alloc_past _ _ _ (by simp <;> omega), World.cell?_alloc_at _ _ _ _ (by simp)]; rfl) | (rw [World.cell?_alloc_past _ _ _ (by simp <;> omega), World.cell?_alloc_past _ _ _ (by simp <;> omega), World.cell?_alloc_at _ _ _ _ (by simp)]; rfl)
                                have hb2 := (by repeat (first | exact hbel | refine belAlloc ?_ _ | refine belDrew ?_ | refine belSet ?_ _ _ (by simp)) : Below w.heap.size w (w.alloc (.cells #[.int .i64 3, .string id, .int .i64 sg, .int .i64 3] 23)))
                                replace hw := belStep hw hb2
                                have eeB : Blk (w.alloc (.cells #[.int .i64 3, .string id, .int .i64 sg, .int .i64 3] 23)) (w.heap.size) [.int .i64 3, .string id, .int .i64 sg, .int .i64 3] 23 := (Blk.at (by simp) : Blk (w.alloc (.cells #[.int .i64 3, .string id, .int .i64 sg, .int .i64 3] 23)) (w.heap.size) [.int .i64 3, .string id, .int .i64 sg, .int .i64 3] 23).later (by repeat (first | exact Below.refl _ _ | refine belAlloc ?_ _))
                                have eeF := Blk.keepF eeB
                                replace eeB := Blk.keepB eeB
                                clear hb2 hbel
                                generalize w.alloc (.cells #[.int .i64 3, .string id, .int .i64 sg, .int .i64 3] 23) = W1 at *
                                replace ee0 := keep ee0
                                replace ee1 := keep ee1
                                replace ee2 := keep ee2
                                replace ee3 := keep ee3
                                have hbel : Below W1.heap.size W1 W1 := Below.refl _ _
                                skip
                                go_wp2_with (first | (go_at_call 24; (with_reducible refine (CW.out _).mono ?_); rintro e9 w9 ⟨rfl, hb9⟩; replace hbel := belStep hbel hb9; clear hb9) | (go_at_call 25; (with_reducible refine (CD.out _).mono ?_); rintro e9 w9 ⟨rfl, hb9⟩; replace hbel := belStep hbel hb9; clear hb9) | (go_at_call 26; (with_reducible refine (CN.out _).mono ?_); rintro e9 w9 ⟨rfl, rfl⟩) | (go_at_call 27; (with_reducible refine (CS.out _).mono ?_); rintro e9 w9 ⟨rfl, rfl⟩))
                                go_ret2
                                exact ⟨rln_yes (line_yesT HRR.out (by dsimp only; omega) (show tailE ⟨3, id, sg, 3⟩ = some [id.data.toList, pressL, sgE sg.toNat] from by unfold tailE; simp [hwd, show 0 ≤ sg by omega, show sg ≤ 2 by omega])) (by simp only [ByteArray.data_append, Array.toList_append, HTD.out, HTK.out, HTS.out]; simp [joinW, pressL]), belStep hw hbel⟩
                          · have t6 : (n == 4) = false := beq_eq_false_iff_ne.2 h6
                            have t8 : (n == 3) = false := beq_eq_false_iff_ne.2 h8
                            have t8n : (n != 3) = true := bne_iff_ne.2 h8
                            go_enter Tryd.func12, Tryd.ntmps12
                            go_upto_region 1 with fail
                            have ee0 : (w.alloc (.cells #[.int .i64 3, .string id, .int .i64 sg, .int .i64 n] 23)).cell? ⟨w.heap.size, 0, none⟩ = some (.int .i64 3) := by first | (simp; done) | (rw [World.cell?_alloc_at _ _ _ _ (by simp)]; rfl) | (rw [World.cell?_alloc_past _ _ _ (by simp <;> omega), World.cell?_alloc_at _ _ _ _ (by simp)]; rfl) | (rw [World.cell?_alloc_past _ _ _ (by simp <;> omega), World.cell?_alloc_past _ _ _ (by simp <;> omega), World.cell?_alloc_at _ _ _ _ (by simp)]; rfl)
                            have ee1 : (w.alloc (.cells #[.int .i64 3, .string id, .int .i64 sg, .int .i64 n] 23)).cell? ⟨w.heap.size, 1, none⟩ = some (.string id) := by first | (simp; done) | (rw [World.cell?_alloc_at _ _ _ _ (by simp)]; rfl) | (rw [World.cell?_alloc_past _ _ _ (by simp <;> omega), World.cell?_alloc_at _ _ _ _ (by simp)]; rfl) | (rw [World.cell?_alloc_past _ _ _ (by simp <;> omega), World.cell?_alloc_past _ _ _ (by simp <;> omega), World.cell?_alloc_at _ _ _ _ (by simp)]; rfl)
                            have ee2 : (w.alloc (.cells #[.int .i64 3, .string id, .int .i64 sg, .int .i64 n] 23)).cell? ⟨w.heap.size, 2, none⟩ = some (.int .i64 sg) := by first | (simp; done) | (rw [World.cell?_alloc_at _ _ _ _ (by simp)]; rfl) | (rw [World.cell?_alloc_past _ _ _ (by simp <;> omega), World.cell?_alloc_at _ _ _ _ (by simp)]; rfl) | (rw [World.cell?_alloc_past _ _ _ (by simp <;> omega), World.cell?_alloc_past _ _ _ (by simp <;> omega), World.cell?_alloc_at _ _ _ _ (by simp)]; rfl)
                            have ee3 : (w.alloc (.cells #[.int .i64 3, .string id, .int .i64 sg, .int .i64 n] 23)).cell? ⟨w.heap.size, 3, none⟩ = some (.int .i64 n) := by first | (simp; done) | (rw [World.cell?_alloc_at _ _ _ _ (by simp)]; rfl) | (rw [World.cell?_alloc_past _ _ _ (by simp <;> omega), World.cell?_alloc_at _ _ _ _ (by simp)]; rfl) | (rw [World.cell?_alloc_past _ _ _ (by simp <;> omega), World.cell?_alloc_past _ _ _ (by simp <;> omega), World.cell?_alloc_at _ _ _ _ (by simp)]; rfl)
                            have hb2 := (by repeat (first | exact hbel | refine belAlloc ?_ _ | refine belDrew ?_ | refine belSet ?_ _ _ (by simp)) : Below w.heap.size w (w.alloc (.cells #[.int .i64 3, .string id, .int .i64 sg, .int .i64 n] 23)))
                            replace hw := belStep hw hb2
                            have eeB : Blk (w.alloc (.cells #[.int .i64 3, .string id, .int .i64 sg, .int .i64 n] 23)) (w.heap.size) [.int .i64 3, .string id, .int .i64 sg, .int .i64 n] 23 := (Blk.at (by simp) : Blk (w.alloc (.cells #[.int .i64 3, .string id, .int .i64 sg, .int .i64 n] 23)) (w.heap.size) [.int .i64 3, .string id, .int .i64 sg, .int .i64 n] 23).later (by repeat (first | exact Below.refl _ _ | refine belAlloc ?_ _))
                            have eeF := Blk.keepF eeB
                            replace eeB := Blk.keepB eeB
                            clear hb2 hbel
                            generalize w.alloc (.cells #[.int .i64 3, .string id, .int .i64 sg, .int .i64 n] 23) = W1 at *
                            replace ee0 := keep ee0
                            replace ee1 := keep ee1
                            replace ee2 := keep ee2
                            replace ee3 := keep ee3
                            have hbel : Below W1.heap.size W1 W1 := Below.refl _ _
                            skip
                            go_wp2_with (first | (go_at_call 24; (with_reducible refine (CW.out _).mono ?_); rintro e9 w9 ⟨rfl, hb9⟩; replace hbel := belStep hbel hb9; clear hb9) | (go_at_call 25; (with_reducible refine (CD.out _).mono ?_); rintro e9 w9 ⟨rfl, hb9⟩; replace hbel := belStep hbel hb9; clear hb9) | (go_at_call 26; (with_reducible refine (CN.out _).mono ?_); rintro e9 w9 ⟨rfl, rfl⟩))
                            go_ret2
                            exact ⟨rln_no (line_noT (by unfold tailE; simp [hwd, h6, h8])), belStep hw hbel⟩
                    · have v3 : (k == 3) = false := beq_eq_false_iff_ne.2 hq3
                      have vn3 : (k != 3) = true := bne_iff_ne.2 hq3
                      have v5 : (k == 5) = false := beq_eq_false_iff_ne.2 hq5
                      have vn5 : (k != 5) = true := bne_iff_ne.2 hq5
                      have v6 : (k == 6) = false := beq_eq_false_iff_ne.2 hq6
                      have vn6 : (k != 6) = true := bne_iff_ne.2 hq6
                      have v7 : (k == 7) = false := beq_eq_false_iff_ne.2 hq7
                      have vn7 : (k != 7) = true := bne_iff_ne.2 hq7
                      have v9 : (k == 9) = false := beq_eq_false_iff_ne.2 hq9
                      have vn9 : (k != 9) = true := bne_iff_ne.2 hq9
                      have v14 : (k == 14) = false := beq_eq_false_iff_ne.2 hq14
                      have vn14 : (k != 14) = true := bne_iff_ne.2 hq14
                      have v16 : (k == 16) = false := beq_eq_false_iff_ne.2 hq16
                      have vn16 : (k != 16) = true := bne_iff_ne.2 hq16
                      have HKG := Lib.hid hk
                      clear hk
                      cases hwd : wordB id.data.toList with
                      | false =>
                        rw [hwd] at CN
                        go_enter Tryd.func12, Tryd.ntmps12
                        go_upto_region 1 with fail
                        have ee0 : (w.alloc (.cells #[.int .i64 k, .string id, .int .i64 sg, .int .i64 n] 23)).cell? ⟨w.heap.size, 0, none⟩ = some (.int .i64 k) := by first | (simp; done) | (rw [World.cell?_alloc_at _ _ _ _ (by simp)]; rfl) | (rw [World.cell?_alloc_past _ _ _ (by simp <;> omega), World.cell?_alloc_at _ _ _ _ (by simp)]; rfl) | (rw [World.cell?_alloc_past _ _ _ (by simp <;> omega), World.cell?_alloc_past _ _ _ (by simp <;> omega), World.cell?_alloc_at _ _ _ _ (by simp)]; rfl)
                        have ee1 : (w.alloc (.cells #[.int .i64 k, .string id, .int .i64 sg, .int .i64 n] 23)).cell? ⟨w.heap.size, 1, none⟩ = some (.string id) := by first | (simp; done) | (rw [World.cell?_alloc_at _ _ _ _ (by simp)]; rfl) | (rw [World.cell?_alloc_past _ _ _ (by simp <;> omega), World.cell?_alloc_at _ _ _ _ (by simp)]; rfl) | (rw [World.cell?_alloc_past _ _ _ (by simp <;> omega), World.cell?_alloc_past _ _ _ (by simp <;> omega), World.cell?_alloc_at _ _ _ _ (by simp)]; rfl)
                        have ee2 : (w.alloc (.cells #[.int .i64 k, .string id, .int .i64 sg, .int .i64 n] 23)).cell? ⟨w.heap.size, 2, none⟩ = some (.int .i64 sg) := by first | (simp; done) | (rw [World.cell?_alloc_at _ _ _ _ (by simp)]; rfl) | (rw [World.cell?_alloc_past _ _ _ (by simp <;> omega), World.cell?_alloc_at _ _ _ _ (by simp)]; rfl) | (rw [World.cell?_alloc_past _ _ _ (by simp <;> omega), World.cell?_alloc_past _ _ _ (by simp <;> omega), World.cell?_alloc_at _ _ _ _ (by simp)]; rfl)
                        have ee3 : (w.alloc (.cells #[.int .i64 k, .string id, .int .i64 sg, .int .i64 n] 23)).cell? ⟨w.heap.size, 3, none⟩ = some (.int .i64 n) := by first | (simp; done) | (rw [World.cell?_alloc_at _ _ _ _ (by simp)]; rfl) | (rw [World.cell?_alloc_past _ _ _ (by simp <;> omega), World.cell?_alloc_at _ _ _ _ (by simp)]; rfl) | (rw [World.cell?_alloc_past _ _ _ (by simp <;> omega), World.cell?_alloc_past _ _ _ (by simp <;> omega), World.cell?_alloc_at _ _ _ _ (by simp)]; rfl)
                        have hb2 := (by repeat (first | exact hbel | refine belAlloc ?_ _ | refine belDrew ?_ | refine belSet ?_ _ _ (by simp)) : Below w.heap.size w (w.alloc (.cells #[.int .i64 k, .string id, .int .i64 sg, .int .i64 n] 23)))
                        replace hw := belStep hw hb2
                        have eeB : Blk (w.alloc (.cells #[.int .i64 k, .string id, .int .i64 sg, .int .i64 n] 23)) (w.heap.size) [.int .i64 k, .string id, .int .i64 sg, .int .i64 n] 23 := (Blk.at (by simp) : Blk (w.alloc (.cells #[.int .i64 k, .string id, .int .i64 sg, .int .i64 n] 23)) (w.heap.size) [.int .i64 k, .string id, .int .i64 sg, .int .i64 n] 23).later (by repeat (first | exact Below.refl _ _ | refine belAlloc ?_ _))
                        have eeF := Blk.keepF eeB
                        replace eeB := Blk.keepB eeB
                        clear hb2 hbel
                        generalize w.alloc (.cells #[.int .i64 k, .string id, .int .i64 sg, .int .i64 n] 23) = W1 at *
                        replace ee0 := keep ee0
                        replace ee1 := keep ee1
                        replace ee2 := keep ee2
                        replace ee3 := keep ee3
                        have hbel : Below W1.heap.size W1 W1 := Below.refl _ _
                        skip
                        go_wp2_with (first | (go_at_call 24; (with_reducible refine (CW.out _).mono ?_); rintro e9 w9 ⟨rfl, hb9⟩; replace hbel := belStep hbel hb9; clear hb9) | (go_at_call 25; (with_reducible refine (CD.out _).mono ?_); rintro e9 w9 ⟨rfl, hb9⟩; replace hbel := belStep hbel hb9; clear hb9) | (go_at_call 26; (with_reducible refine (CN.out _).mono ?_); rintro e9 w9 ⟨rfl, rfl⟩))
                        go_ret2
                        exact ⟨rln_no (line_noT (by unfold tailE; simp [hq3, hq5, hq6, hq7, hq9, hq14, hq16, hwd])), belStep hw hbel⟩
                      | true =>
                        rw [hwd] at CN
                        have hil : id.size ≤ 60 := word_len hwd
                        have s4 : ¬ 9223372036854775807 < td.size + 1 + tk.size + 1 + id.size := by omega
                        have s5 : ¬ 9223372036854775807 < td.size + 1 + tk.size + 1 + id.size + 1 := by omega
                        by_cases h3 : sg = 0
                        · subst h3
                          by_cases h4 : n = 0
                          · subst h4
                            go_enter Tryd.func12, Tryd.ntmps12
                            go_upto_region 1 with fail
                            have ee0 : (w.alloc (.cells #[.int .i64 k, .string id, .int .i64 0, .int .i64 0] 23)).cell? ⟨w.heap.size, 0, none⟩ = some (.int .i64 k) := by first | (simp; done) | (rw [World.cell?_alloc_at _ _ _ _ (by simp)]; rfl) | (rw [World.cell?_alloc_past _ _ _ (by simp <;> omega), World.cell?_alloc_at _ _ _ _ (by simp)]; rfl) | (rw [World.cell?_alloc_past _ _ _ (by simp <;> omega), World.cell?_alloc_past _ _ _ (by simp <;> omega), World.cell?_alloc_at _ _ _ _ (by simp)]; rfl)
                            have ee1 : (w.alloc (.cells #[.int .i64 k, .string id, .int .i64 0, .int .i64 0] 23)).cell? ⟨w.heap.size, 1, none⟩ = some (.string id) := by first | (simp; done) | (rw [World.cell?_alloc_at _ _ _ _ (by simp)]; rfl) | (rw [World.cell?_alloc_past _ _ _ (by simp <;> omega), World.cell?_alloc_at _ _ _ _ (by simp)]; rfl) | (rw [World.cell?_alloc_past _ _ _ (by simp <;> omega), World.cell?_alloc_past _ _ _ (by simp <;> omega), World.cell?_alloc_at _ _ _ _ (by simp)]; rfl)
                            have ee2 : (w.alloc (.cells #[.int .i64 k, .string id, .int .i64 0, .int .i64 0] 23)).cell? ⟨w.heap.size, 2, none⟩ = some (.int .i64 0) := by first | (simp; done) | (rw [World.cell?_alloc_at _ _ _ _ (by simp)]; rfl) | (rw [World.cell?_alloc_past _ _ _ (by simp <;> omega), World.cell?_alloc_at _ _ _ _ (by simp)]; rfl) | (rw [World.cell?_alloc_past _ _ _ (by simp <;> omega), World.cell?_alloc_past _ _ _ (by simp <;> omega), World.cell?_alloc_at _ _ _ _ (by simp)]; rfl)
                            have ee3 : (w.alloc (.cells #[.int .i64 k, .string id, .int .i64 0, .int .i64 0] 23)).cell? ⟨w.heap.size, 3, none⟩ = some (.int .i64 0) := by first | (simp; done) | (rw [World.cell?_alloc_at _ _ _ _ (by simp)]; rfl) | (rw [World.cell?_alloc_past _ _ _ (by simp <;> omega), World.cell?_alloc_at _ _ _ _ (by simp)]; rfl) | (rw [World.cell?_alloc_past _ _ _ (by simp <;> omega), World.cell?_alloc_past _ _ _ (by simp <;> omega), World.cell?_alloc_at _ _ _ _ (by simp)]; rfl)
                            have hb2 := (by repeat (first | exact hbel | refine belAlloc ?_ _ | refine belDrew ?_ | refine belSet ?_ _ _ (by simp)) : Below w.heap.size w (w.alloc (.cells #[.int .i64 k, .string id, .int .i64 0, .int .i64 0] 23)))
                            replace hw := belStep hw hb2
                            have eeB : Blk (w.alloc (.cells #[.int .i64 k, .string id, .int .i64 0, .int .i64 0] 23)) (w.heap.size) [.int .i64 k, .string id, .int .i64 0, .int .i64 0] 23 := (Blk.at (by simp) : Blk (w.alloc (.cells #[.int .i64 k, .string id, .int .i64 0, .int .i64 0] 23)) (w.heap.size) [.int .i64 k, .string id, .int .i64 0, .int .i64 0] 23).later (by repeat (first | exact Below.refl _ _ | refine belAlloc ?_ _))
                            have eeF := Blk.keepF eeB
                            replace eeB := Blk.keepB eeB
                            clear hb2 hbel
                            generalize w.alloc (.cells #[.int .i64 k, .string id, .int .i64 0, .int .i64 0] 23) = W1 at *
                            replace ee0 := keep ee0
                            replace ee1 := keep ee1
                            replace ee2 := keep ee2
                            replace ee3 := keep ee3
                            have hbel : Below W1.heap.size W1 W1 := Below.refl _ _
                            skip
                            go_upto_region 24 with (first | (go_at_call 24; (with_reducible refine (CW.out _).mono ?_); rintro e9 w9 ⟨rfl, hb9⟩; replace hbel := belStep hbel hb9; clear hb9) | (go_at_call 25; (with_reducible refine (CD.out _).mono ?_); rintro e9 w9 ⟨rfl, hb9⟩; replace hbel := belStep hbel hb9; clear hb9) | (go_at_call 26; (with_reducible refine (CN.out _).mono ?_); rintro e9 w9 ⟨rfl, rfl⟩))
                            have kk := fun d os => belStep hbel (below_regrown _ d os)
                            refine wp_region_quiet_below (by kernel_rfl) (by kernel_rfl) ?_
                            repeat ((with_reducible refine wpQuiet_step (fun K hK => ?_)); go_simp; (try (rw [if_neg]; rotate_left; · decide)); first | ((with_reducible refine hK _ ?_); clear hK K) | (apply Exists.intro; refine ⟨fun _ => ?_, hK _ ?_⟩; (fail); clear hK K))
                            refine wpQuiet_nil (fun w1 hw1 => ?_)
                            replace hbel := belStep hbel (bel_of_class hw1)
                            clear hw1 kk
                            go_wp2
                            go_ret2
                            exact ⟨rln_yes (line_yesT HRR.out HKG.out (show tailE ⟨k, id, 0, 0⟩ = some [id.data.toList] from by unfold tailE; simp [hq3, hq5, hq6, hq7, hq9, hq14, hq16, hwd])) (by simp only [ByteArray.data_append, Array.toList_append, HTD.out, HTK.out]; simp [joinW]), belStep hw hbel⟩
                          · have t4 : (n == 0) = false := beq_eq_false_iff_ne.2 h4
                            go_enter Tryd.func12, Tryd.ntmps12
                            go_upto_region 1 with fail
                            have ee0 : (w.alloc (.cells #[.int .i64 k, .string id, .int .i64 0, .int .i64 n] 23)).cell? ⟨w.heap.size, 0, none⟩ = some (.int .i64 k) := by first | (simp; done) | (rw [World.cell?_alloc_at _ _ _ _ (by simp)]; rfl) | (rw [World.cell?_alloc_past _ _ _ (by simp <;> omega), World.cell?_alloc_at _ _ _ _ (by simp)]; rfl) | (rw [World.cell?_alloc_past _ _ _ (by simp <;> omega), World.cell?_alloc_past _ _ _ (by simp <;> omega), World.cell?_alloc_at _ _ _ _ (by simp)]; rfl)
                            have ee1 : (w.alloc (.cells #[.int .i64 k, .string id, .int .i64 0, .int .i64 n] 23)).cell? ⟨w.heap.size, 1, none⟩ = some (.string id) := by first | (simp; done) | (rw [World.cell?_alloc_at _ _ _ _ (by simp)]; rfl) | (rw [World.cell?_alloc_past _ _ _ (by simp <;> omega), World.cell?_alloc_at _ _ _ _ (by simp)]; rfl) | (rw [World.cell?_alloc_past _ _ _ (by simp <;> omega), World.cell?_alloc_past _ _ _ (by simp <;> omega), World.cell?_alloc_at _ _ _ _ (by simp)]; rfl)
                            have ee2 : (w.alloc (.cells #[.int .i64 k, .string id, .int .i64 0, .int .i64 n] 23)).cell? ⟨w.heap.size, 2, none⟩ = some (.int .i64 0) := by first | (simp; done) | (rw [World.cell?_alloc_at _ _ _ _ (by simp)]; rfl) | (rw [World.cell?_alloc_past _ _ _ (by simp <;> omega), World.cell?_alloc_at _ _ _ _ (by simp)]; rfl) | (rw [World.cell?_alloc_past _ _ _ (by simp <;> omega), World.cell?_alloc_past _ _ _ (by simp <;> omega), World.cell?_alloc_at _ _ _ _ (by simp)]; rfl)
                            have ee3 : (w.alloc (.cells #[.int .i64 k, .string id, .int .i64 0, .int .i64 n] 23)).cell? ⟨w.heap.size, 3, none⟩ = some (.int .i64 n) := by first | (simp; done) | (rw [World.cell?_alloc_at _ _ _ _ (by simp)]; rfl) | (rw [World.cell?_alloc_past _ _ _ (by simp <;> omega), World.cell?_alloc_at _ _ _ _ (by simp)]; rfl) | (rw [World.cell?_alloc_past _ _ _ (by simp <;> omega), World.cell?_alloc_past _ _ _ (by simp <;> omega), World.cell?_alloc_at _ _ _ _ (by simp)]; rfl)
                            have hb2 := (by repeat (first | exact hbel | refine belAlloc ?_ _ | refine belDrew ?_ | refine belSet ?_ _ _ (by simp)) : Below w.heap.size w (w.alloc (.cells #[.int .i64 k, .string id, .int .i64 0, .int .i64 n] 23)))
                            replace hw := belStep hw hb2
                            have eeB : Blk (w.alloc (.cells #[.int .i64 k, .string id, .int .i64 0, .int .i64 n] 23)) (w.heap.size) [.int .i64 k, .string id, .int .i64 0, .int .i64 n] 23 := (Blk.at (by simp) : Blk (w.alloc (.cells #[.int .i64 k, .string id, .int .i64 0, .int .i64 n] 23)) (w.heap.size) [.int .i64 k, .string id, .int .i64 0, .int .i64 n] 23).later (by repeat (first | exact Below.refl _ _ | refine belAlloc ?_ _))
                            have eeF := Blk.keepF eeB
                            replace eeB := Blk.keepB eeB
                            clear hb2 hbel
                            generalize w.alloc (.cells #[.int .i64 k, .string id, .int .i64 0, .int .i64 n] 23) = W1 at *
                            replace ee0 := keep ee0
                            replace ee1 := keep ee1
                            replace ee2 := keep ee2
                            replace ee3 := keep ee3
                            have hbel : Below W1.heap.size W1 W1 := Below.refl _ _
                            skip
                            go_upto_region 24 with (first | (go_at_call 24; (with_reducible refine (CW.out _).mono ?_); rintro e9 w9 ⟨rfl, hb9⟩; replace hbel := belStep hbel hb9; clear hb9) | (go_at_call 25; (with_reducible refine (CD.out _).mono ?_); rintro e9 w9 ⟨rfl, hb9⟩; replace hbel := belStep hbel hb9; clear hb9) | (go_at_call 26; (with_reducible refine (CN.out _).mono ?_); rintro e9 w9 ⟨rfl, rfl⟩))
                            have kk := fun d os => belStep hbel (below_regrown _ d os)
                            refine wp_region_quiet_below (by kernel_rfl) (by kernel_rfl) ?_
                            repeat ((with_reducible refine wpQuiet_step (fun K hK => ?_)); go_simp; (try (rw [if_neg]; rotate_left; · decide)); first | ((with_reducible refine hK _ ?_); clear hK K) | (apply Exists.intro; refine ⟨fun _ => ?_, hK _ ?_⟩; (fail); clear hK K))
                            refine wpQuiet_nil (fun w1 hw1 => ?_)
                            replace hbel := belStep hbel (bel_of_class hw1)
                            clear hw1 kk
                            go_wp2
                            go_ret2
                            exact ⟨rln_no (line_noT (by unfold tailE; simp [hq3, hq5, hq6, hq7, hq9, hq14, hq16, hwd, h4])), belStep hw hbel⟩
                        · have t3 : (sg == 0) = false := beq_eq_false_iff_ne.2 h3
                          go_enter Tryd.func12, Tryd.ntmps12
                          go_upto_region 1 with fail
                          have ee0 : (w.alloc (.cells #[.int .i64 k, .string id, .int .i64 sg, .int .i64 n] 23)).cell? ⟨w.heap.size, 0, none⟩ = some (.int .i64 k) := by first | (simp; done) | (rw [World.cell?_alloc_at _ _ _ _ (by simp)]; rfl) | (rw [World.cell?_alloc_past _ _ _ (by simp <;> omega), World.cell?_alloc_at _ _ _ _ (by simp)]; rfl) | (rw [World.cell?_alloc_past _ _ _ (by simp <;> omega), World.cell?_alloc_past _ _ _ (by simp <;> omega), World.cell?_alloc_at _ _ _ _ (by simp)]; rfl)
                          have ee1 : (w.alloc (.cells #[.int .i64 k, .string id, .int .i64 sg, .int .i64 n] 23)).cell? ⟨w.heap.size, 1, none⟩ = some (.string id) := by first | (simp; done) | (rw [World.cell?_alloc_at _ _ _ _ (by simp)]; rfl) | (rw [World.cell?_alloc_past _ _ _ (by simp <;> omega), World.cell?_alloc_at _ _ _ _ (by simp)]; rfl) | (rw [World.cell?_alloc_past _ _ _ (by simp <;> omega), World.cell?_alloc_past _ _ _ (by simp <;> omega), World.cell?_alloc_at _ _ _ _ (by simp)]; rfl)
                          have ee2 : (w.alloc (.cells #[.int .i64 k, .string id, .int .i64 sg, .int .i64 n] 23)).cell? ⟨w.heap.size, 2, none⟩ = some (.int .i64 sg) := by first | (simp; done) | (rw [World.cell?_alloc_at _ _ _ _ (by simp)]; rfl) | (rw [World.cell?_alloc_past _ _ _ (by simp <;> omega), World.cell?_alloc_at _ _ _ _ (by simp)]; rfl) | (rw [World.cell?_alloc_past _ _ _ (by simp <;> omega), World.cell?_alloc_past _ _ _ (by simp <;> omega), World.cell?_alloc_at _ _ _ _ (by simp)]; rfl)
                          have ee3 : (w.alloc (.cells #[.int .i64 k, .string id, .int .i64 sg, .int .i64 n] 23)).cell? ⟨w.heap.size, 3, none⟩ = some (.int .i64 n) := by first | (simp; done) | (rw [World.cell?_alloc_at _ _ _ _ (by simp)]; rfl) | (rw [World.cell?_alloc_past _ _ _ (by simp <;> omega), World.cell?_alloc_at _ _ _ _ (by simp)]; rfl) | (rw [World.cell?_alloc_past _ _ _ (by simp <;> omega), World.cell?_alloc_past _ _ _ (by simp <;> omega), World.cell?_alloc_at _ _ _ _ (by simp)]; rfl)
                          have hb2 := (by repeat (first | exact hbel | refine belAlloc ?_ _ | refine belDrew ?_ | refine belSet ?_ _ _ (by simp)) : Below w.heap.size w (w.alloc (.cells #[.int .i64 k, .string id, .int .i64 sg, .int .i64 n] 23)))
                          replace hw := belStep hw hb2
                          have eeB : Blk (w.alloc (.cells #[.int .i64 k, .string id, .int .i64 sg, .int .i64 n] 23)) (w.heap.size) [.int .i64 k, .string id, .int .i64 sg, .int .i64 n] 23 := (Blk.at (by simp) : Blk (w.alloc (.cells #[.int .i64 k, .string id, .int .i64 sg, .int .i64 n] 23)) (w.heap.size) [.int .i64 k, .string id, .int .i64 sg, .int .i64 n] 23).later (by repeat (first | exact Below.refl _ _ | refine belAlloc ?_ _))
                          have eeF := Blk.keepF eeB
                          replace eeB := Blk.keepB eeB
                          clear hb2 hbel
                          generalize w.alloc (.cells #[.int .i64 k, .string id, .int .i64 sg, .int .i64 n] 23) = W1 at *
                          replace ee0 := keep ee0
                          replace ee1 := keep ee1
                          replace ee2 := keep ee2
                          replace ee3 := keep ee3
                          have hbel : Below W1.heap.size W1 W1 := Below.refl _ _
                          skip
                          go_upto_region 24 with (first | (go_at_call 24; (with_reducible refine (CW.out _).mono ?_); rintro e9 w9 ⟨rfl, hb9⟩; replace hbel := belStep hbel hb9; clear hb9) | (go_at_call 25; (with_reducible refine (CD.out _).mono ?_); rintro e9 w9 ⟨rfl, hb9⟩; replace hbel := belStep hbel hb9; clear hb9) | (go_at_call 26; (with_reducible refine (CN.out _).mono ?_); rintro e9 w9 ⟨rfl, rfl⟩))
                          have kk := fun d os => belStep hbel (below_regrown _ d os)
                          refine wp_region_quiet_below (by kernel_rfl) (by kernel_rfl) ?_
                          repeat ((with_reducible refine wpQuiet_step (fun K hK => ?_)); go_simp; (try (rw [if_neg]; rotate_left; · decide)); first | ((with_reducible refine hK _ ?_); clear hK K) | (apply Exists.intro; refine ⟨fun _ => ?_, hK _ ?_⟩; (fail); clear hK K))
                          refine wpQuiet_nil (fun w1 hw1 => ?_)
                          replace hbel := belStep hbel (bel_of_class hw1)
                          clear hw1 kk
                          go_wp2
                          go_ret2
                          exact ⟨rln_no (line_noT (by unfold tailE; simp [hq3, hq5, hq6, hq7, hq9, hq14, hq16, hwd, h3])), belStep hw hbel⟩
  · have HNO := Lib.hid (line_noK (r := r) (e := ⟨k, id, sg, n⟩) hk)
    rw [kwI_bad hk, show bA [] = (⟨#[]⟩ : ByteArray) from rfl] at CW
    clear hk
    go_enter Tryd.func12, Tryd.ntmps12
    go_upto_region 1 with fail
    have ee0 : (w.alloc (.cells #[.int .i64 k, .string id, .int .i64 sg, .int .i64 n] 23)).cell? ⟨w.heap.size, 0, none⟩ = some (.int .i64 k) := by first | (simp; done) | (rw [World.cell?_alloc_at _ _ _ _ (by simp)]; rfl) | (rw [World.cell?_alloc_past _ _ _ (by simp <;> omega), World.cell?_alloc_at _ _ _ _ (by simp)]; rfl) | (rw [World.cell?_alloc_past _ _ _ (by simp <;> omega), World.cell?_alloc_past _ _ _ (by simp <;> omega), World.cell?_alloc_at _ _ _ _ (by simp)]; rfl)
    have ee1 : (w.alloc (.cells #[.int .i64 k, .string id, .int .i64 sg, .int .i64 n] 23)).cell? ⟨w.heap.size, 1, none⟩ = some (.string id) := by first | (simp; done) | (rw [World.cell?_alloc_at _ _ _ _ (by simp)]; rfl) | (rw [World.cell?_alloc_past _ _ _ (by simp <;> omega), World.cell?_alloc_at _ _ _ _ (by simp)]; rfl) | (rw [World.cell?_alloc_past _ _ _ (by simp <;> omega), World.cell?_alloc_past _ _ _ (by simp <;> omega), World.cell?_alloc_at _ _ _ _ (by simp)]; rfl)
    have ee2 : (w.alloc (.cells #[.int .i64 k, .string id, .int .i64 sg, .int .i64 n] 23)).cell? ⟨w.heap.size, 2, none⟩ = some (.int .i64 sg) := by first | (simp; done) | (rw [World.cell?_alloc_at _ _ _ _ (by simp)]; rfl) | (rw [World.cell?_alloc_past _ _ _ (by simp <;> omega), World.cell?_alloc_at _ _ _ _ (by simp)]; rfl) | (rw [World.cell?_alloc_past _ _ _ (by simp <;> omega), World.cell?_alloc_past _ _ _ (by simp <;> omega), World.cell?_alloc_at _ _ _ _ (by simp)]; rfl)
    have ee3 : (w.alloc (.cells #[.int .i64 k, .string id, .int .i64 sg, .int .i64 n] 23)).cell? ⟨w.heap.size, 3, none⟩ = some (.int .i64 n) := by first | (simp; done) | (rw [World.cell?_alloc_at _ _ _ _ (by simp)]; rfl) | (rw [World.cell?_alloc_past _ _ _ (by simp <;> omega), World.cell?_alloc_at _ _ _ _ (by simp)]; rfl) | (rw [World.cell?_alloc_past _ _ _ (by simp <;> omega), World.cell?_alloc_past _ _ _ (by simp <;> omega), World.cell?_alloc_at _ _ _ _ (by simp)]; rfl)
    have hb2 := (by repeat (first | exact hbel | refine belAlloc ?_ _ | refine belDrew ?_ | refine belSet ?_ _ _ (by simp)) : Below w.heap.size w (w.alloc (.cells #[.int .i64 k, .string id, .int .i64 sg, .int .i64 n] 23)))
    replace hw := belStep hw hb2
    have eeB : Blk (w.alloc (.cells #[.int .i64 k, .string id, .int .i64 sg, .int .i64 n] 23)) (w.heap.size) [.int .i64 k, .string id, .int .i64 sg, .int .i64 n] 23 := (Blk.at (by simp) : Blk (w.alloc (.cells #[.int .i64 k, .string id, .int .i64 sg, .int .i64 n] 23)) (w.heap.size) [.int .i64 k, .string id, .int .i64 sg, .int .i64 n] 23).later (by repeat (first | exact Below.refl _ _ | refine belAlloc ?_ _))
    have eeF := Blk.keepF eeB
    replace eeB := Blk.keepB eeB
    clear hb2 hbel
    generalize w.alloc (.cells #[.int .i64 k, .string id, .int .i64 sg, .int .i64 n] 23) = W1 at *
    replace ee0 := keep ee0
    replace ee1 := keep ee1
    replace ee2 := keep ee2
    replace ee3 := keep ee3
    have hbel : Below W1.heap.size W1 W1 := Below.refl _ _
    skip
    go_wp2_with (first | (go_at_call 24; (with_reducible refine (CW.out _).mono ?_); rintro e9 w9 ⟨rfl, hb9⟩; replace hbel := belStep hbel hb9; clear hb9))
    go_ret2
    exact ⟨rln_no (HNO.out), belStep hw hbel⟩
end Go.Proofs.YtekakalhknjdaaaDoor
