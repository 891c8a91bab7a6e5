
/- Contracts of package frame, and of its reference. -/
import Derived.Test.YtcbblgeleboggaaFrameNum
import Derived.Lib.SlBytesConst
namespace Go.Proofs.Ytcbblgeleboggaa
open Go.RowKit
set_option linter.unusedVariables false
set_option linter.unusedSimpArgs false

theorem tail4 (n : Nat) : tailN n 4 = [(n : Int) % 256, (n : Int) / 256 % 256, (n : Int) / 65536 % 256, (n : Int) / 16777216 % 256] := by
  have e : tailN n 4 = [((n / 256 ^ 0 % 256 : Nat) : Int), ((n / 256 ^ 1 % 256 : Nat) : Int), ((n / 256 ^ 2 % 256 : Nat) : Int), ((n / 256 ^ 3 % 256 : Nat) : Int)] := rfl
  rw [e]
  congr 1
  · omega
theorem new4 (w : World) (n : Nat) : Ints .u8 (w.alloc (.cells #[.int .u8 ((n : Int) % 256), .int .u8 ((n : Int) / 256 % 256), .int .u8 ((n : Int) / 65536 % 256), .int .u8 ((n : Int) / 16777216 % 256)] 5)) (some ⟨w.heap.size, 0, none⟩) 4 4 (tailN n 4) := by
  have h := ints_new (k := .u8) w _ 5 (0, 0) (by rw [tailN_len]; unfold maxLen; omega) (fun m hm => wf8 m (tailN_bytes n 4 m hm))
  rw [tailN_len] at h
  rw [tail4] at h ⊢
  exact h

theorem new4s (w : World) (n : Nat) (hn : n < 4294967296) : Ints .u8 (w.alloc (.cells #[.int .u8 ((n : Int) % 256), .int .u8 ((n : Int) / 256 % 256), .int .u8 ((n : Int) / 65536 % 256), .int .u8 ((n : Int) / 16777216)] 5)) (some ⟨w.heap.size, 0, none⟩) 4 4 (tailN n 4) := by
  have h := new4 w n
  rw [show (n : Int) / 16777216 % 256 = (n : Int) / 16777216 by omega] at h
  exact h

theorem frame_word (n : Nat) (w : World) (hn : n < 4294967296) :
    Calls Try.prog 47 #[.int .i64 n] w fun e w' => ∃ g, e = .returned (.slice (some ⟨g, 0, none⟩) 4 4) ∧ Ints .u8 w' (some ⟨g, 0, none⟩) 4 4 (tailN n 4) ∧ Below w.heap.size w w' := by
  have hi := new4s w n hn
  have HI := Lib.hid hi
  clear hi
  go_enter Try.func47, Try.ntmps47
  go_wp2
  go_ret
  exact ⟨_, rfl, HI.out, belAlloc (Below.refl _ _) _⟩
theorem fref_Word (n : Nat) (w : World) (hn : n < 4294967296) :
    Calls Try.prog 29 #[.int .i64 n] w fun e w' => ∃ g, e = .returned (.slice (some ⟨g, 0, none⟩) 4 4) ∧ Ints .u8 w' (some ⟨g, 0, none⟩) 4 4 (tailN n 4) ∧ Below w.heap.size w w' := by
  have hi := new4 w n
  have HI := Lib.hid hi
  clear hi
  go_enter Try.func29, Try.ntmps29
  go_wp2
  go_ret
  exact ⟨_, rfl, HI.out, belAlloc (Below.refl _ _) _⟩

theorem concat_four (w : World) (a1 : Option Addr) (n1 c1 : Nat) (l1 : List Int) (a2 : Option Addr) (n2 c2 : Nat) (l2 : List Int) (a3 : Option Addr) (n3 c3 : Nat) (l3 : List Int) (a4 : Option Addr) (n4 c4 : Nat) (l4 : List Int)
    (h1 : Ints .u8 w a1 n1 c1 l1) (h2 : Ints .u8 w a2 n2 c2 l2) (h3 : Ints .u8 w a3 n3 c3 l3) (h4 : Ints .u8 w a4 n4 c4 l4) (N : Nat) (hN : n1 + (n2 + (n3 + n4)) = N) (hs : N ≤ 2000000) :
    Calls Try.prog 46 #[.slice (some ⟨w.heap.size, 0, none⟩) 4 4] (w.alloc (.cells #[.slice a1 n1 c1, .slice a2 n2 c2, .slice a3 n3 c3, .slice a4 n4 c4] 29)) fun e w' => ∃ a c, e = .returned (.slice a N c) ∧ Ints .u8 w' a N c (l1 ++ (l2 ++ (l3 ++ l4))) ∧ Below w.heap.size w w' := by
  have hP : Parts (w.alloc (.cells #[.slice a1 n1 c1, .slice a2 n2 c2, .slice a3 n3 c3, .slice a4 n4 c4] 29)) (some ⟨w.heap.size, 0, none⟩) 4 4 [(a1, n1, c1, l1), (a2, n2, c2, l2), (a3, n3, c3, l3), (a4, n4, c4, l4)] := by
    refine ⟨rfl, row_new w [.slice a1 n1 c1, .slice a2 n2 c2, .slice a3 n3 c3, .slice a4 n4 c4] 29 4 1 rfl (by unfold maxLen; omega), fun x hx => ?_⟩
    simp at hx
    rcases hx with rfl | rfl | rfl | rfl
    · exact h1.later ((Below.refl _ _).alloc (Nat.le_refl _) _)
    · exact h2.later ((Below.refl _ _).alloc (Nat.le_refl _) _)
    · exact h3.later ((Below.refl _ _).alloc (Nat.le_refl _) _)
    · exact h4.later ((Below.refl _ _).alloc (Nat.le_refl _) _)
  have eJ : joinP [(a1, n1, c1, l1), (a2, n2, c2, l2), (a3, n3, c3, l3), (a4, n4, c4, l4)] = l1 ++ (l2 ++ (l3 ++ l4)) := by simp [joinP]
  have eN : (l1 ++ (l2 ++ (l3 ++ l4))).length = N := by simp only [List.length_append, h1.bounds.1, h2.bounds.1, h3.bounds.1, h4.bounds.1]; exact hN
  have hby : Bytes (l1 ++ (l2 ++ (l3 ++ l4))) := (bytes_of h1).app ((bytes_of h2).app ((bytes_of h3).app (bytes_of h4)))
  refine (slices_Concat _ 4 4 _ _ hP (by rw [eJ, eN]; exact hs)).mono ?_
  rintro e w2 ⟨v, rfl, hown, hb⟩
  rw [eJ] at hown
  obtain ⟨a, c, rfl, hi⟩ := ints_of_own hown (fun m hm => wf8 m (hby m hm))
  rw [eN] at hi
  exact ⟨a, c, by rw [eN], hi, belStep (belAlloc (Below.refl _ _) _) hb⟩

theorem frame_Put_no (v : Int) (a : Option Addr) (len cap : Nat) (w : World) (hv : InI v) (hb : len ≤ cap ∧ cap ≤ 9223372036854775807) (h : v < 0 ∨ 4294967295 < v ∨ 1048576 < len) :
    Calls Try.prog 33 #[.int .i64 v, .slice a len cap] w fun e w' => e = .returned (.tuple #[.slice none 0 0, .int .i64 1]) ∧ w = w' := by
  unfold InI at hv
  rcases h with h | h | h
  · go_enter Try.func33, Try.ntmps33
    go_wp2
    go_ret2
    exact ⟨rfl, rfl⟩
  · by_cases h0 : v < 0
    · omega
    · go_enter Try.func33, Try.ntmps33
      go_wp2
      go_ret2
      exact ⟨rfl, rfl⟩
  · by_cases h0 : v < 0
    · go_enter Try.func33, Try.ntmps33
      go_wp2
      go_ret2
      exact ⟨rfl, rfl⟩
    · by_cases h1 : 4294967295 < v
      · go_enter Try.func33, Try.ntmps33
        go_wp2
        go_ret2
        exact ⟨rfl, rfl⟩
      · go_enter Try.func33, Try.ntmps33
        go_wp2
        go_ret2
        exact ⟨rfl, rfl⟩

set_option maxRecDepth 100000 in
set_option maxHeartbeats 2000000 in
theorem frame_Put (v : Nat) (a : Option Addr) (len cap : Nat) (l : List Int) (w : World) (hv : v < 4294967296) (hl : Ints .u8 w a len cap l) (hlen : len ≤ 900000) :
    Calls Try.prog 33 #[.int .i64 v, .slice a len cap] w fun e w' => ∃ g c2, e = .returned (.tuple #[.slice (some ⟨g, 0, none⟩) (len + 16) c2, .int .i64 0]) ∧ (w.heap.size ≤ g ∧ len + 16 ≤ c2 ∧ c2 ≤ 9223372036854775807 ∧ g < w'.heap.size) ∧ OwnI w' w.heap.size 5 .u8 (.slice (some ⟨g, 0, none⟩) (len + 16) c2) (frameL v l) ∧ Below w.heap.size w w' := by
  have hb := hl.bounds
  obtain ⟨hln, hb1, hb2⟩ := hb
  have hm4 : Ints .u8 (w.alloc (.cells #[.int .u8 66, .int .u8 76, .int .u8 71, .int .u8 49] 5 (4, 5))) (some ⟨w.heap.size, 0, none⟩) 4 4 mark4 := lits w mark4 (4, 5) (by simp [mark4]) mark4_B
  have HM := Lib.hid hm4
  have HL := Lib.hid hl
  have HN := Lib.hid hln
  have hbel := (belAlloc (Below.refl _ _) _ : Below w.heap.size w (w.alloc (.cells #[.int .u8 66, .int .u8 76, .int .u8 71, .int .u8 49] 5 (4, 5))))
  have hcv := fun (v : World) (C : Array Value) (n c : Nat) => Lib.run_convert_bytes_const (P := Try.prog) v 29 5 C n c Try.underlying29 Try.underlying5
  clear hl hm4 hln
  go_enter Try.func33, Try.ntmps33
  go_wp2_with (go_at_call 47; (with_reducible refine (frame_word v _ hv).mono ?_); rintro e w1 ⟨g1, rfl, hi1, hb1⟩)
  replace hbel := belStep hbel hb1
  replace HM := Lib.hid (HM.out.later hb1)
  have H1 := Lib.hid hi1
  clear hb1 hi1
  go_wp2_with (go_at_call 47; (with_reducible refine (frame_word len _ (by omega)).mono ?_); rintro e w2 ⟨g2, rfl, hi2, hb2⟩)
  replace hbel := belStep hbel hb2
  replace HM := Lib.hid (HM.out.later hb2)
  replace H1 := Lib.hid (H1.out.later hb2)
  have H2 := Lib.hid hi2
  have CC := Lib.hid (concat_four w2 _ _ _ _ _ _ _ _ _ _ _ _ a len cap l HM.out H1.out H2.out (HL.out.later hbel) (len + 12) (by omega) (by omega))
  clear hb2 hi2
  go_wp2_with (go_at_call 46; (with_reducible refine CC.out.mono ?_); rintro e w3 ⟨a3, c3, rfl, hi3, hb3⟩)
  rw [show mark4 ++ (tailN v 4 ++ (tailN len 4 ++ l)) = headL v l by unfold headL; rw [HN.out]] at hi3
  replace hbel := belStep hbel hb3
  have CP := Lib.hid (put_own a3 (len + 12) c3 (headL v l) w3 hi3 (by omega))
  clear hb3 hi3
  go_wp2_with (go_at_call 45; (with_reducible refine CP.out.mono ?_); rintro e w4 ⟨g4, c4, rfl, ⟨q1, q2, q3, q4⟩, hown, hb4⟩)
  have hsz : w.heap.size ≤ w3.heap.size := hbel.size
  go_ret2
  exact ⟨_, _, rfl, ⟨by omega, by omega, q3, q4⟩, OwnI.mono hown hsz, belStep hbel hb4⟩
end Go.Proofs.Ytcbblgeleboggaa
