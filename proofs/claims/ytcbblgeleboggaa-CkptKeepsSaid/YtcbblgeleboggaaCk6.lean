
/- Stage 11: Save; readers; few: contracts. -/
import Derived.Test.YtcbblgeleboggaaCk5
import Derived.Test.YtcbblgeleboggaaDkRd
namespace Go.Proofs.Ytcbblgeleboggaa
open Go.RowKit Go.Sort
set_option linter.unusedVariables false
set_option linter.unusedSimpArgs false
section
variable (B N M : Nat) (X Y : List Nat) (c : Nat) (o : Option (List Int)) (w : World) (v : Nat) (h : DKv B w M X (ckD c o none)) (hn : StA w N M v) (hX : ∀ b ∈ X, b < w.heap.size) (hB : B ≤ w.heap.size) (hNX : N ∈ X) (hBN : B ≤ N) (hYX : ∀ b ∈ Y, b ∈ X) (hYN : N ∉ Y) (hc : c ≤ 90000)
include h hn hX hB hNX hBN hYX hYN hc
set_option maxHeartbeats 4000000 in
theorem ck_Save (a : Option Addr) (len cap : Nat) (Z : List Int) (hZ : Ints .u8 w a len cap Z) (hl : len ≤ 900000) (hv : v + 1 < 4294967296) :
    Calls Try.prog 12 #[.pointer (some ⟨N, 0, none⟩), .slice a len cap] w fun e w' => e = .returned (.int .i64 0) ∧ DKv B w' M X (ckD (c + 2) (some (frameL (v + 1) Z)) none) ∧ StA w' N M ((v : Int) + 1) ∧ Below B w w' ∧ Free Y w w' := by
  have CP := Lib.hid (ck_Part B N M X Y c o w v h hn hX hB hNX hBN hYX hYN hc a len cap Z hZ hl hv 4 ⟨by omega, by omega⟩ 4 (by decide))
  clear h hn hX hYX hYN hNX hZ
  go_enter Try.func12, Try.ntmps12
  go_wp2_with (first | (go_at_call 24; (with_reducible refine (ck_Sn _).mono ?_); rintro e wx ⟨rfl, hz9⟩; have hz8 := hz9.symm; subst hz8) | (go_at_call 19; (with_reducible refine (CP.out).mono ?_); rintro e w1 ⟨rfl, h1, h2, h3, h4⟩))
  go_ret
  exact ⟨rfl, h1, h2, h3, h4⟩
end
set_option maxHeartbeats 4000000 in
theorem ck_Part_no (N M : Nat) (w : World) (hn : StA w N M 4294967295) (a : Option Addr) (len cap : Nat) (hb : len ≤ cap ∧ cap ≤ 9223372036854775807) (n : Int) :
    Calls Try.prog 19 #[.pointer (some ⟨N, 0, none⟩), .slice a len cap, .int .i64 n] w fun e w' => e = .returned (.int .i64 1) ∧ w' = w := by
  have n1 := Blk.cell hn (j := 1) rfl
  have CP := Lib.hid (frame_Put_no 4294967296 a len cap w ⟨by omega, by omega⟩ hb (.inr (.inl (by omega))))
  clear hn
  go_enter Try.func19, Try.ntmps19
  go_wp2_with (go_at_call 33; (with_reducible refine (CP.out).mono ?_); rintro e w1 ⟨rfl, hz9⟩; have hz8 := hz9.symm; subst hz8)
  go_ret
  exact ⟨rfl, rfl⟩
set_option maxHeartbeats 4000000 in
/-- Behind the last version there is none. -/
theorem ck_Save_no (N M : Nat) (w : World) (hn : StA w N M 4294967295) (a : Option Addr) (len cap : Nat) (hb : len ≤ cap ∧ cap ≤ 9223372036854775807) :
    Calls Try.prog 12 #[.pointer (some ⟨N, 0, none⟩), .slice a len cap] w fun e w' => e = .returned (.int .i64 1) ∧ w' = w := by
  have CP := Lib.hid (ck_Part_no N M w hn a len cap hb 4)
  clear hn
  go_enter Try.func12, Try.ntmps12
  go_wp2_with (first | (go_at_call 24; (with_reducible refine (ck_Sn _).mono ?_); rintro e wx ⟨rfl, hz9⟩; have hz8 := hz9.symm; subst hz8) | (go_at_call 19; (with_reducible refine (CP.out).mono ?_); rintro e w1 ⟨rfl, hz9⟩; have hz8 := hz9.symm; subst hz8))
  go_ret
  exact ⟨rfl, rfl⟩
/-- A slice of bytes among others. -/
structure BodyV where
  ba : Option Addr
  bc : Nat
  Z : List Int
def BodyV.cells (o : BodyV) : List Value := [.slice o.ba o.Z.length o.bc]
theorem BodyV.cells_len (o : BodyV) : o.cells.length = 1 := rfl
def BodyV.good (W : World) (o : BodyV) : Prop := Ints .u8 W o.ba o.Z.length o.bc o.Z
theorem BodyV.good.later {u w : World} {o : BodyV} (h : o.good u) (hb : Below u.heap.size u w) : o.good w := Ints.later h hb
theorem rd_body {w : World} {cs : List Value} (h : Rd Try.prog w 29 cs) : ∃ x : BodyV, cs = x.cells ∧ x.good w := by
  rcases Rd.slice Try.underlying29 h with h0 | ⟨ad, len, cap, h1, _⟩
  · subst h0; exact ⟨⟨none, 0, []⟩, rfl, ints_nil w .u8⟩
  · subst h1
    obtain ⟨Z, g1, g2, g3⟩ := Rd.rows (fun n : Int => [Value.int .u8 n]) 1 Try.underlying29 (by kernel_rfl) (by omega) (fun _ => rfl) (fun n => (Lit.int .u8 n).wf = true) (fun es hes => Rd.int Try.underlying5 hes) h
    subst g1
    exact ⟨⟨_, cap, Z⟩, rfl, ⟨by rw [flat_int] at g3; exact g3, g2⟩⟩
set_option maxRecDepth 100000 in
theorem open_bodies {H : Type} {enc : TypeId × Value → H} {W : World} {v : Value} {b : Nat} {d : DataW H} {p : List MemPlace} (o : Value.okWide Try.prog W .any b 22 v) (h : DataW.Trod enc Try.prog W 0 (fun _ => true) true 22 v d p) :
    ∃ (a : Option Addr) (len cap : Nat) (L : List BodyV), v = .slice a len cap ∧ L.length = len ∧ (∀ x ∈ L, x.good W) ∧ Row W a len cap 1 (L.flatMap BodyV.cells) := by
  obtain ⟨a, len, cap, rfl⟩ := slice_of_ok Try.underlying22 o
  obtain ⟨L, h1, h2, h3⟩ := Rd.rows BodyV.cells 1 Try.underlying22 (by kernel_rfl) (by omega) BodyV.cells_len (BodyV.good W) (fun es hes => rd_body hes) (Rd.of h)
  exact ⟨a, len, cap, L, rfl, h1, h2, h3⟩
def bodyB (x : BodyV) : Bool := decide (x.Z.length ≤ 300)
def fewB (L : List BodyV) : Bool := (L.take 40).all bodyB && decide (L.length ≤ 20)
theorem fewB_len {L : List BodyV} (h : fewB L = true) : L.length ≤ 20 := by unfold fewB at h; rw [Bool.and_eq_true] at h; exact of_decide_eq_true h.2
theorem fewB_body {L : List BodyV} (h : fewB L = true) {x : BodyV} (hx : x ∈ L) : x.Z.length ≤ 300 := by
  have hl := fewB_len h
  unfold fewB at h
  rw [Bool.and_eq_true, List.take_of_length_le (by omega)] at h
  exact of_decide_eq_true (List.all_eq_true.1 h.1 x hx)
set_option maxRecDepth 100000 in
set_option maxHeartbeats 16000000 in
theorem few_11 (a : Option Addr) (len cap : Nat) (L : List BodyV) (w : World) (hl : L.length = len) (hR : Row w a len cap 1 (L.flatMap BodyV.cells)) (hg : ∀ x ∈ L, x.good w) :
    Calls Try.prog 9 #[.slice a len cap] w fun e w' => e = .returned (.bool (fewB L)) ∧ Below w.heap.size w w' := by
  have hw : Below w.heap.size w w := Below.refl _ _
  have hbd_a : len ≤ cap ∧ cap ≤ 9223372036854775807 := by obtain ⟨_, h1, h2, _⟩ := hR; unfold maxLen at h2; exact ⟨h1, h2⟩
  obtain ⟨hbd1_a, hbd2_a⟩ := hbd_a
  have HR := Lib.hid hR
  clear hR
  subst hl
  have HG := Lib.hid hg
  clear hg
  go_enter Try.func9, Try.ntmps9
  go_wp2
  go_loopw [3] (fun i wr => ∃ k : Nat, k ≤ L.length ∧ k ≤ 40 ∧ i = .int .i64 k ∧ Hid ((L.take k).all bodyB = true) ∧ Below w.heap.size w wr) (fun i _ => L.length - (intOf i).toNat)
  case atStart => exact ⟨0, Nat.zero_le _, by omega, rfl, Lib.hid rfl, hw⟩
  case round =>
    clear hw
    obtain ⟨k, hk, hk2, rfl, HC, hbel⟩ := hrel
    by_cases hlt2 : k < min L.length 40
    · have hlt : k < L.length := by omega
      have hd : decide ((k : Int) < (L.length : Int)) = true := decide_eq_true (by omega)
      have hki : (k : Int) < (L.length : Int) := by omega
      have hk0 : (0 : Int) ≤ (k : Int) := by omega
      have hd2 : decide ((k : Int) < 40) = true := decide_eq_true (by omega)
      have hd3 : (k : Int) < 40 := by omega
      obtain ⟨x, hx⟩ : ∃ x, L[k]? = some x := ⟨L[k], List.getElem?_eq_getElem hlt⟩
      obtain ⟨bc, oc, ec, _, hcc⟩ := (HR.out).elem BodyV.cells_len (by omega) hx
      subst ec
      have c0 := keep (hcc 0 _ rfl)
      rw [Nat.add_zero] at c0
      rw [Nat.mul_one] at c0
      have HX := Lib.hid hx
      obtain ⟨⟨_, hz1, hz2, _⟩, _⟩ := HG.out _ (List.mem_of_getElem? hx)
      unfold maxLen at hz2
      have hsz2 : x.Z.length ≤ 9223372036854775807 := by omega
      clear hx hcc
      by_cases hqa : 300 < x.Z.length
      · have ea1 : decide ((300 : Int) < (x.Z.length : Int)) = true := decide_eq_true (by omega)
        have ea2 : (300 : Int) < (x.Z.length : Int) := by omega
        have HN := Lib.hid (show fewB L = false by unfold fewB; rw [allG_not HX.out (show bodyB x = false by unfold bodyB; rw [decide_eq_false (show ¬ x.Z.length ≤ 300 by omega)]) (show k < 40 by omega)]; rfl)
        go_wp2
        go_ret
        exact ⟨by rw [HN.out]; rfl, hbel⟩
      · have ea1 : decide ((300 : Int) < (x.Z.length : Int)) = false := decide_eq_false (by omega)
        have ea2 : ¬ (300 : Int) < (x.Z.length : Int) := by omega
        have HN := Lib.hid (show (L.take (k + 1)).all bodyB = true by rw [allG_next HX.out, HC.out, show bodyB x = true by unfold bodyB; rw [decide_eq_true (show x.Z.length ≤ 300 by omega)]]; rfl)
        go_wp2
        go_roundw
        case rel => exact ⟨k + 1, by omega, by omega, by push_cast; rfl, HN, hbel⟩
        case measure => simp [intOf] <;> omega
    · obtain rfl : k = min L.length 40 := by omega
      by_cases h100 : L.length < 40
      · have hmi : min L.length 40 = L.length := by omega
        rw [hmi] at HC ⊢
        have HF := Lib.hid (show fewB L = decide (L.length ≤ 20) by unfold fewB; rw [List.take_of_length_le (by omega)]; rw [List.take_length] at HC; rw [HC.out]; rfl)
        have hd : decide ((L.length : Int) < (L.length : Int)) = false := decide_eq_false (by omega)
        have k10 : decide ((L.length : Int) ≤ 20) = decide (L.length ≤ 20) := decide_eq_decide.2 (by omega)
        go_wp2
        go_ret
        exact ⟨by rw [HF.out]; first | rfl | (rw [← k10]; rfl), hbel⟩
      · have hmi : min L.length 40 = 40 := by omega
        rw [hmi] at HC ⊢
        have HF := Lib.hid (show fewB L = false by unfold fewB; rw [show decide (L.length ≤ 20) = false from decide_eq_false (by omega), Bool.and_false])
        have k10 : decide ((L.length : Int) ≤ 20) = false := decide_eq_false (by omega)
        have k11 : ¬ (L.length : Int) ≤ 20 := by omega
        by_cases h9 : L.length = 40
        · have hd : decide (((40 : Nat) : Int) < (L.length : Int)) = false := decide_eq_false (by omega)
          have hd4 : decide ((40 : Int) < (L.length : Int)) = false := decide_eq_false (by omega)
          go_wp2
          go_ret
          exact ⟨by rw [HF.out]; rfl, hbel⟩
        · have hd : decide (((40 : Nat) : Int) < (L.length : Int)) = true := decide_eq_true (by omega)
          have hd4 : decide ((40 : Int) < (L.length : Int)) = true := decide_eq_true (by omega)
          have hd5 : (40 : Int) < (L.length : Int) := by omega
          go_wp2
          go_ret
          exact ⟨by rw [HF.out]; rfl, hbel⟩
end Go.Proofs.Ytcbblgeleboggaa
