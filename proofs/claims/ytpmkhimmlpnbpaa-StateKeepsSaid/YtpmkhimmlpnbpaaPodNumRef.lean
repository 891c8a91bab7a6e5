
/- bilgeref12.number: contract. -/
import Derived.Test.YtpmkhimmlpnbpaaPodTake
namespace Go.Proofs.Ytpmkhimmlpnbpaa
open Go.RowKit
set_option linter.unusedVariables false
set_option linter.unusedSimpArgs false

/-- The reference's reading of eight bytes. -/
def rnum (l : List Int) : Int := if 127 < el l 0 then -1 else N8 l
theorem N8_top {l : List Int} (hb : Bytes l) {t : Nat} (ht : el l 0 = t) : ∀ k, k < l.length → t * 256 ^ k ≤ N8 (l.take (k + 1)) ∧ N8 (l.take (k + 1)) < (t + 1) * 256 ^ k
  | 0, h => by
    have e := N8_snoc (l := l) (k := 0) h
    rw [ht] at e
    have e0 : N8 (l.take 0) = 0 := by simp [N8]
    rw [e0] at e
    rw [e]
    simp
  | k + 1, h => by
    obtain ⟨h1, h2⟩ := N8_top hb ht k (by omega)
    have e := N8_snoc (l := l) (k := k + 1) h
    have hc := hb _ (el_mem (l := l) (i := k + 1) h)
    rw [e, Nat.pow_succ]
    generalize 256 ^ k = P at *
    generalize N8 (l.take (k + 1)) = M at *
    generalize el l (k + 1) = c at *
    have h3 : t * (P * 256) = t * P * 256 := by rw [Nat.mul_assoc]
    have h4 : (t + 1) * (P * 256) = (t + 1) * P * 256 := by rw [Nat.mul_assoc]
    rw [h3, h4]
    generalize t * P = A at *
    generalize (t + 1) * P = B at *
    omega
theorem rnum_eq {l : List Int} (hb : Bytes l) (hl : l.length = 8) : rnum l = if N8 l < 9223372036854775808 then (N8 l : Int) else -1 := by
  have h0 := hb _ (el_mem (l := l) (i := 0) (by omega))
  obtain ⟨t, ht⟩ : ∃ t : Nat, el l 0 = t := ⟨(el l 0).toNat, by omega⟩
  have h := N8_top hb ht 7 (by omega)
  rw [List.take_of_length_le (by omega)] at h
  unfold rnum
  rw [ht]
  generalize N8 l = M at *
  have hp : (256 : Nat) ^ 7 = 72057594037927936 := by decide
  rw [hp] at h
  split <;> split <;> first | rfl | omega

set_option maxRecDepth 100000 in
set_option maxHeartbeats 4000000 in
theorem pref_number (g off cap : Nat) (l : List Int) (w : World) (hl : Ints .u8 w (some ⟨g, off, none⟩) 8 cap l) :
    Calls Try.prog 54 #[.slice (some ⟨g, off, none⟩) 8 cap] w fun e w' => e = .returned (.int .i64 (rnum l)) ∧ w = w' := by
  have hby := bytes_of hl
  obtain ⟨hlen, hb1, hb2⟩ := hl.bounds
  have hcell : ∀ k, k < 8 → w.cell? ⟨g, off + k, none⟩ = some (.int .u8 (el l k)) := fun k hk => by
    obtain ⟨g', off', e1, _, hcc⟩ := hl.opened (by omega)
    cases e1
    exact hcc k hk
  have h0 := hby _ (el_mem (l := l) (i := 0) (by omega))
  obtain ⟨t, ht⟩ : ∃ t : Nat, el l 0 = t := ⟨(el l 0).toNat, by omega⟩
  have x0 := hcell 0 (by omega)
  rw [ht] at x0 h0
  rw [Nat.add_zero] at x0
  have HC := Lib.hid hcell
  have HB := Lib.hid hby
  have HL := Lib.hid hlen
  have HT := Lib.hid ht
  by_cases h127 : 127 < (t : Int)
  · have HR := Lib.hid (show rnum l = -1 by unfold rnum; rw [ht, if_pos h127])
    clear hl hby hlen hcell ht
    go_enter Try.func54, Try.ntmps54
    go_wp2
    go_ret
    exact ⟨by rw [HR.out]; rfl, by first | rfl | trivial⟩
  · have HR := Lib.hid (show rnum l = (N8 l : Int) by unfold rnum; rw [ht, if_neg h127])
    clear hl hby hlen hcell ht
    go_enter Try.func54, Try.ntmps54
    go_wp2
    go_loopw [3, 4] (fun x i wr => ∃ k : Nat, k ≤ 8 ∧ i = .int .i64 k ∧ x = .int .i64 (N8 (l.take k) : Int) ∧ w = wr) (fun _ i _ => 8 - (intOf i).toNat)
    case atStart => exact ⟨0, by omega, rfl, by simp [N8], rfl⟩
    case round =>
      obtain ⟨k, hk, rfl, rfl, rfl⟩ := hrel
      by_cases hlt : k < 8
      · have x1 := HC.out k hlt
        have hst := N8_snoc (l := l) (k := k) (by rw [HL.out]; exact hlt)
        have hn := N8_lt (HB.out.take k)
        have hlk : (l.take k).length = k := by rw [List.length_take, HL.out]; omega
        rw [hlk] at hn
        have hnb : N8 (l.take (k + 1)) < 9223372036854775808 := by
          have h := (N8_top HB.out HT.out k (by rw [HL.out]; exact hlt)).2
          have hp : 256 ^ k ≤ 256 ^ 7 := Nat.pow_le_pow_right (by omega) (by omega)
          have : (t + 1) * 256 ^ k ≤ 128 * 256 ^ 7 := Nat.mul_le_mul (by omega) hp
          omega
        have hc := HB.out _ (el_mem (l := l) (i := k) (by rw [HL.out]; exact hlt))
        obtain ⟨c, ec⟩ : ∃ c : Nat, el l k = c := ⟨(el l k).toNat, by omega⟩
        rw [ec] at x1 hst hc
        rw [Int.toNat_natCast] at hst
        rw [hst] at hnb
        obtain ⟨n, en⟩ : ∃ n, N8 (l.take k) = n := ⟨_, rfl⟩
        rw [en] at hst hnb ⊢
        have HS := Lib.hid hst
        clear hst ec en hn hlk
        go_wp2
        go_roundw
        case rel => exact ⟨k + 1, by omega, by push_cast; rfl, by rw [HS.out]; push_cast; congr 1; omega, by first | rfl | trivial⟩
        case measure => simp [intOf] <;> omega
      · obtain rfl : k = 8 := by omega
        have e8 : l.take 8 = l := List.take_of_length_le (by rw [HL.out]; exact Nat.le_refl _)
        rw [e8]
        have HE := Lib.hid e8
        clear e8
        go_wp2
        go_ret
        exact ⟨by rw [HR.out]; rfl, by first | rfl | trivial⟩
end Go.Proofs.Ytpmkhimmlpnbpaa
