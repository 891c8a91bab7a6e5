
/- bilgeref20.SameTexts: contract (as in stage 23, by itself). -/
import Derived.Test.YtekakalhknjdaaaDoorGwM
namespace Go.Proofs.YtekakalhknjdaaaDoor
open Go.RowKit Go.Sort
set_option linter.unusedVariables false
set_option linter.unusedSimpArgs false
theorem str_ext {s t : ByteArray} (h : s.toList = t.toList) : s = t := by
  rw [ByteArray.toList_eq, ByteArray.toList_eq] at h
  cases s; cases t
  simp only at h
  congr 1
  exact Array.toList_inj.1 h
def sameB (G H : List ByteArray) : Bool := decide (G = H)
theorem same_refl (G : List ByteArray) : sameB G G = true := decide_eq_true rfl
theorem same_len {G H : List ByteArray} (h : G.length ≠ H.length) : sameB G H = false := by unfold sameB; exact decide_eq_false (fun e => h (congrArg List.length e))
theorem same_no {G H : List ByteArray} {k : Nat} {s t : ByteArray} (hs : G[k]? = some s) (ht : H[k]? = some t) (h : (s.toList == t.toList) = false) : sameB G H = false := by
  unfold sameB
  refine decide_eq_false (fun e => ?_)
  rw [e] at hs
  rw [hs] at ht
  cases ht
  simp at h
theorem same_next {G H : List ByteArray} {k : Nat} {s t : ByteArray} (hs : G[k]? = some s) (ht : H[k]? = some t) (h : (s.toList == t.toList) = true) (hk : G.take k = H.take k) : G.take (k + 1) = H.take (k + 1) := by
  have e : s = t := str_ext (by simpa using h)
  subst e
  rw [List.take_add_one, List.take_add_one, hs, ht, hk]
theorem text_cell {w : World} {a : Option Addr} {n cap : Nat} {G : List ByteArray} (h : Row w a n cap 1 (G.map Value.string)) {k : Nat} {s : ByteArray} (hs : G[k]? = some s) : ∃ b off, a = some ⟨b, off, none⟩ ∧ w.cell? ⟨b, off + k, none⟩ = some (.string s) := by
  obtain ⟨_, _, _, _, h5⟩ := h
  have hk : (G.map Value.string)[k]? = some (.string s) := by rw [List.getElem?_map, hs]; rfl
  rcases h5 with h5 | ⟨b, off, e, hc⟩
  · rw [h5] at hk; cases hk
  · refine ⟨b, off, e, ?_⟩
    rw [hc k (by rcases Nat.lt_or_ge k (G.map Value.string).length with q | q; exact q; rw [List.getElem?_eq_none q] at hk; cases hk), hk]
set_option maxRecDepth 100000 in
set_option maxHeartbeats 16000000 in
theorem sames_any (a b : Option Addr) (n1 n2 c1 c2 : Nat) (G H : List ByteArray) (w : World) (hn : G.length = n1) (hm : H.length = n2) (h1 : Row w a n1 c1 1 (G.map Value.string)) (h2 : Row w b n2 c2 1 (H.map Value.string)) :
    Calls Tryd.prog 19 #[.slice a n1 c1, .slice b n2 c2] w fun e w' => e = .returned (.bool (sameB G H)) ∧ Below w.heap.size w w' := by
  have hbd_x : n1 ≤ c1 ∧ c1 ≤ 9223372036854775807 := by obtain ⟨_, h1, h2, _⟩ := h1; unfold maxLen at h2; exact ⟨h1, h2⟩
  obtain ⟨hbd1_x, hbd2_x⟩ := hbd_x
  have hbd_y : n2 ≤ c2 ∧ c2 ≤ 9223372036854775807 := by obtain ⟨_, h1, h2, _⟩ := h2; unfold maxLen at h2; exact ⟨h1, h2⟩
  obtain ⟨hbd1_y, hbd2_y⟩ := hbd_y
  have H1 := Lib.hid h1
  have H2 := Lib.hid h2
  clear h1 h2
  subst hn hm
  have hbel : Below w.heap.size w w := Below.refl _ _
  by_cases hle : G.length = H.length
  · have hq : ((G.length : Int) != (H.length : Int)) = false := by simp [hle]
    have hq2 : ((G.length : Int) == (H.length : Int)) = true := by simp [hle]
    have HLE := Lib.hid hle
    clear hle
    go_enter Tryd.func19, Tryd.ntmps19
    go_wp2
    clear hq hq2
    have HB := Lib.hid hbel
    clear hbel
    go_loopw [5] (fun i wr => ∃ k : Nat, k ≤ G.length ∧ i = .int .i64 k ∧ G.take k = H.take k ∧ Below w.heap.size w wr) (fun i _ => G.length - (intOf i).toNat)
    case atStart => exact ⟨0, Nat.zero_le _, rfl, rfl, HB.out⟩
    case round =>
      obtain ⟨k, hk, rfl, htk, hbel⟩ := hrel
      by_cases hlt : k < G.length
      · have hlt2 : k < H.length := by rw [← HLE.out]; exact hlt
        obtain ⟨s, hs⟩ : ∃ s, G[k]? = some s := ⟨G[k], List.getElem?_eq_getElem hlt⟩
        obtain ⟨t, ht⟩ : ∃ t, H[k]? = some t := ⟨H[k], List.getElem?_eq_getElem hlt2⟩
        obtain ⟨ab, ao, rfl, ca⟩ := text_cell H1.out hs
        obtain ⟨bb, bo, rfl, cb⟩ := text_cell H2.out ht
        have x0 := keep ca
        have y0 := keep cb
        have hd : decide ((k : Int) < (G.length : Int)) = true := decide_eq_true (by omega)
        have HT := Lib.hid htk
        have HS := Lib.hid hs
        have HTT := Lib.hid ht
        clear hs ht ca cb htk
        cases he : (s.toList == t.toList) with
        | true =>
          have HN := Lib.hid (same_next HS.out HTT.out he HT.out)
          go_upto_region 6 with fail
          have kk := fun d os => belStep hbel (below_regrown _ d os)
          refine wp_region_quiet_below (by kernel_rfl) (by kernel_rfl) ?_
          repeat ((with_reducible refine wpQuiet_step (fun K hK => ?_)); go_simp; (try (rw [if_neg]; rotate_left; · decide)); first | ((with_reducible refine hK _ ?_); clear hK K) | (apply Exists.intro; refine ⟨fun _ => ?_, hK _ ?_⟩; (fail); clear hK K))
          refine wpQuiet_nil (fun w1 hw1 => ?_)
          replace hbel := belStep hbel (bel_of_class hw1)
          clear hw1 kk
          go_wp2
          go_roundw
          case rel => exact ⟨k + 1, by omega, by push_cast; rfl, HN.out, hbel⟩
          case measure => simp [intOf] <;> omega
        | false =>
          have HN := Lib.hid (same_no HS.out HTT.out he)
          go_upto_region 6 with fail
          have kk := fun d os => belStep hbel (below_regrown _ d os)
          refine wp_region_quiet_below (by kernel_rfl) (by kernel_rfl) ?_
          repeat ((with_reducible refine wpQuiet_step (fun K hK => ?_)); go_simp; (try (rw [if_neg]; rotate_left; · decide)); first | ((with_reducible refine hK _ ?_); clear hK K) | (apply Exists.intro; refine ⟨fun _ => ?_, hK _ ?_⟩; (fail); clear hK K))
          refine wpQuiet_nil (fun w1 hw1 => ?_)
          replace hbel := belStep hbel (bel_of_class hw1)
          clear hw1 kk
          go_wp2
          go_ret
          exact ⟨by rw [HN.out]; rfl, hbel⟩
      · obtain rfl : k = G.length := by omega
        have hd : decide ((G.length : Int) < (G.length : Int)) = false := decide_eq_false (by omega)
        have HN := Lib.hid (show sameB G H = true by unfold sameB; refine decide_eq_true ?_; rw [List.take_length] at htk; rw [htk, HLE.out, List.take_length])
        clear htk
        go_wp2
        go_ret
        exact ⟨by rw [HN.out]; rfl, hbel⟩
  · have hq : ((G.length : Int) != (H.length : Int)) = true := by simp; omega
    have hq2 : ((G.length : Int) == (H.length : Int)) = false := by simp; omega
    have HN := Lib.hid (same_len hle)
    clear hle
    go_enter Tryd.func19, Tryd.ntmps19
    go_wp2
    go_ret
    exact ⟨by rw [HN.out]; rfl, hbel⟩
end Go.Proofs.YtekakalhknjdaaaDoor
