
/- Lists of floats; contracts of edge.Least and edge.All. -/
import Derived.Test.YtcgpmihjodolmaaEdgeRef
import Derived.Test.YtcgpmihjodolmaaOwn
namespace Go.Proofs.Ytcgpmihjodolmaa
open Go.RowKit
set_option linter.unusedVariables false
set_option linter.unusedSimpArgs false

/-- The element at a place: a plain name. -/
def fl (l : List Nat) (i : Nat) : Nat := l.getD i 0
/-- A slice of floats that reads as 'l'. -/
def Flts (w : World) (a : Option Addr) (len cap : Nat) (l : List Nat) : Prop := Row w a len cap 1 (l.map (Value.float .f64)) ∧ ∀ n ∈ l, n < 18446744073709551616
theorem Flts.later {w w' : World} {a : Option Addr} {len cap : Nat} {l : List Nat} (h : Flts w a len cap l) (hb : Below w.heap.size w w') : Flts w' a len cap l := ⟨Row.later h.1 hb, h.2⟩
theorem Flts.bounds {w : World} {a : Option Addr} {len cap : Nat} {l : List Nat} (h : Flts w a len cap l) : l.length = len ∧ len ≤ cap ∧ cap ≤ 9223372036854775807 := by
  obtain ⟨⟨h1, h2, h3, _⟩, _⟩ := h
  unfold maxLen at h3
  simp at h1
  exact ⟨h1, h2, h3⟩
theorem fl_mem {l : List Nat} {i : Nat} (h : i < l.length) : fl l i ∈ l := by
  unfold fl; rw [List.getD_eq_getElem?_getD, List.getElem?_eq_getElem h]; exact List.getElem_mem h
theorem fl_take {l : List Nat} {i : Nat} (h : i < l.length) : l.take (i + 1) = l.take i ++ [fl l i] := by
  unfold fl; rw [List.take_succ_eq_append_getElem h, List.getD_eq_getElem?_getD, List.getElem?_eq_getElem h]; rfl
theorem Flts.opened {w : World} {a : Option Addr} {len cap : Nat} {l : List Nat} (h : Flts w a len cap l) (h0 : 0 < len) :
    ∃ b off, a = some ⟨b, off, none⟩ ∧ b < w.heap.size ∧ ∀ i, i < len → w.cell? ⟨b, off + i, none⟩ = some (.float .f64 (fl l i)) := by
  obtain ⟨hr, hw⟩ := h
  have hr' := hr
  obtain ⟨h1, h2, h3, h4, h5⟩ := hr
  simp at h1
  have hne : l.map (Value.float .f64) ≠ [] := by intro e; simp at e; rw [e] at h1; simp at h1; omega
  rcases h5 with h5 | ⟨b, off, rfl, hc⟩
  · exact absurd h5 hne
  · refine ⟨b, off, rfl, hr'.block _ rfl hne, fun i hi => ?_⟩
    rw [hc i (by simp; omega)]
    simp [fl, show i < l.length by omega]
theorem flts_new (w : World) (l : List Nat) (T : TypeId) (hm : l.length ≤ maxLen) (hw : ∀ n ∈ l, n < 18446744073709551616) : Flts (w.alloc (.cells (l.map (Value.float .f64)).toArray T)) (some ⟨w.heap.size, 0, none⟩) l.length l.length l := by
  refine ⟨⟨by simp, Nat.le_refl _, hm, (fun h => by cases h), .inr ⟨_, _, rfl, fun i hi => ?_⟩⟩, hw⟩
  rw [Nat.zero_add, World.cell?_alloc_mark]
  simp
theorem flts_nil (w : World) : Flts w none 0 0 [] := ⟨⟨rfl, Nat.le_refl _, by unfold maxLen; omega, fun _ => ⟨rfl, rfl⟩, .inl rfl⟩, fun n hn => by cases hn⟩

/-! ### The least one. -/
def leastStep (m f : Nat) : Nat := if fplace f < fplace m then f else m
def leastF (l : List Nat) : Nat := match l with
  | [] => 9218868437227405312
  | x :: l => l.foldl leastStep x
theorem leastF_one (l : List Nat) (h : 0 < l.length) : leastF (l.take 1) = fl l 0 := by
  cases l with
  | nil => simp at h
  | cons x l => rfl
theorem leastF_next (l : List Nat) (k : Nat) (h : k + 1 < l.length) : leastF (l.take (k + 2)) = leastStep (leastF (l.take (k + 1))) (fl l (k + 1)) := by
  cases l with
  | nil => simp at h
  | cons x l =>
    simp at h
    have e : l.take (k + 1) = l.take k ++ [fl (x :: l) (k + 1)] := fl_take (l := l) (i := k) h
    show (l.take (k + 1)).foldl leastStep x = _
    rw [e, List.foldl_append]
    rfl
theorem leastF_lt (l : List Nat) (h : ∀ n ∈ l, n < 18446744073709551616) : leastF l < 18446744073709551616 := by
  cases l with
  | nil => show 9218868437227405312 < _; omega
  | cons x l =>
    show l.foldl leastStep x < _
    have : ∀ (l : List Nat) (x : Nat), x < 18446744073709551616 → (∀ n ∈ l, n < 18446744073709551616) → l.foldl leastStep x < 18446744073709551616 := by
      intro l
      induction l with
      | nil => intro x hx _; exact hx
      | cons y l ih =>
        intro x hx hl
        refine ih _ ?_ (fun n hn => hl n (List.mem_cons_of_mem _ hn))
        unfold leastStep; split
        · exact hl y List.mem_cons_self
        · exact hx
    exact this l x (h x List.mem_cons_self) (fun n hn => h n (List.mem_cons_of_mem _ hn))
theorem math_Inf (w : World) : Calls Try.prog 33 #[.int .i64 1] w fun e w' => e = .returned (.float .f64 9218868437227405312) ∧ w = w' := by
  have hb := run_frombits 9218868437227405312
  go_enter Try.func33, Try.ntmps33
  go_wp2
  go_ret
  exact ⟨rfl, rfl⟩
theorem cmp_neg (a b : Int) : (cmpI a b < 0) = (a < b) := by unfold cmpI; rw [eq_iff_iff]; omega

theorem info_int : (Try.prog.info? 3).map (fun i => (i.zero, i.size, i.bytes)) = some (some (.int .i64 0), 1, 8) := by kernel_rfl
def notNaN (n : Nat) : Bool := !(kindF n == 1)

/-- What is answered of a list. -/
def AllPost (L : List Nat) (B : Nat) (e : Ending) (w' : World) : Prop := if L.all notNaN = true then ∃ v, e = .returned (.tuple #[v, .bool true]) ∧ OwnI w' B 3 .i64 v (L.map readF) else e = .returned (.tuple #[.slice none 0 0, .bool false])
theorem AllPost.no {L : List Nat} {B : Nat} {w' : World} (h : L.all notNaN = false) : AllPost L B (.returned (.tuple #[.slice none 0 0, .bool false])) w' := by unfold AllPost; rw [if_neg (by rw [h]; simp)]
theorem AllPost.yes {L : List Nat} {B : Nat} {w' : World} {v : Value} (h : L.all notNaN = true) (ho : OwnI w' B 3 .i64 v (L.map readF)) : AllPost L B (.returned (.tuple #[v, .bool true])) w' := by unfold AllPost; rw [if_pos h]; exact ⟨v, rfl, ho⟩
set_option maxRecDepth 100000 in
set_option maxHeartbeats 4000000 in
/-- Every number of the list is read. -/
theorem edge_All (a : Option Addr) (len cap : Nat) (L : List Nat) (w : World) (hF : Flts w a len cap L) (hsm : len ≤ 300) : Calls Try.prog 62 #[.slice a len cap] w fun e w' => AllPost L w.heap.size e w' ∧ Below w.heap.size w w' := by
  obtain ⟨hlen, hc1, hc2⟩ := hF.bounds
  obtain ⟨i0, hi0⟩ : ∃ i, Try.prog.info? 3 = some i := ⟨_, rfl⟩
  have hinfo := info_int
  rw [hi0] at hinfo
  simp at hinfo
  obtain ⟨hz, hs, hby⟩ := hinfo
  have HI0 := Lib.hid hi0
  have HZ := Lib.hid hz
  have HS := Lib.hid hs
  have HBY := Lib.hid hby
  have HF := Lib.hid hF
  have HL := Lib.hid hlen
  clear hF hi0 hz hs hby
  go_enter Try.func62, Try.ntmps62
  go_wp2_with (first | (at_make; refine wpList_make_own _ rfl _ _ 102 rfl w.heap.size 3 i0 (.int .i64 0) 1 Try.underlying102 HI0.out HZ.out HS.out .i64 .i64 _ len rfl rfl rfl (by rw [HBY.out]; omega) (by unfold maxLen; omega) (Nat.le_refl _) ?_; intro w1 ho1 hg1))
  have hb1 : Below w.heap.size w w1 := (Below.refl _ _).grown hg1 (Nat.le_refl _) (fun q hq => by cases hq)
  have HO1 := Lib.hid (show OwnI w1 w.heap.size 3 .i64 (.slice (some ⟨w.heap.size, 0, none⟩) 0 len) [] from ho1)
  have HB1 := Lib.hid hb1
  clear ho1 hg1 hb1
  go_loopw [4, 14] (fun v i wr => ∃ k : Nat, k ≤ len ∧ i = .int .i64 k ∧ OwnI wr w.heap.size 3 .i64 v ((L.take k).map readF) ∧ (L.take k).all notNaN = true ∧ Below w.heap.size w wr) (fun _ i _ => len - (intOf i).toNat)
  case atStart => exact ⟨0, by omega, rfl, by simpa using HO1.out, by simp, HB1.out⟩
  case round =>
    obtain ⟨k, hk, rfl, ho, hall, hbel⟩ := hrel
    have HO := Lib.hid ho
    have HA := Lib.hid hall
    have HB := Lib.hid hbel
    clear ho hall hbel
    by_cases hlt : k < len
    · obtain ⟨b, off, rfl, hbb, hcell⟩ := (HF.out.later HB.out).opened (by omega)
      have xk := hcell k hlt
      have hmem := HF.out.2 _ (fl_mem (l := L) (i := k) (by rw [HL.out]; exact hlt))
      have htk := Lib.hid (fl_take (l := L) (i := k) (by rw [HL.out]; exact hlt))
      have hki : (k : Int) < (len : Int) := by omega
      have hlenk := Lib.hid (show ((L.take k).map readF).length = k by rw [List.length_map, List.length_take, HL.out, Nat.min_eq_left hk])
      clear hcell
      obtain ⟨f, ef⟩ : ∃ f, fl L k = f := ⟨_, rfl⟩
      have EF := Lib.hid ef
      rw [ef] at xk hmem
      clear ef
      have CR := Lib.hid (fun v => edge_Read f v hmem)
      by_cases hn : kindF f = 1
      · simp only [if_pos hn] at CR
        have hno : L.all notNaN = false := by
          have : fl L k ∈ L := fl_mem (by rw [HL.out]; exact hlt)
          rw [List.all_eq_false]
          exact ⟨_, this, by unfold notNaN; rw [EF.out, hn]; simp⟩
        have HNO := Lib.hid hno
        clear hno hn
        go_wp2_with (first | (go_at_call 72; (with_reducible refine (CR.out _).mono ?_); rintro e w' ⟨rfl, rfl⟩))
        go_ret2
        exact ⟨AllPost.no HNO.out, HB.out⟩
      · simp only [if_neg hn] at CR
        have HN := Lib.hid hn
        clear hn
        have hsz : w.heap.size ≤ wr.heap.size := HB.out.size
        go_wp2_with (first | (go_at_call 72; (with_reducible refine (CR.out _).mono ?_); rintro e w' ⟨rfl, rfl⟩) | (at_builtin; refine wpList_app_one rfl _ _ 102 rfl w.heap.size 3 .i64 8 Try.underlying102 info_int _ _ rfl (HO.out.alloc (.cells #[.int .i64 (readF f)] 3)) _ _ rfl (by simp; rfl) (by rw [hlenk.out]; unfold maxLen; omega) (by rw [hlenk.out]; omega) (by simp; omega) ?_; intro v4 w4 ho4 hb4 hg4 hm4; have HB4 := Lib.hid (((HB.out.alloc hsz (.cells #[.int .i64 (readF f)] 3)) : Below w.heap.size w _).trans hb4); have HO4 := Lib.hid ho4; clear ho4 hb4 hg4 hm4))
        go_roundw
        case rel => exact ⟨k + 1, by omega, by push_cast; rfl, by rw [htk.out, List.map_append, EF.out]; exact HO4.out, by rw [htk.out, List.all_append, HA.out, EF.out]; simp [notNaN, HN.out], HB4.out⟩
        case measure => simp [intOf] <;> omega
    · obtain rfl : k = len := by omega
      have hki : ¬ (k : Int) < (k : Int) := by omega
      have htk : L.take k = L := List.take_of_length_le (by rw [HL.out]; exact Nat.le_refl _)
      have HT := Lib.hid htk
      clear htk
      have hal : L.all notNaN = true := by rw [← HT.out]; exact HA.out
      have HAL := Lib.hid hal
      clear hal
      go_wp2
      go_ret2
      exact ⟨AllPost.yes HAL.out (by have := HO.out; rw [HT.out] at this; exact this), HB.out⟩
end Go.Proofs.Ytcgpmihjodolmaa
