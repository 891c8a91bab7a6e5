/- Rows of samples; bilgelaw18.rounds: contract; since when a threshold is met, by the samples. -/
import Derived.Test.YtbancemkajgljaaAwake18
namespace Go.Proofs.Ytbancemkajgljaa
open Go.RowKit Go.WideShapes
set_option linter.unusedVariables false
set_option linter.unusedSimpArgs false

structure RowV where
  gap : Int
  v0 : Int
  v1 : Int
  v2 : Int
def RowV.cells (r : RowV) : List Value := [.int .u8 r.gap, .int .i64 r.v0, .int .i64 r.v1, .int .i64 r.v2]
theorem RowV.cells_len (r : RowV) : r.cells.length = 4 := rfl
def RowV.ok (r : RowV) : Prop := (0 ≤ r.gap ∧ r.gap ≤ 255) ∧ InI r.v0 ∧ InI r.v1 ∧ InI r.v2
theorem rd_row {w : World} {cs : List Value} (h : Rd Try.prog w 45 cs) : ∃ r : RowV, cs = r.cells ∧ r.ok := by
  obtain ⟨hl, hf⟩ := Rd.struct Try.underlying45 h
  rw [show Try.prog.cellsOf 45 = 4 by kernel_rfl] at hl
  obtain ⟨a, b, c, d, rfl⟩ := list4 hl
  have h0 := hf 0 _ rfl
  have h1 := hf 1 _ rfl
  simp [show Try.prog.cellsOf 5 = 1 by kernel_rfl, show Try.prog.cellsOf 22 = 3 by kernel_rfl] at h0 h1
  obtain ⟨x0, e0, w0⟩ := Rd.int Try.underlying5 h0
  obtain ⟨x1, x2, x3, rfl, rfl, rfl, i1, i2, i3⟩ := rd_three h1
  simp at e0
  subst e0
  exact ⟨⟨x0, x1, x2, x3⟩, rfl, in8_of_wf w0, i1, i2, i3⟩
theorem open_rows {H : Type} {enc : TypeId × Value → H} {W : World} {v : Value} {b : Nat} {d : DataW H} {p : List MemPlace} (o : Value.okWide Try.prog W .any b 42 v) (h : DataW.Trod enc Try.prog W 0 (fun _ => true) true 42 v d p) :
    ∃ (a : Option Addr) (len cap : Nat) (L : List RowV), v = .slice a len cap ∧ L.length = len ∧ (∀ x ∈ L, x.ok) ∧ Row W a len cap 4 (L.flatMap RowV.cells) := by
  obtain ⟨a, len, cap, rfl⟩ := slice_of_ok Try.underlying42 o
  obtain ⟨L, h1, h2, h3⟩ := Rd.rows RowV.cells 4 Try.underlying42 (by kernel_rfl) (by omega) RowV.cells_len RowV.ok (fun es hes => rd_row hes) (Rd.of h)
  exact ⟨a, len, cap, L, rfl, h1, h2, h3⟩

def sumR : List RowV → Int
  | [] => 0
  | r :: l => 1 + r.gap + sumR l
theorem sumR_app (a b : List RowV) : sumR (a ++ b) = sumR a + sumR b := by
  induction a with
  | nil => simp [sumR]
  | cons x a ih => rw [List.cons_append, sumR, sumR, ih]; omega
theorem sumR_bd (l : List RowV) (h : ∀ r ∈ l, r.ok) : (l.length : Int) ≤ sumR l ∧ sumR l ≤ 256 * l.length := by
  induction l with
  | nil => simp [sumR]
  | cons x l ih =>
    have h1 := (h x List.mem_cons_self).1
    have h2 := ih (fun r hr => h r (List.mem_cons_of_mem _ hr))
    rw [sumR, List.length_cons]
    push_cast
    omega
/-- The round of sample i. -/
def atR (L : List RowV) (i : Nat) : Int := sumR (L.take (i + 1))
theorem sumR_next {L : List RowV} {k : Nat} {r : RowV} (h : L[k]? = some r) : sumR (L.take (k + 1)) = sumR (L.take k) + 1 + r.gap := by
  rw [List.take_add_one, h, sumR_app]; simp [sumR]; omega
def atL (L : List RowV) : List Int := (List.range L.length).map (atR L)
theorem atL_len (L : List RowV) : (atL L).length = L.length := by unfold atL; simp
theorem atL_get {L : List RowV} {k : Nat} (h : k < L.length) : (atL L)[k]? = some (atR L k) := by unfold atL; simp [h]
theorem atL_el {L : List RowV} {k : Nat} (h : k < L.length) : el (atL L) k = atR L k := by
  unfold el; rw [List.getD_eq_getElem?_getD, atL_get h]; rfl
theorem atR_bd {L : List RowV} (h : ∀ r ∈ L, r.ok) (hn : L.length ≤ 60) (i : Nat) (hi : i < L.length) : 1 ≤ atR L i ∧ atR L i ≤ 15360 := by
  have hb := sumR_bd (L.take (i + 1)) (fun r hr => h r (List.mem_of_mem_take hr))
  have hl : (L.take (i + 1)).length = i + 1 := by rw [List.length_take]; omega
  rw [hl] at hb
  unfold atR
  omega
set_option maxRecDepth 100000 in
set_option maxHeartbeats 8000000 in
theorem law_rounds (la : Option Addr) (n lc : Nat) (L : List RowV) (w : World) (hL : L.length = n) (hn : n ≤ 60) (hok : ∀ r ∈ L, r.ok) (hR : Row w la n lc 4 (L.flatMap RowV.cells)) : Calls Try.prog 26 #[.slice la n lc] w fun e w' => ∃ v, e = .returned v ∧ OwnG (Value.int .i64) w' w.heap.size 3 v (atL L) ∧ Below w.heap.size w w' := by
  have hbd : n ≤ lc ∧ lc ≤ 9223372036854775807 := by obtain ⟨_, h1, h2, _⟩ := hR; unfold maxLen at h2; exact ⟨h1, h2⟩
  obtain ⟨hbd1, hbd2⟩ := hbd
  have HR := Lib.hid hR
  have HOK := Lib.hid hok
  have HL := Lib.hid hL
  clear hR hok hL
  go_enter Try.func26, Try.ntmps26
  go_wp2
  go_loopw [3, 4, 5] (fun v m i wr => ∃ k : Nat, k ≤ n ∧ i = .int .i64 k ∧ m = .int .i64 (sumR (L.take k)) ∧ OwnG (Value.int .i64) wr w.heap.size 3 v ((atL L).take k) ∧ Below w.heap.size w wr) (fun _ _ i _ => n - (intOf i).toNat)
  case atStart => exact ⟨0, by omega, rfl, rfl, by simpa using OwnG.nil, Below.refl _ _⟩
  case round =>
    obtain ⟨k, hk, rfl, rfl, ho, hbel⟩ := hrel
    have HO := Lib.hid ho
    have HB := Lib.hid hbel
    clear ho
    by_cases hlt : k < n
    · obtain ⟨r, hr⟩ : ∃ r, L[k]? = some r := ⟨_, List.getElem?_eq_getElem (by rw [HL.out]; exact hlt)⟩
      obtain ⟨b, off, rfl, _, hc⟩ := (HR.out.later HB.out).elem RowV.cells_len (by omega) hr
      have x0 := hc 0 _ rfl
      rw [Nat.add_zero] at x0
      have hrk := (HOK.out r (List.mem_of_getElem? hr)).1
      have hbk := sumR_bd (L.take k) (fun r hr => HOK.out r (List.mem_of_mem_take hr))
      have hlk : (L.take k).length = k := by rw [List.length_take, HL.out]; omega
      rw [hlk] at hbk
      have hnx := sumR_next hr
      have HAT := Lib.hid (show (atL L)[k]? = some (sumR (L.take k) + 1 + r.gap) by rw [atL_get (by rw [HL.out]; exact hlt)]; unfold atR; rw [hnx])
      have HNX := Lib.hid hnx
      have hki : (k : Int) < (n : Int) := by omega
      have hlo := Lib.hid (show ((atL L).take k).length = k by rw [List.length_take, atL_len, HL.out]; omega)
      clear hc hr hnx hlk
      generalize sumR (L.take k) = m at *
      obtain ⟨g, w0, w1, w2⟩ := r
      simp only at x0 hrk HNX HAT
      obtain ⟨hb1, hb2⟩ := hbk
      obtain ⟨hg1, hg2⟩ := hrk
      have hwg : wrap64 g = g := by unfold wrap64; omega
      have hwa : IntKind.i64.wrap (m + 1 + g) = m + 1 + g := by simp only [IntKind.wrap_i64]; omega
      have hm0 : 0 ≤ m := by omega
      have hm1 : m ≤ 15360 := by omega
      clear hb1 hb2
      go_wp2_with (first | (at_builtin; refine wpList_app_g (f := (Value.int .i64)) rfl _ _ 26 rfl w.heap.size 3 (.int .i64 0) 8 Try.underlying26 info_int rfl _ _ rfl (HO.out.alloc (.cells #[.int .i64 (m + 1 + g)] 3)) _ _ rfl (by simp; rfl) rfl (by rw [hlo.out]; unfold maxLen; omega) (by rw [hlo.out]; omega) (by have := hbel.size; simp; omega) ?_; intro v4 w4 ho4 hb4; have HB4 := Lib.hid ((hbel.alloc hbel.size (.cells #[.int .i64 (m + 1 + g)] 3) : Below w.heap.size w _).trans hb4); have HO4 := Lib.hid ho4; clear ho4 hb4))
      go_roundw
      case rel => exact ⟨k + 1, by omega, by push_cast; rfl, by rw [HNX.out], by rw [List.take_add_one, HAT.out]; exact HO4.out, HB4.out⟩
      case measure => simp [intOf] <;> omega
    · obtain rfl : k = n := by omega
      have hki : ¬ (k : Int) < (k : Int) := by omega
      have HT := Lib.hid (show (atL L).take k = atL L from List.take_of_length_le (by rw [atL_len, HL.out]; exact Nat.le_refl _))
      go_wp2
      go_ret
      exact ⟨_, rfl, by have := HO.out; rw [HT.out] at this; exact this, HB.out⟩

/-- From which sample on a threshold is met, through the n first ones. -/
def js (f : Nat → Bool) : Nat → Nat
  | 0 => 0
  | n + 1 => if f n then js f n else n + 1
theorem js_le (f : Nat → Bool) : ∀ n, js f n ≤ n
  | 0 => Nat.le_refl _
  | n + 1 => by
    have := js_le f n
    unfold js; split <;> omega
theorem js_yes {f : Nat → Bool} {n : Nat} (h : f n = true) : js f (n + 1) = js f n := by rw [js, if_pos h]
theorem js_no {f : Nat → Bool} {n : Nat} (h : f n = false) : js f (n + 1) = n + 1 := by rw [js, if_neg (by rw [h]; simp)]
/-- The timer behind the n first samples. -/
def sv (f : Nat → Bool) (at' : Nat → Int) (n : Nat) : Int := if js f n < n then at' (js f n) else -1
theorem sv_zero (f : Nat → Bool) (at' : Nat → Int) : sv f at' 0 = -1 := rfl
theorem sv_next (f : Nat → Bool) (at' : Nat → Int) (n : Nat) (h : ∀ i, i ≤ n → at' i ≠ -1) : sv f at' (n + 1) = stepE (f n) (sv f at' n) (at' n) := by
  have hj := js_le f n
  unfold sv stepE
  cases hf : f n
  · rw [js_no hf, if_neg (by omega)]; rfl
  · rw [js_yes hf, if_pos (by omega)]
    simp only [if_true]
    by_cases q : js f n < n
    · rw [if_pos q, if_neg (h _ (by omega))]
    · rw [if_neg q, if_pos rfl]
      congr 1; omega
theorem sv_hold (f : Nat → Bool) (at' : Nat → Int) (n : Nat) (t : ThrV) (h : ∀ i, i ≤ n → at' i ≠ -1) : holdE t (sv f at' (n + 1)) (at' n) = (decide (js f (n + 1) ≤ n) && (!t.soft || decide (t.grace ≤ at' n - at' (js f (n + 1))))) := by
  have hj := js_le f (n + 1)
  unfold holdE sv
  by_cases q : js f (n + 1) < n + 1
  · rw [if_pos q, if_neg (h _ (by omega)), decide_eq_true (show js f (n + 1) ≤ n by omega), Bool.true_and]
  · rw [if_neg q, if_pos rfl, decide_eq_false (show ¬ js f (n + 1) ≤ n by omega), Bool.false_and]
/-- Whether sample i meets a threshold. -/
def fR (c : CfgV) (L : List RowV) (t : ThrV) (i : Nat) : Bool := match L[i]? with
  | some r => met3 c t r.v0 r.v1 r.v2
  | none => false
def svL (c : CfgV) (L : List RowV) (n : Nat) : List Int := c.L.map (fun t => sv (fR c L t) (atR L) n)
theorem svL_zero (c : CfgV) (L : List RowV) : svL c L 0 = List.replicate c.L.length (-1) := by
  unfold svL; rw [show (fun t => sv (fR c L t) (atR L) 0) = fun _ => (-1 : Int) from rfl]; exact List.map_const'
theorem svL_next (c : CfgV) (L : List RowV) (n : Nat) (r : RowV) (hr : L[n]? = some r) (h : ∀ i, i ≤ n → atR L i ≠ -1) : stepL c (svL c L n) r.v0 r.v1 r.v2 (atR L n) = svL c L (n + 1) := by
  unfold stepL svL
  rw [List.zipWith_map_right]
  rw [show (fun a b => stepE (met3 c a r.v0 r.v1 r.v2) (sv (fR c L b) (atR L) n) (atR L n)) = fun a b => stepE (met3 c a r.v0 r.v1 r.v2) (sv (fR c L b) (atR L) n) (atR L n) from rfl, List.zipWith_self]
  refine List.map_congr_left (fun t _ => ?_)
  rw [sv_next _ _ _ h]
  have : fR c L t n = met3 c t r.v0 r.v1 r.v2 := by unfold fR; rw [hr]
  rw [this]
theorem svL_el {c : CfgV} {L : List RowV} {n k : Nat} {t : ThrV} (ht : c.L[k]? = some t) : el (svL c L n) k = sv (fR c L t) (atR L) n := by
  unfold el svL; rw [List.getD_eq_getElem?_getD, List.getElem?_map, ht]; rfl
theorem svL_len (c : CfgV) (L : List RowV) (n : Nat) : (svL c L n).length = c.L.length := by unfold svL; simp
theorem sv_bd (f : Nat → Bool) (at' : Nat → Int) (n : Nat) (h : ∀ i, i < n → 1 ≤ at' i ∧ at' i ≤ 15360) : -1 ≤ sv f at' n ∧ sv f at' n ≤ 15360 := by
  unfold sv
  split
  · rename_i q; have := h _ q; omega
  · omega
end Go.Proofs.Ytbancemkajgljaa
