
/- Stage 10: readers for ops and acts; Few, few: contracts. -/
import Derived.Test.YtcnjcldfbidkmaaDkAw
namespace Go.Proofs.Ytcnjcldfbidkmaa
open Go.RowKit Go.Sort
set_option linter.unusedVariables false
set_option linter.unusedSimpArgs false
theorem allG_next {α : Type} {f : α → Bool} {L : List α} {k : Nat} {x : α} (h : L[k]? = some x) : (L.take (k + 1)).all f = ((L.take k).all f && f x) := by
  rw [List.take_add_one, h, List.all_append]; simp
theorem allG_not {α : Type} {f : α → Bool} {L : List α} {k m : Nat} {x : α} (h : L[k]? = some x) (hf : f x = false) (hk : k < m) : (L.take m).all f = false := by
  rw [List.all_eq_false]
  refine ⟨x, ?_, by rw [hf]; simp⟩
  exact List.mem_of_getElem? (i := k) (by rw [List.getElem?_take_of_lt hk]; exact h)
def OpV.good (W : World) (o : OpV) : Prop := Ints .u8 W o.ba o.Z.length o.bc o.Z ∧ o.small
theorem OpV.good.later {u w : World} {o : OpV} (h : o.good u) (hb : Below u.heap.size u w) : o.good w := ⟨h.1.later hb, h.2⟩
theorem list4d {l : List Value} (h : l.length = 4) : ∃ a b c d, l = [a, b, c, d] := by
  match l, h with
  | [a, b, c, d], _ => exact ⟨_, _, _, _, rfl⟩
theorem list6d {l : List Value} (h : l.length = 6) : ∃ a b c d e f, l = [a, b, c, d, e, f] := by
  match l, h with
  | [a, b, c, d, e, f], _ => exact ⟨_, _, _, _, _, _, rfl⟩
theorem rd_u8sl {w : World} {g : Value} (h : Rd Try.prog w 68 [g]) : ∃ ta tl tc, g = .slice ta tl tc := by
  rcases Rd.slice Try.underlying68 h with h0 | ⟨ad, len, cap, h1, _⟩
  · simp at h0; exact ⟨_, _, _, h0⟩
  · simp at h1; exact ⟨_, _, _, h1⟩
theorem rd_isl {w : World} {g : Value} (h : Rd Try.prog w 71 [g]) : ∃ ta tl tc, g = .slice ta tl tc := by
  rcases Rd.slice Try.underlying71 h with h0 | ⟨ad, len, cap, h1, _⟩
  · simp at h0; exact ⟨_, _, _, h0⟩
  · simp at h1; exact ⟨_, _, _, h1⟩
theorem flat_int (k : IntKind) (G : List Int) : G.flatMap (fun s => [Value.int k s]) = G.map (Value.int k) := by
  induction G with
  | nil => rfl
  | cons x l ih => simp only [List.flatMap_cons, List.map_cons, ih]; rfl
theorem rd_op {w : World} {cs : List Value} (h : Rd Try.prog w 70 cs) : ∃ x : OpV, cs = x.cells ∧ x.good w := by
  obtain ⟨hl, hf⟩ := Rd.struct Try.underlying70 h
  rw [show Try.prog.cellsOf 70 = 4 by kernel_rfl] at hl
  obtain ⟨a, b, c, d, rfl⟩ := list4d hl
  have h0 := hf 0 _ rfl
  have h1 := hf 1 _ rfl
  have h2 := hf 2 _ rfl
  have h3 := hf 3 _ rfl
  simp [show Try.prog.cellsOf 3 = 1 by kernel_rfl, show Try.prog.cellsOf 9 = 1 by kernel_rfl, show Try.prog.cellsOf 68 = 1 by kernel_rfl] at h0 h1 h2 h3
  obtain ⟨o, e0, w0⟩ := Rd.int Try.underlying3 h0
  obtain ⟨s, e1, w1⟩ := Rd.string Try.underlying9 h1
  obtain ⟨t, e2, w2⟩ := Rd.string Try.underlying9 h2
  obtain ⟨ba, bl, bc, rfl⟩ := rd_u8sl h3
  obtain ⟨Z, g1, g2, g3⟩ := Rd.rows (fun n : Int => [Value.int .u8 n]) 1 Try.underlying68 (by kernel_rfl) (by omega) (fun _ => rfl) (fun n => (Lit.int .u8 n).wf = true) (fun es hes => Rd.int Try.underlying5 hes) h3
  simp at e0 e1 e2
  subst e0 e1 e2 g1
  exact ⟨⟨o, s, t, ba, bc, Z⟩, rfl, ⟨by rw [flat_int] at g3; exact g3, g2⟩, w1, w2, inI_of_wf w0⟩
set_option maxRecDepth 100000 in
theorem open_ops {H : Type} {enc : TypeId × Value → H} {W : World} {v : Value} {b : Nat} {d : DataW H} {p : List MemPlace} (o : Value.okWide Try.prog W .any b 67 v) (h : DataW.Trod enc Try.prog W 0 (fun _ => true) true 67 v d p) :
    ∃ (a : Option Addr) (len cap : Nat) (L : List OpV), v = .slice a len cap ∧ L.length = len ∧ (∀ x ∈ L, x.good W) ∧ Row W a len cap 4 (L.flatMap OpV.cells) := by
  obtain ⟨a, len, cap, rfl⟩ := slice_of_ok Try.underlying67 o
  obtain ⟨L, h1, h2, h3⟩ := Rd.rows OpV.cells 4 Try.underlying67 (by kernel_rfl) (by omega) OpV.cells_len (OpV.good W) (fun es hes => rd_op hes) (Rd.of h)
  exact ⟨a, len, cap, L, rfl, h1, h2, h3⟩
structure ActD where
  kind : Int
  op : OpV
  ka : Option Addr
  kc : Nat
  K : List Int
def ActD.cells (x : ActD) : List Value := [.int .i64 x.kind, .int .i64 x.op.kind, .string x.op.name, .string x.op.dst, .slice x.op.ba x.op.Z.length x.op.bc, .slice x.ka x.K.length x.kc]
theorem ActD.cells_len (x : ActD) : x.cells.length = 6 := rfl
def ActD.good (W : World) (x : ActD) : Prop := InI x.kind ∧ x.op.good W ∧ Ints .i64 W x.ka x.K.length x.kc x.K
theorem rd_actD {w : World} {cs : List Value} (h : Rd Try.prog w 73 cs) : ∃ x : ActD, cs = x.cells ∧ x.good w := by
  obtain ⟨hl, hf⟩ := Rd.struct Try.underlying73 h
  rw [show Try.prog.cellsOf 73 = 6 by kernel_rfl] at hl
  obtain ⟨a, b, c, d, e, f, rfl⟩ := list6d hl
  have h0 := hf 0 _ rfl
  have h1 := hf 1 _ rfl
  have h2 := hf 2 _ rfl
  simp [show Try.prog.cellsOf 3 = 1 by kernel_rfl, show Try.prog.cellsOf 70 = 4 by kernel_rfl, show Try.prog.cellsOf 71 = 1 by kernel_rfl] at h0 h1 h2
  obtain ⟨o, e0, w0⟩ := Rd.int Try.underlying3 h0
  obtain ⟨x, e1, w1⟩ := rd_op h1
  obtain ⟨ka, kl, kc, rfl⟩ := rd_isl h2
  obtain ⟨K, g1, g2, g3⟩ := Rd.rows (fun n : Int => [Value.int .i64 n]) 1 Try.underlying71 (by kernel_rfl) (by omega) (fun _ => rfl) (fun n => (Lit.int .i64 n).wf = true) (fun es hes => Rd.int Try.underlying3 hes) h2
  simp [OpV.cells] at e0 e1
  obtain ⟨rfl, rfl, rfl, rfl⟩ := e1
  subst e0 g1
  exact ⟨⟨o, x, ka, kc, K⟩, rfl, inI_of_wf w0, w1, by rw [flat_int] at g3; exact g3, g2⟩
set_option maxRecDepth 100000 in
theorem open_actsD {H : Type} {enc : TypeId × Value → H} {W : World} {v : Value} {b : Nat} {d : DataW H} {p : List MemPlace} (o : Value.okWide Try.prog W .any b 62 v) (h : DataW.Trod enc Try.prog W 0 (fun _ => true) true 62 v d p) :
    ∃ (a : Option Addr) (len cap : Nat) (L : List ActD), v = .slice a len cap ∧ L.length = len ∧ (∀ x ∈ L, x.good W) ∧ Row W a len cap 6 (L.flatMap ActD.cells) := by
  obtain ⟨a, len, cap, rfl⟩ := slice_of_ok Try.underlying62 o
  obtain ⟨L, h1, h2, h3⟩ := Rd.rows ActD.cells 6 Try.underlying62 (by kernel_rfl) (by omega) ActD.cells_len (ActD.good W) (fun es hes => rd_actD hes) (Rd.of h)
  exact ⟨a, len, cap, L, rfl, h1, h2, h3⟩
def opB (x : OpV) : Bool := (decide (x.name.size ≤ 50) && decide (x.dst.size ≤ 50)) && decide (x.Z.length ≤ 200)
def fewO (L : List OpV) : Bool := (L.take 100).all opB && decide (L.length ≤ 50)
theorem fewO_len {L : List OpV} (h : fewO L = true) : L.length ≤ 50 := by unfold fewO at h; rw [Bool.and_eq_true] at h; exact of_decide_eq_true h.2
def actDB (x : ActD) : Bool := opB x.op && decide (x.K.length ≤ 60)
def fewD (L : List ActD) : Bool := (L.take 100).all actDB && decide (L.length ≤ 50)
theorem fewD_len {L : List ActD} (h : fewD L = true) : L.length ≤ 50 := by unfold fewD at h; rw [Bool.and_eq_true] at h; exact of_decide_eq_true h.2
theorem fewO_op {L : List OpV} (h : fewO L = true) {x : OpV} (hx : x ∈ L) : opB x = true := by
  have hl := fewO_len h
  unfold fewO at h
  rw [Bool.and_eq_true, List.take_of_length_le (by omega)] at h
  exact List.all_eq_true.1 h.1 x hx
theorem fewD_act {L : List ActD} (h : fewD L = true) {x : ActD} (hx : x ∈ L) : actDB x = true := by
  have hl := fewD_len h
  unfold fewD at h
  rw [Bool.and_eq_true, List.take_of_length_le (by omega)] at h
  exact List.all_eq_true.1 h.1 x hx
set_option maxRecDepth 100000 in
set_option maxHeartbeats 16000000 in
theorem few_10O (a : Option Addr) (len cap : Nat) (L : List OpV) (w : World) (hl : L.length = len) (hR : Row w a len cap 4 (L.flatMap OpV.cells)) (hg : ∀ x ∈ L, x.good w) :
    Calls Try.prog 42 #[.slice a len cap] w fun e w' => e = .returned (.bool (fewO L)) ∧ Below w.heap.size w w' := by
  have hw : Below w.heap.size w w := Below.refl _ _
  have hbd_a : len ≤ cap ∧ cap ≤ 9223372036854775807 := by obtain ⟨_, h1, h2, _⟩ := hR; unfold maxLen at h2; exact ⟨h1, h2⟩
  obtain ⟨hbd1_a, hbd2_a⟩ := hbd_a
  have HR := Lib.hid hR
  clear hR
  subst hl
  have HG := Lib.hid hg
  clear hg
  go_enter Try.func42, Try.ntmps42
  go_wp2
  go_loopw [3] (fun i wr => ∃ k : Nat, k ≤ L.length ∧ k ≤ 100 ∧ i = .int .i64 k ∧ Hid ((L.take k).all opB = true) ∧ Below w.heap.size w wr) (fun i _ => L.length - (intOf i).toNat)
  case atStart => exact ⟨0, Nat.zero_le _, by omega, rfl, Lib.hid rfl, hw⟩
  case round =>
    clear hw
    obtain ⟨k, hk, hk2, rfl, HC, hbel⟩ := hrel
    by_cases hlt2 : k < min L.length 100
    · have hlt : k < L.length := by omega
      have hd : decide ((k : Int) < (L.length : Int)) = true := decide_eq_true (by omega)
      have hki : (k : Int) < (L.length : Int) := by omega
      have hk0 : (0 : Int) ≤ (k : Int) := by omega
      have hd2 : decide ((k : Int) < 100) = true := decide_eq_true (by omega)
      have hd3 : (k : Int) < 100 := by omega
      obtain ⟨x, hx⟩ : ∃ x, L[k]? = some x := ⟨L[k], List.getElem?_eq_getElem hlt⟩
      obtain ⟨bc, oc, ec, _, hcc⟩ := (HR.out).elem OpV.cells_len (by omega) hx
      subst ec
      have c0 := keep (hcc 0 _ rfl)
      have c1 := keep (hcc 1 _ rfl)
      have c2 := keep (hcc 2 _ rfl)
      have c3 := keep (hcc 3 _ rfl)
      rw [Nat.add_zero] at c0
      have HX := Lib.hid hx
      obtain ⟨⟨⟨_, hz1, hz2, _⟩, _⟩, hs1, hs2, _⟩ := HG.out _ (List.mem_of_getElem? hx)
      unfold maxLen at hz2
      have hsz0 : x.name.size ≤ 9223372036854775807 := by unfold maxLen at hs1; omega
      have hsz1 : x.dst.size ≤ 9223372036854775807 := by unfold maxLen at hs2; omega
      have hsz2 : x.Z.length ≤ 9223372036854775807 := by omega
      clear hx hcc hs1 hs2
      by_cases hqa : 50 < x.name.size
      · have ea1 : decide ((50 : Int) < (x.name.size : Int)) = true := decide_eq_true (by omega)
        have ea2 : (50 : Int) < (x.name.size : Int) := by omega
        have HN := Lib.hid (show fewO L = false by unfold fewO; rw [allG_not HX.out (show opB x = false by unfold opB; rw [decide_eq_false (show ¬ x.name.size ≤ 50 by omega)]; simp) (show k < 100 by omega)]; rfl)
        go_wp2
        go_ret
        exact ⟨by rw [HN.out]; rfl, hbel⟩
      · have ea1 : decide ((50 : Int) < (x.name.size : Int)) = false := decide_eq_false (by omega)
        have ea2 : ¬ (50 : Int) < (x.name.size : Int) := by omega
        by_cases hqb : 50 < x.dst.size
        · have eb1 : decide ((50 : Int) < (x.dst.size : Int)) = true := decide_eq_true (by omega)
          have eb2 : (50 : Int) < (x.dst.size : Int) := by omega
          have HN := Lib.hid (show fewO L = false by unfold fewO; rw [allG_not HX.out (show opB x = false by unfold opB; rw [decide_eq_false (show ¬ x.dst.size ≤ 50 by omega)]; simp) (show k < 100 by omega)]; rfl)
          go_wp2
          go_ret
          exact ⟨by rw [HN.out]; rfl, hbel⟩
        · have eb1 : decide ((50 : Int) < (x.dst.size : Int)) = false := decide_eq_false (by omega)
          have eb2 : ¬ (50 : Int) < (x.dst.size : Int) := by omega
          by_cases hqc : 200 < x.Z.length
          · have ec1 : decide ((200 : Int) < (x.Z.length : Int)) = true := decide_eq_true (by omega)
            have ec2 : (200 : Int) < (x.Z.length : Int) := by omega
            have HN := Lib.hid (show fewO L = false by unfold fewO; rw [allG_not HX.out (show opB x = false by unfold opB; rw [decide_eq_false (show ¬ x.Z.length ≤ 200 by omega)]; simp) (show k < 100 by omega)]; rfl)
            go_wp2
            go_ret
            exact ⟨by rw [HN.out]; rfl, hbel⟩
          · have ec1 : decide ((200 : Int) < (x.Z.length : Int)) = false := decide_eq_false (by omega)
            have ec2 : ¬ (200 : Int) < (x.Z.length : Int) := by omega
            have HN := Lib.hid (show (L.take (k + 1)).all opB = true by rw [allG_next HX.out, HC.out, show opB x = true by unfold opB; rw [decide_eq_true (show x.name.size ≤ 50 by omega), decide_eq_true (show x.dst.size ≤ 50 by omega), decide_eq_true (show x.Z.length ≤ 200 by omega)]; rfl]; rfl)
            go_wp2
            go_roundw
            case rel => exact ⟨k + 1, by omega, by omega, by push_cast; rfl, HN, hbel⟩
            case measure => simp [intOf] <;> omega
    · obtain rfl : k = min L.length 100 := by omega
      by_cases h100 : L.length < 100
      · have hmi : min L.length 100 = L.length := by omega
        rw [hmi] at HC ⊢
        have HF := Lib.hid (show fewO L = decide (L.length ≤ 50) by unfold fewO; rw [List.take_of_length_le (by omega)]; rw [List.take_length] at HC; rw [HC.out]; rfl)
        have hd : decide ((L.length : Int) < (L.length : Int)) = false := decide_eq_false (by omega)
        have k10 : decide ((L.length : Int) ≤ 50) = decide (L.length ≤ 50) := decide_eq_decide.2 (by omega)
        go_wp2
        go_ret
        exact ⟨by rw [HF.out]; first | rfl | (rw [← k10]; rfl), hbel⟩
      · have hmi : min L.length 100 = 100 := by omega
        rw [hmi] at HC ⊢
        have HF := Lib.hid (show fewO L = false by unfold fewO; rw [show decide (L.length ≤ 50) = false from decide_eq_false (by omega), Bool.and_false])
        have k10 : decide ((L.length : Int) ≤ 50) = false := decide_eq_false (by omega)
        have k11 : ¬ (L.length : Int) ≤ 50 := by omega
        by_cases h9 : L.length = 100
        · have hd : decide (((100 : Nat) : Int) < (L.length : Int)) = false := decide_eq_false (by omega)
          have hd4 : decide ((100 : Int) < (L.length : Int)) = false := decide_eq_false (by omega)
          go_wp2
          go_ret
          exact ⟨by rw [HF.out]; rfl, hbel⟩
        · have hd : decide (((100 : Nat) : Int) < (L.length : Int)) = true := decide_eq_true (by omega)
          have hd4 : decide ((100 : Int) < (L.length : Int)) = true := decide_eq_true (by omega)
          have hd5 : (100 : Int) < (L.length : Int) := by omega
          go_wp2
          go_ret
          exact ⟨by rw [HF.out]; rfl, hbel⟩
set_option maxRecDepth 100000 in
set_option maxHeartbeats 16000000 in
theorem few_10D (a : Option Addr) (len cap : Nat) (L : List ActD) (w : World) (hl : L.length = len) (hR : Row w a len cap 6 (L.flatMap ActD.cells)) (hg : ∀ x ∈ L, x.good w) :
    Calls Try.prog 31 #[.slice a len cap] w fun e w' => e = .returned (.bool (fewD L)) ∧ Below w.heap.size w w' := by
  have hw : Below w.heap.size w w := Below.refl _ _
  have hbd_a : len ≤ cap ∧ cap ≤ 9223372036854775807 := by obtain ⟨_, h1, h2, _⟩ := hR; unfold maxLen at h2; exact ⟨h1, h2⟩
  obtain ⟨hbd1_a, hbd2_a⟩ := hbd_a
  have HR := Lib.hid hR
  clear hR
  subst hl
  have HG := Lib.hid hg
  clear hg
  go_enter Try.func31, Try.ntmps31
  go_wp2
  go_loopw [3] (fun i wr => ∃ k : Nat, k ≤ L.length ∧ k ≤ 100 ∧ i = .int .i64 k ∧ Hid ((L.take k).all actDB = true) ∧ Below w.heap.size w wr) (fun i _ => L.length - (intOf i).toNat)
  case atStart => exact ⟨0, Nat.zero_le _, by omega, rfl, Lib.hid rfl, hw⟩
  case round =>
    clear hw
    obtain ⟨k, hk, hk2, rfl, HC, hbel⟩ := hrel
    by_cases hlt2 : k < min L.length 100
    · have hlt : k < L.length := by omega
      have hd : decide ((k : Int) < (L.length : Int)) = true := decide_eq_true (by omega)
      have hki : (k : Int) < (L.length : Int) := by omega
      have hk0 : (0 : Int) ≤ (k : Int) := by omega
      have hd2 : decide ((k : Int) < 100) = true := decide_eq_true (by omega)
      have hd3 : (k : Int) < 100 := by omega
      obtain ⟨x, hx⟩ : ∃ x, L[k]? = some x := ⟨L[k], List.getElem?_eq_getElem hlt⟩
      obtain ⟨bc, oc, ec, _, hcc⟩ := (HR.out).elem ActD.cells_len (by omega) hx
      subst ec
      have c0 := keep (hcc 0 _ rfl)
      have c1 := keep (hcc 1 _ rfl)
      have c2 := keep (hcc 2 _ rfl)
      have c3 := keep (hcc 3 _ rfl)
      have c4 := keep (hcc 4 _ rfl)
      have c5 := keep (hcc 5 _ rfl)
      rw [Nat.add_zero] at c0
      have HX := Lib.hid hx
      obtain ⟨_, ⟨⟨⟨_, hz1, hz2, _⟩, _⟩, hs1, hs2, _⟩, ⟨⟨_, hq1, hq2, _⟩, _⟩⟩ := HG.out _ (List.mem_of_getElem? hx)
      unfold maxLen at hz2
      have hsz0 : x.op.name.size ≤ 9223372036854775807 := by unfold maxLen at hs1; omega
      have hsz1 : x.op.dst.size ≤ 9223372036854775807 := by unfold maxLen at hs2; omega
      have hsz2 : x.op.Z.length ≤ 9223372036854775807 := by omega
      unfold maxLen at hq2
      have hsz3 : x.K.length ≤ 9223372036854775807 := by omega
      clear hx hcc hs1 hs2
      by_cases hqa : 50 < x.op.name.size
      · have ea1 : decide ((50 : Int) < (x.op.name.size : Int)) = true := decide_eq_true (by omega)
        have ea2 : (50 : Int) < (x.op.name.size : Int) := by omega
        have HN := Lib.hid (show fewD L = false by unfold fewD; rw [allG_not HX.out (show actDB x = false by unfold actDB opB; rw [decide_eq_false (show ¬ x.op.name.size ≤ 50 by omega)]; simp) (show k < 100 by omega)]; rfl)
        go_wp2
        go_ret
        exact ⟨by rw [HN.out]; rfl, hbel⟩
      · have ea1 : decide ((50 : Int) < (x.op.name.size : Int)) = false := decide_eq_false (by omega)
        have ea2 : ¬ (50 : Int) < (x.op.name.size : Int) := by omega
        by_cases hqb : 50 < x.op.dst.size
        · have eb1 : decide ((50 : Int) < (x.op.dst.size : Int)) = true := decide_eq_true (by omega)
          have eb2 : (50 : Int) < (x.op.dst.size : Int) := by omega
          have HN := Lib.hid (show fewD L = false by unfold fewD; rw [allG_not HX.out (show actDB x = false by unfold actDB opB; rw [decide_eq_false (show ¬ x.op.dst.size ≤ 50 by omega)]; simp) (show k < 100 by omega)]; rfl)
          go_wp2
          go_ret
          exact ⟨by rw [HN.out]; rfl, hbel⟩
        · have eb1 : decide ((50 : Int) < (x.op.dst.size : Int)) = false := decide_eq_false (by omega)
          have eb2 : ¬ (50 : Int) < (x.op.dst.size : Int) := by omega
          by_cases hqc : 200 < x.op.Z.length
          · have ec1 : decide ((200 : Int) < (x.op.Z.length : Int)) = true := decide_eq_true (by omega)
            have ec2 : (200 : Int) < (x.op.Z.length : Int) := by omega
            have HN := Lib.hid (show fewD L = false by unfold fewD; rw [allG_not HX.out (show actDB x = false by unfold actDB opB; rw [decide_eq_false (show ¬ x.op.Z.length ≤ 200 by omega)]; simp) (show k < 100 by omega)]; rfl)
            go_wp2
            go_ret
            exact ⟨by rw [HN.out]; rfl, hbel⟩
          · have ec1 : decide ((200 : Int) < (x.op.Z.length : Int)) = false := decide_eq_false (by omega)
            have ec2 : ¬ (200 : Int) < (x.op.Z.length : Int) := by omega
            by_cases hqd : 60 < x.K.length
            · have ed1 : decide ((60 : Int) < (x.K.length : Int)) = true := decide_eq_true (by omega)
              have ed2 : (60 : Int) < (x.K.length : Int) := by omega
              have HN := Lib.hid (show fewD L = false by unfold fewD; rw [allG_not HX.out (show actDB x = false by unfold actDB opB; rw [decide_eq_false (show ¬ x.K.length ≤ 60 by omega)]; simp) (show k < 100 by omega)]; rfl)
              go_wp2
              go_ret
              exact ⟨by rw [HN.out]; rfl, hbel⟩
            · have ed1 : decide ((60 : Int) < (x.K.length : Int)) = false := decide_eq_false (by omega)
              have ed2 : ¬ (60 : Int) < (x.K.length : Int) := by omega
              have HN := Lib.hid (show (L.take (k + 1)).all actDB = true by rw [allG_next HX.out, HC.out, show actDB x = true by unfold actDB opB; rw [decide_eq_true (show x.op.name.size ≤ 50 by omega), decide_eq_true (show x.op.dst.size ≤ 50 by omega), decide_eq_true (show x.op.Z.length ≤ 200 by omega), decide_eq_true (show x.K.length ≤ 60 by omega)]; rfl]; rfl)
              go_wp2
              go_roundw
              case rel => exact ⟨k + 1, by omega, by omega, by push_cast; rfl, HN, hbel⟩
              case measure => simp [intOf] <;> omega
    · obtain rfl : k = min L.length 100 := by omega
      by_cases h100 : L.length < 100
      · have hmi : min L.length 100 = L.length := by omega
        rw [hmi] at HC ⊢
        have HF := Lib.hid (show fewD L = decide (L.length ≤ 50) by unfold fewD; rw [List.take_of_length_le (by omega)]; rw [List.take_length] at HC; rw [HC.out]; rfl)
        have hd : decide ((L.length : Int) < (L.length : Int)) = false := decide_eq_false (by omega)
        have k10 : decide ((L.length : Int) ≤ 50) = decide (L.length ≤ 50) := decide_eq_decide.2 (by omega)
        go_wp2
        go_ret
        exact ⟨by rw [HF.out]; first | rfl | (rw [← k10]; rfl), hbel⟩
      · have hmi : min L.length 100 = 100 := by omega
        rw [hmi] at HC ⊢
        have HF := Lib.hid (show fewD L = false by unfold fewD; rw [show decide (L.length ≤ 50) = false from decide_eq_false (by omega), Bool.and_false])
        have k10 : decide ((L.length : Int) ≤ 50) = false := decide_eq_false (by omega)
        have k11 : ¬ (L.length : Int) ≤ 50 := by omega
        by_cases h9 : L.length = 100
        · have hd : decide (((100 : Nat) : Int) < (L.length : Int)) = false := decide_eq_false (by omega)
          have hd4 : decide ((100 : Int) < (L.length : Int)) = false := decide_eq_false (by omega)
          go_wp2
          go_ret
          exact ⟨by rw [HF.out]; rfl, hbel⟩
        · have hd : decide (((100 : Nat) : Int) < (L.length : Int)) = true := decide_eq_true (by omega)
          have hd4 : decide ((100 : Int) < (L.length : Int)) = true := decide_eq_true (by omega)
          have hd5 : (100 : Int) < (L.length : Int) := by omega
          go_wp2
          go_ret
          exact ⟨by rw [HF.out]; rfl, hbel⟩
end Go.Proofs.Ytcnjcldfbidkmaa
