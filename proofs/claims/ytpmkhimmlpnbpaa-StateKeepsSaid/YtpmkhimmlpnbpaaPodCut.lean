
/- pod.cut, pod.Cut: contracts. -/
import Derived.Test.YtpmkhimmlpnbpaaPodTake
namespace Go.Proofs.Ytpmkhimmlpnbpaa
open Go.RowKit
set_option linter.unusedVariables false
set_option linter.unusedSimpArgs false

/-- A pod's cells, some of its numbers read. -/
def podC (i m : ByteArray) (ns : List Int) : List Value := [.string i, .int .i64 (el ns 0), .bool false, .int .i64 (el ns 2), .int .i64 (el ns 3), .int .i64 (el ns 4), .int .i64 (el ns 5), .int .i64 (el ns 6), .int .i64 (el ns 7), .string m, .int .i64 (el ns 1)]
theorem podC_set (i m : ByteArray) (ns : List Int) (x : Int) (M : Nat) (h : ns.length < 8) : ∃ o : Nat, (ptrs M)[ns.length]? = some (.pointer (some ⟨M, o, none⟩)) ∧ (podC i m ns).set o (.int .i64 x) = podC i m (ns ++ [x]) ∧ ∃ y, (podC i m ns)[o]? = some (.int .i64 y) := by
  match ns, h with
  | [], _ => exact ⟨1, rfl, rfl, _, rfl⟩
  | [_], _ => exact ⟨10, rfl, rfl, _, rfl⟩
  | [_, _], _ => exact ⟨3, rfl, rfl, _, rfl⟩
  | [_, _, _], _ => exact ⟨4, rfl, rfl, _, rfl⟩
  | [_, _, _, _], _ => exact ⟨5, rfl, rfl, _, rfl⟩
  | [_, _, _, _, _], _ => exact ⟨6, rfl, rfl, _, rfl⟩
  | [_, _, _, _, _, _], _ => exact ⟨7, rfl, rfl, _, rfl⟩
  | [_, _, _, _, _, _, _], _ => exact ⟨8, rfl, rfl, _, rfl⟩
  | _ :: _ :: _ :: _ :: _ :: _ :: _ :: _ :: _, h => simp at h; omega
/-- Numbers, cut off the front. -/
def numsF : Nat → List Int → Option (List Int × List Int)
  | 0, l => some ([], l)
  | k + 1, l => match numsF k l with
    | none => none
    | some (ns, r) => match numF r with
      | none => none
      | some (n, r2) => some (ns ++ [(n : Int)], r2)
def mkPod (x y : List Int) (ns : List Int) (c : Bool) : PodV := ⟨strOfNums x, el ns 0 - 1073741824, c, el ns 2, el ns 3, el ns 4, el ns 5, el ns 6, el ns 7, strOfNums y, el ns 1⟩
def cutF (l : List Int) : Option (PodV × List Int) :=
  match nameF l with
  | none => none
  | some (x, r) => match nameF r with
    | none => none
    | some (y, r2) => match numsF 8 r2 with
      | none => none
      | some (ns, r3) => match r3 with
        | [] => none
        | c :: r4 => if c ≤ 1 then some (mkPod x y ns (c == 1), r4) else none
theorem numsF_len : ∀ {k : Nat} {l ns r : List Int}, numsF k l = some (ns, r) → ns.length = k
  | 0, l, ns, r, h => by simp [numsF] at h; rw [h.1]; rfl
  | k + 1, l, ns, r, h => by
    simp only [numsF] at h
    cases h1 : numsF k l with
    | none => rw [h1] at h; simp at h
    | some z =>
      obtain ⟨ms, q⟩ := z
      rw [h1] at h
      simp only at h
      cases h2 : numF q with
      | none => rw [h2] at h; simp at h
      | some z =>
        obtain ⟨n, q2⟩ := z
        rw [h2] at h
        simp at h
        rw [← h.1, List.length_append, numsF_len h1]; rfl
theorem numsF_bd : ∀ {k : Nat} {l ns r : List Int}, numsF k l = some (ns, r) → ∀ x ∈ ns, 0 ≤ x ∧ x < 9223372036854775808
  | 0, l, ns, r, h => by simp [numsF] at h; rw [h.1]; intro x hx; cases hx
  | k + 1, l, ns, r, h => by
    simp only [numsF] at h
    cases h1 : numsF k l with
    | none => rw [h1] at h; simp at h
    | some z =>
      obtain ⟨ms, q⟩ := z
      rw [h1] at h
      simp only at h
      cases h2 : numF q with
      | none => rw [h2] at h; simp at h
      | some z =>
        obtain ⟨n, q2⟩ := z
        rw [h2] at h
        simp at h
        intro x hx
        rw [← h.1] at hx
        rcases List.mem_append.1 hx with hx | hx
        · exact numsF_bd h1 x hx
        · simp at hx
          subst hx
          unfold numF at h2
          split at h2
          · cases h2
          · split at h2
            · simp at h2; omega
            · cases h2
theorem Ints.setFar {k : IntKind} {w : World} {a : Option Addr} {len cap : Nat} {l : List Int} (h : Ints k w a len cap l) {p : Addr} (hp : ∀ x, a = some x → x.block ≠ p.block) (u : Value) : Ints k (w.setCell p u) a len cap l := by
  obtain ⟨⟨h1, h2, h3, h4, h5⟩, hw⟩ := h
  refine ⟨⟨h1, h2, h3, h4, ?_⟩, hw⟩
  rcases h5 with h5 | ⟨b, off, e, hc⟩
  · exact .inl h5
  · refine .inr ⟨b, off, e, fun i hi => ?_⟩
    have := hp _ e
    rw [World.cell?_setCell_other (h := fun q => this (by rw [q]))]
    exact hc i hi
/-- What cut answers. -/
def zeroP : PodV := ⟨⟨#[]⟩, 0, false, 0, 0, 0, 0, 0, 0, ⟨#[]⟩, 0⟩
theorem zeroP_cells : zeroP.cells = podC ⟨#[]⟩ ⟨#[]⟩ [] := rfl
def CutR (l : List Int) (e : Ending) (w' : World) : Prop :=
  (∃ p r, cutF l = some (p, r) ∧ ∃ a n c, e = .returned (.tuple #[p.v, .slice a n c, .bool true]) ∧ Ints .u8 w' a n c r ∧ n ≤ 1000000) ∨
  (cutF l = none ∧ e = .returned (.tuple #[zeroP.v, .slice none 0 0, .bool false]))

theorem pod_name_ok (a : Option Addr) (len cap : Nat) (l : List Int) (w : World) (hl : Ints .u8 w a len cap l) (hlen : len ≤ 1000000) (x r : List Int) (h : nameF l = some (x, r)) :
    Calls Try.prog 63 #[.slice a len cap] w fun e w' => ∃ a2 n c, e = .returned (.tuple #[.string (strOfNums x), .slice a2 n c, .bool true]) ∧ Ints .u8 w' a2 n c r ∧ n ≤ 1000000 ∧ Frm a a2 ∧ Below w.heap.size w w' := by
  refine (pod_name a len cap l w hl hlen).mono ?_
  rintro e w' ⟨⟨x', r', h', a2, n, c, rfl, hi, hn, hf⟩ | ⟨h', _⟩, hb⟩
  · rw [h] at h'
    simp at h'
    obtain ⟨rfl, rfl⟩ := h'
    exact ⟨a2, n, c, rfl, hi, hn, hf, hb⟩
  · rw [h] at h'; cases h'
theorem pod_name_no (a : Option Addr) (len cap : Nat) (l : List Int) (w : World) (hl : Ints .u8 w a len cap l) (hlen : len ≤ 1000000) (h : nameF l = none) :
    Calls Try.prog 63 #[.slice a len cap] w fun e w' => ∃ s a2 n c, e = .returned (.tuple #[.string s, .slice a2 n c, .bool false]) ∧ Below w.heap.size w w' := by
  refine (pod_name a len cap l w hl hlen).mono ?_
  rintro e w' ⟨⟨x', r', h', _⟩ | ⟨_, s, a2, n, c, rfl⟩, hb⟩
  · rw [h] at h'; cases h'
  · exact ⟨s, a2, n, c, rfl, hb⟩
theorem pod_number_ok (a : Option Addr) (len cap : Nat) (l : List Int) (w : World) (hl : Ints .u8 w a len cap l) (hlen : len ≤ 1000000) (x : Nat) (r : List Int) (h : numF l = some (x, r)) :
    Calls Try.prog 64 #[.slice a len cap] w fun e w' => ∃ a2 n c, e = .returned (.tuple #[.int .i64 x, .slice a2 n c, .bool true]) ∧ Ints .u8 w' a2 n c r ∧ n ≤ 1000000 ∧ Frm a a2 ∧ Below w.heap.size w w' := by
  refine (pod_number a len cap l w hl hlen).mono ?_
  rintro e w' ⟨⟨x', r', h', a2, n, c, rfl, hi, hn, hf⟩ | ⟨h', _⟩, hb⟩
  · rw [h] at h'
    simp at h'
    obtain ⟨rfl, rfl⟩ := h'
    exact ⟨a2, n, c, rfl, hi, hn, hf, hb⟩
  · rw [h] at h'; cases h'
theorem pod_number_no (a : Option Addr) (len cap : Nat) (l : List Int) (w : World) (hl : Ints .u8 w a len cap l) (hlen : len ≤ 1000000) (h : numF l = none) :
    Calls Try.prog 64 #[.slice a len cap] w fun e w' => ∃ x a2 n c, e = .returned (.tuple #[.int .i64 x, .slice a2 n c, .bool false]) ∧ Below w.heap.size w w' := by
  refine (pod_number a len cap l w hl hlen).mono ?_
  rintro e w' ⟨⟨x', r', h', _⟩ | ⟨_, s, a2, n, c, rfl⟩, hb⟩
  · rw [h] at h'; cases h'
  · exact ⟨s, a2, n, c, rfl, hb⟩

/-- The memory of cut: the result's block, the pod's, the pointers to its names. -/
structure Mem (w wr : World) (i m : ByteArray) (ns : List Int) : Prop where
  r : Blk wr w.heap.size (podC ⟨#[]⟩ ⟨#[]⟩ []) 44
  p : Blk wr (w.heap.size + 1) (podC i m ns) 44
  s : Blk wr (w.heap.size + 1 + 1) [.pointer (some ⟨w.heap.size + 1, 0, none⟩), .pointer (some ⟨w.heap.size + 1, 9, none⟩)] 101
  b : Below w.heap.size w wr
theorem Mem.later {w wr w2 : World} {i m : ByteArray} {ns : List Int} (h : Mem w wr i m ns) (hb : Below wr.heap.size wr w2) : Mem w w2 i m ns := ⟨h.r.later hb, h.p.later hb, h.s.later hb, belStep h.b hb⟩
theorem Mem.set {w wr : World} {i m i2 m2 : ByteArray} {ns ns2 : List Int} (h : Mem w wr i m ns) (o : Nat) (u : Value) (e : (podC i m ns).set o u = podC i2 m2 ns2) : Mem w (wr.setCell ⟨w.heap.size + 1, o, none⟩ u) i2 m2 ns2 :=
  ⟨h.r.far (by simp) u, by rw [← e]; exact h.p.set o u, h.s.far (by simp) u, h.b.setCell (by simp) u⟩
theorem Mem.new (w : World) : Mem w (((w.alloc (.cells #[.string ⟨#[]⟩, .int .i64 0, .bool false, .int .i64 0, .int .i64 0, .int .i64 0, .int .i64 0, .int .i64 0, .int .i64 0, .string ⟨#[]⟩, .int .i64 0] 44)).alloc (.cells #[.string ⟨#[]⟩, .int .i64 0, .bool false, .int .i64 0, .int .i64 0, .int .i64 0, .int .i64 0, .int .i64 0, .int .i64 0, .string ⟨#[]⟩, .int .i64 0] 44)).alloc (.cells #[.pointer (some ⟨w.heap.size + 1, 0, none⟩), .pointer (some ⟨w.heap.size + 1, 9, none⟩)] 101)) ⟨#[]⟩ ⟨#[]⟩ [] := by
  refine ⟨?_, ?_, ?_, belAlloc (belAlloc (belAlloc (Below.refl _ _) _) _) _⟩
  · exact ((Blk.new w (podC ⟨#[]⟩ ⟨#[]⟩ []) 44).later (belAlloc (Below.refl _ _) _)).later (belAlloc (Below.refl _ _) _)
  · exact (Blk.at (C := podC ⟨#[]⟩ ⟨#[]⟩ []) (by simp)).later (belAlloc (Below.refl _ _) _)
  · exact Blk.at (C := [.pointer (some ⟨w.heap.size + 1, 0, none⟩), .pointer (some ⟨w.heap.size + 1, 9, none⟩)]) (by simp)

set_option maxRecDepth 100000 in
set_option maxHeartbeats 1000000 in
/-- Where cut returns: the result lies in its block. -/
theorem cut_ret (w W : World) (tm : Array Value) (q : Value) (ok : Bool) (p : PodV) (R : Ending → World → Prop) (h2 : tm.getD 2 undef = .pointer (some ⟨w.heap.size, 0, none⟩)) (h3 : tm.getD 3 undef = q) (h4 : tm.getD 4 undef = .bool ok) (hb : Blk W w.heap.size p.cells 44) (hR : R (.returned (.tuple #[p.v, q, .bool ok])) W) :
    bodyPost Try.prog Try.f59 R Exit.ret { tmps := tm, defers := [] } W := by
  have z0 := hb.cell (j := 0) rfl
  have z1 := hb.cell (j := 1) rfl
  have z2 := hb.cell (j := 2) rfl
  have z3 := hb.cell (j := 3) rfl
  have z4 := hb.cell (j := 4) rfl
  have z5 := hb.cell (j := 5) rfl
  have z6 := hb.cell (j := 6) rfl
  have z7 := hb.cell (j := 7) rfl
  have z8 := hb.cell (j := 8) rfl
  have z9 := hb.cell (j := 9) rfl
  have z10 := hb.cell (j := 10) rfl
  refine bodyPost_ret (v := .tuple #[p.v, q, .bool ok]) ?_ rfl hR
  simp only [Array.getD_eq_getD_getElem?] at h2 h3 h4
  simp [results, Try.results59, go_sem, PodV.v, h2, h3, h4, z0, z1, z2, z3, z4, z5, z6, z7, z8, z9, z10]

theorem numsF_none {l : List Int} : ∀ {k : Nat}, numsF k l = none → ∀ j, k ≤ j → numsF j l = none := fun {k} h j => by
  induction j with
  | zero => intro hj; obtain rfl : k = 0 := by omega
            exact h
  | succ j ih =>
    intro hj
    rcases Nat.lt_or_ge j k with q | q
    · obtain rfl : k = j + 1 := by omega
      exact h
    · simp only [numsF, ih q]
theorem podC_set1 (i m : ByteArray) (ns : List Int) (x : Int) (M : Nat) (h : ns.length < 8) (o : Nat) (ho : (ptrs M)[ns.length]? = some (.pointer (some ⟨M, o, none⟩))) : (podC i m ns).set o (.int .i64 x) = podC i m (ns ++ [x]) := by
  obtain ⟨o2, h1, h2, _⟩ := podC_set i m ns x M h
  rw [ho] at h1
  simp at h1
  subst h1
  exact h2
theorem far_of {w : World} {a a2 : Option Addr} {o : Nat} (h : ∀ x, a = some x → x.block < w.heap.size) (hf : Frm a a2) : ∀ y, a2 = some y → y.block ≠ (⟨w.heap.size + 1, o, none⟩ : Addr).block := fun y hy => by
  obtain ⟨z, hz, e⟩ := hf y hy
  have := h z hz
  show y.block ≠ w.heap.size + 1
  omega
theorem old_block {w : World} {a : Option Addr} {len cap : Nat} {l : List Int} (hl : Ints .u8 w a len cap l) (h : nameF l ≠ none) : ∀ x, a = some x → x.block < w.heap.size := fun x hx => by
  refine hl.1.block x hx ?_
  intro e
  simp at e
  subst e
  exact h rfl

theorem Ints.back {k : IntKind} {w w4 : World} {a : Option Addr} {len cap : Nat} {l : List Int} (h : Ints k w4 a len cap l) (ha : ∀ x, a = some x → x.block < w.heap.size) (hb : Below w.heap.size w w4) : Ints k w a len cap l := by
  obtain ⟨⟨h1, h2, h3, h4, h5⟩, hw⟩ := h
  refine ⟨⟨h1, h2, h3, h4, ?_⟩, hw⟩
  rcases h5 with h5 | ⟨b, off, e, hc⟩
  · exact .inl h5
  · refine .inr ⟨b, off, e, fun i hi => ?_⟩
    rw [← hc i hi]
    exact (hb.cell (p := ⟨b, off + i, none⟩) (ha ⟨b, off, none⟩ e)).symm
theorem old_of {w : World} {a a2 : Option Addr} (h : ∀ x, a = some x → x.block < w.heap.size) (hf : Frm a a2) : ∀ y, a2 = some y → y.block < w.heap.size := fun y hy => by
  obtain ⟨z, hz, e⟩ := hf y hy
  have := h z hz
  omega

set_option maxRecDepth 100000 in
set_option maxHeartbeats 8000000 in
theorem pod_cut (a : Option Addr) (len cap : Nat) (l : List Int) (w : World) (hl : Ints .u8 w a len cap l) (hlen : len ≤ 1000000) :
    Calls Try.prog 59 #[.slice a len cap] w fun e w' => CutR l e w' ∧ Below w.heap.size w w' := by
  have hw : Below w.heap.size w w := Below.refl _ _
  have hbel := hw
  have HL := Lib.hid hl
  have HA := Lib.hid (fun (h : nameF l ≠ none) => old_block hl h)
  go_enter Try.func59, Try.ntmps59
  go_wp2
  have hM := Mem.new w
  generalize (((w.alloc (.cells #[.string ⟨#[]⟩, .int .i64 0, .bool false, .int .i64 0, .int .i64 0, .int .i64 0, .int .i64 0, .int .i64 0, .int .i64 0, .string ⟨#[]⟩, .int .i64 0] 44)).alloc (.cells #[.string ⟨#[]⟩, .int .i64 0, .bool false, .int .i64 0, .int .i64 0, .int .i64 0, .int .i64 0, .int .i64 0, .int .i64 0, .string ⟨#[]⟩, .int .i64 0] 44)).alloc (.cells #[.pointer (some ⟨w.heap.size + 1, 0, none⟩), .pointer (some ⟨w.heap.size + 1, 9, none⟩)] 101)) = W1 at *
  have HM := Lib.hid hM
  clear hM hl
  go_loopw [0, 16] (fun s i wr => (i = .int .i64 0 ∧ s = .slice a len cap ∧ Mem w wr ⟨#[]⟩ ⟨#[]⟩ []) ∨ (i = .int .i64 1 ∧ ∃ x r a2 n c, nameF l = some (x, r) ∧ s = .slice a2 n c ∧ Ints .u8 wr a2 n c r ∧ n ≤ 1000000 ∧ Frm a a2 ∧ Mem w wr (strOfNums x) ⟨#[]⟩ []) ∨ (i = .int .i64 2 ∧ ∃ x r y r2 a2 n c, nameF l = some (x, r) ∧ nameF r = some (y, r2) ∧ s = .slice a2 n c ∧ Ints .u8 wr a2 n c r2 ∧ n ≤ 1000000 ∧ Frm a a2 ∧ Mem w wr (strOfNums x) (strOfNums y) [])) (fun _ i _ => 2 - (intOf i).toNat)
  case atStart => exact .inl ⟨rfl, rfl, HM.out⟩
  case round =>
    rcases hrel with ⟨rfl, rfl, hM⟩ | ⟨rfl, x, r, a2, n, c, hnf, rfl, hi, hn, hfr, hM⟩ | ⟨rfl, x, r, y, r2, a2, n, c, hnf, hnf2, rfl, hi, hn, hfr, hM⟩
    · have hw1 : Below w.heap.size w wr := hM.b
      have s0 := hM.s.cell (j := 0) rfl
      cases hnf : nameF l with
      | none =>
        have CN := Lib.hid (pod_name_no a len cap l wr (HL.out.later hw1) hlen hnf)
        have HMr := Lib.hid hM
        have HC := Lib.hid (show cutF l = none by unfold cutF; rw [hnf])
        clear hM hnf
        go_wp2_with (go_at_call 63; (with_reducible refine CN.out.mono ?_); rintro e w4 ⟨s, a2, n, c, rfl, hb4⟩; have hM4 := HMr.out.later hb4; have y0 := hM4.p.cell (j := 0) rfl; have y1 := hM4.p.frozen 0; have z0 := hM4.r.cell (j := 0) rfl; have z1 := hM4.r.cell (j := 1) rfl; have z2 := hM4.r.cell (j := 2) rfl; have z3 := hM4.r.cell (j := 3) rfl; have z4 := hM4.r.cell (j := 4) rfl; have z5 := hM4.r.cell (j := 5) rfl; have z6 := hM4.r.cell (j := 6) rfl; have z7 := hM4.r.cell (j := 7) rfl; have z8 := hM4.r.cell (j := 8) rfl; have z9 := hM4.r.cell (j := 9) rfl; have z10 := hM4.r.cell (j := 10) rfl; have zf := hM4.r.frozen; have hbel4 := hM4.b; have hR4 := hM4.r; clear hM4)
        have hb9 : Below w.heap.size w (w4.setCell ⟨w.heap.size + 1, 0, none⟩ (.string s)) := belSet hbel4 _ _ (by simp)
        have hR5 := hR4.far (a := ⟨w.heap.size + 1, 0, none⟩) (by simp) (.string s)
        generalize w4.setCell ⟨w.heap.size + 1, 0, none⟩ (.string s) = W5 at *
        have hb10 := belSet (belSet (belSet (belSet (belSet (belSet (belSet (belSet (belSet (belSet (belSet (hb9) ⟨w.heap.size, 0, none⟩ (.string ⟨#[]⟩) (Nat.le_refl _)) ⟨w.heap.size, 1, none⟩ (.int .i64 0) (Nat.le_refl _)) ⟨w.heap.size, 2, none⟩ (.bool false) (Nat.le_refl _)) ⟨w.heap.size, 3, none⟩ (.int .i64 0) (Nat.le_refl _)) ⟨w.heap.size, 4, none⟩ (.int .i64 0) (Nat.le_refl _)) ⟨w.heap.size, 5, none⟩ (.int .i64 0) (Nat.le_refl _)) ⟨w.heap.size, 6, none⟩ (.int .i64 0) (Nat.le_refl _)) ⟨w.heap.size, 7, none⟩ (.int .i64 0) (Nat.le_refl _)) ⟨w.heap.size, 8, none⟩ (.int .i64 0) (Nat.le_refl _)) ⟨w.heap.size, 9, none⟩ (.string ⟨#[]⟩) (Nat.le_refl _)) ⟨w.heap.size, 10, none⟩ (.int .i64 0) (Nat.le_refl _)
        have hR10 := (((((((((((hR5).set 0 (.string ⟨#[]⟩)).set 1 (.int .i64 0)).set 2 (.bool false)).set 3 (.int .i64 0)).set 4 (.int .i64 0)).set 5 (.int .i64 0)).set 6 (.int .i64 0)).set 7 (.int .i64 0)).set 8 (.int .i64 0)).set 9 (.string ⟨#[]⟩)).set 10 (.int .i64 0)
        generalize (((((((((((W5).setCell ⟨w.heap.size, 0, none⟩ (.string ⟨#[]⟩)).setCell ⟨w.heap.size, 1, none⟩ (.int .i64 0)).setCell ⟨w.heap.size, 2, none⟩ (.bool false)).setCell ⟨w.heap.size, 3, none⟩ (.int .i64 0)).setCell ⟨w.heap.size, 4, none⟩ (.int .i64 0)).setCell ⟨w.heap.size, 5, none⟩ (.int .i64 0)).setCell ⟨w.heap.size, 6, none⟩ (.int .i64 0)).setCell ⟨w.heap.size, 7, none⟩ (.int .i64 0)).setCell ⟨w.heap.size, 8, none⟩ (.int .i64 0)).setCell ⟨w.heap.size, 9, none⟩ (.string ⟨#[]⟩)).setCell ⟨w.heap.size, 10, none⟩ (.int .i64 0) = W10 at hb10 hR10 ⊢
        refine cut_ret w W10 _ _ false zeroP _ rfl rfl rfl hR10 ⟨.inr ⟨HC.out, rfl⟩, hb10⟩
      | some q =>
        obtain ⟨x, r⟩ := q
        have CN := Lib.hid (pod_name_ok a len cap l wr (HL.out.later hw1) hlen x r hnf)
        have HMr := Lib.hid hM
        have hold := HA.out (by rw [hnf]; simp)
        have HNF := Lib.hid hnf
        have HOld := Lib.hid hold
        clear hM hnf hold
        go_wp2_with (go_at_call 63; (with_reducible refine CN.out.mono ?_); rintro e w4 ⟨a2, n, c, rfl, hi, hn, hfr, hb4⟩; have hM4 := HMr.out.later hb4; have y0 := hM4.p.cell (j := 0) rfl; have y1 := hM4.p.frozen 0; have HM4 := Lib.hid hM4; have HI := Lib.hid hi; have HFR := Lib.hid hfr; clear hM4 hi hfr)
        go_roundw
        case rel => exact .inr (.inl ⟨rfl, x, r, a2, n, c, by first | exact HNF.out | rfl, rfl, HI.out.setFar (far_of HOld.out HFR.out) _, hn, HFR.out, HM4.out.set 0 _ rfl⟩)
        case measure => simp [intOf]
    · have hw1 : Below w.heap.size w wr := hM.b
      have s0 := hM.s.cell (j := 1) rfl
      have hold := HA.out (by rw [hnf]; simp)
      have HOld := Lib.hid hold
      have HFr := Lib.hid hfr
      clear hold hfr
      cases hnf2 : nameF r with
      | none =>
        have CN := Lib.hid (pod_name_no a2 n c r wr hi hn hnf2)
        have HMr := Lib.hid hM
        have HC := Lib.hid (show cutF l = none by unfold cutF; rw [hnf]; simp only; rw [hnf2])
        clear hM hnf hnf2 hi
        go_wp2_with (go_at_call 63; (with_reducible refine CN.out.mono ?_); rintro e w4 ⟨s, a3, n3, c3, rfl, hb4⟩; have hM4 := HMr.out.later hb4; have y0 := hM4.p.cell (j := 9) rfl; have y1 := hM4.p.frozen 9; have z0 := hM4.r.cell (j := 0) rfl; have z1 := hM4.r.cell (j := 1) rfl; have z2 := hM4.r.cell (j := 2) rfl; have z3 := hM4.r.cell (j := 3) rfl; have z4 := hM4.r.cell (j := 4) rfl; have z5 := hM4.r.cell (j := 5) rfl; have z6 := hM4.r.cell (j := 6) rfl; have z7 := hM4.r.cell (j := 7) rfl; have z8 := hM4.r.cell (j := 8) rfl; have z9 := hM4.r.cell (j := 9) rfl; have z10 := hM4.r.cell (j := 10) rfl; have zf := hM4.r.frozen; have hbel4 := hM4.b; have hR4 := hM4.r; clear hM4)
        have hb9 : Below w.heap.size w (w4.setCell ⟨w.heap.size + 1, 9, none⟩ (.string s)) := belSet hbel4 _ _ (by simp)
        have hR5 := hR4.far (a := ⟨w.heap.size + 1, 9, none⟩) (by simp) (.string s)
        generalize w4.setCell ⟨w.heap.size + 1, 9, none⟩ (.string s) = W5 at *
        have hb10 := belSet (belSet (belSet (belSet (belSet (belSet (belSet (belSet (belSet (belSet (belSet (hb9) ⟨w.heap.size, 0, none⟩ (.string ⟨#[]⟩) (Nat.le_refl _)) ⟨w.heap.size, 1, none⟩ (.int .i64 0) (Nat.le_refl _)) ⟨w.heap.size, 2, none⟩ (.bool false) (Nat.le_refl _)) ⟨w.heap.size, 3, none⟩ (.int .i64 0) (Nat.le_refl _)) ⟨w.heap.size, 4, none⟩ (.int .i64 0) (Nat.le_refl _)) ⟨w.heap.size, 5, none⟩ (.int .i64 0) (Nat.le_refl _)) ⟨w.heap.size, 6, none⟩ (.int .i64 0) (Nat.le_refl _)) ⟨w.heap.size, 7, none⟩ (.int .i64 0) (Nat.le_refl _)) ⟨w.heap.size, 8, none⟩ (.int .i64 0) (Nat.le_refl _)) ⟨w.heap.size, 9, none⟩ (.string ⟨#[]⟩) (Nat.le_refl _)) ⟨w.heap.size, 10, none⟩ (.int .i64 0) (Nat.le_refl _)
        have hR10 := (((((((((((hR5).set 0 (.string ⟨#[]⟩)).set 1 (.int .i64 0)).set 2 (.bool false)).set 3 (.int .i64 0)).set 4 (.int .i64 0)).set 5 (.int .i64 0)).set 6 (.int .i64 0)).set 7 (.int .i64 0)).set 8 (.int .i64 0)).set 9 (.string ⟨#[]⟩)).set 10 (.int .i64 0)
        generalize (((((((((((W5).setCell ⟨w.heap.size, 0, none⟩ (.string ⟨#[]⟩)).setCell ⟨w.heap.size, 1, none⟩ (.int .i64 0)).setCell ⟨w.heap.size, 2, none⟩ (.bool false)).setCell ⟨w.heap.size, 3, none⟩ (.int .i64 0)).setCell ⟨w.heap.size, 4, none⟩ (.int .i64 0)).setCell ⟨w.heap.size, 5, none⟩ (.int .i64 0)).setCell ⟨w.heap.size, 6, none⟩ (.int .i64 0)).setCell ⟨w.heap.size, 7, none⟩ (.int .i64 0)).setCell ⟨w.heap.size, 8, none⟩ (.int .i64 0)).setCell ⟨w.heap.size, 9, none⟩ (.string ⟨#[]⟩)).setCell ⟨w.heap.size, 10, none⟩ (.int .i64 0) = W10 at hb10 hR10 ⊢
        refine cut_ret w W10 _ _ false zeroP _ rfl rfl rfl hR10 ⟨.inr ⟨HC.out, rfl⟩, hb10⟩
      | some q =>
        obtain ⟨y, r2⟩ := q
        have CN := Lib.hid (pod_name_ok a2 n c r wr hi hn y r2 hnf2)
        have HMr := Lib.hid hM
        have HNF := Lib.hid hnf
        have HNF2 := Lib.hid hnf2
        clear hM hnf hnf2 hi
        go_wp2_with (go_at_call 63; (with_reducible refine CN.out.mono ?_); rintro e w4 ⟨a3, n3, c3, rfl, hi, hn3, hfr, hb4⟩; have hM4 := HMr.out.later hb4; have y0 := hM4.p.cell (j := 9) rfl; have y1 := hM4.p.frozen 9; have HM4 := Lib.hid hM4; have HI := Lib.hid hi; have HFR := Lib.hid (HFr.out.trans hfr); clear hM4 hi hfr)
        go_roundw
        case rel => exact .inr (.inr ⟨rfl, x, r, y, r2, a3, n3, c3, HNF.out, by first | exact HNF2.out | rfl, rfl, HI.out.setFar (far_of HOld.out HFR.out) _, hn3, HFR.out, HM4.out.set 9 _ rfl⟩)
        case measure => simp [intOf]
    · have hw1 : Below w.heap.size w wr := hM.b
      have hold := HA.out (by rw [hnf]; simp)
      have HOld := Lib.hid hold
      have HFr := Lib.hid hfr
      have HMr := Lib.hid hM
      have HNF := Lib.hid hnf
      have HNF2 := Lib.hid hnf2
      have HI := Lib.hid hi
      have hs1 : w.heap.size + 1 + 1 < wr.heap.size := hM.s.lt
      clear hold hfr hM hnf hnf2 hi
      go_wp2_with (go_at_call 50; (with_reducible refine (pod_numbers _ _).mono ?_); rintro e w5 ⟨g, rfl, hg5, hbg, hb5⟩)
      have HM5 := Lib.hid (HMr.out.later hb5)
      have HI5 := Lib.hid (HI.out.later hb5)
      have HBG := Lib.hid hbg
      clear HMr HI hbg hb5
      go_loopw [0, 34] (fun s i wr => ∃ (k : Nat) (ns r3 : List Int) (a3 : Option Addr) (n3 c3 : Nat), k ≤ 8 ∧ i = .int .i64 k ∧ numsF k r2 = some (ns, r3) ∧ s = .slice a3 n3 c3 ∧ Ints .u8 wr a3 n3 c3 r3 ∧ n3 ≤ 1000000 ∧ Frm a a3 ∧ Mem w wr (strOfNums x) (strOfNums y) ns ∧ Blk wr g (ptrs (w.heap.size + 1)) 88) (fun _ i _ => 8 - (intOf i).toNat)
      case atStart => exact ⟨0, [], r2, a2, n, c, by omega, rfl, rfl, rfl, HI5.out, hn, HFr.out, HM5.out, HBG.out⟩
      case round =>
        obtain ⟨k, ns, r3, a3, n3, c3, hk, rfl, hns, rfl, hi, hn3, hfr, hM, hbg⟩ := hrel
        have hlen3 := numsF_len hns
        have HFr3 := Lib.hid hfr
        by_cases hk8 : k < 8
        · obtain ⟨o, q1, _, _, q3⟩ := podC_set (strOfNums x) (strOfNums y) ns 0 (w.heap.size + 1) (by omega)
          rw [hlen3] at q1
          have x1 := hbg.cell q1
          have HQ := Lib.hid (fun u => podC_set1 (strOfNums x) (strOfNums y) ns u (w.heap.size + 1) (by omega) o (by rw [hlen3]; exact q1))
          have HBg := Lib.hid hbg
          have HMr := Lib.hid hM
          have HQ3 := Lib.hid q3
          clear q1 q3 hbg hM hfr
          cases hnum : numF r3 with
          | none =>
            have CN := Lib.hid (pod_number_no a3 n3 c3 r3 wr hi hn3 hnum)
            have hno : numsF (k + 1) r2 = none := by simp only [numsF, hns, hnum]
            have HC := Lib.hid (show cutF l = none by unfold cutF; rw [HNF.out]; simp only; rw [HNF2.out]; simp only; rw [numsF_none hno 8 (by omega)])
            clear hno hns hnum hi hlen3
            go_wp2_with (go_at_call 64; (with_reducible refine CN.out.mono ?_); rintro e w4 ⟨u, a4, n4, c4, rfl, hb4⟩; have hM4 := HMr.out.later hb4; have y0 := hM4.p.cell HQ3.out; have y1 := hM4.p.frozen o; have z0 := hM4.r.cell (j := 0) rfl; have z1 := hM4.r.cell (j := 1) rfl; have z2 := hM4.r.cell (j := 2) rfl; have z3 := hM4.r.cell (j := 3) rfl; have z4 := hM4.r.cell (j := 4) rfl; have z5 := hM4.r.cell (j := 5) rfl; have z6 := hM4.r.cell (j := 6) rfl; have z7 := hM4.r.cell (j := 7) rfl; have z8 := hM4.r.cell (j := 8) rfl; have z9 := hM4.r.cell (j := 9) rfl; have z10 := hM4.r.cell (j := 10) rfl; have zf := hM4.r.frozen; have hbel4 := hM4.b; have hR4 := hM4.r; clear hM4)
            have hb9 : Below w.heap.size w (w4.setCell ⟨w.heap.size + 1, o, none⟩ (.int .i64 u)) := belSet hbel4 _ _ (by simp)
            have hR5 := hR4.far (a := ⟨w.heap.size + 1, o, none⟩) (by simp) (.int .i64 u)
            generalize w4.setCell ⟨w.heap.size + 1, o, none⟩ (.int .i64 u) = W5 at *
            have hb10 := belSet (belSet (belSet (belSet (belSet (belSet (belSet (belSet (belSet (belSet (belSet (hb9) ⟨w.heap.size, 0, none⟩ (.string ⟨#[]⟩) (Nat.le_refl _)) ⟨w.heap.size, 1, none⟩ (.int .i64 0) (Nat.le_refl _)) ⟨w.heap.size, 2, none⟩ (.bool false) (Nat.le_refl _)) ⟨w.heap.size, 3, none⟩ (.int .i64 0) (Nat.le_refl _)) ⟨w.heap.size, 4, none⟩ (.int .i64 0) (Nat.le_refl _)) ⟨w.heap.size, 5, none⟩ (.int .i64 0) (Nat.le_refl _)) ⟨w.heap.size, 6, none⟩ (.int .i64 0) (Nat.le_refl _)) ⟨w.heap.size, 7, none⟩ (.int .i64 0) (Nat.le_refl _)) ⟨w.heap.size, 8, none⟩ (.int .i64 0) (Nat.le_refl _)) ⟨w.heap.size, 9, none⟩ (.string ⟨#[]⟩) (Nat.le_refl _)) ⟨w.heap.size, 10, none⟩ (.int .i64 0) (Nat.le_refl _)
            have hR10 := (((((((((((hR5).set 0 (.string ⟨#[]⟩)).set 1 (.int .i64 0)).set 2 (.bool false)).set 3 (.int .i64 0)).set 4 (.int .i64 0)).set 5 (.int .i64 0)).set 6 (.int .i64 0)).set 7 (.int .i64 0)).set 8 (.int .i64 0)).set 9 (.string ⟨#[]⟩)).set 10 (.int .i64 0)
            generalize (((((((((((W5).setCell ⟨w.heap.size, 0, none⟩ (.string ⟨#[]⟩)).setCell ⟨w.heap.size, 1, none⟩ (.int .i64 0)).setCell ⟨w.heap.size, 2, none⟩ (.bool false)).setCell ⟨w.heap.size, 3, none⟩ (.int .i64 0)).setCell ⟨w.heap.size, 4, none⟩ (.int .i64 0)).setCell ⟨w.heap.size, 5, none⟩ (.int .i64 0)).setCell ⟨w.heap.size, 6, none⟩ (.int .i64 0)).setCell ⟨w.heap.size, 7, none⟩ (.int .i64 0)).setCell ⟨w.heap.size, 8, none⟩ (.int .i64 0)).setCell ⟨w.heap.size, 9, none⟩ (.string ⟨#[]⟩)).setCell ⟨w.heap.size, 10, none⟩ (.int .i64 0) = W10 at hb10 hR10 ⊢
            refine cut_ret w W10 _ _ false zeroP _ rfl rfl rfl hR10 ⟨.inr ⟨HC.out, rfl⟩, hb10⟩
          | some q =>
            obtain ⟨nv, r4⟩ := q
            have CN := Lib.hid (pod_number_ok a3 n3 c3 r3 wr hi hn3 nv r4 hnum)
            have hyes : numsF (k + 1) r2 = some (ns ++ [(nv : Int)], r4) := by simp only [numsF, hns, hnum]
            have HY := Lib.hid hyes
            clear hyes hns hnum hi hlen3
            go_wp2_with (go_at_call 64; (with_reducible refine CN.out.mono ?_); rintro e w4 ⟨a4, n4, c4, rfl, hi, hn4, hfr, hb4⟩; have hM4 := HMr.out.later hb4; have y0 := hM4.p.cell HQ3.out; have y1 := hM4.p.frozen o; have HM4 := Lib.hid hM4; have HI := Lib.hid hi; have HFR := Lib.hid (HFr3.out.trans hfr); have HBg4 := Lib.hid (HBg.out.later hb4); clear hM4 hi hfr)
            go_roundw
            case rel => exact ⟨k + 1, _, r4, a4, n4, c4, by omega, by push_cast; rfl, HY.out, rfl, HI.out.setFar (far_of HOld.out HFR.out) _, hn4, HFR.out, HM4.out.set o _ (HQ.out _), HBg4.out.far (by simp; omega) _⟩
            case measure => simp [intOf] <;> omega
        · obtain rfl : k = 8 := by omega
          have hbd := numsF_bd hns
          have hp0 := hbd _ (el_mem (l := ns) (i := 0) (by omega))
          have hM1 := hM.p.cell (j := 1) rfl
          have f1 := hM.p.frozen 1
          have HMr := Lib.hid hM
          have HI := Lib.hid hi
          have HNS := Lib.hid hns
          clear hbg hM hfr hi hns hbd hlen3
          obtain ⟨n0, en0⟩ : ∃ n0, el ns 0 = n0 := ⟨_, rfl⟩
          rw [en0] at hM1 hp0
          have EN := Lib.hid en0
          clear en0
          have HI1 := Lib.hid (HI.out.setFar (far_of (o := 1) HOld.out HFr3.out) (.int .i64 (n0 - 1073741824)))
          have hP2 := HMr.out.p.set 1 (.int .i64 (n0 - 1073741824))
          have hR2 := HMr.out.r.far (a := ⟨w.heap.size + 1, 1, none⟩) (by simp) (.int .i64 (n0 - 1073741824))
          have hb2 := HMr.out.b.setCell (p := ⟨w.heap.size + 1, 1, none⟩) (by simp) (.int .i64 (n0 - 1073741824))
          have HP2 := Lib.hid hP2
          have HR2 := Lib.hid hR2
          have HB2 := Lib.hid hb2
          clear hP2 hR2 hb2 HI HMr hs1 HM5 HI5 HBG hg5 hw1
          go_upto_region 18 with (fail)
          generalize wr.setCell ⟨w.heap.size + 1, 1, none⟩ (.int .i64 (n0 - 1073741824)) = W2 at *
          clear hM1 f1
          obtain ⟨hl3, hc3, hc4⟩ := HI1.out.bounds
          have hby3 := bytes_of HI1.out
          cases r3 with
          | nil =>
            obtain rfl : n3 = 0 := by simpa using hl3.symm
            have ct := pod_take_no a3 0 c3 1 W2 ⟨by omega, hc4⟩ (by omega) (by omega)
            rw [show ((1 : Nat) : Int) = 1 from rfl] at ct
            have CT := Lib.hid ct
            have HC := Lib.hid (show cutF l = none by unfold cutF; rw [HNF.out]; simp only; rw [HNF2.out]; simp only; rw [HNS.out])
            clear ct hl3 hby3

            go_wp2_with (go_at_call 65; (with_reducible refine CT.out.mono ?_); rintro e w4 ⟨rfl, rfl⟩; have hR4 := HR2.out; have z0 := hR4.cell (j := 0) rfl; have z1 := hR4.cell (j := 1) rfl; have z2 := hR4.cell (j := 2) rfl; have z3 := hR4.cell (j := 3) rfl; have z4 := hR4.cell (j := 4) rfl; have z5 := hR4.cell (j := 5) rfl; have z6 := hR4.cell (j := 6) rfl; have z7 := hR4.cell (j := 7) rfl; have z8 := hR4.cell (j := 8) rfl; have z9 := hR4.cell (j := 9) rfl; have z10 := hR4.cell (j := 10) rfl; have zf := hR4.frozen; have hbel4 := HB2.out)
            have hb9 := hbel4
            have hR5 := hR4
            have hb10 := belSet (belSet (belSet (belSet (belSet (belSet (belSet (belSet (belSet (belSet (belSet (hb9) ⟨w.heap.size, 0, none⟩ (.string ⟨#[]⟩) (Nat.le_refl _)) ⟨w.heap.size, 1, none⟩ (.int .i64 0) (Nat.le_refl _)) ⟨w.heap.size, 2, none⟩ (.bool false) (Nat.le_refl _)) ⟨w.heap.size, 3, none⟩ (.int .i64 0) (Nat.le_refl _)) ⟨w.heap.size, 4, none⟩ (.int .i64 0) (Nat.le_refl _)) ⟨w.heap.size, 5, none⟩ (.int .i64 0) (Nat.le_refl _)) ⟨w.heap.size, 6, none⟩ (.int .i64 0) (Nat.le_refl _)) ⟨w.heap.size, 7, none⟩ (.int .i64 0) (Nat.le_refl _)) ⟨w.heap.size, 8, none⟩ (.int .i64 0) (Nat.le_refl _)) ⟨w.heap.size, 9, none⟩ (.string ⟨#[]⟩) (Nat.le_refl _)) ⟨w.heap.size, 10, none⟩ (.int .i64 0) (Nat.le_refl _)
            have hR10 := (((((((((((hR5).set 0 (.string ⟨#[]⟩)).set 1 (.int .i64 0)).set 2 (.bool false)).set 3 (.int .i64 0)).set 4 (.int .i64 0)).set 5 (.int .i64 0)).set 6 (.int .i64 0)).set 7 (.int .i64 0)).set 8 (.int .i64 0)).set 9 (.string ⟨#[]⟩)).set 10 (.int .i64 0)
            generalize (((((((((((W2).setCell ⟨w.heap.size, 0, none⟩ (.string ⟨#[]⟩)).setCell ⟨w.heap.size, 1, none⟩ (.int .i64 0)).setCell ⟨w.heap.size, 2, none⟩ (.bool false)).setCell ⟨w.heap.size, 3, none⟩ (.int .i64 0)).setCell ⟨w.heap.size, 4, none⟩ (.int .i64 0)).setCell ⟨w.heap.size, 5, none⟩ (.int .i64 0)).setCell ⟨w.heap.size, 6, none⟩ (.int .i64 0)).setCell ⟨w.heap.size, 7, none⟩ (.int .i64 0)).setCell ⟨w.heap.size, 8, none⟩ (.int .i64 0)).setCell ⟨w.heap.size, 9, none⟩ (.string ⟨#[]⟩)).setCell ⟨w.heap.size, 10, none⟩ (.int .i64 0) = W10 at hb10 hR10 ⊢
            refine cut_ret w W10 _ _ false zeroP _ rfl rfl rfl hR10 ⟨.inr ⟨HC.out, rfl⟩, hb10⟩
          | cons c r4 =>
            have hcb := hby3 c List.mem_cons_self
            have ct := pod_take a3 n3 c3 1 (c :: r4) W2 HI1.out (by simp at hl3; omega) (by omega)
            rw [show ((1 : Nat) : Int) = 1 from rfl] at ct
            have CT := Lib.hid ct
            have hn1 : 1 ≤ n3 := by simp at hl3; omega
            clear ct hl3 hby3
            by_cases hc1 : 1 < c
            · have HC := Lib.hid (show cutF l = none by unfold cutF; rw [HNF.out]; simp only; rw [HNF2.out]; simp only; rw [HNS.out]; simp only; rw [if_neg (by omega)])

              go_wp2_with (go_at_call 65; (with_reducible refine CT.out.mono ?_); rintro e w4 ⟨⟨a5, c5, a6, c6, rfl, hi5, hi6, hfr6⟩, hb4⟩; obtain ⟨g5, off5, rfl, _, hcc⟩ := hi5.opened (by omega); have x0 := hcc 0 (by omega); rw [show el (List.take 1 (c :: r4)) 0 = c from rfl, Nat.add_zero] at x0; have hR4 := HR2.out.later hb4; have z0 := hR4.cell (j := 0) rfl; have z1 := hR4.cell (j := 1) rfl; have z2 := hR4.cell (j := 2) rfl; have z3 := hR4.cell (j := 3) rfl; have z4 := hR4.cell (j := 4) rfl; have z5 := hR4.cell (j := 5) rfl; have z6 := hR4.cell (j := 6) rfl; have z7 := hR4.cell (j := 7) rfl; have z8 := hR4.cell (j := 8) rfl; have z9 := hR4.cell (j := 9) rfl; have z10 := hR4.cell (j := 10) rfl; have zf := hR4.frozen; have hbel4 := belStep HB2.out hb4; have hP4 := HP2.out.later hb4;  have y2f := hP4.frozen 2; have HI6 := Lib.hid hi6; have HF6 := Lib.hid (HFr3.out.trans hfr6); clear hcc hi5 hi6 hfr6 hb4)
              have hb9 := hbel4
              have hR5 := hR4
              have hb10 := belSet (belSet (belSet (belSet (belSet (belSet (belSet (belSet (belSet (belSet (belSet (hb9) ⟨w.heap.size, 0, none⟩ (.string ⟨#[]⟩) (Nat.le_refl _)) ⟨w.heap.size, 1, none⟩ (.int .i64 0) (Nat.le_refl _)) ⟨w.heap.size, 2, none⟩ (.bool false) (Nat.le_refl _)) ⟨w.heap.size, 3, none⟩ (.int .i64 0) (Nat.le_refl _)) ⟨w.heap.size, 4, none⟩ (.int .i64 0) (Nat.le_refl _)) ⟨w.heap.size, 5, none⟩ (.int .i64 0) (Nat.le_refl _)) ⟨w.heap.size, 6, none⟩ (.int .i64 0) (Nat.le_refl _)) ⟨w.heap.size, 7, none⟩ (.int .i64 0) (Nat.le_refl _)) ⟨w.heap.size, 8, none⟩ (.int .i64 0) (Nat.le_refl _)) ⟨w.heap.size, 9, none⟩ (.string ⟨#[]⟩) (Nat.le_refl _)) ⟨w.heap.size, 10, none⟩ (.int .i64 0) (Nat.le_refl _)
              have hR10 := (((((((((((hR5).set 0 (.string ⟨#[]⟩)).set 1 (.int .i64 0)).set 2 (.bool false)).set 3 (.int .i64 0)).set 4 (.int .i64 0)).set 5 (.int .i64 0)).set 6 (.int .i64 0)).set 7 (.int .i64 0)).set 8 (.int .i64 0)).set 9 (.string ⟨#[]⟩)).set 10 (.int .i64 0)
              generalize (((((((((((w4).setCell ⟨w.heap.size, 0, none⟩ (.string ⟨#[]⟩)).setCell ⟨w.heap.size, 1, none⟩ (.int .i64 0)).setCell ⟨w.heap.size, 2, none⟩ (.bool false)).setCell ⟨w.heap.size, 3, none⟩ (.int .i64 0)).setCell ⟨w.heap.size, 4, none⟩ (.int .i64 0)).setCell ⟨w.heap.size, 5, none⟩ (.int .i64 0)).setCell ⟨w.heap.size, 6, none⟩ (.int .i64 0)).setCell ⟨w.heap.size, 7, none⟩ (.int .i64 0)).setCell ⟨w.heap.size, 8, none⟩ (.int .i64 0)).setCell ⟨w.heap.size, 9, none⟩ (.string ⟨#[]⟩)).setCell ⟨w.heap.size, 10, none⟩ (.int .i64 0) = W10 at hb10 hR10 ⊢
              refine cut_ret w W10 _ _ false zeroP _ rfl rfl rfl hR10 ⟨.inr ⟨HC.out, rfl⟩, hb10⟩
            · rcases (show c = 0 ∨ c = 1 by omega) with rfl | rfl
              · have HC := Lib.hid (show cutF l = some (mkPod x y ns false, r4) by unfold cutF; rw [HNF.out]; simp only; rw [HNF2.out]; simp only; rw [HNS.out]; rfl)
                clear HNF HNF2 HNS
                go_wp2_with (go_at_call 65; (with_reducible refine CT.out.mono ?_); rintro e w4 ⟨⟨a5, c5, a6, c6, rfl, hi5, hi6, hfr6⟩, hb4⟩; obtain ⟨g5, off5, rfl, _, hcc⟩ := hi5.opened (by omega); have x0 := hcc 0 (by omega); rw [show el (List.take 1 ((0 : Int) :: r4)) 0 = 0 from rfl, Nat.add_zero] at x0; have hR4 := HR2.out.later hb4; have z0 := hR4.cell (j := 0) rfl; have z1 := hR4.cell (j := 1) rfl; have z2 := hR4.cell (j := 2) rfl; have z3 := hR4.cell (j := 3) rfl; have z4 := hR4.cell (j := 4) rfl; have z5 := hR4.cell (j := 5) rfl; have z6 := hR4.cell (j := 6) rfl; have z7 := hR4.cell (j := 7) rfl; have z8 := hR4.cell (j := 8) rfl; have z9 := hR4.cell (j := 9) rfl; have z10 := hR4.cell (j := 10) rfl; have zf := hR4.frozen; have hbel4 := belStep HB2.out hb4; have hP4 := HP2.out.later hb4; have y0 := hP4.cell (j := 0) rfl; have y1 := hP4.cell (j := 1) rfl; have y2 := hP4.cell (j := 2) rfl; have y3 := hP4.cell (j := 3) rfl; have y4 := hP4.cell (j := 4) rfl; have y5 := hP4.cell (j := 5) rfl; have y6 := hP4.cell (j := 6) rfl; have y7 := hP4.cell (j := 7) rfl; have y8 := hP4.cell (j := 8) rfl; have y9 := hP4.cell (j := 9) rfl; have y10 := hP4.cell (j := 10) rfl; have y2f := hP4.frozen 2; have HI6 := Lib.hid hi6; have HF6 := Lib.hid (HFr3.out.trans hfr6); clear hcc hi5 hi6 hfr6 hb4)
                have hb9 : Below w.heap.size w (w4.setCell ⟨w.heap.size + 1, 2, none⟩ (.bool false)) := belSet hbel4 _ _ (by simp)
                have hR5 := hR4.far (a := ⟨w.heap.size + 1, 2, none⟩) (by simp) (.bool false)
                have HI7 := Lib.hid (HI6.out.back (old_of HOld.out HF6.out) hbel4)
                generalize w4.setCell ⟨w.heap.size + 1, 2, none⟩ (.bool false) = W5 at *
                have hb10 := belSet (belSet (belSet (belSet (belSet (belSet (belSet (belSet (belSet (belSet (belSet (hb9) ⟨w.heap.size, 0, none⟩ (.string (strOfNums x)) (Nat.le_refl _)) ⟨w.heap.size, 1, none⟩ (.int .i64 (n0 - 1073741824)) (Nat.le_refl _)) ⟨w.heap.size, 2, none⟩ (.bool false) (Nat.le_refl _)) ⟨w.heap.size, 3, none⟩ (.int .i64 (el ns 2)) (Nat.le_refl _)) ⟨w.heap.size, 4, none⟩ (.int .i64 (el ns 3)) (Nat.le_refl _)) ⟨w.heap.size, 5, none⟩ (.int .i64 (el ns 4)) (Nat.le_refl _)) ⟨w.heap.size, 6, none⟩ (.int .i64 (el ns 5)) (Nat.le_refl _)) ⟨w.heap.size, 7, none⟩ (.int .i64 (el ns 6)) (Nat.le_refl _)) ⟨w.heap.size, 8, none⟩ (.int .i64 (el ns 7)) (Nat.le_refl _)) ⟨w.heap.size, 9, none⟩ (.string (strOfNums y)) (Nat.le_refl _)) ⟨w.heap.size, 10, none⟩ (.int .i64 (el ns 1)) (Nat.le_refl _)
                have hR10 := (((((((((((hR5).set 0 (.string (strOfNums x))).set 1 (.int .i64 (n0 - 1073741824))).set 2 (.bool false)).set 3 (.int .i64 (el ns 2))).set 4 (.int .i64 (el ns 3))).set 5 (.int .i64 (el ns 4))).set 6 (.int .i64 (el ns 5))).set 7 (.int .i64 (el ns 6))).set 8 (.int .i64 (el ns 7))).set 9 (.string (strOfNums y))).set 10 (.int .i64 (el ns 1))
                generalize (((((((((((W5).setCell ⟨w.heap.size, 0, none⟩ (.string (strOfNums x))).setCell ⟨w.heap.size, 1, none⟩ (.int .i64 (n0 - 1073741824))).setCell ⟨w.heap.size, 2, none⟩ (.bool false)).setCell ⟨w.heap.size, 3, none⟩ (.int .i64 (el ns 2))).setCell ⟨w.heap.size, 4, none⟩ (.int .i64 (el ns 3))).setCell ⟨w.heap.size, 5, none⟩ (.int .i64 (el ns 4))).setCell ⟨w.heap.size, 6, none⟩ (.int .i64 (el ns 5))).setCell ⟨w.heap.size, 7, none⟩ (.int .i64 (el ns 6))).setCell ⟨w.heap.size, 8, none⟩ (.int .i64 (el ns 7))).setCell ⟨w.heap.size, 9, none⟩ (.string (strOfNums y))).setCell ⟨w.heap.size, 10, none⟩ (.int .i64 (el ns 1)) = W10 at hb10 hR10 ⊢
                obtain rfl := EN.out
                refine cut_ret w W10 _ _ true (mkPod x y ns false) _ rfl rfl rfl hR10 ⟨.inl ⟨_, _, HC.out, _, _, _, rfl, HI7.out.later hb10, by omega⟩, hb10⟩
              · have HC := Lib.hid (show cutF l = some (mkPod x y ns true, r4) by unfold cutF; rw [HNF.out]; simp only; rw [HNF2.out]; simp only; rw [HNS.out]; rfl)
                clear HNF HNF2 HNS
                go_wp2_with (go_at_call 65; (with_reducible refine CT.out.mono ?_); rintro e w4 ⟨⟨a5, c5, a6, c6, rfl, hi5, hi6, hfr6⟩, hb4⟩; obtain ⟨g5, off5, rfl, _, hcc⟩ := hi5.opened (by omega); have x0 := hcc 0 (by omega); rw [show el (List.take 1 ((1 : Int) :: r4)) 0 = 1 from rfl, Nat.add_zero] at x0; have hR4 := HR2.out.later hb4; have z0 := hR4.cell (j := 0) rfl; have z1 := hR4.cell (j := 1) rfl; have z2 := hR4.cell (j := 2) rfl; have z3 := hR4.cell (j := 3) rfl; have z4 := hR4.cell (j := 4) rfl; have z5 := hR4.cell (j := 5) rfl; have z6 := hR4.cell (j := 6) rfl; have z7 := hR4.cell (j := 7) rfl; have z8 := hR4.cell (j := 8) rfl; have z9 := hR4.cell (j := 9) rfl; have z10 := hR4.cell (j := 10) rfl; have zf := hR4.frozen; have hbel4 := belStep HB2.out hb4; have hP4 := HP2.out.later hb4; have y0 := hP4.cell (j := 0) rfl; have y1 := hP4.cell (j := 1) rfl; have y2 := hP4.cell (j := 2) rfl; have y3 := hP4.cell (j := 3) rfl; have y4 := hP4.cell (j := 4) rfl; have y5 := hP4.cell (j := 5) rfl; have y6 := hP4.cell (j := 6) rfl; have y7 := hP4.cell (j := 7) rfl; have y8 := hP4.cell (j := 8) rfl; have y9 := hP4.cell (j := 9) rfl; have y10 := hP4.cell (j := 10) rfl; have y2f := hP4.frozen 2; have HI6 := Lib.hid hi6; have HF6 := Lib.hid (HFr3.out.trans hfr6); clear hcc hi5 hi6 hfr6 hb4)
                have hb9 : Below w.heap.size w (w4.setCell ⟨w.heap.size + 1, 2, none⟩ (.bool true)) := belSet hbel4 _ _ (by simp)
                have hR5 := hR4.far (a := ⟨w.heap.size + 1, 2, none⟩) (by simp) (.bool true)
                have HI7 := Lib.hid (HI6.out.back (old_of HOld.out HF6.out) hbel4)
                generalize w4.setCell ⟨w.heap.size + 1, 2, none⟩ (.bool true) = W5 at *
                have hb10 := belSet (belSet (belSet (belSet (belSet (belSet (belSet (belSet (belSet (belSet (belSet (hb9) ⟨w.heap.size, 0, none⟩ (.string (strOfNums x)) (Nat.le_refl _)) ⟨w.heap.size, 1, none⟩ (.int .i64 (n0 - 1073741824)) (Nat.le_refl _)) ⟨w.heap.size, 2, none⟩ (.bool true) (Nat.le_refl _)) ⟨w.heap.size, 3, none⟩ (.int .i64 (el ns 2)) (Nat.le_refl _)) ⟨w.heap.size, 4, none⟩ (.int .i64 (el ns 3)) (Nat.le_refl _)) ⟨w.heap.size, 5, none⟩ (.int .i64 (el ns 4)) (Nat.le_refl _)) ⟨w.heap.size, 6, none⟩ (.int .i64 (el ns 5)) (Nat.le_refl _)) ⟨w.heap.size, 7, none⟩ (.int .i64 (el ns 6)) (Nat.le_refl _)) ⟨w.heap.size, 8, none⟩ (.int .i64 (el ns 7)) (Nat.le_refl _)) ⟨w.heap.size, 9, none⟩ (.string (strOfNums y)) (Nat.le_refl _)) ⟨w.heap.size, 10, none⟩ (.int .i64 (el ns 1)) (Nat.le_refl _)
                have hR10 := (((((((((((hR5).set 0 (.string (strOfNums x))).set 1 (.int .i64 (n0 - 1073741824))).set 2 (.bool true)).set 3 (.int .i64 (el ns 2))).set 4 (.int .i64 (el ns 3))).set 5 (.int .i64 (el ns 4))).set 6 (.int .i64 (el ns 5))).set 7 (.int .i64 (el ns 6))).set 8 (.int .i64 (el ns 7))).set 9 (.string (strOfNums y))).set 10 (.int .i64 (el ns 1))
                generalize (((((((((((W5).setCell ⟨w.heap.size, 0, none⟩ (.string (strOfNums x))).setCell ⟨w.heap.size, 1, none⟩ (.int .i64 (n0 - 1073741824))).setCell ⟨w.heap.size, 2, none⟩ (.bool true)).setCell ⟨w.heap.size, 3, none⟩ (.int .i64 (el ns 2))).setCell ⟨w.heap.size, 4, none⟩ (.int .i64 (el ns 3))).setCell ⟨w.heap.size, 5, none⟩ (.int .i64 (el ns 4))).setCell ⟨w.heap.size, 6, none⟩ (.int .i64 (el ns 5))).setCell ⟨w.heap.size, 7, none⟩ (.int .i64 (el ns 6))).setCell ⟨w.heap.size, 8, none⟩ (.int .i64 (el ns 7))).setCell ⟨w.heap.size, 9, none⟩ (.string (strOfNums y))).setCell ⟨w.heap.size, 10, none⟩ (.int .i64 (el ns 1)) = W10 at hb10 hR10 ⊢
                obtain rfl := EN.out
                refine cut_ret w W10 _ _ true (mkPod x y ns true) _ rfl rfl rfl hR10 ⟨.inl ⟨_, _, HC.out, _, _, _, rfl, HI7.out.later hb10, by omega⟩, hb10⟩
end Go.Proofs.Ytpmkhimmlpnbpaa
