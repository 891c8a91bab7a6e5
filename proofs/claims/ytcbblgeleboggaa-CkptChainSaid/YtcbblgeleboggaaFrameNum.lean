
/- frame.number: a range over a function. -/
import Derived.Test.YtcbblgeleboggaaFrameMath
import Derived.RangeFuncNested
import Derived.RangeFuncBound
import Derived.RangeFuncCalls
import Derived.RangeFuncLeaves
import Derived.RangeFuncFrom
import Derived.Shelf.Abstract
import Derived.Shelf.RegionOpen
import Derived.OwnWalkIn
import Derived.TacticsInMore
import Derived.LoopNIn
import Derived.LoopIn
namespace Go.Proofs.Ytcbblgeleboggaa
open Go.RowKit Go.Shelf
set_option linter.unusedVariables false
set_option linter.unusedSimpArgs false
attribute [local go_sem] Oper.semAt_some

abbrev Byt := { x : Int // 0 ≤ x ∧ x ≤ 255 }
/-- The bytes from the end, the first k of them. -/
def backw (l : List Byt) (k : Nat) : List Byt := l.reverse.take k
def bget (l : List Byt) (i : Nat) : Byt := l[i]?.getD ⟨0, by omega⟩
theorem backw_snoc (l : List Byt) (m : Nat) (h : m < l.length) : backw l (l.length - (m + 1)) ++ [bget l m] = backw l (l.length - m) := by
  unfold backw bget
  rw [show l.length - m = (l.length - (m + 1)) + 1 by omega, List.take_succ_eq_append_getElem (by simp; omega), List.getElem_reverse]
  congr 2
  have : l.length - 1 - (l.length - (m + 1)) = m := by omega
  simp [this, h]

theorem new_cell (W : World) (v : Value) (t : TypeId) : (W.alloc (.cells #[v] t)).cell? ⟨W.heap.size, 0, none⟩ = some v ∧ (W.alloc (.cells #[v] t)).frozen? ⟨W.heap.size, 0, none⟩ = false := by
  have h : (W.alloc (.cells #[v] t)).heap[W.heap.size]? = some (.cells #[v] t (0, 0)) := heap_alloc_new W _
  generalize W.alloc (.cells #[v] t) = W' at *
  constructor
  · unfold World.cell?; simp only [h]; rfl
  · unfold World.frozen?; simp only [h]; rfl
theorem on_cell {W : World} {a : Addr} {v : Value} (o : Obj) (h : W.cell? a = some v) : (W.alloc o).cell? a = some v := cell_kept h (World.grownBy_alloc W o none) (fun r e => by cases e)
theorem on_frozen {W : World} {a : Addr} {v : Value} (o : Obj) (h : W.cell? a = some v) (hf : W.frozen? a = false) : (W.alloc o).frozen? a = false := (frozen_kept h (World.grownBy_alloc W o none) (fun r e => by cases e)).trans hf
/-- What a round keeps: all below a block, and one cell. -/
def KpB (n₀ Bs : Nat) (A B : World) : Prop := Below n₀ A B ∧ ∀ v, A.cell? ⟨Bs, 0, none⟩ = some v → B.cell? ⟨Bs, 0, none⟩ = some v
theorem KpB.t {n₀ Bs : Nat} {A B C : World} (h : KpB n₀ Bs A B) (k : KpB n₀ Bs B C) : KpB n₀ Bs A C := ⟨h.1.trans k.1, fun v q => k.2 v (h.2 v q)⟩
theorem KpB.b {n₀ Bs : Nat} {w : World} (hn : n₀ ≤ w.heap.size) (W : World) (l : Nat) (o o' : Obj) (hl : w.heap.size ≤ l) (h : W.heap[l]? = some o) (h2 : o.isCells = false) (h3 : o.isWalk = false) : KpB n₀ Bs W (W.putObj l o') :=
  ⟨belowK_b hn W l o o' hl h h2 h3, fun v q => cell_kept q (grownBy_putObj' W l o') (fun r e => by cases e; exact ⟨_, h, h2⟩)⟩

set_option maxHeartbeats 1000000 in
theorem backward_in (F : Fence) (n : Nat) (h5 : F.fn 54) (hro : F.round = none) (a : Option Addr) (len cap : Nat) (w : World) :
    CallsIn F n Try.prog 54 #[.slice a len cap] w fun e w' => e = .returned (.func (.func 61) #[] #[.pointer (some ⟨w.heap.size, 0, none⟩)]) ∧ w' = w.alloc (.cells #[.slice a len cap] 29) := by
  refine callsIn_of_wp Try.func54 rfl h5 ?_ hro
  simp only [Try.ntmps54, List.size_toArray, List.length_cons, List.length_nil, Nat.reduceAdd, Nat.reduceSub, Array.replicate_succ, Array.replicate_zero, List.push_toArray, List.append_toArray, List.nil_append, List.cons_append]
  gi_wp2
  go_ret
  exact ⟨rfl, rfl⟩

set_option maxRecDepth 100000 in
set_option maxHeartbeats 2000000 in
theorem backward1_in (F : Fence) (n : Nat) (h7 : F.fn 61) (hro : F.round = none) (hn : 1 ≤ n) (Bs n₀ b off cap : Nat) (zs : List Byt) (hcap : zs.length ≤ cap) (hm : cap ≤ 9223372036854775807) (hb : b < n₀) (w : World) (hBs : Bs < w.heap.size) (hn₀ : n₀ ≤ w.heap.size)
    (hc : w.cell? ⟨Bs, 0, none⟩ = some (.slice (some ⟨b, off, none⟩) zs.length cap)) (hI : ∀ j, j < zs.length → w.cell? ⟨b, off + j, none⟩ = some (.int .u8 (bget zs j).1)) :
    SeqStopsK F n Try.prog 61 #[.pointer (some ⟨Bs, 0, none⟩)] (fun x : Byt => #[Value.int .u8 x.1]) (KpB n₀ Bs) (fun ys => ys = zs.reverse) (fun pre => pre <+: zs.reverse) zs.length w := fun l J Jx W hW _ _ hY h0 => by
  have hBs' := (hW.cell (p := ⟨Bs, 0, none⟩) hBs).trans hc
  have hcs : ∀ j, j < zs.length → W.cell? ⟨b, off + j, none⟩ = some (.int .u8 (bget zs j).1) := fun j hj => (hW.cell (p := ⟨b, off + j, none⟩) (show b < w.heap.size by omega)).trans (hI j hj)
  obtain ⟨len, hlen⟩ : ∃ len, zs.length = len := ⟨_, rfl⟩
  have HL := Lib.hid hlen
  rw [hlen] at hBs' hcs hY hcap
  refine callsIn_of_wp Try.func61 rfl h7 ?_ hro
  simp only [Try.ntmps61, List.size_toArray, List.length_cons, List.length_nil, Nat.reduceAdd, Nat.reduceSub, Array.replicate_succ, Array.replicate_zero, List.push_toArray, List.append_toArray, List.nil_append, List.cons_append]
  clear hc hI hlen
  gi_wp2
  gi_loopw [3] (fun i wr => ∃ m : Nat, m ≤ len ∧ i = .int .i64 ((m : Int) - 1) ∧ J (backw zs (len - m)) wr ∧ KpB n₀ Bs W wr)
    (fun i _ => (intOf i + 1).toNat)
  case atStart => exact ⟨len, Nat.le_refl _, rfl, by simpa [backw] using h0, Below.refl _ _, fun _ h => h⟩
  case round =>
    obtain ⟨m, hk, rfl, hJs, hnx⟩ := hrel
    cases m with
    | zero =>
      gi_wp2
      go_end0
      exact ⟨⟨_, rfl⟩, .inl ⟨_, by unfold backw; rw [← HL.out]; exact List.take_of_length_le (by simp), hJs⟩⟩
    | succ m =>
      have hcx : wr.cell? ⟨b, off + m, none⟩ = some (.int .u8 (bget zs m).1) := (hnx.1.cell (p := ⟨b, off + m, none⟩) hb).trans (hcs m (by omega))
      have hbx := hnx.2 _ hBs'
      obtain ⟨fn, tmps, assign, body, hy, hR⟩ := hY _ (bget zs m) wr hJs (by unfold backw; simp; rw [HL.out]; omega)
      rw [show (((m + 1 : Nat) : Int) - 1) = (m : Int) by omega]
      clear hcs
      gi_wp2
      refine hR.mono ?_
      rintro e W3 (⟨rfl, hJ3, hk3⟩ | ⟨rfl, hJx3⟩)
      · gi_wp2
        go_roundw
        case rel => exact ⟨m, by omega, rfl, by rw [← HL.out] at hJ3 ⊢; rw [← backw_snoc zs m (by rw [HL.out]; omega)]; exact hJ3, hnx.t hk3⟩
        case measure => simp [intOf] <;> omega
      · gi_wp2
        refine bodyPost_ret (results_none rfl _ _ _) rfl ?_
        exact ⟨⟨_, rfl⟩, .inr ⟨_, by rw [← HL.out, backw_snoc zs m (by rw [HL.out]; omega)]; exact List.take_prefix _ _, hJx3⟩⟩

def numB (l : List Byt) : Nat := l.foldl (fun n c => n * 256 + c.1.toNat) 0
theorem numB_snoc (l : List Byt) (c : Byt) : numB (l ++ [c]) = numB l * 256 + c.1.toNat := by unfold numB; rw [List.foldl_append]; rfl
theorem numB_lt (l : List Byt) : numB l < 256 ^ l.length := by
  obtain ⟨r, rfl⟩ : ∃ r, l = r.reverse := ⟨l.reverse, by simp⟩
  induction r with
  | nil => simp [numB]
  | cons c r ih =>
    have := c.2
    rw [List.reverse_cons, numB_snoc, List.length_append, List.length_singleton, Nat.pow_succ]
    omega

theorem or64 (a b : Nat) (ha : a < 9223372036854775808) (hb : b < 9223372036854775808) : bits .or .i64 (a : Int) (b : Int) = ((a ||| b : Nat) : Int) := by
  have hx : a ||| b < 9223372036854775808 := Nat.or_lt_two_pow (n := 63) ha hb
  have h1 : (BitVec.ofInt 64 (a : Int)).toNat = a := by rw [BitVec.ofInt_natCast, BitVec.toNat_ofNat]; exact Nat.mod_eq_of_lt (by omega)
  have h2 : (BitVec.ofInt 64 (b : Int)).toNat = b := by rw [BitVec.ofInt_natCast, BitVec.toNat_ofNat]; exact Nat.mod_eq_of_lt (by omega)
  show IntKind.i64.wrap ((BitVec.ofInt 64 (a : Int) ||| BitVec.ofInt 64 (b : Int)).toNat : Int) = _
  rw [BitVec.toNat_or, h1, h2, IntKind.wrap_i64]
  generalize a ||| b = m at *
  omega
theorem or_byte (n : Nat) (c : Int) (hn : n < 16777216) (h0 : 0 ≤ c) (h1 : c ≤ 255) : bits .or .i64 ((n : Int) * 256) c = ((n * 256 + c.toNat : Nat) : Int) := by
  obtain ⟨k, rfl⟩ : ∃ k : Nat, c = k := ⟨c.toNat, by omega⟩
  have := or64 (n * 256) k (by omega) (by omega)
  rw [show ((n * 256 : Nat) : Int) = (n : Int) * 256 by rw [Int.natCast_mul]; rfl] at this
  rw [this, Int.toNat_natCast]
  congr 1
  have e := Nat.two_pow_add_eq_or_of_lt (i := 8) (b := k) (by omega) n
  rw [Nat.mul_comm, show (256 : Nat) = 2 ^ 8 by rfl, ← e]

set_option maxRecDepth 100000 in
set_option maxHeartbeats 2000000 in
theorem number_in (b off cap : Nat) (zs : List Byt) (hcap : 4 ≤ cap) (hm : cap ≤ 9223372036854775807) (h4 : Hid (zs.length = 4)) (w : World) (hb : b < w.heap.size) (hI : Hid (∀ j, j < 4 → w.cell? ⟨b, off + j, none⟩ = some (.int .u8 (bget zs j).1))) :
    CallsIn Fence.wide 5 Try.prog 40 #[.slice (some ⟨b, off, none⟩) 4 cap] w fun e W' => e = .returned (.int .i64 (numB zs.reverse)) ∧ Below w.heap.size w W' := by
  refine callsIn_of_wp_marks Try.func40 rfl trivial ?_ rfl
  simp only [Try.ntmps40, List.size_toArray, List.length_cons, List.length_nil, Nat.reduceAdd, Nat.reduceSub, Array.replicate_succ, Array.replicate_zero, List.push_toArray, List.append_toArray, List.nil_append, List.cons_append]
  gi_wp2_with (refine ⟨trivial, ?_⟩; gi_at_call 54; refine (backward_in Fence.wide _ trivial rfl _ _ _ _).mono ?_; rintro e w' ⟨rfl, rfl⟩)
  have hs := new_cell w (.int .i64 0) 3
  have hb2 := new_cell (w.alloc (.cells #[.int .i64 0] 3)) (.slice (some ⟨b, off, none⟩) 4 cap) 29
  rw [World.size_alloc] at hb2
  have hB0 : Below w.heap.size w ((w.alloc (.cells #[.int .i64 0] 3)).alloc (.cells #[.slice (some ⟨b, off, none⟩) 4 cap] 29)) := ((Below.refl _ w).alloc (Nat.le_refl _) _).alloc (by simp) _
  have hst := backward1_in Fence.wide (5 - 1) trivial rfl (by omega) (w.heap.size + 1) w.heap.size b off cap zs (by rw [h4.out]; exact hcap) hm hb ((w.alloc (.cells #[.int .i64 0] 3)).alloc (.cells #[.slice (some ⟨b, off, none⟩) 4 cap] 29)) (by simp) (by simp; omega) (by rw [h4.out]; exact hb2.1) (fun j hj => by rw [hB0.cell (p := ⟨b, off + j, none⟩) hb]; exact hI.out j (by rw [h4.out] at hj; exact hj))
  rw [h4.out] at hst
  refine wpIn_rangeFunc_ownF rfl (by omega) (gf := 61) (lb := #[.pointer (some ⟨w.heap.size + 1, 0, none⟩)]) rfl trivial (enters_of Try.func61 (by kernel_rfl) rfl)
    hst KpB.t (KpB.b (by simp; omega)) (Below.refl _ _) (fun _ => rfl)
    (fun pre W => (W.cell? ⟨w.heap.size, 0, none⟩ = some (.int .i64 (numB pre)) ∧ W.frozen? ⟨w.heap.size, 0, none⟩ = false) ∧ Below w.heap.size w W)
    (fun _ _ _ => False)
    (OwnFrom.and (Own.from (fun s A B row hs hg hr => ⟨cell_kept hs.1 hg hr, (frozen_kept hs.1 hg hr).trans hs.2⟩) _) (ownFrom_below (Nat.le_refl _) (by simp; omega)))
    (fun _ _ _ _ _ hs _ _ => hs)
    ⟨⟨on_cell _ hs.1, on_frozen _ hs.1 hs.2⟩, hB0⟩
    (fun x => { tmps := #[.slice (some ⟨b, off, none⟩) 4 cap, undef, .int .i64 0, .pointer (some ⟨w.heap.size, 0, none⟩), .int .u8 x.1, .slice (some ⟨b, off, none⟩) 4 cap, .func (.func 61) #[] #[.pointer (some ⟨w.heap.size + 1, 0, none⟩)], .int .u8 x.1, undef, undef, undef, undef, undef, undef], defers := [] }) ?assign ?body ?done ?stop
  case assign =>
    intro l x W K hK
    gi_wp2
    exact hK
  case body =>
    rintro l pre x W ⟨⟨hc, hf⟩, hB⟩ hlt
    have hlt4 := numB_lt pre
    have hx := x.2
    have hp : 256 ^ pre.length ≤ 256 ^ 3 := Nat.pow_le_pow_right (by omega) (by omega)
    have hor := or_byte (numB pre) x.1 (by omega) hx.1 hx.2
    have HOr := Lib.hid hor
    have hne : (⟨w.heap.size, 0, none⟩ : Addr) ≠ ⟨w.heap.size + 1, 0, none⟩ := by simp
    clear hor
    gi_wp2
    refine ⟨KeepsOthers.setCell _ _ _, ⟨(Below.refl w.heap.size W).setCell (p := ⟨w.heap.size, 0, none⟩) (Nat.le_refl _) _, fun v q => (by rw [World.cell?_setCell_other (h := hne)]; exact q)⟩, ⟨?_, by rw [World.frozen?_setCell]; exact hf⟩, hB.setCell (p := ⟨w.heap.size, 0, none⟩) (Nat.le_refl _) _⟩
    rw [HOr.out, numB_snoc]
    exact World.cell?_setCell_same' _ _ _ (by rw [hc]; rfl)
  case done =>
    rintro D ys W hD rfl ⟨⟨hc, _⟩, hB⟩ hK
    gi_wp2
    refine ⟨by simp, .inl ⟨_, _, rfl, run_takeDeferred hK, ?_⟩⟩
    exact ⟨_, results_tmp rfl _ _ _, rfl, hB.trans (belowK_b (w := w) (Nat.le_refl _) W D _ _ (by simp at hD; omega) hK rfl rfl)⟩
  case stop =>
    rintro D c pre W _ _ h _
    exact h.elim

def toByt : (l : List Int) → Bytes l → List Byt
  | [], _ => []
  | c :: l, h => ⟨c, h c List.mem_cons_self⟩ :: toByt l (fun x hx => h x (List.mem_cons_of_mem _ hx))
theorem toByt_len : ∀ (l : List Int) (h : Bytes l), (toByt l h).length = l.length
  | [], _ => rfl
  | c :: l, h => congrArg (· + 1) (toByt_len l _)
theorem toByt_get : ∀ (l : List Int) (h : Bytes l) (j : Nat), j < l.length → (bget (toByt l h) j).1 = el l j
  | [], _, j, hj => by simp at hj
  | c :: l, h, 0, _ => rfl
  | c :: l, h, j + 1, hj => by
    have := toByt_get l (fun x hx => h x (List.mem_cons_of_mem _ hx)) j (by simp at hj; exact hj)
    simpa [bget, el, toByt] using this
theorem toByt_numr : ∀ (l : List Int) (h : Bytes l), (toByt l h).foldr (fun c n => n * 256 + c.1.toNat) 0 = numW l
  | [], _ => rfl
  | c :: l, h => by
    have := toByt_numr l (fun x hx => h x (List.mem_cons_of_mem _ hx))
    have e : numW (c :: l) = c.toNat + 256 * numW l := rfl
    rw [toByt, List.foldr_cons, this, e, Nat.mul_comm, Nat.add_comm]
theorem toByt_num (l : List Int) (h : Bytes l) : numB (toByt l h).reverse = numW l := by
  unfold numB
  rw [List.foldl_reverse]
  exact toByt_numr l h
/-- frame.number, of four bytes. -/
theorem frame_number (b off cap : Nat) (l : List Int) (w : World) (hl : Ints .u8 w (some ⟨b, off, none⟩) 4 cap l) :
    Calls Try.prog 40 #[.slice (some ⟨b, off, none⟩) 4 cap] w fun e w' => e = .returned (.int .i64 (numW l)) ∧ Below w.heap.size w w' := by
  have hb := hl.bounds
  have hby := bytes_of hl
  obtain ⟨b', off', e1, hlt, hc⟩ := hl.opened (by omega)
  simp at e1
  obtain ⟨rfl, rfl⟩ := e1
  have h := number_in b off cap (toByt l hby) (by omega) (by omega) (Lib.hid (by rw [toByt_len]; exact hb.1)) w hlt (Lib.hid (fun j hj => by rw [toByt_get l hby j (by omega)]; exact hc j hj))
  rw [toByt_num] at h
  exact callsIn_wide.1 h
end Go.Proofs.Ytcbblgeleboggaa
