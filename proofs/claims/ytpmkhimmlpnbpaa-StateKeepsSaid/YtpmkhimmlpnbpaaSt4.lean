
/- state's reader: one, number, flags: contracts. -/
import Derived.Test.YtpmkhimmlpnbpaaSt3
import Derived.Test.YtpmkhimmlpnbpaaPodCutTop
namespace Go.Proofs.Ytpmkhimmlpnbpaa
open Go.RowKit
set_option linter.unusedVariables false
set_option linter.unusedSimpArgs false
/-- Nothing but the block RB has changed. -/
def FarB (RB : Nat) (w w' : World) : Prop := w.grownBy w' (some RB)
theorem FarB.refl (RB : Nat) (w : World) : FarB RB w w := ⟨rfl, rfl, rfl, Nat.le_refl _, fun _ _ _ => rfl⟩
theorem FarB.trans {RB : Nat} {w u v : World} (h : FarB RB w u) (k : FarB RB u v) : FarB RB w v :=
  ⟨k.os.trans h.os, k.tape.trans h.tape, k.output.trans h.output, Nat.le_trans h.size k.size, fun i hi hne => (k.block i (Nat.lt_of_lt_of_le hi h.size) hne).trans (h.block i hi hne)⟩
theorem FarB.of_below {RB : Nat} {w u : World} (h : Below w.heap.size w u) : FarB RB w u := ⟨h.os, h.tape, h.output, h.size, fun i hi _ => h.block i hi⟩
theorem FarB.set {RB : Nat} {w u : World} (h : FarB RB w u) (i : Nat) (v : Value) : FarB RB w (u.setCell ⟨RB, i, none⟩ v) :=
  h.trans ⟨rfl, rfl, rfl, by simp, fun k hk hne => Below.heap_setCell _ _ _ _ (fun e => hne (by rw [e]))⟩
theorem FarB.below {RB B : Nat} {w u : World} (h : FarB RB w u) (hB : B ≤ RB) (hs : B ≤ w.heap.size) : Below B w u := ⟨h.os, h.tape, h.output, h.size, fun k hk => h.block k (by omega) (by simp; omega)⟩
theorem FarB.blk {RB M : Nat} {w u : World} {C : List Value} {T : TypeId} (h : FarB RB w u) (hb : Blk w M C T) (hne : M ≠ RB) : Blk u M C T := (h.block M hb.lt (by simpa using hne)).trans hb
theorem FarB.own {RB B k n : Nat} {e : TypeId} {w u : World} {v : Value} {cs : List Value} (h : FarB RB w u) (ho : OwnR w B e k v n cs) (hB : RB < B) : OwnR u B e k v n cs :=
  World.ownsRow.kept ho h (by
    cases hb : v.ownBlock with
    | none => exact .inl rfl
    | some q => exact .inr (fun e1 => by have h1 := (World.ownsRow.lt ho q hb).1; simp at e1; omega))
theorem FarB.ints {RB : Nat} {k : IntKind} {w u : World} {a : Option Addr} {n c : Nat} {l : List Int} (h : FarB RB w u) (hi : Ints k w a n c l) (hne : ∀ x, a = some x → x.block ≠ RB) : Ints k u a n c l := by
  obtain ⟨⟨r1, r2, r3, r4, r5⟩, hw⟩ := hi
  refine ⟨⟨r1, r2, r3, r4, r5.imp id ?_⟩, hw⟩
  rintro ⟨b, off, e, hc⟩
  refine ⟨b, off, e, fun i hi => ?_⟩
  have hbne : b ≠ RB := hne _ e
  rw [← hc i hi]
  have hlt : b < w.heap.size := World.block_lt_of_cell? w ⟨b, off + i, none⟩ (u := (l.map (Value.int k))[i]) (by rw [hc i hi]; exact List.getElem?_eq_getElem hi)
  unfold World.cell?
  rw [h.block b hlt (by simpa using hbne)]
theorem FarB.setNew {RB M : Nat} {w u : World} (h : FarB RB w u) (hM : w.heap.size ≤ M) (i : Nat) (v : Value) : FarB RB w (u.setCell ⟨M, i, none⟩ v) :=
  ⟨h.os, h.tape, h.output, Nat.le_trans h.size (by simp), fun k hk hne => (Below.heap_setCell _ _ _ _ (by dsimp only; omega)).trans (h.block k hk hne)⟩
theorem ints_any {k : IntKind} {w u : World} {a : Option Addr} {c : Nat} {l : List Int} (h : Ints k w a 0 c l) : Ints k u a 0 c l := by
  obtain ⟨⟨r1, r2, r3, r4, r5⟩, hw⟩ := h
  exact ⟨⟨r1, r2, r3, r4, .inl (List.eq_nil_of_length_eq_zero (by simpa using r1))⟩, hw⟩
/-- The reader: what is left, and whether it has failed; what is left lies in none of the blocks X. -/
structure RdS (w : World) (RB : Nat) (X : List Nat) (l : List Int) (f : Bool) : Prop where
  ex : ∃ a n c, Blk w RB [.slice a n c, .bool f] 68 ∧ Ints .u8 w a n c l ∧ (n = 0 ∨ ∀ x, a = some x → x.block ≠ RB ∧ x.block ∉ X) ∧ n ≤ 100000
theorem RdS.later {w u : World} {RB : Nat} {X : List Nat} {l : List Int} {f : Bool} (h : RdS w RB X l f) (hb : Below w.heap.size w u) : RdS u RB X l f := by
  obtain ⟨a, n, c, h1, h2, h3, h4⟩ := h.ex
  exact ⟨⟨a, n, c, h1.later hb, h2.later hb, h3, h4⟩⟩
theorem RdS.far {w : World} {RB M : Nat} {X : List Nat} {l : List Int} {f : Bool} (h : RdS w RB X l f) (hM : M ∈ X) (hne : M ≠ RB) (i : Nat) (v : Value) : RdS (w.setCell ⟨M, i, none⟩ v) RB X l f := by
  obtain ⟨a, n, c, h1, h2, h3, h4⟩ := h.ex
  refine ⟨⟨a, n, c, h1.far (a := ⟨M, i, none⟩) hne v, ?_, h3, h4⟩⟩
  rcases h3 with rfl | h3
  · exact ints_any h2
  · exact Ints.setFar h2 (fun x hx e => (h3 x hx).2 (by rw [show x.block = M from e]; exact hM)) v
theorem RdS.more {w : World} {RB : Nat} {X : List Nat} {l : List Int} {f : Bool} (h : RdS w RB X l f) {M : Nat} (hM : w.heap.size ≤ M) : RdS w RB (M :: X) l f := by
  obtain ⟨a, n, c, h1, h2, h3, h4⟩ := h.ex
  refine ⟨⟨a, n, c, h1, h2, ?_, h4⟩⟩
  rcases h3 with h3 | h3
  · exact .inl h3
  · by_cases h0 : n = 0
    · exact .inl h0
    · refine .inr (fun x hx => ⟨(h3 x hx).1, fun hm => ?_⟩)
      rcases List.mem_cons.1 hm with e | e
      · obtain ⟨b, off, e2, _, hc⟩ := h2.opened (by omega)
        rw [hx] at e2
        simp only [Option.some.injEq] at e2
        have := World.block_lt_of_cell? w ⟨b, off + 0, none⟩ (hc 0 (by omega))
        rw [e2] at e
        simp only at e this
        omega
      · exact (h3 x hx).2 e
theorem RdS.less {w : World} {RB M : Nat} {X : List Nat} {l : List Int} {f : Bool} (h : RdS w RB (M :: X) l f) : RdS w RB X l f := by
  obtain ⟨a, n, c, h1, h2, h3, h4⟩ := h.ex
  exact ⟨⟨a, n, c, h1, h2, h3.imp id (fun h3 x hx => ⟨(h3 x hx).1, fun hm => (h3 x hx).2 (List.mem_cons_of_mem _ hm)⟩), h4⟩⟩
theorem RdS.fail {w : World} {RB : Nat} {X : List Nat} {l : List Int} {f : Bool} (h : RdS w RB X l f) : RdS (w.setCell ⟨RB, 1, none⟩ (.bool true)) RB X l true := by
  obtain ⟨a, n, c, h1, h2, h3, h4⟩ := h.ex
  refine ⟨⟨a, n, c, h1.set 1 _, ?_, h3, h4⟩⟩
  rcases h3 with rfl | h3
  · exact ints_any h2
  · exact Ints.setFar h2 (fun x hx => (h3 x hx).1) _
def oneV (l : List Int) (f : Bool) : Int := if f then 0 else l.headD 0
def oneL (l : List Int) (f : Bool) : List Int := if f then l else l.tail
def oneF (l : List Int) (f : Bool) : Bool := f || l.isEmpty
set_option maxRecDepth 100000 in
set_option maxHeartbeats 4000000 in
theorem rd_one (RB : Nat) (X : List Nat) (l : List Int) (f : Bool) (w : World) (h : RdS w RB X l f) :
    Calls Try.prog 39 #[.pointer (some ⟨RB, 0, none⟩)] w fun e w' => e = .returned (.int .i64 (oneV l f)) ∧ RdS w' RB X (oneL l f) (oneF l f) ∧ FarB RB w w' := by
  have HFL := Lib.hid h.fail
  obtain ⟨a, n, c, hB, hI, hne, hn⟩ := h.ex
  have hbd := hI.bounds
  obtain ⟨hb1, hb2, hb3⟩ := hbd
  have x0 := hB.cell (j := 0) rfl
  have x1 := hB.cell (j := 1) rfl
  have xf := hB.frozen
  clear h
  cases f with
  | true =>
    clear hB hI hne
    go_enter Try.func39, Try.ntmps39
    go_wp2
    go_ret
    exact ⟨rfl, HFL.out, (FarB.refl RB w).set 1 _⟩
  | false =>
    by_cases h0 : n = 0
    · obtain rfl : l = [] := List.eq_nil_of_length_eq_zero (by rw [hb1]; exact h0)
      have hn0 : ((n : Int) == 0) = true := by rw [beq_iff_eq]; omega
      clear hB hI hne
      subst h0
      go_enter Try.func39, Try.ntmps39
      go_wp2
      go_ret
      exact ⟨rfl, HFL.out, (FarB.refl RB w).set 1 _⟩
    · obtain ⟨b, off, rfl, _, hc⟩ := hI.opened (show 0 < n by omega)
      have hbx := (hne.resolve_left h0) ⟨b, off, none⟩ rfl
      have hn0 : ((n : Int) == 0) = false := by rw [beq_eq_false_iff_ne]; omega
      have hn1 : ¬ (n : Int) = 0 := by omega
      have hn2 : (0 : Int) < (n : Int) := by omega
      have hn3 : (1 : Int) ≤ (n : Int) := by omega
      have hn4 : (n : Int) ≤ (c : Int) := by omega
      cases l with
      | nil => simp at hb1; omega
      | cons y t =>
        have cc := hc 0 (by omega)
        rw [Nat.add_zero, show el (y :: t) 0 = y from rfl] at cc
        have hw1 : 0 ≤ y ∧ y ≤ 255 := in8_of_wf (hI.2 y List.mem_cons_self)
        have hw2 : IntKind.i64.wrap y = y := IntWalk.i64_in _ (by omega)
        have hdr := Ints.drop hI (n := 1) (by omega)
        rw [show (y :: t).drop 1 = t from rfl] at hdr
        clear hc
        by_cases hc1 : c = 1
        · obtain rfl : n = 1 := by omega
          subst hc1
          obtain rfl : t = [] := List.eq_nil_of_length_eq_zero (by simpa using hb1)
          have HR := Lib.hid (show RdS (w.setCell ⟨RB, 0, none⟩ (.slice (some ⟨b, off, none⟩) 0 0)) RB X [] false from ⟨⟨some ⟨b, off, none⟩, 0, 0, hB.set 0 _, ints_zero _ _ _ _ (by omega), .inl rfl, by omega⟩⟩)
          clear hB hI hdr hne hbx HFL
          go_enter Try.func39, Try.ntmps39
          go_wp2
          go_ret
          exact ⟨rfl, HR.out, (FarB.refl RB w).set 0 _⟩
        · have hc2 : ¬ (c : Int) = 1 := by omega
          have HR := Lib.hid (show RdS (w.setCell ⟨RB, 0, none⟩ (.slice (some ⟨b, off + 1, none⟩) (n - 1) (c - 1))) RB X t false from ⟨⟨some ⟨b, off + 1, none⟩, n - 1, c - 1, hB.set 0 _, Ints.setFar hdr (fun x hx => by simp only [Option.some.injEq] at hx; subst hx; exact hbx.1) _, .inr (fun x hx => by simp only [Option.some.injEq] at hx; subst hx; exact hbx), by omega⟩⟩)
          clear hB hI hdr hne hbx HFL
          go_enter Try.func39, Try.ntmps39
          go_wp2
          go_ret
          exact ⟨rfl, HR.out, (FarB.refl RB w).set 0 _⟩
end Go.Proofs.Ytpmkhimmlpnbpaa
