
/- Stage 16: a made slice in a drawn region. -/
import Derived.Test.YtcnjcldfbidkmaaAwake16
namespace Go.Proofs.Ytcnjcldfbidkmaa
open Go.RowKit Go.Sort
set_option linter.unusedVariables false
set_option linter.unusedSimpArgs false
theorem op_makeB {P : Program} {w : World} {o : Oper} {a : Act} {K : Act → World → Prop} {Q : Exit → Act → World → Prop} {E : Prop} {ops : Array Oper} {tm : Array Value} (hw : Region.wanted o (yielded ops tm) = true) (l c : Operand) (t : TypeId)
    (ho : o.op = Op.makeSlice t l c) (e : TypeId) (h1 : P.underlying t = some (.slice e)) (hi : (P.info? e).map (fun i => (i.zero, i.size, i.bytes)) = some (some (.bool false), 1, 1))
    (n : Nat) (hl : a.eval l = .int .i64 (n : Int)) (hc : a.eval c = .int .i64 (n : Int)) (hn : n ≤ 100000)
    (h : ∀ w', Row w' (some ⟨w.heap.size, 0, none⟩) n n 1 ((List.replicate n false).map Value.bool) → Below w.heap.size w w' → K (a.put o.dst (.slice (some ⟨w.heap.size, 0, none⟩) n n)) w') : if Region.wanted o (yielded ops tm) = true then Oper.wp P o a w K Q else E := by
  rw [if_pos hw]
  obtain ⟨i, hi0, hz, hszi, hbs⟩ : ∃ i, P.info? e = some i ∧ i.zero = some (.bool false) ∧ i.size = 1 ∧ i.bytes = 1 := by
    cases hp : P.info? e with
    | none => rw [hp] at hi; simp at hi
    | some i => rw [hp] at hi; simp at hi; exact ⟨i, rfl, hi.1, hi.2.1, hi.2.2⟩
  obtain ⟨w', hrun, r1, r2⟩ := run_make_full (P := P) w w.heap.size t e i (.bool false) 1 h1 hi0 hz hszi .i64 .i64 n (by rw [hbs]; omega) (by unfold maxLen; omega) (Nat.le_refl _)
  unfold Oper.wp
  simp [execOp, ho, hl, hc, hrun, Result.andThen]
  refine h w' ?_ ((Below.refl _ _).grown r2 (Nat.le_refl _) (fun q hq => by cases hq))
  rw [show (Value.bool false).cells = #[.bool false] from rfl, Nat.mul_one, toList_madeCells_one] at r1
  obtain ⟨a2, c2, e2, hr⟩ := rowR_of_own (show OwnR w' w.heap.size e 1 _ n (List.replicate n (Value.bool false)) from r1)
  simp only [Value.slice.injEq, true_and] at e2
  obtain ⟨rfl, rfl⟩ := e2
  rw [List.map_replicate]
  exact hr
theorem wl_NewM (r : Int) (w u : World) (hb : Below w.heap.size w u) :
    Calls Try.prog 18 #[.int .i64 r] u fun e w' => ∃ M, e = .returned (.pointer (some ⟨M, 0, none⟩)) ∧ WL w w' M [] ⟨r, [], [], []⟩ ∧ Below u.heap.size u w' := by
  refine (wl_New r w u hb).mono ?_
  rintro e w' ⟨rfl, h1, h2⟩
  exact ⟨_, rfl, h1, h2⟩
theorem rep_len (n : Nat) (b : Bool) : (List.replicate n b).length = n := List.length_replicate
theorem bools_row {w : World} {d : Option Addr} {wl wc : Nat} {V : List Bool} (h : Bools w d wl wc V) : V.length = wl ∧ Row w d wl wc 1 (V.map Value.bool) := by
  have h1 : Row w d wl wc 1 (V.map Value.bool) := h
  exact ⟨by have := h1.1; simpa using this, h1⟩
theorem turn_to {n : Nat} {z : Int} (h : 0 ≤ z) (hn : 0 < n) : ∃ k : Nat, Int.tmod z (n : Int) = (k : Int) ∧ z % (n : Int) = (k : Int) ∧ k < n := by
  have h1 : Int.tmod z (n : Int) = z % (n : Int) := Int.tmod_eq_emod_of_nonneg h
  have h2 := Int.emod_nonneg z (show (n : Int) ≠ 0 by omega)
  have h3 := Int.emod_lt_of_pos z (show (0 : Int) < (n : Int) by omega)
  exact ⟨(z % (n : Int)).toNat, by rw [h1]; omega, by omega, by omega⟩
end Go.Proofs.Ytcnjcldfbidkmaa
