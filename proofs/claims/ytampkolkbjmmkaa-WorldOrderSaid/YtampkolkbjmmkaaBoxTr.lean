
/- The table that a container's turns are read from: a map's literal, filled in whatever order. -/
import Derived.Test.YtampkolkbjmmkaaBase
import Derived.Maps.OwnSet
import Derived.DeepKeys4
namespace Go.Proofs.Ytampkolkbjmmkaa
open Go.RowKit Go.Maps
set_option linter.unusedVariables false

theorem trKeyed : Keyed Try.prog 181 :=
  Keyed.of_law (deep_law_laid laidOut (m := 2) (by omega) (of_decide_eq_true (by kernel_rfl)) (by kernel_rfl) (by rw [Try.underlying181]))

theorem trKey {x y : Int} (hx : InI x) (hy : InI y) : ∃ l, keyOf Try.prog 181 (.agg #[.int .i64 x, .int .i64 y]) = some l := by
  have hwx : (Lit.int .i64 x).wf = true := wfI64 hx.1 hx.2
  have hwy : (Lit.int .i64 y).wf = true := wfI64 hy.1 hy.2
  have hk : Try.prog.keyType 181 = true := by kernel_rfl
  have hc : Try.prog.cellsOf 181 = 2 := by kernel_rfl
  have hc1 : Try.prog.cellsOf 3 = 1 := by kernel_rfl
  obtain ⟨m, hm⟩ : ∃ m, Try.prog.types.size + 1 = m + 2 := ⟨Try.prog.types.size - 1, by have : 1 ≤ Try.prog.types.size := of_decide_eq_true (by kernel_rfl); omega⟩
  have hf : (Value.agg #[.int .i64 x, .int .i64 y]).formed Try.prog 181 = true := by simp [Value.formed, Try.underlying181, hc]
  unfold keyOf
  rw [Try.underlying181]
  simp only [hk, hf, Bool.and_self, if_true, hm]
  simp [Program.keyLits, Try.underlying181, Try.underlying3, hc, hc1, Value.cells, List.range_succ, hwx, hwy]

/-- The state that comes, 0: it may not be asked. -/
def toS (s k : Int) : Int :=
  if k = 1 ∧ s = 1 then 2 else if k = 2 ∧ s = 2 then 3 else if k = 3 ∧ s = 3 then 4 else if k = 4 ∧ (s = 1 ∨ s = 2 ∨ s = 4 ∨ s = 6) then 5 else 0

def trX : Nat → Int | 0 => 1 | 1 => 2 | 2 => 3 | 3 => 1 | 4 => 2 | 5 => 4 | _ => 6
def trY : Nat → Int | 0 => 1 | 1 => 2 | 2 => 3 | _ => 4
def trV : Nat → Int | 0 => 2 | 1 => 3 | 2 => 4 | _ => 5
theorem trXI (j : Nat) : InI (trX j) := by unfold trX; split <;> (unfold InI; omega)
theorem trYI (j : Nat) : InI (trY j) := by unfold trY; split <;> (unfold InI; omega)

/-- What the map holds while those entries j are laid for which s j. -/
def TrAt (w : World) (b n : Nat) (s : Nat → Bool) : Prop :=
  ∃ D : DataW Unit, w.ownsMap Try.prog 181 (plainElem Try.prog 3) b n D ∧
    (∀ j < 7, s j = true → ∀ l, keyOf Try.prog 181 (.agg #[.int .i64 (trX j), .int .i64 (trY j)]) = some l → Maps.has D l = true ∧ D.atKey l (.lit (.int .i64 0)) = .lit (.int .i64 (trV j))) ∧
    (∀ x y, InI x → InI y → (∀ j < 7, s j = true → ¬ (trX j = x ∧ trY j = y)) → ∀ l, keyOf Try.prog 181 (.agg #[.int .i64 x, .int .i64 y]) = some l → Maps.has D l = false ∧ D.atKey l (.lit (.int .i64 0)) = .lit (.int .i64 0))

def upS (s : Nat → Bool) (j : Nat) : Nat → Bool := fun k => if k = j then true else s k

theorem trUniq {i j : Nat} (hi : i < 7) (hj : j < 7) (h : trX i = trX j ∧ trY i = trY j) : i = j := by
  match i, j, hi, hj with
  | 0, 0, _, _ | 1, 1, _, _ | 2, 2, _, _ | 3, 3, _, _ | 4, 4, _, _ | 5, 5, _, _ | 6, 6, _, _ => rfl
  | 0, 1, _, _ | 0, 2, _, _ | 0, 3, _, _ | 0, 4, _, _ | 0, 5, _, _ | 0, 6, _, _
  | 1, 0, _, _ | 1, 2, _, _ | 1, 3, _, _ | 1, 4, _, _ | 1, 5, _, _ | 1, 6, _, _
  | 2, 0, _, _ | 2, 1, _, _ | 2, 3, _, _ | 2, 4, _, _ | 2, 5, _, _ | 2, 6, _, _
  | 3, 0, _, _ | 3, 1, _, _ | 3, 2, _, _ | 3, 4, _, _ | 3, 5, _, _ | 3, 6, _, _
  | 4, 0, _, _ | 4, 1, _, _ | 4, 2, _, _ | 4, 3, _, _ | 4, 5, _, _ | 4, 6, _, _
  | 5, 0, _, _ | 5, 1, _, _ | 5, 2, _, _ | 5, 3, _, _ | 5, 4, _, _ | 5, 6, _, _
  | 6, 0, _, _ | 6, 1, _, _ | 6, 2, _, _ | 6, 3, _, _ | 6, 4, _, _ | 6, 5, _, _ => simp [trX, trY] at h

theorem TrAt.insert {w : World} {b n : Nat} {s : Nat → Bool} {j : Nat} (h : TrAt w b n s) (hj : j < 7) (hs : s j = false) (hn : n < maxLen) :
    ∃ w', (Instr.mapUpdate 179 (.map (some b)) (.agg #[.int .i64 (trX j), .int .i64 (trY j)]) (.int .i64 (trV j))).run Try.prog w = .ok () w' ∧ TrAt w' b (n + 1) (upS s j) ∧ w.grownBy w' (some b) := by
  obtain ⟨D, hown, h1, h2⟩ := h
  obtain ⟨l, hl⟩ := trKey (trXI j) (trYI j)
  have hv : (Lit.int .i64 (trV j)).wf = true := wfI64 (by unfold trV; split <;> omega) (by unfold trV; split <;> omega)
  obtain ⟨w', hrun, hown', hg⟩ := hown.update trKeyed Try.underlying179 hn hl (plainElem_int Try.underlying3 hv)
  refine ⟨w', hrun, ⟨_, hown', fun i hi hsi m hm => ?_, fun x y hx hy hno m hm => ?_⟩, hg⟩
  · by_cases e : i = j
    · subst e
      rw [hl] at hm; cases hm
      exact ⟨has_put_same hown.isMap (trKeyed.key hl) _, atKey_put_same hown.isMap (trKeyed.key hl) _ _⟩
    · have hsi' : s i = true := by simpa [upS, e] using hsi
      have hne : m ≠ l := by
        rintro rfl
        have := trKeyed.inj hm hl
        simp at this
        exact e (trUniq hi hj this)
      rw [has_put_other hne, atKey_put_other hne]
      exact h1 i hi hsi' m hm
  · have hne : m ≠ l := by
      rintro rfl
      have := trKeyed.inj hm hl
      simp at this
      exact hno j hj (by simp [upS]) ⟨this.1.symm, this.2.symm⟩
    rw [has_put_other hne, atKey_put_other hne]
    refine h2 x y hx hy (fun i hi hsi => hno i hi ?_) m hm
    unfold upS
    split
    · rfl
    · exact hsi

set_option maxRecDepth 100000 in
theorem TrAt.look {w : World} {b n : Nat} (h : TrAt w b n (fun _ => true)) {x y : Int} (hx : InI x) (hy : InI y) :
    (Instr.lookup 179 (.map (some b)) (.agg #[.int .i64 x, .int .i64 y]) true).run Try.prog w = .ok (.tuple #[.int .i64 (toS x y), .bool (toS x y != 0)]) w := by
  obtain ⟨D, hown, h1, h2⟩ := h
  obtain ⟨l, hl⟩ := trKey hx hy
  have hz : (zeroValue 3).run Try.prog w = .ok (.int .i64 0) w := by kernel_rfl
  obtain ⟨v, ps, hrun, hv⟩ := hown.look_ok trKeyed Try.underlying179 hz (plainElem_int Try.underlying3 (by decide)) hl
  obtain ⟨c, rfl, hc, _⟩ := plainElem_int_inv Try.underlying3 hv
  simp only [Prod.mk.injEq] at hc
  have key : (∃ j, j < 7 ∧ trX j = x ∧ trY j = y) ∨ (∀ j < 7, (fun _ : Nat => true) j = true → ¬ (trX j = x ∧ trY j = y)) := by
    rcases Classical.em (∃ j, j < 7 ∧ trX j = x ∧ trY j = y) with h | h
    · exact .inl h
    · exact .inr fun j hj _ hh => h ⟨j, hj, hh⟩
  rw [hrun]
  rcases key with ⟨j, hj, rfl, rfl⟩ | hno
  · obtain ⟨g1, g2⟩ := h1 j hj rfl l hl
    rw [g2] at hc
    simp at hc
    rw [g1, ← hc.1]
    match j, hj with
    | 0, _ | 1, _ | 2, _ | 3, _ | 4, _ | 5, _ | 6, _ => simp [trX, trY, trV, toS]
  · obtain ⟨g1, g2⟩ := h2 x y hx hy hno l hl
    rw [g2] at hc
    simp at hc
    rw [g1, ← hc.1]
    have t0 := hno 0 (by omega) rfl
    have t1 := hno 1 (by omega) rfl
    have t2 := hno 2 (by omega) rfl
    have t3 := hno 3 (by omega) rfl
    have t4 := hno 4 (by omega) rfl
    have t5 := hno 5 (by omega) rfl
    have t6 := hno 6 (by omega) rfl
    simp only [trX, trY] at t0 t1 t2 t3 t4 t5 t6
    have : toS x y = 0 := by unfold toS; rw [if_neg (by omega), if_neg (by omega), if_neg (by omega), if_neg (by omega)]
    simp [this]

/-! ### The region that lays the entries, in whatever order. -/
def trLs (s : Nat → Bool) : Array Bool := #[true, true, s 0, true, s 1, true, s 2, true, s 3, true, s 4, true, s 5, true, s 6, false, false]
def trCount (s : Nat → Bool) : Nat := (s 0).toNat + (s 1).toNat + (s 2).toNat + (s 3).toNat + (s 4).toNat + (s 5).toNat + (s 6).toNat
def trNext (b0 b1 b2 b3 b4 b5 b6 : Bool) : List Nat :=
  if b0 && b1 && b2 && b3 && b4 && b5 && b6 then [15] else
  (if b0 then [] else [2]) ++ (if b1 then [] else [4]) ++ (if b2 then [] else [6]) ++ (if b3 then [] else [8]) ++ (if b4 then [] else [10]) ++ (if b5 then [] else [12]) ++ (if b6 then [] else [14])

theorem trLs_all {s : Nat → Bool} (h : trCount s = 7) : ∀ j, j < 7 → s j = true := by
  unfold trCount at h
  have t := fun j => Bool.toNat_le (s j)
  have t0 := t 0; have t1 := t 1; have t2 := t 2; have t3 := t 3; have t4 := t 4; have t5 := t 5; have t6 := t 6
  intro j hj
  match j, hj with
  | 0, _ => simpa using (show (s 0).toNat = 1 by omega)
  | 1, _ => simpa using (show (s 1).toNat = 1 by omega)
  | 2, _ => simpa using (show (s 2).toNat = 1 by omega)
  | 3, _ => simpa using (show (s 3).toNat = 1 by omega)
  | 4, _ => simpa using (show (s 4).toNat = 1 by omega)
  | 5, _ => simpa using (show (s 5).toNat = 1 by omega)
  | 6, _ => simpa using (show (s 6).toNat = 1 by omega)

theorem trLs_full {s : Nat → Bool} (h : ∀ j, j < 7 → s j = true) : trLs s = trLs fun _ => true := by
  unfold trLs
  rw [h 0 (by omega), h 1 (by omega), h 2 (by omega), h 3 (by omega), h 4 (by omega), h 5 (by omega), h 6 (by omega)]

theorem trLs_set (s : Nat → Bool) {j : Nat} (hj : j < 7) : (trLs s).setIfInBounds (2 * j + 2) true = trLs (upS s j) := by
  match j, hj with
  | 0, _ | 1, _ | 2, _ | 3, _ | 4, _ | 5, _ | 6, _ => simp [trLs, upS]

theorem trCount_set {s : Nat → Bool} {j : Nat} (hj : j < 7) (hs : s j = false) : trCount (upS s j) = trCount s + 1 := by
  match j, hj with
  | 0, _ | 1, _ | 2, _ | 3, _ | 4, _ | 5, _ | 6, _ => simp [trCount, upS, hs] <;> omega

theorem trNext_mem {s : Nat → Bool} (h : trCount s < 7) : trNext (s 0) (s 1) (s 2) (s 3) (s 4) (s 5) (s 6) ≠ [] ∧ ∀ i ∈ trNext (s 0) (s 1) (s 2) (s 3) (s 4) (s 5) (s 6), ∃ j, j < 7 ∧ i = 2 * j + 2 ∧ s j = false := by
  unfold trCount at h
  revert h
  have g : ∀ b0 b1 b2 b3 b4 b5 b6 : Bool, b0.toNat + b1.toNat + b2.toNat + b3.toNat + b4.toNat + b5.toNat + b6.toNat < 7 →
      trNext b0 b1 b2 b3 b4 b5 b6 ≠ [] ∧ ∀ i ∈ trNext b0 b1 b2 b3 b4 b5 b6, (i = 2 ∧ b0 = false) ∨ (i = 4 ∧ b1 = false) ∨ (i = 6 ∧ b2 = false) ∨ (i = 8 ∧ b3 = false) ∨ (i = 10 ∧ b4 = false) ∨ (i = 12 ∧ b5 = false) ∨ (i = 14 ∧ b6 = false) := by
    intro b0 b1 b2 b3 b4 b5 b6
    cases b0 <;> cases b1 <;> cases b2 <;> cases b3 <;> cases b4 <;> cases b5 <;> cases b6 <;> simp [trNext]
  intro h
  refine ⟨(g _ _ _ _ _ _ _ h).1, fun i hi => ?_⟩
  rcases (g _ _ _ _ _ _ _ h).2 i hi with ⟨rfl, e⟩ | ⟨rfl, e⟩ | ⟨rfl, e⟩ | ⟨rfl, e⟩ | ⟨rfl, e⟩ | ⟨rfl, e⟩ | ⟨rfl, e⟩
  · exact ⟨0, by omega, rfl, e⟩
  · exact ⟨1, by omega, rfl, e⟩
  · exact ⟨2, by omega, rfl, e⟩
  · exact ⟨3, by omega, rfl, e⟩
  · exact ⟨4, by omega, rfl, e⟩
  · exact ⟨5, by omega, rfl, e⟩
  · exact ⟨6, by omega, rfl, e⟩

theorem trIns {ops : Array Oper} {Q : Exit → Act → World → Prop} {a : Act} {b : Nat}
    (hrdy : ∀ b0 b1 b2 b3 b4 b5 b6, Region.ready .any ops #[true, true, b0, true, b1, true, b2, true, b3, true, b4, true, b5, true, b6, false, false] = trNext b0 b1 b2 b3 b4 b5 b6)
    (hop : ∀ j, j < 7 → ∃ o, ops[2 * j + 2]? = some o ∧ o.guard = none ∧ o.dst = none ∧ o.op = .insert 179 (.tmp 1) (.tmp (j + 2)) (.const (.int .i64 (trV j))))
    (ha : a.eval (.tmp 1) = .map (some b)) (hk : ∀ j, j < 7 → a.eval (.tmp (j + 2)) = .agg #[.int .i64 (trX j), .int .i64 (trY j)]) {B : Nat} (hB : B ≤ b) {w0 : World}
    (hend : ∀ w', TrAt w' b 7 (fun _ => true) → Below B w0 w' → wpAny Try.prog .any ops Q 2 (trLs fun _ => true) a w') (r : Nat) :
    ∀ (s : Nat → Bool) (w : World), trCount s + r = 7 → TrAt w b (trCount s) s → Below B w0 w → B ≤ w.heap.size → wpAny Try.prog .any ops Q (r + 2) (trLs s) a w := by
  induction r with
  | zero =>
    intro s w hr hat hbel _
    have e7 : trCount s = 7 := by omega
    have hall := trLs_all e7
    rw [e7] at hat
    rw [trLs_full hall]
    refine hend w ?_ hbel
    obtain ⟨D, hown, h1, h2⟩ := hat
    exact ⟨D, hown, fun j hj _ => h1 j hj (hall j hj), fun x y hx hy hno => h2 x y hx hy fun j hj _ => hno j hj rfl⟩
  | succ r ih =>
    intro s w hr hat hbel hsz
    obtain ⟨hne, hmem⟩ := trNext_mem (s := s) (by omega)
    refine wpAny_all (rs := trNext (s 0) (s 1) (s 2) (s 3) (s 4) (s 5) (s 6)) (hrdy _ _ _ _ _ _ _) hne fun i hi => ?_
    obtain ⟨j, hj, rfl, hs⟩ := hmem i hi
    obtain ⟨o, ho, hg, hd, hp⟩ := hop j hj
    refine wpOp_step ho (fun K' hK => ?_)
    have hw : Region.wanted o (yielded ops a.tmps) = true := by simp [Region.wanted, hg]
    rw [if_pos hw]
    obtain ⟨w', hrun, hat', hgr⟩ := hat.insert hj hs (by unfold maxLen; omega)
    unfold Oper.wp
    simp only [execOp, hp, ha, hk j hj]
    simp [Act.eval, hrun, Result.andThen, Oper.upon]
    refine hK _ _ ?_
    rw [trLs_set s hj, hd]
    have hcnt := trCount_set hj hs
    exact ih (upS s j) w' (by omega) (by rw [hcnt]; exact hat') (hbel.grown hgr hsz (fun j hj => by cases hj; exact hB)) (Nat.le_trans hsz hgr.size)
end Go.Proofs.Ytampkolkbjmmkaa
