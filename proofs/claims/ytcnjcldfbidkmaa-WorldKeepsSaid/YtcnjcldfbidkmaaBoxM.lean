
/- The table that a container's turns are read from: a map's literal, filled in whatever order. Contracts of package box and of its reference. -/
import Derived.Test.YtcnjcldfbidkmaaBase
import Derived.Maps.OwnSet
import Derived.DeepKeys4
import Derived.Test.YtcnjcldfbidkmaaSat
namespace Go.Proofs.Ytcnjcldfbidkmaa
open Go.RowKit Go.Maps
set_option linter.unusedVariables false

theorem trKeyed : Keyed Try.prog 202 :=
  Keyed.of_law (deep_law_laid laidOut (m := 2) (by omega) (of_decide_eq_true (by kernel_rfl)) (by kernel_rfl) (by rw [Try.underlying202]))

theorem trKey {x y : Int} (hx : InI x) (hy : InI y) : ∃ l, keyOf Try.prog 202 (.agg #[.int .i64 x, .int .i64 y]) = some l := by
  have hwx : (Lit.int .i64 x).wf = true := wfI64 hx.1 hx.2
  have hwy : (Lit.int .i64 y).wf = true := wfI64 hy.1 hy.2
  have hk : Try.prog.keyType 202 = true := by kernel_rfl
  have hc : Try.prog.cellsOf 202 = 2 := by kernel_rfl
  have hc1 : Try.prog.cellsOf 3 = 1 := by kernel_rfl
  obtain ⟨m, hm⟩ : ∃ m, Try.prog.types.size + 1 = m + 2 := ⟨Try.prog.types.size - 1, by have : 1 ≤ Try.prog.types.size := of_decide_eq_true (by kernel_rfl); omega⟩
  have hf : (Value.agg #[.int .i64 x, .int .i64 y]).formed Try.prog 202 = true := by simp [Value.formed, Try.underlying202, hc]
  unfold keyOf
  rw [Try.underlying202]
  simp only [hk, hf, Bool.and_self, if_true, hm]
  simp [Program.keyLits, Try.underlying202, Try.underlying3, hc, hc1, Value.cells, List.range_succ, hwx, hwy]

/-- The state that comes, 0: it may not be asked. -/
def toS (s k : Int) : Int :=
  if k = 1 ∧ s = 1 then 2 else if k = 2 ∧ s = 2 then 3 else if k = 3 ∧ s = 3 then 4 else if k = 4 ∧ (s = 1 ∨ s = 2 ∨ s = 4 ∨ s = 6) then 5 else 0

def trX : Nat → Int | 0 => 1 | 1 => 2 | 2 => 3 | 3 => 1 | 4 => 2 | 5 => 4 | _ => 6
def trY : Nat → Int | 0 => 1 | 1 => 2 | 2 => 3 | _ => 4
def trV : Nat → Int | 0 => 2 | 1 => 3 | 2 => 4 | _ => 5
theorem trXI (j : Nat) : InI (trX j) := by unfold trX; split <;> (unfold InI; omega)
theorem trYI (j : Nat) : InI (trY j) := by unfold trY; split <;> (unfold InI; omega)

/-- What the map holds while those entries j are laid for which s j. -/
def TrAt (w : World) (b n : Nat) (s : Nat → Bool) : Prop :=
  ∃ D : DataW Unit, w.ownsMap Try.prog 202 (plainElem Try.prog 3) b n D ∧
    (∀ j < 7, s j = true → ∀ l, keyOf Try.prog 202 (.agg #[.int .i64 (trX j), .int .i64 (trY j)]) = some l → Maps.has D l = true ∧ D.atKey l (.lit (.int .i64 0)) = .lit (.int .i64 (trV j))) ∧
    (∀ x y, InI x → InI y → (∀ j < 7, s j = true → ¬ (trX j = x ∧ trY j = y)) → ∀ l, keyOf Try.prog 202 (.agg #[.int .i64 x, .int .i64 y]) = some l → Maps.has D l = false ∧ D.atKey l (.lit (.int .i64 0)) = .lit (.int .i64 0))

def upS (s : Nat → Bool) (j : Nat) : Nat → Bool := fun k => if k = j then true else s k

theorem trUniq {i j : Nat} (hi : i < 7) (hj : j < 7) (h : trX i = trX j ∧ trY i = trY j) : i = j := by
  match i, j, hi, hj with
  | 0, 0, _, _ | 1, 1, _, _ | 2, 2, _, _ | 3, 3, _, _ | 4, 4, _, _ | 5, 5, _, _ | 6, 6, _, _ => rfl
  | 0, 1, _, _ | 0, 2, _, _ | 0, 3, _, _ | 0, 4, _, _ | 0, 5, _, _ | 0, 6, _, _
  | 1, 0, _, _ | 1, 2, _, _ | 1, 3, _, _ | 1, 4, _, _ | 1, 5, _, _ | 1, 6, _, _
  | 2, 0, _, _ | 2, 1, _, _ | 2, 3, _, _ | 2, 4, _, _ | 2, 5, _, _ | 2, 6, _, _
  | 3, 0, _, _ | 3, 1, _, _ | 3, 2, _, _ | 3, 4, _, _ | 3, 5, _, _ | 3, 6, _, _
  | 4, 0, _, _ | 4, 1, _, _ | 4, 2, _, _ | 4, 3, _, _ | 4, 5, _, _ | 4, 6, _, _
  | 5, 0, _, _ | 5, 1, _, _ | 5, 2, _, _ | 5, 3, _, _ | 5, 4, _, _ | 5, 6, _, _
  | 6, 0, _, _ | 6, 1, _, _ | 6, 2, _, _ | 6, 3, _, _ | 6, 4, _, _ | 6, 5, _, _ => simp [trX, trY] at h

theorem TrAt.insert {w : World} {b n : Nat} {s : Nat → Bool} {j : Nat} (h : TrAt w b n s) (hj : j < 7) (hs : s j = false) (hn : n < maxLen) :
    ∃ w', (Instr.mapUpdate 200 (.map (some b)) (.agg #[.int .i64 (trX j), .int .i64 (trY j)]) (.int .i64 (trV j))).run Try.prog w = .ok () w' ∧ TrAt w' b (n + 1) (upS s j) ∧ w.grownBy w' (some b) := by
  obtain ⟨D, hown, h1, h2⟩ := h
  obtain ⟨l, hl⟩ := trKey (trXI j) (trYI j)
  have hv : (Lit.int .i64 (trV j)).wf = true := wfI64 (by unfold trV; split <;> omega) (by unfold trV; split <;> omega)
  obtain ⟨w', hrun, hown', hg⟩ := hown.update trKeyed Try.underlying200 hn hl (plainElem_int Try.underlying3 hv)
  refine ⟨w', hrun, ⟨_, hown', fun i hi hsi m hm => ?_, fun x y hx hy hno m hm => ?_⟩, hg⟩
  · by_cases e : i = j
    · subst e
      rw [hl] at hm; cases hm
      exact ⟨has_put_same hown.isMap (trKeyed.key hl) _, atKey_put_same hown.isMap (trKeyed.key hl) _ _⟩
    · have hsi' : s i = true := by simpa [upS, e] using hsi
      have hne : m ≠ l := by
        rintro rfl
        have := trKeyed.inj hm hl
        simp at this
        exact e (trUniq hi hj this)
      rw [has_put_other hne, atKey_put_other hne]
      exact h1 i hi hsi' m hm
  · have hne : m ≠ l := by
      rintro rfl
      have := trKeyed.inj hm hl
      simp at this
      exact hno j hj (by simp [upS]) ⟨this.1.symm, this.2.symm⟩
    rw [has_put_other hne, atKey_put_other hne]
    refine h2 x y hx hy (fun i hi hsi => hno i hi ?_) m hm
    unfold upS
    split
    · rfl
    · exact hsi

set_option maxRecDepth 100000 in
theorem TrAt.look {w : World} {b n : Nat} (h : TrAt w b n (fun _ => true)) {x y : Int} (hx : InI x) (hy : InI y) :
    (Instr.lookup 200 (.map (some b)) (.agg #[.int .i64 x, .int .i64 y]) true).run Try.prog w = .ok (.tuple #[.int .i64 (toS x y), .bool (toS x y != 0)]) w := by
  obtain ⟨D, hown, h1, h2⟩ := h
  obtain ⟨l, hl⟩ := trKey hx hy
  have hz : (zeroValue 3).run Try.prog w = .ok (.int .i64 0) w := by kernel_rfl
  obtain ⟨v, ps, hrun, hv⟩ := hown.look_ok trKeyed Try.underlying200 hz (plainElem_int Try.underlying3 (by decide)) hl
  obtain ⟨c, rfl, hc, _⟩ := plainElem_int_inv Try.underlying3 hv
  simp only [Prod.mk.injEq] at hc
  have key : (∃ j, j < 7 ∧ trX j = x ∧ trY j = y) ∨ (∀ j < 7, (fun _ : Nat => true) j = true → ¬ (trX j = x ∧ trY j = y)) := by
    rcases Classical.em (∃ j, j < 7 ∧ trX j = x ∧ trY j = y) with h | h
    · exact .inl h
    · exact .inr fun j hj _ hh => h ⟨j, hj, hh⟩
  rw [hrun]
  rcases key with ⟨j, hj, rfl, rfl⟩ | hno
  · obtain ⟨g1, g2⟩ := h1 j hj rfl l hl
    rw [g2] at hc
    simp at hc
    rw [g1, ← hc.1]
    match j, hj with
    | 0, _ | 1, _ | 2, _ | 3, _ | 4, _ | 5, _ | 6, _ => simp [trX, trY, trV, toS]
  · obtain ⟨g1, g2⟩ := h2 x y hx hy hno l hl
    rw [g2] at hc
    simp at hc
    rw [g1, ← hc.1]
    have t0 := hno 0 (by omega) rfl
    have t1 := hno 1 (by omega) rfl
    have t2 := hno 2 (by omega) rfl
    have t3 := hno 3 (by omega) rfl
    have t4 := hno 4 (by omega) rfl
    have t5 := hno 5 (by omega) rfl
    have t6 := hno 6 (by omega) rfl
    simp only [trX, trY] at t0 t1 t2 t3 t4 t5 t6
    have : toS x y = 0 := by unfold toS; rw [if_neg (by omega), if_neg (by omega), if_neg (by omega), if_neg (by omega)]
    simp [this]

/-! ### The region that lays the entries, in whatever order. -/
def trLs (s : Nat → Bool) : Array Bool := #[true, true, s 0, true, s 1, true, s 2, true, s 3, true, s 4, true, s 5, true, s 6, false, false]
def trCount (s : Nat → Bool) : Nat := (s 0).toNat + (s 1).toNat + (s 2).toNat + (s 3).toNat + (s 4).toNat + (s 5).toNat + (s 6).toNat
def trNext (b0 b1 b2 b3 b4 b5 b6 : Bool) : List Nat :=
  if b0 && b1 && b2 && b3 && b4 && b5 && b6 then [15] else
  (if b0 then [] else [2]) ++ (if b1 then [] else [4]) ++ (if b2 then [] else [6]) ++ (if b3 then [] else [8]) ++ (if b4 then [] else [10]) ++ (if b5 then [] else [12]) ++ (if b6 then [] else [14])

theorem trLs_all {s : Nat → Bool} (h : trCount s = 7) : ∀ j, j < 7 → s j = true := by
  unfold trCount at h
  have t := fun j => Bool.toNat_le (s j)
  have t0 := t 0; have t1 := t 1; have t2 := t 2; have t3 := t 3; have t4 := t 4; have t5 := t 5; have t6 := t 6
  intro j hj
  match j, hj with
  | 0, _ => simpa using (show (s 0).toNat = 1 by omega)
  | 1, _ => simpa using (show (s 1).toNat = 1 by omega)
  | 2, _ => simpa using (show (s 2).toNat = 1 by omega)
  | 3, _ => simpa using (show (s 3).toNat = 1 by omega)
  | 4, _ => simpa using (show (s 4).toNat = 1 by omega)
  | 5, _ => simpa using (show (s 5).toNat = 1 by omega)
  | 6, _ => simpa using (show (s 6).toNat = 1 by omega)

theorem trLs_full {s : Nat → Bool} (h : ∀ j, j < 7 → s j = true) : trLs s = trLs fun _ => true := by
  unfold trLs
  rw [h 0 (by omega), h 1 (by omega), h 2 (by omega), h 3 (by omega), h 4 (by omega), h 5 (by omega), h 6 (by omega)]

theorem trLs_set (s : Nat → Bool) {j : Nat} (hj : j < 7) : (trLs s).setIfInBounds (2 * j + 2) true = trLs (upS s j) := by
  match j, hj with
  | 0, _ | 1, _ | 2, _ | 3, _ | 4, _ | 5, _ | 6, _ => simp [trLs, upS]

theorem trCount_set {s : Nat → Bool} {j : Nat} (hj : j < 7) (hs : s j = false) : trCount (upS s j) = trCount s + 1 := by
  match j, hj with
  | 0, _ | 1, _ | 2, _ | 3, _ | 4, _ | 5, _ | 6, _ => simp [trCount, upS, hs] <;> omega

theorem trNext_mem {s : Nat → Bool} (h : trCount s < 7) : trNext (s 0) (s 1) (s 2) (s 3) (s 4) (s 5) (s 6) ≠ [] ∧ ∀ i ∈ trNext (s 0) (s 1) (s 2) (s 3) (s 4) (s 5) (s 6), ∃ j, j < 7 ∧ i = 2 * j + 2 ∧ s j = false := by
  unfold trCount at h
  revert h
  have g : ∀ b0 b1 b2 b3 b4 b5 b6 : Bool, b0.toNat + b1.toNat + b2.toNat + b3.toNat + b4.toNat + b5.toNat + b6.toNat < 7 →
      trNext b0 b1 b2 b3 b4 b5 b6 ≠ [] ∧ ∀ i ∈ trNext b0 b1 b2 b3 b4 b5 b6, (i = 2 ∧ b0 = false) ∨ (i = 4 ∧ b1 = false) ∨ (i = 6 ∧ b2 = false) ∨ (i = 8 ∧ b3 = false) ∨ (i = 10 ∧ b4 = false) ∨ (i = 12 ∧ b5 = false) ∨ (i = 14 ∧ b6 = false) := by
    intro b0 b1 b2 b3 b4 b5 b6
    cases b0 <;> cases b1 <;> cases b2 <;> cases b3 <;> cases b4 <;> cases b5 <;> cases b6 <;> simp [trNext]
  intro h
  refine ⟨(g _ _ _ _ _ _ _ h).1, fun i hi => ?_⟩
  rcases (g _ _ _ _ _ _ _ h).2 i hi with ⟨rfl, e⟩ | ⟨rfl, e⟩ | ⟨rfl, e⟩ | ⟨rfl, e⟩ | ⟨rfl, e⟩ | ⟨rfl, e⟩ | ⟨rfl, e⟩
  · exact ⟨0, by omega, rfl, e⟩
  · exact ⟨1, by omega, rfl, e⟩
  · exact ⟨2, by omega, rfl, e⟩
  · exact ⟨3, by omega, rfl, e⟩
  · exact ⟨4, by omega, rfl, e⟩
  · exact ⟨5, by omega, rfl, e⟩
  · exact ⟨6, by omega, rfl, e⟩

theorem trIns {ops : Array Oper} {Q : Exit → Act → World → Prop} {a : Act} {b : Nat}
    (hrdy : ∀ b0 b1 b2 b3 b4 b5 b6, Region.ready .any ops #[true, true, b0, true, b1, true, b2, true, b3, true, b4, true, b5, true, b6, false, false] = trNext b0 b1 b2 b3 b4 b5 b6)
    (hop : ∀ j, j < 7 → ∃ o, ops[2 * j + 2]? = some o ∧ o.guard = none ∧ o.dst = none ∧ o.op = .insert 200 (.tmp 1) (.tmp (j + 2)) (.const (.int .i64 (trV j))))
    (ha : a.eval (.tmp 1) = .map (some b)) (hk : ∀ j, j < 7 → a.eval (.tmp (j + 2)) = .agg #[.int .i64 (trX j), .int .i64 (trY j)]) {B : Nat} (hB : B ≤ b) {w0 : World}
    (hend : ∀ w', TrAt w' b 7 (fun _ => true) → Below B w0 w' → wpAny Try.prog .any ops Q 2 (trLs fun _ => true) a w') (r : Nat) :
    ∀ (s : Nat → Bool) (w : World), trCount s + r = 7 → TrAt w b (trCount s) s → Below B w0 w → B ≤ w.heap.size → wpAny Try.prog .any ops Q (r + 2) (trLs s) a w := by
  induction r with
  | zero =>
    intro s w hr hat hbel _
    have e7 : trCount s = 7 := by omega
    have hall := trLs_all e7
    rw [e7] at hat
    rw [trLs_full hall]
    refine hend w ?_ hbel
    obtain ⟨D, hown, h1, h2⟩ := hat
    exact ⟨D, hown, fun j hj _ => h1 j hj (hall j hj), fun x y hx hy hno => h2 x y hx hy fun j hj _ => hno j hj rfl⟩
  | succ r ih =>
    intro s w hr hat hbel hsz
    obtain ⟨hne, hmem⟩ := trNext_mem (s := s) (by omega)
    refine wpAny_all (rs := trNext (s 0) (s 1) (s 2) (s 3) (s 4) (s 5) (s 6)) (hrdy _ _ _ _ _ _ _) hne fun i hi => ?_
    obtain ⟨j, hj, rfl, hs⟩ := hmem i hi
    obtain ⟨o, ho, hg, hd, hp⟩ := hop j hj
    refine wpOp_step ho (fun K' hK => ?_)
    have hw : Region.wanted o (yielded ops a.tmps) = true := by simp [Region.wanted, hg]
    rw [if_pos hw]
    obtain ⟨w', hrun, hat', hgr⟩ := hat.insert hj hs (by unfold maxLen; omega)
    unfold Oper.wp
    simp only [execOp, hp, ha, hk j hj]
    simp [Act.eval, hrun, Result.andThen, Oper.upon]
    refine hK _ _ ?_
    rw [trLs_set s hj, hd]
    have hcnt := trCount_set hj hs
    exact ih (upS s j) w' (by omega) (by rw [hcnt]; exact hat') (hbel.grown hgr hsz (fun j hj => by cases hj; exact hB)) (Nat.le_trans hsz hgr.size)
end Go.Proofs.Ytcnjcldfbidkmaa
namespace Go.Proofs.Ytcnjcldfbidkmaa
open Go.RowKit
set_option linter.unusedVariables false

set_option maxHeartbeats 1000000 in
theorem box_transitions (w : World) :
    Calls Try.prog 135 #[] w fun e w' => ∃ b, e = .returned (.map (some b)) ∧ TrAt w' b 7 (fun _ => true) ∧ Below w.heap.size w w' := by
  go_enter Try.func135, Try.ntmps135
  go_wp2
  refine wp_region_any (by kernel_rfl) ?_
  change wpAny _ _ _ _ _ _ _ (World.drew _)
  refine wpAny_take (i := 1) (v := .agg #[.int .i64 (trX 0), .int .i64 (trY 0)]) rfl (by kernel_rfl) (by kernel_rfl) (by kernel_rfl) (fun _ _ _ h => h) (Or.inl ⟨by rfl, by intro w; go_simp; exact ⟨rfl, rfl⟩⟩) ?_
  refine wpAny_take (i := 3) (v := .agg #[.int .i64 (trX 1), .int .i64 (trY 1)]) rfl (by kernel_rfl) (by kernel_rfl) (by kernel_rfl) (fun _ _ _ h => h) (Or.inl ⟨by rfl, by intro w; go_simp; exact ⟨rfl, rfl⟩⟩) ?_
  refine wpAny_take (i := 5) (v := .agg #[.int .i64 (trX 2), .int .i64 (trY 2)]) rfl (by kernel_rfl) (by kernel_rfl) (by kernel_rfl) (fun _ _ _ h => h) (Or.inl ⟨by rfl, by intro w; go_simp; exact ⟨rfl, rfl⟩⟩) ?_
  refine wpAny_take (i := 7) (v := .agg #[.int .i64 (trX 3), .int .i64 (trY 3)]) rfl (by kernel_rfl) (by kernel_rfl) (by kernel_rfl) (fun _ _ _ h => h) (Or.inl ⟨by rfl, by intro w; go_simp; exact ⟨rfl, rfl⟩⟩) ?_
  refine wpAny_take (i := 9) (v := .agg #[.int .i64 (trX 4), .int .i64 (trY 4)]) rfl (by kernel_rfl) (by kernel_rfl) (by kernel_rfl) (fun _ _ _ h => h) (Or.inl ⟨by rfl, by intro w; go_simp; exact ⟨rfl, rfl⟩⟩) ?_
  refine wpAny_take (i := 11) (v := .agg #[.int .i64 (trX 5), .int .i64 (trY 5)]) rfl (by kernel_rfl) (by kernel_rfl) (by kernel_rfl) (fun _ _ _ h => h) (Or.inl ⟨by rfl, by intro w; go_simp; exact ⟨rfl, rfl⟩⟩) ?_
  refine wpAny_take (i := 13) (v := .agg #[.int .i64 (trX 6), .int .i64 (trY 6)]) rfl (by kernel_rfl) (by kernel_rfl) (by kernel_rfl) (fun _ _ _ h => h) (Or.inl ⟨by rfl, by intro w; go_simp; exact ⟨rfl, rfl⟩⟩) ?_
  refine wpAny_ready (rs := [0]) (by kernel_rfl) (by simp) ?_
  refine AllReady.cons rfl (fun K hK => ?_) AllReady.nil
  go_simp
  refine hK _ _ ?_
  clear hK K
  refine trIns (b := w.heap.size) (B := w.heap.size) (w0 := w) (r := 7) ?_ ?_ ?_ ?_ (Nat.le_refl _) ?_ (fun _ => false) _ ?_ ?_ ?_ ?_
  · intro b0 b1 b2 b3 b4 b5 b6
    cases b0 <;> cases b1 <;> cases b2 <;> cases b3 <;> cases b4 <;> cases b5 <;> cases b6 <;> kernel_rfl
  · intro j hj
    match j, hj with
    | 0, _ | 1, _ | 2, _ | 3, _ | 4, _ | 5, _ | 6, _ => exact ⟨_, rfl, rfl, rfl, rfl⟩
  · rfl
  · intro j hj
    match j, hj with
    | 0, _ | 1, _ | 2, _ | 3, _ | 4, _ | 5, _ | 6, _ => rfl
  · intro w' hat hb
    refine wpAny_take (i := 15) (v := .map (some w.heap.size)) rfl (by kernel_rfl) (by kernel_rfl) (by kernel_rfl) (fun _ _ _ h => h) (Or.inl ⟨by rfl, by intro w; rfl⟩) ?_
    refine wpAny_take (i := 16) (v := .map (some w.heap.size)) rfl (by kernel_rfl) (by kernel_rfl) (by kernel_rfl) (fun _ _ _ h => h) (Or.inl ⟨by rfl, by intro w; rfl⟩) ?_
    refine wpAny_done (by kernel_rfl) ?_ _
    go_wp2
    go_ret
    exact ⟨_, rfl, hat, hb⟩
  · rfl
  · exact ⟨_, World.ownsMap_made _ _ _ _, fun j hj h => (by cases h), fun x y _ _ _ l _ => ⟨rfl, rfl⟩⟩
  · exact ((Below.refl w.heap.size w).drew.alloc (Nat.le_refl _) _ : Below _ _ (w.drew.alloc (.map #[] 0)))
  · simp

def failN (t r : Int) : Int := satAdd t 1
def failS (s t r : Int) : Int := if r < satAdd t 1 then 6 else s
def doS (s t k : Int) (well : Bool) (r : Int) : Int := if toS s k = 0 then s else if well then toS s k else failS s t r
def doN (s t k : Int) (well : Bool) (r : Int) : Int := if toS s k = 0 then t else if well then 0 else satAdd t 1
def doE (s k : Int) : Int := if toS s k = 0 then 7 else 0
theorem ret_box {a b c d : Int} (h : a = c) (h' : b = d) : Ending.returned (.agg #[.int .i64 a, .int .i64 b]) = .returned (.agg #[.int .i64 c, .int .i64 d]) := by rw [h, h']
theorem satAdd_1 (t : Int) : satAdd t 1 = if t < 9223372036854775807 then max t 0 + 1 else 9223372036854775807 := by unfold satAdd; omega
theorem toS_bd (s k : Int) : 0 ≤ toS s k ∧ toS s k ≤ 6 := by unfold toS; repeat (split <;> try omega)

set_option maxHeartbeats 400000 in
theorem box_New (w : World) : Calls Try.prog 91 #[] w fun e w' => e = .returned (.agg #[.int .i64 1, .int .i64 0]) ∧ Below w.heap.size w w' := by
  go_enter Try.func91, Try.ntmps91
  go_wp2
  simp [bodyPost, results, Try.results91, go_sem]
  exact (by repeat (first | exact Below.refl _ _ | refine Below.alloc ?_ (by simp) _ | refine Below.setCell ?_ (by simp) _))

set_option maxHeartbeats 1000000 in
theorem box_fail (s t r : Int) (w : World) (ht : InI t) :
    Calls Try.prog 136 #[.agg #[.int .i64 s, .int .i64 t], .int .i64 r] w fun e w' => e = .returned (.agg #[.int .i64 (failS s t r), .int .i64 (satAdd t 1)]) ∧ Below w.heap.size w w' := by
  have key : r < satAdd t 1 ∨ ¬ r < satAdd t 1 := by omega
  rcases key with h | h
  all_goals
    go_enter Try.func136, Try.ntmps136
    go_wp2_with (first | (go_at_call 151; refine (sat_Add _ _ _ ht (by unfold InI; omega)).mono ?_; rintro e w' ⟨rfl, rfl⟩))
    simp [bodyPost, results, Try.results136, go_sem]
    refine ⟨?_, (by repeat (first | exact Below.refl _ _ | refine Below.alloc ?_ (by simp) _ | refine Below.setCell ?_ (by simp) _))⟩
    unfold failS; simp <;> omega

set_option maxHeartbeats 1000000 in
theorem box_May (s t k : Int) (w : World) (hs : InI s) (hk : InI k) :
    Calls Try.prog 107 #[.agg #[.int .i64 s, .int .i64 t], .int .i64 k] w fun e w' => e = .returned (.bool (toS s k != 0)) ∧ Below w.heap.size w w' := by
  go_enter Try.func107, Try.ntmps107
  go_wp2
  have c0 : (w.alloc (.cells #[.int .i64 s, .int .i64 t] 38)).cell? ⟨w.heap.size, 0, none⟩ = some (.int .i64 s) := by simp
  have hbel : Below w.heap.size w (w.alloc (.cells #[.int .i64 s, .int .i64 t] 38)) := (Below.refl _ _).alloc (Nat.le_refl _) _
  generalize w.alloc (.cells #[.int .i64 s, .int .i64 t] 38) = w1 at *
  replace c0 := keep c0
  (first | go_region_held3 (fun w' => w'.cell? ⟨w.heap.size, 0, none⟩ = some (.int .i64 s)) (first | exact c0 _ (by repeat (first | assumption | exact Below.refl _ _ | refine belAlloc ?_ _ | refine belDrew ?_ | refine belSet ?_ _ _ (by simp) | refine belStep ?_ (by assumption)))) (first | (go_at_call 135; refine (box_transitions _).mono ?_; rintro e w2 ⟨b, rfl, hat, hb1⟩; have hlk := hat.look hs hk)) | fail)
  all_goals
    go_wp2
    go_ret
    exact ⟨rfl, belStep (belDrew hbel) hb1⟩

set_option maxHeartbeats 2000000 in
theorem box_Do (s t k : Int) (well : Bool) (r : Int) (w : World) (hs : InI s) (ht : InI t) (hk : InI k) :
    Calls Try.prog 108 #[.agg #[.int .i64 s, .int .i64 t], .int .i64 k, .bool well, .int .i64 r] w fun e w' =>
      e = .returned (.tuple #[.agg #[.int .i64 (doS s t k well r), .int .i64 (doN s t k well r)], .int .i64 (doE s k)]) ∧ Below w.heap.size w w' := by
  have key : (toS s k = 0 ∧ (toS s k != 0) = false) ∨ (toS s k ≠ 0 ∧ (toS s k != 0) = true ∧ well = true) ∨ (toS s k ≠ 0 ∧ (toS s k != 0) = true ∧ well = false) := by
    cases well <;> rcases Int.decEq (toS s k) 0 with h | h <;> simp [h]
  rcases key with ⟨h0, h1⟩ | ⟨h0, h1, rfl⟩ | ⟨h0, h1, rfl⟩
  all_goals
    go_enter Try.func108, Try.ntmps108
    go_wp2
    have c0 : ((w.alloc (.cells #[.int .i64 s, .int .i64 t] 38)).alloc (.cells #[.int .i64 0, .int .i64 0] 38)).cell? ⟨w.heap.size, 0, none⟩ = some (.int .i64 s) := by simp
    have c1 : ((w.alloc (.cells #[.int .i64 s, .int .i64 t] 38)).alloc (.cells #[.int .i64 0, .int .i64 0] 38)).cell? ⟨w.heap.size, 1, none⟩ = some (.int .i64 t) := by simp
    have c2 : Blk ((w.alloc (.cells #[.int .i64 s, .int .i64 t] 38)).alloc (.cells #[.int .i64 0, .int .i64 0] 38)) (w.heap.size + 1) [.int .i64 0, .int .i64 0] 38 := by have := Blk.new (w.alloc (.cells #[.int .i64 s, .int .i64 t] 38)) [.int .i64 0, .int .i64 0] 38; simpa using this
    have hbel : Below w.heap.size w ((w.alloc (.cells #[.int .i64 s, .int .i64 t] 38)).alloc (.cells #[.int .i64 0, .int .i64 0] 38)) := belAlloc (belAlloc (Below.refl _ _) _) _
    generalize (w.alloc (.cells #[.int .i64 s, .int .i64 t] 38)).alloc (.cells #[.int .i64 0, .int .i64 0] 38) = w1 at *
    replace c0 := keep c0
    (first | go_region_held3 (fun w' => w'.cell? ⟨w.heap.size, 0, none⟩ = some (.int .i64 s)) (first | exact c0 _ (by repeat (first | assumption | exact Below.refl _ _ | refine belAlloc ?_ _ | refine belDrew ?_ | refine belSet ?_ _ _ (by simp) | refine belStep ?_ (by assumption)))) (first | (go_at_call 135; refine (box_transitions _).mono ?_; rintro e w2 ⟨b, rfl, hat, hb1⟩; have hlk := hat.look hs hk; rw [h1] at hlk)) | fail)
    have hb2 : Below w1.heap.size w1 w2 := belStep (belDrew (Below.refl _ _)) hb1
    have q1 := keep (keep c1 w2 hb2)
    have q2 := c2.later hb2
    have q3 := keep (q2.cell (j := 0) rfl)
    have q4 := keep (q2.cell (j := 1) rfl)
    have q5 := q2.keepF
    have q0 := keep (c0 w2 hb2)
    have hw := belStep hbel hb2
    clear c0 c1 c2 hb1 hb2 hbel q2
    have hbel : Below w2.heap.size w2 w2 := Below.refl _ _
    have hb2 : w.heap.size ≤ w2.heap.size := hw.size
    go_wp2_with (first | (go_at_call 136; refine (box_fail _ _ _ _ ht).mono ?_; rintro e w1 ⟨rfl, hb1⟩; replace hbel := belStep hbel hb1; clear hb1))
    simp [bodyPost, results, Try.results108, go_sem, q3 _ hbel, q4 _ hbel]
    refine ⟨?_, (by repeat (first | exact belStep hw hbel | refine belAlloc ?_ _ | refine belDrew ?_ | refine belSet ?_ _ _ (by simp)))⟩
    simp [doS, doN, doE, h0]

/-! ### The reference. -/
set_option maxHeartbeats 1000000 in
theorem bref_To (s k : Int) (w : World) :
    Calls Try.prog 131 #[.int .i64 s, .int .i64 k] w fun e w' => e = .returned (.int .i64 (toS s k)) ∧ w = w' := by
  have key : (k ≠ 1 ∧ k ≠ 2 ∧ k ≠ 3 ∧ k ≠ 4) ∨ k = 1 ∨ k = 2 ∨ k = 3 ∨ k = 4 := by omega
  have key2 : (s ≠ 1 ∧ s ≠ 2 ∧ s ≠ 3 ∧ s ≠ 4 ∧ s ≠ 6) ∨ s = 1 ∨ s = 2 ∨ s = 3 ∨ s = 4 ∨ s = 6 := by omega
  rcases key with ⟨k1, k2, k3, k4⟩ | rfl | rfl | rfl | rfl <;> rcases key2 with ⟨s1, s2, s3, s4, s6⟩ | rfl | rfl | rfl | rfl | rfl
  all_goals
    go_enter Try.func131, Try.ntmps131
    go_wp2
    all_goals (go_ret; exact ⟨ret_i64 (by first | (exfalso; simp_all; done) | (unfold toS; repeat (first | rfl | rw [if_neg (by omega)] | rw [if_pos (by omega)])) | (simp [toS] <;> omega)), rfl⟩)

set_option maxHeartbeats 1000000 in
theorem bref_Do (s t k : Int) (well : Bool) (r : Int) (w : World) (ht : InI t) :
    Calls Try.prog 132 #[.agg #[.int .i64 s, .int .i64 t], .int .i64 k, .bool well, .int .i64 r] w fun e w' =>
      e = .returned (.tuple #[.agg #[.int .i64 (doS s t k well r), .int .i64 (doN s t k well r)], .bool (toS s k != 0)]) ∧ Below w.heap.size w w' := by
  have key : (toS s k = 0 ∧ (toS s k != 0) = false) ∨ (toS s k ≠ 0 ∧ (toS s k != 0) = true ∧ well = true) ∨ (toS s k ≠ 0 ∧ (toS s k != 0) = true ∧ well = false ∧ r < satAdd t 1) ∨ (toS s k ≠ 0 ∧ (toS s k != 0) = true ∧ well = false ∧ ¬ r < satAdd t 1) := by
    have : r < satAdd t 1 ∨ ¬ r < satAdd t 1 := by omega
    cases well <;> rcases Int.decEq (toS s k) 0 with h | h <;> simp [h] <;> omega
  rcases key with ⟨h0, h1⟩ | ⟨h0, h1, rfl⟩ | ⟨h0, h1, rfl, h2⟩ | ⟨h0, h1, rfl, h2⟩
  all_goals
    go_enter Try.func132, Try.ntmps132
    go_wp2_with (first | (go_at_call 131; refine (bref_To _ _ _).mono ?_; rintro e w' ⟨rfl, rfl⟩) | (go_at_call 149; refine (ref_Add _ _ _ ht (by unfold InI; omega)).mono ?_; rintro e w' ⟨rfl, rfl⟩))
    simp [bodyPost, results, Try.results132, go_sem]
    refine ⟨?_, (by repeat (first | exact Below.refl _ _ | refine Below.alloc ?_ (by simp) _ | refine Below.setCell ?_ (by simp) _))⟩
    simp [doS, doN, h0, failS] <;> omega
end Go.Proofs.Ytcnjcldfbidkmaa
