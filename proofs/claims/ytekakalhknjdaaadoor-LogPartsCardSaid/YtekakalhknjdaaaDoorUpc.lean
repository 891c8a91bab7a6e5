
/- A region that draws its order and whose late operations overwrite what others of it read: each operation but those keeps what is held, if it is held. -/
import Derived.Deep.RegionHeld3
import Derived.Lib.Hide
import Derived.Test.YtekakalhknjdaaaDoorLast
namespace Go.Proofs.YtekakalhknjdaaaDoor
open Go.RowKit
set_option linter.unusedVariables false
section
variable {P : Program} {md : Region.Mode} {ops : Array Oper} {Q : Exit → Act → World → Prop} {S : World → Prop} {z : List Nat}
/-- Whatever comes next: each operation keeps S, those of z let aside. -/
def UpC (P : Program) (md : Region.Mode) (ops : Array Oper) (Q : Exit → Act → World → Prop) (S : World → Prop) (z : List Nat) : Nat → Array Bool → Act → World → Prop
  | 0, d, a, w => Region.ready md ops d = [] ∧ Q .normal a w
  | n + 1, d, a, w => (Region.ready md ops d = [] → Q .normal a w) ∧
      ∀ j ∈ Region.ready md ops d, wpOp P ops Q j (fun b v => (z.contains j = false → S w → S v) ∧ UpC P md ops Q S z n (d.setIfInBounds j true) b v) a w
theorem UpC.any (n : Nat) : ∀ (d : Array Bool) (a : Act) (w : World), UpC P md ops Q S z n d a w → wpAny P md ops Q n d a w := by
  induction n with
  | zero => exact fun _ _ _ h => h
  | succ n ih => exact fun d a w h => ⟨h.1, fun j hj => wpOp_mono (fun b v hv => ih _ b v hv.2) (h.2 j hj)⟩
theorem UpC.first {i : Nat} {oi : Oper} {v : Value} (hi : ops[i]? = some oi) (hsel : Region.noSelect ops = true) (hz : waitsB md ops z i = true)
    (hQ : ∀ c a w, Q (.panic c) (a.put oi.dst v) w → Q (.panic c) a w) (n : Nat) :
    ∀ (d : Array Bool) (a : Act) (w : World),
      Closed md ops d → (∀ j oj, ops[j]? = some oj → j ≠ i → d.getD j true = false → (∀ e ∈ oj.after, Region.binds md e = true → e.on ≠ i) → oi.apart ops oj = true) →
      i ∈ Region.ready md ops d → YieldsIf P ops S oi v a → S w →
      UpC P md ops Q S z n (d.setIfInBounds i true) (a.put oi.dst v) w → UpC P md ops Q S z (n + 1) d a w := by
  induction n with
  | zero =>
    intro d a w _ _ hr hy hS H
    refine ⟨fun q => absurd hr (by rw [q]; simp), fun j hj => ?_⟩
    rcases Decidable.em (j = i) with rfl | hne
    · exact hy.wpOp hi hS ⟨fun _ _ => hS, H⟩
    · have q := ready_mono hj hne
      rw [H.1] at q
      cases q
  | succ n ih =>
    intro d a w hcl hfree hr hy hS H
    refine ⟨fun q => absurd hr (by rw [q]; simp), fun j hj => ?_⟩
    rcases Decidable.em (j = i) with rfl | hne
    · exact hy.wpOp hi hS ⟨fun _ _ => hS, H⟩
    · have hjz := not_both hcl hz hr hj
      obtain ⟨hju, oj, hoj, hall⟩ := mem_ready.1 hj
      have hiu := (mem_ready.1 hr).1
      have hno : ∀ e ∈ oj.after, Region.binds md e = true → e.on ≠ i := fun e he hb q => by
        have h1 := hall e he hb
        rw [q] at h1
        by_cases hl : i < d.size
        · simp [hl] at hiu h1
          rw [hiu] at h1; cases h1
        · simp [Array.getElem?_eq_none (Nat.le_of_not_lt hl)] at h1
      have hsw := wpOp_putIf hoj (hfree j oj hoj hne hju hno) (fun cs b => Region.noSelect_spec hsel i oi cs b hi) (fun cs b => Region.noSelect_spec hsel j oj cs b hoj) hQ hy (H.2 j (ready_mono hj hne))
      refine wpOp_mono (fun b v hv => ?_) hsw
      have hSv := hv.2.1 hjz hS
      refine ⟨fun _ _ => hSv, ih _ b v (hcl.set hj) (fun k ok hk hki hku hkn => hfree k ok hk hki ?_ hkn) (ready_mono hr (Ne.symm hne)) hv.1 hSv ?_⟩
      · rcases Decidable.em (j = k) with rfl | hjk
        · exact hju
        · rwa [getD_set_ne true hjk] at hku
      · rw [Array.setIfInBounds_comm _ _ hne]; exact hv.2.2
/-- An operation is taken first. -/
theorem UpC.take {i : Nat} {oi : Oper} {v : Value} {n : Nat} {d : Array Bool} {a : Act} {w : World} (hi : ops[i]? = some oi)
    (hs : Region.noSelect ops = true) (hf : Region.free md ops d i = true) (hr : (Region.ready md ops d).contains i = true) (hz : (waitsB md ops z i && closedB md ops d) = true)
    (hQ : ∀ c a w, Q (.panic c) (a.put oi.dst v) w → Q (.panic c) a w) (hy : YieldsIf P ops S oi v a) (hS : S w)
    (h : UpC P md ops Q S z n (d.setIfInBounds i true) (a.put oi.dst v) w) : UpC P md ops Q S z (n + 1) d a w :=
  UpC.first hi hs (Bool.and_eq_true_iff.1 hz).1 hQ n d a w (closed_of (Bool.and_eq_true_iff.1 hz).2) (Region.free_spec hi hf) (by simpa using hr) hy hS h
theorem UpC.firstP {i : Nat} {oi : Oper} {v : Value} (hi : ops[i]? = some oi) (hsel : Region.noSelect ops = true)
    (hQ : ∀ c a w, Q (.panic c) (a.put oi.dst v) w → Q (.panic c) a w) (n : Nat) :
    ∀ (d : Array Bool) (a : Act) (w : World),
      (∀ j oj, ops[j]? = some oj → j ≠ i → d.getD j true = false → (∀ e ∈ oj.after, Region.binds md e = true → e.on ≠ i) → oi.apart ops oj = true) →
      i ∈ Region.ready md ops d → YieldsIf P ops (fun _ => True) oi v a →
      UpC P md ops Q S z n (d.setIfInBounds i true) (a.put oi.dst v) w → UpC P md ops Q S z (n + 1) d a w := by
  induction n with
  | zero =>
    intro d a w _ hr hy H
    refine ⟨fun q => absurd hr (by rw [q]; simp), fun j hj => ?_⟩
    rcases Decidable.em (j = i) with rfl | hne
    · exact hy.wpOp hi trivial ⟨fun _ h => h, H⟩
    · have q := ready_mono hj hne
      rw [H.1] at q
      cases q
  | succ n ih =>
    intro d a w hfree hr hy H
    refine ⟨fun q => absurd hr (by rw [q]; simp), fun j hj => ?_⟩
    rcases Decidable.em (j = i) with rfl | hne
    · exact hy.wpOp hi trivial ⟨fun _ h => h, H⟩
    · obtain ⟨hju, oj, hoj, hall⟩ := mem_ready.1 hj
      have hiu := (mem_ready.1 hr).1
      have hno : ∀ e ∈ oj.after, Region.binds md e = true → e.on ≠ i := fun e he hb q => by
        have h1 := hall e he hb
        rw [q] at h1
        by_cases hl : i < d.size
        · simp [hl] at hiu h1
          rw [hiu] at h1; cases h1
        · simp [Array.getElem?_eq_none (Nat.le_of_not_lt hl)] at h1
      have hsw := wpOp_putIf hoj (hfree j oj hoj hne hju hno) (fun cs b => Region.noSelect_spec hsel i oi cs b hi) (fun cs b => Region.noSelect_spec hsel j oj cs b hoj) hQ hy (H.2 j (ready_mono hj hne))
      refine wpOp_mono (fun b v hv => ?_) hsw
      refine ⟨hv.2.1, ih _ b v (fun k ok hk hki hku hkn => hfree k ok hk hki ?_ hkn) (ready_mono hr (Ne.symm hne)) hv.1 ?_⟩
      · rcases Decidable.em (j = k) with rfl | hjk
        · exact hju
        · rwa [getD_set_ne true hjk] at hku
      · rw [Array.setIfInBounds_comm _ _ hne]; exact hv.2.2
/-- An operation that looks at no world is taken first. -/
theorem UpC.pure {i : Nat} {oi : Oper} {v : Value} {n : Nat} {d : Array Bool} {a : Act} {w : World} (hi : ops[i]? = some oi)
    (hs : Region.noSelect ops = true) (hf : Region.free md ops d i = true) (hr : (Region.ready md ops d).contains i = true)
    (hQ : ∀ c a w, Q (.panic c) (a.put oi.dst v) w → Q (.panic c) a w) (hy : YieldsIf P ops (fun _ => True) oi v a)
    (h : UpC P md ops Q S z n (d.setIfInBounds i true) (a.put oi.dst v) w) : UpC P md ops Q S z (n + 1) d a w :=
  UpC.firstP hi hs hQ n d a w (Region.free_spec hi hf) (by simpa using hr) hy h
/-- An operation that alone may come. -/
theorem UpC.one {i : Nat} {o : Oper} {n : Nat} {d : Array Bool} {a : Act} {w : World} (hr : Region.ready md ops d = [i]) (hi : ops[i]? = some o)
    (h : ∀ K : Act → World → Prop, Shut (∀ b v, (z.contains i = false → S w → S v) → ((z.contains i = false → S w → S v) → UpC P md ops Q S z n (d.setIfInBounds i true) b v) → K b v) → if Region.wanted o (yielded ops a.tmps) = true then Oper.wp P o a w K Q else K (a.put o.dst undef) w) : UpC P md ops Q S z (n + 1) d a w := by
  refine ⟨fun q => absurd q (by rw [hr]; simp), fun j hj => ?_⟩
  rw [hr] at hj
  obtain rfl := List.mem_singleton.1 hj
  exact wpOp_step hi (fun K hK => h K (fun b v h1 h2 => hK b v ⟨h1, h2 h1⟩))
theorem UpC.done {d : Array Bool} {a : Act} {w : World} (hr : Region.ready md ops d = []) (h : Q .normal a w) : ∀ n, UpC P md ops Q S z n d a w
  | 0 => ⟨hr, h⟩
  | _ + 1 => ⟨fun _ => h, by rw [hr]; simp⟩
theorem wp_region_upc {id : Nat} {a : Act} {w : World} (z : List Nat) (hm : P.follows .mixedOrders = true) (hS : S w.drew)
    (h : S w.drew → UpC P .any ops Q S z ops.size (Array.replicate ops.size false) a w.drew) : (Code.region id ops true).wp P Q a w :=
  wp_region_any hm (UpC.any _ _ _ _ (h hS))
end
end Go.Proofs.YtekakalhknjdaaaDoor
