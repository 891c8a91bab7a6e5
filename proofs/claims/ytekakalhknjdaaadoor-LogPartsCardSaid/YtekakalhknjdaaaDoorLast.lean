
/- A region that draws its order and whose last operations overwrite what others of it read: what is held is asked behind every operation but those. -/
import Derived.Deep.RegionHeld3
import Derived.Lib.Hide
namespace Go.Proofs.YtekakalhknjdaaaDoor
open Go.RowKit
set_option linter.unusedVariables false
section
variable {P : Program} {md : Region.Mode} {ops : Array Oper} {Q : Exit → Act → World → Prop} {S : World → Prop} {z : List Nat}
/-- Whatever comes next: S is held behind each operation, those of z let aside. -/
def UpTo (P : Program) (md : Region.Mode) (ops : Array Oper) (Q : Exit → Act → World → Prop) (S : World → Prop) (z : List Nat) : Nat → Array Bool → Act → World → Prop
  | 0, d, a, w => Region.ready md ops d = [] ∧ Q .normal a w
  | n + 1, d, a, w => (Region.ready md ops d = [] → Q .normal a w) ∧
      ∀ j ∈ Region.ready md ops d, wpOp P ops Q j (fun b v => (z.contains j = false → S v) ∧ UpTo P md ops Q S z n (d.setIfInBounds j true) b v) a w
theorem UpTo.any (n : Nat) : ∀ (d : Array Bool) (a : Act) (w : World), UpTo P md ops Q S z n d a w → wpAny P md ops Q n d a w := by
  induction n with
  | zero => exact fun _ _ _ h => h
  | succ n ih => exact fun d a w h => ⟨h.1, fun j hj => wpOp_mono (fun b v hv => ih _ b v hv.2) (h.2 j hj)⟩
/-- Does number q wait for number i, by however many steps? -/
def waitsT (md : Region.Mode) (ops : Array Oper) (i : Nat) : Nat → Nat → Bool
  | 0, _ => false
  | n + 1, q => match ops[q]? with
    | none => false
    | some o => o.after.any fun e => Region.binds md e && (e.on == i || waitsT md ops i n e.on)
def waitsB (md : Region.Mode) (ops : Array Oper) (z : List Nat) (i : Nat) : Bool := z.all (waitsT md ops i ops.size)
/-- What has come up has all behind it that it waits for. -/
def closedB (md : Region.Mode) (ops : Array Oper) (d : Array Bool) : Bool :=
  (List.range ops.size).all fun j => !d.getD j false || (match ops[j]? with
    | none => true
    | some o => o.after.all fun e => !Region.binds md e || d.getD e.on false)
def Closed (md : Region.Mode) (ops : Array Oper) (d : Array Bool) : Prop := ∀ (j : Nat) (o : Oper), ops[j]? = some o → d.getD j false = true → ∀ e ∈ o.after, Region.binds md e = true → d.getD e.on false = true
theorem closed_of {d : Array Bool} (h : closedB md ops d = true) : Closed md ops d := fun j o ho hj e he hb => by
  unfold closedB at h
  have h1 := List.all_eq_true.1 h j (List.mem_range.2 (Array.getElem?_eq_some_iff.1 ho).1)
  simp only [ho, hj, Bool.not_true, Bool.false_or] at h1
  have h2 := Array.all_eq_true'.1 h1 e he
  simpa [hb] using h2
theorem Closed.set {d : Array Bool} (h : Closed md ops d) {i : Nat} (hi : i ∈ Region.ready md ops d) : Closed md ops (d.setIfInBounds i true) := fun j o ho hj e he hb => by
  obtain ⟨_, oi, hoi, hall⟩ := mem_ready.1 hi
  refine getD_set_true ?_
  rcases Decidable.em (i = j) with rfl | hne
  · rw [hoi] at ho
    obtain rfl := Option.some.inj ho
    exact hall e he hb
  · rw [getD_set_ne false hne] at hj
    exact h j o ho hj e he hb
theorem waits_in {d : Array Bool} (h : Closed md ops d) {i : Nat} (n : Nat) : ∀ (q : Nat) (o : Oper), ops[q]? = some o → (∀ e ∈ o.after, Region.binds md e = true → d.getD e.on false = true) → waitsT md ops i n q = true → d.getD i false = true := by
  induction n with
  | zero => intro q o _ _ hw; cases hw
  | succ n ih =>
    intro q o ho hall hw
    unfold waitsT at hw
    rw [ho] at hw
    obtain ⟨e, he, hb⟩ := Array.any_eq_true'.1 hw
    simp only [Bool.and_eq_true, Bool.or_eq_true, beq_iff_eq] at hb
    have h1 := hall e he hb.1
    rcases hb.2 with rfl | h2
    · exact h1
    · cases hx : ops[e.on]? with
      | none =>
        exfalso
        cases n with
        | zero => cases h2
        | succ n => unfold waitsT at h2; rw [hx] at h2; cases h2
      | some o2 => exact ih e.on o2 hx (h e.on o2 hx h1) h2
theorem not_both {i q : Nat} {d : Array Bool} (hc : Closed md ops d) (hz : waitsB md ops z i = true) (hi : i ∈ Region.ready md ops d) (hq : q ∈ Region.ready md ops d) : z.contains q = false := by
  cases hm : z.contains q with
  | false => rfl
  | true =>
    exfalso
    have hw := List.all_eq_true.1 hz q (by simpa using hm)
    obtain ⟨_, o, ho, hall⟩ := mem_ready.1 hq
    have h1 := waits_in hc _ q o ho hall hw
    have h0 := (mem_ready.1 hi).1
    by_cases hl : i < d.size
    · simp [hl] at h0 h1
      rw [h0] at h1; cases h1
    · simp [Array.getElem?_eq_none (Nat.le_of_not_lt hl)] at h1
theorem UpTo.first {i : Nat} {oi : Oper} {v : Value} (hi : ops[i]? = some oi) (hsel : Region.noSelect ops = true) (hz : waitsB md ops z i = true)
    (hQ : ∀ c a w, Q (.panic c) (a.put oi.dst v) w → Q (.panic c) a w) (n : Nat) :
    ∀ (d : Array Bool) (a : Act) (w : World),
      Closed md ops d → (∀ j oj, ops[j]? = some oj → j ≠ i → d.getD j true = false → (∀ e ∈ oj.after, Region.binds md e = true → e.on ≠ i) → oi.apart ops oj = true) →
      i ∈ Region.ready md ops d → YieldsIf P ops S oi v a → S w →
      UpTo P md ops Q S z n (d.setIfInBounds i true) (a.put oi.dst v) w → UpTo P md ops Q S z (n + 1) d a w := by
  induction n with
  | zero =>
    intro d a w _ _ hr hy hS H
    refine ⟨fun q => absurd hr (by rw [q]; simp), fun j hj => ?_⟩
    rcases Decidable.em (j = i) with rfl | hne
    · exact hy.wpOp hi hS ⟨fun _ => hS, H⟩
    · have q := ready_mono hj hne
      rw [H.1] at q
      cases q
  | succ n ih =>
    intro d a w hcl hfree hr hy hS H
    refine ⟨fun q => absurd hr (by rw [q]; simp), fun j hj => ?_⟩
    rcases Decidable.em (j = i) with rfl | hne
    · exact hy.wpOp hi hS ⟨fun _ => hS, H⟩
    · have hjz := not_both hcl hz hr hj
      obtain ⟨hju, oj, hoj, hall⟩ := mem_ready.1 hj
      have hiu := (mem_ready.1 hr).1
      have hno : ∀ e ∈ oj.after, Region.binds md e = true → e.on ≠ i := fun e he hb q => by
        have h1 := hall e he hb
        rw [q] at h1
        by_cases hl : i < d.size
        · simp [hl] at hiu h1
          rw [hiu] at h1; cases h1
        · simp [Array.getElem?_eq_none (Nat.le_of_not_lt hl)] at h1
      have hsw := wpOp_putIf hoj (hfree j oj hoj hne hju hno) (fun cs b => Region.noSelect_spec hsel i oi cs b hi) (fun cs b => Region.noSelect_spec hsel j oj cs b hoj) hQ hy (H.2 j (ready_mono hj hne))
      refine wpOp_mono (fun b v hv => ?_) hsw
      have hSv := hv.2.1 hjz
      refine ⟨fun _ => hSv, ih _ b v (hcl.set hj) (fun k ok hk hki hku hkn => hfree k ok hk hki ?_ hkn) (ready_mono hr (Ne.symm hne)) hv.1 hSv ?_⟩
      · rcases Decidable.em (j = k) with rfl | hjk
        · exact hju
        · rwa [getD_set_ne true hjk] at hku
      · rw [Array.setIfInBounds_comm _ _ hne]; exact hv.2.2
/-- An operation is taken first. -/
theorem UpTo.take {i : Nat} {oi : Oper} {v : Value} {n : Nat} {d : Array Bool} {a : Act} {w : World} (hi : ops[i]? = some oi)
    (hs : Region.noSelect ops = true) (hf : Region.free md ops d i = true) (hr : (Region.ready md ops d).contains i = true) (hz : (waitsB md ops z i && closedB md ops d) = true)
    (hQ : ∀ c a w, Q (.panic c) (a.put oi.dst v) w → Q (.panic c) a w) (hy : YieldsIf P ops S oi v a) (hS : S w)
    (h : UpTo P md ops Q S z n (d.setIfInBounds i true) (a.put oi.dst v) w) : UpTo P md ops Q S z (n + 1) d a w :=
  UpTo.first hi hs (Bool.and_eq_true_iff.1 hz).1 hQ n d a w (closed_of (Bool.and_eq_true_iff.1 hz).2) (Region.free_spec hi hf) (by simpa using hr) hy hS h
/-- An operation that alone may come. -/
theorem UpTo.one {i : Nat} {o : Oper} {n : Nat} {d : Array Bool} {a : Act} {w : World} (hr : Region.ready md ops d = [i]) (hi : ops[i]? = some o)
    (h : ∀ K : Act → World → Prop, Shut (∀ b v, (z.contains i = false → S v) → ((z.contains i = false → S v) → UpTo P md ops Q S z n (d.setIfInBounds i true) b v) → K b v) → if Region.wanted o (yielded ops a.tmps) = true then Oper.wp P o a w K Q else K (a.put o.dst undef) w) : UpTo P md ops Q S z (n + 1) d a w := by
  refine ⟨fun q => absurd q (by rw [hr]; simp), fun j hj => ?_⟩
  rw [hr] at hj
  obtain rfl := List.mem_singleton.1 hj
  exact wpOp_step hi (fun K hK => h K (fun b v h1 h2 => hK b v ⟨h1, h2 h1⟩))
theorem UpTo.done {d : Array Bool} {a : Act} {w : World} (hr : Region.ready md ops d = []) (h : Q .normal a w) : ∀ n, UpTo P md ops Q S z n d a w
  | 0 => ⟨hr, h⟩
  | _ + 1 => ⟨fun _ => h, by rw [hr]; simp⟩
theorem wp_region_upto {id : Nat} {a : Act} {w : World} (z : List Nat) (hm : P.follows .mixedOrders = true) (hS : S w.drew)
    (h : S w.drew → UpTo P .any ops Q S z ops.size (Array.replicate ops.size false) a w.drew) : (Code.region id ops true).wp P Q a w :=
  wp_region_any hm (UpTo.any _ _ _ _ (h hS))
end
end Go.Proofs.YtekakalhknjdaaaDoor
