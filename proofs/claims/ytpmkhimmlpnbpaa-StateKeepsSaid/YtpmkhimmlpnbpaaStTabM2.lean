
/- Tables in order: what stands ahead of a name, what behind it. -/
import Derived.Test.YtpmkhimmlpnbpaaStRef2
namespace Go.Proofs.Ytpmkhimmlpnbpaa
open Go.ChangeShapes Go.WideShapes Go.ChangeAt Go.RowKit
set_option linter.unusedVariables false
set_option linter.unusedSimpArgs false
set_option maxRecDepth 100000 in
theorem open_ent {H : Type} {enc : TypeId × Value → H} {W : World} {v : Value} {b : Nat} {d : DataW H} {p : List MemPlace} (o : Value.okWide Try.prog W .any b 46 v) (h : DataW.Trod enc Try.prog W 0 (fun _ => true) true 46 v d p) :
    ∃ x : EntV, v = .agg #[.string x.pod.id, .int .i64 x.pod.prio, .bool x.pod.crit, .int .i64 x.pod.r0, .int .i64 x.pod.r1, .int .i64 x.pod.r2, .int .i64 x.pod.l0, .int .i64 x.pod.l1, .int .i64 x.pod.l2, .string x.pod.img, .int .i64 x.pod.size, .int .i64 x.phase] ∧ x.ok := by
  obtain ⟨cs, rfl⟩ := agg_of_struct Try.underlying46 o
  have hr := Rd.of h
  rw [agg_cells] at hr
  obtain ⟨x, e, hx⟩ := rd_ent hr
  exact ⟨x, by rw [show cs = cs.toList.toArray by simp, e]; rfl, hx⟩
def Ris (L : List EntV) : Prop := L.Pairwise (fun a b => a.pod.id.toList < b.pod.id.toList)
theorem lessB_iff (x y : EntV) : lessB x y = true ↔ x.pod.id.toList < y.pod.id.toList := by
  unfold lessB; rw [bytesLess_iff, decide_eq_true_eq]
theorem lessS_iff (s : ByteArray) (x : EntV) : lessS s x = true ↔ x.pod.id.toList < s.toList := by
  unfold lessS; rw [bytesLess_iff, decide_eq_true_eq]
theorem gtS_iff (s : ByteArray) (x : EntV) : gtS s x = true ↔ s.toList < x.pod.id.toList := by
  unfold gtS; rw [bytesLess_iff, decide_eq_true_eq]
theorem ris_of {L : List EntV} (h : chkB L L.length = true) : Ris L := by
  unfold Ris
  rw [List.pairwise_iff_getElem]
  intro i j hi hj hij
  induction j with
  | zero => omega
  | succ j ih =>
    have h1 : L[j].pod.id.toList < L[j + 1].pod.id.toList := (lessB_iff _ _).1 (chk_less h j _ _ (by omega) (List.getElem?_eq_getElem (by omega)) (List.getElem?_eq_getElem hj))
    rcases Nat.lt_or_ge i j with q | q
    · exact List.lt_trans (ih (by omega) q) h1
    · obtain rfl : i = j := by omega
      exact h1
theorem chk_of {L : List EntV} (he : ∀ x ∈ L, entB x = true) (hr : Ris L) : ∀ n, n ≤ L.length → chkB L n = true := by
  intro n
  induction n with
  | zero => intro _; rfl
  | succ n ih =>
    intro hn
    unfold chkB
    rw [ih (by omega), Bool.true_and]
    have hx : L[n]? = some L[n] := List.getElem?_eq_getElem (by omega)
    cases n with
    | zero => rw [step_0 hx]; exact he _ (List.getElem_mem _)
    | succ m =>
      have hy : L[m]? = some L[m] := List.getElem?_eq_getElem (by omega)
      rw [step_s hx hy, he _ (List.getElem_mem _), Bool.true_and]
      exact (lessB_iff _ _).2 (List.pairwise_iff_getElem.1 hr m (m + 1) (by omega) (by omega) (by omega))
theorem st_of {r : Int} {L M : List EntV} (h : stB r L = true) (he : ∀ x ∈ M, entB x = true) (hr : Ris M) (hl : M.length ≤ 64) : stB r M = true := by
  obtain ⟨h0, h1, _⟩ := st_nums h
  unfold stB
  rw [chk_of he hr _ (Nat.le_refl _), decide_eq_true h0, decide_eq_true h1, decide_eq_true hl]
  rfl
theorem st_ris {r : Int} {L : List EntV} (h : stB r L = true) : Ris L := by
  unfold stB at h
  rw [Bool.and_eq_true] at h
  exact ris_of h.1
/-- A table, parted at a name. -/
structure Cut9 (L : List EntV) (s : ByteArray) (A M B : List EntV) : Prop where
  eq : L = A ++ (M ++ B)
  lo : ∀ x ∈ A, x.pod.id.toList < s.toList
  hi : ∀ x ∈ B, s.toList < x.pod.id.toList
  mid : (∃ y, M = [y] ∧ y.pod.id.toList = s.toList) ∨ M = []
theorem pl_of {A C : List EntV} {s : ByteArray} (hA : ∀ x ∈ A, x.pod.id.toList < s.toList) (hC : ∀ x, C[0]? = some x → ¬ x.pod.id.toList < s.toList) : plF (A ++ C) s = A.length := by
  refine plF_at (by simp) ?_ ?_
  · rw [List.take_left, List.all_eq_true]
    intro x hx
    exact (lessS_iff s x).2 (hA x hx)
  · intro x hx
    rw [List.getElem?_append_right (Nat.le_refl _), Nat.sub_self] at hx
    cases hb : lessS s x with
    | false => rfl
    | true => exact absurd ((lessS_iff s x).1 hb) (hC x hx)
theorem Cut9.pl {L A M B : List EntV} {s : ByteArray} (h : Cut9 L s A M B) : plF L s = A.length := by
  rw [h.eq]
  refine pl_of h.lo (fun x hx hc => ?_)
  rcases h.mid with ⟨y, rfl, hy⟩ | rfl
  · simp at hx; subst hx; rw [hy] at hc; exact List.lt_irrefl _ hc
  · rw [List.nil_append] at hx
    exact List.lt_irrefl _ (List.lt_trans hc (h.hi x (List.mem_of_getElem? hx)))
theorem Cut9.th {L A M B : List EntV} {s : ByteArray} (h : Cut9 L s A M B) : thF L s = !M.isEmpty := by
  unfold thF
  rw [h.pl, h.eq, List.getElem?_append_right (Nat.le_refl _), Nat.sub_self]
  rcases h.mid with ⟨y, rfl, hy⟩ | rfl
  · simp [hy]
  · rw [List.nil_append]
    cases B with
    | nil => rfl
    | cons b B =>
      have hb := h.hi b List.mem_cons_self
      simp only [List.getElem?_cons_zero]
      have : (b.pod.id.toList == s.toList) = false := beq_eq_false_iff_ne.2 (fun e => by rw [e] at hb; exact List.lt_irrefl _ hb)
      rw [this]; rfl
theorem cut9 {L : List EntV} (h : Ris L) (s : ByteArray) : ∃ A M B, Cut9 L s A M B := by
  obtain ⟨p, hp⟩ : ∃ p, plF L s = p := ⟨_, rfl⟩
  have hple : p ≤ L.length := by rw [← hp]; exact plF_le L s
  have hlo : ∀ x ∈ L.take p, x.pod.id.toList < s.toList := fun x hx => (lessS_iff s x).1 (List.all_eq_true.1 (hp ▸ plF_lo (L := L) (s := s)) x hx)
  rcases Nat.lt_or_ge p L.length with q | q
  · have hx : L[p]? = some L[p] := List.getElem?_eq_getElem q
    have hn : ¬ L[p].pod.id.toList < s.toList := fun hc => by
      have h1 := plF_hi (L := L) (s := s) (x := L[p]) (by rw [hp]; exact hx)
      rw [(lessS_iff s _).2 hc] at h1
      cases h1
    have hgt : ∀ x ∈ L.drop (p + 1), L[p].pod.id.toList < x.pod.id.toList := by
      intro x hx
      obtain ⟨i, hi⟩ := List.getElem?_of_mem hx
      rw [List.getElem?_drop] at hi
      obtain ⟨h1, rfl⟩ := List.getElem?_eq_some_iff.1 hi
      exact List.pairwise_iff_getElem.1 h p (p + 1 + i) q h1 (by omega)
    by_cases he : L[p].pod.id.toList = s.toList
    · refine ⟨L.take p, [L[p]], L.drop (p + 1), ?_, hlo, fun x hx => he ▸ hgt x hx, .inl ⟨_, rfl, he⟩⟩
      rw [List.singleton_append, ← List.drop_eq_getElem_cons q, List.take_append_drop]
    · have hs : s.toList < L[p].pod.id.toList := by
        by_cases h3 : s.toList < L[p].pod.id.toList
        · exact h3
        · exact absurd (List.le_antisymm (List.not_lt.1 h3) (List.not_lt.1 hn)) he
      refine ⟨L.take p, [], L.drop p, (List.take_append_drop p L).symm, hlo, ?_, .inr rfl⟩
      intro x hx
      rw [List.drop_eq_getElem_cons q] at hx
      rcases List.mem_cons.1 hx with rfl | hx
      · exact hs
      · exact List.lt_trans hs (hgt x hx)
  · refine ⟨L, [], [], by simp, ?_, fun x hx => (by cases hx), .inr rfl⟩
    rw [List.take_of_length_le q] at hlo
    exact hlo
theorem Cut9.out {L A M B : List EntV} {s : ByteArray} (h : Cut9 L s A M B) : woutF L s = A ++ B := by
  unfold woutF
  rw [h.th, h.pl, h.eq]
  rcases h.mid with ⟨y, rfl, hy⟩ | rfl
  · simp
  · simp
theorem Cut9.put {L A M B : List EntV} {e : EntV} (h : Cut9 L e.pod.id A M B) : withF L e = A ++ e :: B := by
  unfold withF
  rw [h.th, h.pl, h.eq]
  rcases h.mid with ⟨y, rfl, hy⟩ | rfl
  · simp
  · simp
theorem ne_lt {a b : List UInt8} (h : a < b) : (a == b) = false := beq_eq_false_iff_ne.2 (fun e => by rw [e] at h; exact List.lt_irrefl _ h)
theorem ne_gt {a b : List UInt8} (h : b < a) : (a == b) = false := beq_eq_false_iff_ne.2 (fun e => by rw [e] at h; exact List.lt_irrefl _ h)
theorem Cut9.filt {L A M B : List EntV} {s : ByteArray} (h : Cut9 L s A M B) : L.filter (keepF s) = A ++ B := by
  rw [h.eq, List.filter_append, List.filter_append, List.filter_eq_self.2 (fun x hx => by unfold keepF; rw [ne_lt (h.lo x hx)]; rfl), List.filter_eq_self.2 (fun x hx => by unfold keepF; rw [ne_gt (h.hi x hx)]; rfl : ∀ x ∈ B, keepF s x = true)]
  rcases h.mid with ⟨y, rfl, hy⟩ | rfl
  · simp [keepF, hy]
  · simp
theorem Cut9.putR {L A M B : List EntV} {e : EntV} (h : Cut9 L e.pod.id A M B) : withR L e = A ++ e :: B := by
  have hp : pgF (A ++ B) e.pod.id = A.length := by
    refine tw_at (by simp) ?_ ?_
    · rw [List.take_left, List.all_eq_true]
      intro x hx
      cases hg : gtS e.pod.id x with
      | false => rfl
      | true => exact absurd (List.lt_trans ((gtS_iff _ _).1 hg) (h.lo x hx)) (List.lt_irrefl _)
    · intro x hx
      rw [List.getElem?_append_right (Nat.le_refl _), Nat.sub_self] at hx
      rw [(gtS_iff _ _).2 (h.hi x (List.mem_of_getElem? hx))]
      rfl
  unfold withR
  rw [h.filt, hp, List.take_left, List.drop_left]
theorem Cut9.fnd {L A M B : List EntV} {s : ByteArray} (h : Cut9 L s A M B) : fndI L s = if M.isEmpty then -1 else (A.length : Int) := by
  have hA : ∀ x ∈ A, (!(x.pod.id.toList == s.toList)) = true := fun x hx => by rw [ne_lt (h.lo x hx)]; rfl
  have hB : ∀ x ∈ B, (!(x.pod.id.toList == s.toList)) = true := fun x hx => by rw [ne_gt (h.hi x hx)]; rfl
  unfold fndI
  rcases h.mid with ⟨y, rfl, hy⟩ | rfl
  · have e : fndF L s = A.length := by
      unfold fndF
      refine tw_at (by rw [h.eq]; simp) ?_ ?_
      · rw [h.eq, List.take_left, List.all_eq_true]; exact hA
      · intro x hx
        rw [h.eq, List.getElem?_append_right (Nat.le_refl _), Nat.sub_self] at hx
        simp at hx; subst hx
        simp [hy]
    rw [e, if_pos (by rw [h.eq]; simp)]
    rfl
  · have e : fndF L s = L.length := by
      unfold fndF
      refine tw_at (Nat.le_refl _) ?_ (fun x hx => by rw [List.getElem?_eq_none (Nat.le_refl _)] at hx; cases hx)
      rw [List.take_length, List.all_eq_true, h.eq]
      intro x hx
      rcases List.mem_append.1 hx with hx | hx
      · exact hA x hx
      · exact hB x (by simpa using hx)
    rw [e, if_neg (Nat.lt_irrefl _)]
    rfl
theorem Cut9.ris {L A M B : List EntV} {s : ByteArray} (hr : Ris L) (h : Cut9 L s A M B) : Ris (A ++ B) ∧ ∀ e : EntV, e.pod.id.toList = s.toList → Ris (A ++ e :: B) := by
  have h1 : Ris A ∧ Ris B := by
    unfold Ris at hr ⊢
    rw [h.eq, List.pairwise_append, List.pairwise_append] at hr
    exact ⟨hr.1, hr.2.1.2.1⟩
  unfold Ris at h1 ⊢
  constructor
  · rw [List.pairwise_append]
    exact ⟨h1.1, h1.2, fun a ha b hb => List.lt_trans (h.lo a ha) (h.hi b hb)⟩
  · intro e he
    rw [List.pairwise_append, List.pairwise_cons]
    refine ⟨h1.1, ⟨fun b hb => he ▸ h.hi b hb, h1.2⟩, fun a ha b hb => ?_⟩
    rcases List.mem_cons.1 hb with rfl | hb
    · exact he ▸ h.lo a ha
    · exact List.lt_trans (h.lo a ha) (h.hi b hb)
/-- With the entry in it, the table is parted likewise. -/
theorem Cut9.again {L A M B : List EntV} {e : EntV} (h : Cut9 L e.pod.id A M B) : Cut9 (A ++ e :: B) e.pod.id A [e] B := ⟨rfl, h.lo, h.hi, .inl ⟨e, rfl, rfl⟩⟩
theorem Cut9.without {L A M B : List EntV} {s : ByteArray} (h : Cut9 L s A M B) : Cut9 (A ++ B) s A [] B := ⟨by simp, h.lo, h.hi, .inr rfl⟩
end Go.Proofs.Ytpmkhimmlpnbpaa
