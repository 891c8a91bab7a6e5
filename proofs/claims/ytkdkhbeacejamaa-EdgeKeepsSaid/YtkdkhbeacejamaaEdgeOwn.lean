/- Rows of floats that the call owns. -/
import Derived.Test.YtkdkhbeacejamaaAwake03
namespace Go.Proofs.Ytkdkhbeacejamaa
open Go.RowKit
set_option linter.unusedVariables false
set_option linter.unusedSimpArgs false

def OwnF (w : World) (B : Nat) (e : TypeId) (v : Value) (l : List Nat) : Prop := OwnR w B e 1 v l.length (l.map (Value.float .f64))
theorem OwnF.nil (w : World) (B : Nat) (e : TypeId) : OwnF w B e (.slice none 0 0) [] := OwnR.nil w B e 1
theorem OwnF.alloc {w : World} {B : Nat} {e : TypeId} {v : Value} {l : List Nat} (h : OwnF w B e v l) (o : Obj) : OwnF (w.alloc o) B e v l := OwnR.alloc h o
theorem OwnF.later {w w' : World} {B : Nat} {e : TypeId} {v : Value} {l : List Nat} (h : OwnF w B e v l) (hb : Below w.heap.size w w') : OwnF w' B e v l := OwnR.later h hb
theorem flts_of_own {w : World} {B : Nat} {e : TypeId} {v : Value} {l : List Nat} (h : OwnF w B e v l) (hw : ∀ n ∈ l, n < 18446744073709551616) : ∃ a cap, v = .slice a l.length cap ∧ Flts w a l.length cap l := by
  obtain ⟨a, cap, h1, h2⟩ := row_of_own h
  exact ⟨a, cap, h1, h2, hw⟩
theorem wpList_app_flt {P : Program} {w : World} {ops : Array Oper} {rest : List Oper} {o : Oper} {a : Act} {Q : Exit → Act → World → Prop} (hgd : o.guard = none) (s x : Operand) (t : TypeId)
    (ho : o.op = .call { callee := .builtin .append, args := #[s, x], argTypes := #[t, t] })
    (B : Nat) (e : TypeId) (bytes : Nat) (ht : P.underlying t = some (.slice e)) (hi : (P.info? e).map (fun i => (i.zero, i.size, i.bytes)) = some (some (.float .f64 0), 1, bytes))
    (v : Value) (l : List Nat) (hs : a.eval s = v) (hown : OwnF w B e v l)
    (ad : Addr) (c : Nat) (hx : a.eval x = .slice (some ad) 1 1) (hc : w.cell? ad = some (.float .f64 c))
    (hm : l.length + 1 ≤ maxLen) (hby : (l.length + 1) * bytes ≤ 140737488355328) (hB : B ≤ w.heap.size)
    (h : ∀ v' w', OwnF w' B e v' (l ++ [c]) → Below B w w' → wpList P ops Q rest (a.put o.dst v') w') : wpList P ops Q (o :: rest) a w := by
  obtain ⟨b, off, sp⟩ := ad
  obtain rfl : sp = none := World.cell?_spot hc
  refine wpList_app_sep hgd s x t ho B e (.float .f64 0) 1 bytes ht hi rfl (by decide) v l.length _ hs hown ⟨b, off, none⟩ 1 1 [.float .f64 c] hx ⟨rfl, Nat.le_refl _, by unfold maxLen; omega, (fun h => by cases h), .inr ⟨b, off, rfl, fun i hi => ?_⟩⟩ (fun u hu => by simp at hu; subst hu; rfl) hm hby hB (fun v' w' h1 h2 h3 h4 => h v' w' ?_ h2)
  · simp at hi; subst hi; exact hc
  · unfold OwnF; rw [List.map_append, List.length_append]; exact h1
theorem info_f64 : (Try.prog.info? 24).map (fun i => (i.zero, i.size, i.bytes)) = some (some (.float .f64 0), 1, 8) := by kernel_rfl

/-- The floats of a list of bits. -/
def fls (l : List Int) : List Nat := l.map Int.toNat
theorem fls_len (l : List Int) : (fls l).length = l.length := by unfold fls; simp
theorem fls_next {l : List Int} {k : Nat} (h : k < l.length) : fls (l.take (k + 1)) = fls (l.take k) ++ [(el l k).toNat] := by
  unfold fls; rw [take_snoc h, List.map_append]; rfl
theorem fls_fl (l : List Int) (k : Nat) : fl (fls l) k = (el l k).toNat := by
  unfold fl fls el
  rw [List.getD_eq_getElem?_getD, List.getD_eq_getElem?_getD, List.getElem?_map]
  cases l[k]? <;> rfl
theorem fls_take (l : List Int) (k : Nat) : fls (l.take k) = (fls l).take k := by unfold fls; rw [List.map_take]

theorem readF_nn (n : Nat) : 0 ≤ readF n := by
  unfold readF
  split
  · omega
  · split <;> omega
/-! The least one is the least, and of the list. -/
theorem leastStep_le (m f : Nat) : fplace (leastStep m f) ≤ fplace m ∧ fplace (leastStep m f) ≤ fplace f ∧ (leastStep m f = m ∨ leastStep m f = f) := by
  unfold leastStep
  by_cases h : fplace f < fplace m
  · rw [if_pos h]; exact ⟨by omega, by omega, .inr rfl⟩
  · rw [if_neg h]; exact ⟨by omega, by omega, .inl rfl⟩
theorem foldl_least (l : List Nat) (x : Nat) : fplace (l.foldl leastStep x) ≤ fplace x ∧ (∀ n ∈ l, fplace (l.foldl leastStep x) ≤ fplace n) ∧ (l.foldl leastStep x = x ∨ l.foldl leastStep x ∈ l) := by
  induction l generalizing x with
  | nil => exact ⟨Int.le_refl _, fun n hn => (by cases hn), .inl rfl⟩
  | cons y l ih =>
    obtain ⟨h1, h2, h3⟩ := ih (leastStep x y)
    obtain ⟨s1, s2, s3⟩ := leastStep_le x y
    refine ⟨?_, ?_, ?_⟩
    · exact Int.le_trans h1 s1
    · intro n hn
      rcases List.mem_cons.1 hn with rfl | hn
      · exact Int.le_trans h1 s2
      · exact h2 n hn
    · show (l.foldl leastStep (leastStep x y) = x ∨ _)
      rcases h3 with h3 | h3
      · rcases s3 with s3 | s3
        · left; rw [h3, s3]
        · right; show l.foldl leastStep (leastStep x y) ∈ y :: l; rw [h3, s3]; exact List.mem_cons_self
      · right; exact List.mem_cons_of_mem _ h3
theorem least_le (l : List Nat) (n : Nat) (hn : n ∈ l) : fplace (leastF l) ≤ fplace n := by
  cases l with
  | nil => cases hn
  | cons x l =>
    obtain ⟨h1, h2, _⟩ := foldl_least l x
    rcases List.mem_cons.1 hn with rfl | hn
    · exact h1
    · exact h2 n hn
theorem least_mem (l : List Nat) (h : l ≠ []) : leastF l ∈ l := by
  cases l with
  | nil => exact absurd rfl h
  | cons x l =>
    obtain ⟨_, _, h3⟩ := foldl_least l x
    show l.foldl leastStep x ∈ x :: l
    rcases h3 with h3 | h3
    · rw [h3]; exact List.mem_cons_self
    · exact List.mem_cons_of_mem _ h3
/-- Is the least one among the first ones? -/
def fndB (F : List Nat) (k : Nat) : Bool := F.isEmpty || (F.take k).any (fun n => cmpI (fplace n) (fplace (leastF F)) == 0)
theorem fndB_zero (F : List Nat) : fndB F 0 = F.isEmpty := by unfold fndB; simp
theorem fndB_next (F : List Nat) (k : Nat) (h : k < F.length) : fndB F (k + 1) = (fndB F k || cmpI (fplace (fl F k)) (fplace (leastF F)) == 0) := by
  unfold fndB; rw [fl_take h, List.any_append, Bool.or_assoc]; simp
theorem fndB_all (F : List Nat) : fndB F F.length = true := by
  unfold fndB
  cases hF : F.isEmpty
  · rw [Bool.false_or, List.take_length, List.any_eq_true]
    have hne : F ≠ [] := fun e => by rw [e] at hF; simp at hF
    exact ⟨_, least_mem F hne, by unfold cmpI; simp⟩
  · rfl
theorem kind_inf (w : World) : Calls Try.prog 14 #[.float .f64 9218868437227405312] w fun e w' => e = .returned (.int .i64 7) ∧ w = w' := by
  have h := ref_Kind 9218868437227405312 w (by omega)
  rw [show kindF 9218868437227405312 = 7 by decide +kernel] at h
  exact h
/-- What edge.All answers, whether there is a NaN or not: a row of the call's own, of numbers that aren't below 0. -/
theorem all_any (a : Option Addr) (len cap : Nat) (L : List Nat) (w : World) (hF : Flts w a len cap L) (hsm : len ≤ 300) (hL : L.length = len) : Calls Try.prog 19 #[.slice a len cap] w fun e w' => ∃ x n c ok l, e = .returned (.tuple #[.slice x n c, .bool ok]) ∧ OwnI w' w.heap.size 3 .i64 (.slice x n c) l ∧ l.length = n ∧ ((∀ i, i < n → 0 ≤ el l i) ∧ n ≤ c ∧ c ≤ 9223372036854775807) ∧ Below w.heap.size w w' := by
  refine (edge_All a len cap L w hF hsm).mono ?_
  rintro e w' ⟨hp, hb⟩
  unfold AllPost at hp
  split at hp
  · obtain ⟨v, rfl, ho⟩ := hp
    have hnn : ∀ i, i < (L.map readF).length → 0 ≤ el (L.map readF) i := fun i hi => by
      obtain ⟨n, _, hn⟩ := List.mem_map.1 (el_mem hi)
      rw [← hn]; exact readF_nn n
    rcases ho.shape with ⟨rfl, h⟩ | ⟨g, c, rfl, h1, h2, h3, h4⟩
    · exact ⟨none, 0, 0, true, _, rfl, ho, by rw [h]; rfl, ⟨fun i hi => by omega, by omega, by omega⟩, hb⟩
    · exact ⟨_, _, c, true, _, rfl, ho, rfl, ⟨hnn, h3, h4⟩, hb⟩
  · subst hp
    exact ⟨none, 0, 0, false, [], rfl, OwnI.nil _ _ _ _, rfl, ⟨fun i hi => by omega, by omega, by omega⟩, hb⟩
end Go.Proofs.Ytkdkhbeacejamaa
