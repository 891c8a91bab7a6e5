
/- What stage 21's laws share: their parameters opened; what the same requests do. -/
import Derived.Test.YtbifmmdiekodjaaVicApp
namespace Go.Proofs.Ytbifmmdiekodjaa
open Go.ChangeShapes Go.WideShapes Go.ChangeAt Go.RowKit
set_option linter.unusedVariables false
set_option linter.unusedSimpArgs false
set_option maxRecDepth 100000 in
theorem open_room {H : Type} {enc : TypeId × Value → H} {W : World} {v : Value} {b : Nat} {d : DataW H} {p : List MemPlace} (o : Value.okWide Try.prog W .any b 22 v) (h : DataW.Trod enc Try.prog W 0 (fun _ => true) true 22 v d p) :
    ∃ R : Room, v = .agg #[.int .i64 R.a, .int .i64 R.b, .int .i64 R.c] ∧ InI R.a ∧ InI R.b ∧ InI R.c := by
  obtain ⟨cs, rfl⟩ := agg_of_array Try.underlying22 o
  have hr := Rd.of h
  rw [agg_cells] at hr
  obtain ⟨hl, _⟩ := Rd.array Try.underlying22 hr
  rw [show Try.prog.cellsOf 22 = 3 by kernel_rfl] at hl
  obtain ⟨a, b, c, e⟩ := list3 hl
  rw [e] at hr
  obtain ⟨x, y, z, rfl, rfl, rfl, h1, h2, h3⟩ := rd_three hr
  exact ⟨⟨x, y, z⟩, by rw [show cs = cs.toList.toArray by simp, e], h1, h2, h3⟩
theorem sumF_snoc (f : PodV → Int) (L : List PodV) (p : PodV) : sumF f (L ++ [p]) = satAdd (sumF f L) (f p) := by
  unfold sumF
  rw [List.foldl_append]
  rfl
theorem fits_same (R : Room) (L : List PodV) {p q : PodV} (h0 : p.r0 = q.r0) (h1 : p.r1 = q.r1) (h2 : p.r2 = q.r2) : fitsB R (L ++ [p]) = fitsB R (L ++ [q]) := by
  unfold fitsB
  simp only [sumF_snoc, h0, h1, h2]
theorem choose_nobody (R : Room) (L : List PodV) {p q : PodV} (h0 : q.r0 = p.r0) (h1 : q.r1 = p.r1) (h2 : q.r2 = p.r2) (h : ∀ x ∈ L, mayB q x = false) : chooseF R L q = if fitsB R (L ++ [p]) then some [] else none := by
  have e1 : stF L q = L := List.filter_eq_self.2 fun x hx => by rw [h x hx]; rfl
  have e2 : mayF L q = [] := List.filter_eq_nil_iff.2 fun x hx => by rw [h x hx]; simp
  unfold chooseF
  rw [e1, e2, fits_same R L h0 h1 h2]
  cases fitsB R (L ++ [p]) <;> rfl
theorem own_snocP {w : World} {B : Nat} {v : Value} {L : List PodV} {p : PodV} {len : Nat} (hl : L.length = len) (h : OwnR w B 24 11 v (len + 1) (L.flatMap PodV.cells ++ p.cells)) : OwnR w B 24 11 v (L ++ [p]).length ((L ++ [p]).flatMap PodV.cells) := by
  subst hl
  exact own_snoc h
theorem ok_snoc {L : List PodV} {p : PodV} (h : ∀ x ∈ L, x.ok) (hp : p.ok) : ∀ x ∈ L ++ [p], x.ok := fun x hx => by
  rcases List.mem_append.1 hx with k | k
  · exact h x k
  · simp at k; subst k; exact hp
/-- What Choose answers where nobody goes. -/
theorem nobody_call (R : Room) (p q : PodV) (a : Option Addr) (len cap : Nat) (L : List PodV) (v : World) (hl : L.length = len) (hok : ∀ x ∈ L, x.ok) (hR : Row v a len cap 11 (L.flatMap PodV.cells)) (hd : Dist L) (hb : len ≤ 1000) (hq : q.ok) (h0 : q.r0 = p.r0) (h1 : q.r1 = p.r1) (h2 : q.r2 = p.r2) (h : ∀ x ∈ L, mayB q x = false) :
    Calls Try.prog 17 #[.agg #[.int .i64 R.a, .int .i64 R.b, .int .i64 R.c], .slice a len cap, .agg #[.string q.id, .int .i64 q.prio, .bool q.crit, .int .i64 q.r0, .int .i64 q.r1, .int .i64 q.r2, .int .i64 q.l0, .int .i64 q.l1, .int .i64 q.l2, .string q.img, .int .i64 q.size]] v fun e w' => (∃ b c, e = .returned (.tuple #[.slice b 0 c, .bool (fitsB R (L ++ [p]))])) ∧ Below v.heap.size v w' := by
  refine (vic_Choose R q a len cap L v hl hok hR hd hb hq).mono ?_
  rintro e w' ⟨hr, hb⟩
  rw [choose_nobody R L h0 h1 h2 h] at hr
  refine ⟨?_, hb⟩
  rcases hr with ⟨hc, rfl⟩ | ⟨G, v5, hG, rfl, hO⟩
  · cases hf : fitsB R (L ++ [p]) with
    | true => rw [hf] at hc; cases hc
    | false => exact ⟨none, 0, rfl⟩
  · cases hf : fitsB R (L ++ [p]) with
    | false => rw [hf] at hG; cases hG
    | true =>
      rw [hf] at hG
      cases hG
      obtain ⟨a5, c5, rfl, _⟩ := rowR_of_own hO
      exact ⟨a5, c5, rfl⟩
end Go.Proofs.Ytbifmmdiekodjaa
