
/- Stage 10: many disks beside one another: plain laws. -/
import Derived.Test.YtcbblgeleboggaaDkAl
namespace Go.Proofs.Ytcbblgeleboggaa
open Go.RowKit Go.Sort Go.Maps Go.WideMaps
set_option linter.unusedVariables false
set_option linter.unusedSectionVars false
set_option linter.unusedSimpArgs false
theorem DAt.beside {u w : World} {N : Nat} {X F F' G : List Nat} {c : DiskV} (h : DAt u N (X ++ F) G c) (hA : Apart F u w) (hG : ∀ b ∈ F', b ∈ F ∨ u.heap.size ≤ b) : DAt w N (X ++ F') G c := by
  have h1 : DAt u N ((X ++ F) ++ F') G c := h.more (fun b hb => by
    rcases List.mem_append.1 hb with q | q
    · exact .inl q
    · exact (hG b q).imp (fun z => List.mem_append_right _ z) id)
  have h2 : DAt w N ((X ++ F) ++ F') G c := h1.mine (hA.weaken (fun b hb => List.mem_append_left _ (List.mem_append_right _ hb)))
  exact h2.more (fun b hb => .inl (by
    rcases List.mem_append.1 hb with q | q
    · exact List.mem_append_left _ (List.mem_append_left _ q)
    · exact List.mem_append_right _ q))
structure Dsk where
  M : Nat
  F : List Nat
  d : DiskV
def Dsk.key (p : Dsk) : Nat × DiskV := (p.M, p.d)
def feet (l : List Dsk) : List Nat := l.flatMap Dsk.F
def PoolF (w : World) : List Nat → List Dsk → Prop
  | _, [] => True
  | X, p :: l => DAt w p.M (X ++ feet l) p.F p.d ∧ PoolF w (X ++ p.F) l
theorem PoolF.later {u w : World} (hb : Below u.heap.size u w) : ∀ {X : List Nat} {l : List Dsk}, PoolF u X l → PoolF w X l
  | _, [], _ => trivial
  | _, _ :: _, h => ⟨h.1.later hb, PoolF.later hb h.2⟩
theorem PoolF.more {u : World} : ∀ {X Y : List Nat} {l : List Dsk}, PoolF u X l → (∀ b ∈ Y, b ∈ X ∨ u.heap.size ≤ b) → PoolF u Y l
  | _, _, [], _, _ => trivial
  | X, Y, p :: l, h, hY => ⟨h.1.more (fun b hb => by
      rcases List.mem_append.1 hb with q | q
      · exact (hY b q).imp (fun z => List.mem_append_left _ z) id
      · exact .inl (List.mem_append_right _ q)), PoolF.more h.2 (fun b hb => by
      rcases List.mem_append.1 hb with q | q
      · exact (hY b q).imp (fun z => List.mem_append_left _ z) id
      · exact .inl (List.mem_append_right _ q))⟩
theorem PoolF.mine {u w : World} : ∀ {X : List Nat} {l : List Dsk}, PoolF u X l → Apart X u w → PoolF w X l
  | _, [], _, _ => trivial
  | X, p :: l, h, hA => ⟨h.1.mine (hA.weaken (fun b hb => List.mem_append_left _ hb)), PoolF.mine h.2 (hA.weaken (fun b hb => List.mem_append_left _ hb))⟩
theorem PoolF.beside {u w : World} {X F F' : List Nat} {l : List Dsk} (h : PoolF u (X ++ F) l) (hA : Apart F u w) (hG : ∀ b ∈ F', b ∈ F ∨ u.heap.size ≤ b) : PoolF w (X ++ F') l := by
  have h1 : PoolF u ((X ++ F) ++ F') l := h.more (fun b hb => by
    rcases List.mem_append.1 hb with q | q
    · exact .inl q
    · exact (hG b q).imp (fun z => List.mem_append_right _ z) id)
  have h2 : PoolF w ((X ++ F) ++ F') l := h1.mine (hA.weaken (fun b hb => List.mem_append_left _ (List.mem_append_right _ hb)))
  exact h2.more (fun b hb => .inl (by
    rcases List.mem_append.1 hb with q | q
    · exact List.mem_append_left _ (List.mem_append_left _ q)
    · exact List.mem_append_right _ q))
theorem PoolF.flt {u : World} : ∀ {X : List Nat} {l : List Dsk}, PoolF u X l → ∀ b ∈ feet l, b < u.heap.size
  | _, [], _, b, hb => absurd hb List.not_mem_nil
  | X, p :: l, h, b, hb => by
    rcases List.mem_append.1 (show b ∈ p.F ++ feet l from hb) with q | q
    · exact (h.1.lt b q).2
    · exact PoolF.flt h.2 b q
theorem PoolF.swap {u : World} {X : List Nat} {p q : Dsk} {l : List Dsk} (h : PoolF u X (p :: q :: l)) : PoolF u X (q :: p :: l) := by
  obtain ⟨h1, h2, h3⟩ := h
  refine ⟨h2.more (fun b hb => .inl ?_), h1.more (fun b hb => .inl ?_), h3.more (fun b hb => .inl ?_)⟩
  · simp only [feet, List.flatMap_cons, List.mem_append] at hb ⊢
    rcases hb with r | r | r
    · exact .inl (.inl r)
    · exact .inl (.inr r)
    · exact .inr r
  · simp only [feet, List.flatMap_cons, List.mem_append] at hb ⊢
    rcases hb with (r | r) | r
    · exact .inl r
    · exact .inr (.inl r)
    · exact .inr (.inr r)
  · simp only [List.mem_append] at hb ⊢
    rcases hb with (r | r) | r
    · exact .inl (.inl r)
    · exact .inr r
    · exact .inl (.inr r)
/-- Disks of a law's own, each apart from the others and from X. -/
def Pool (B : Nat) (w : World) (X : List Nat) (l : List (Nat × DiskV)) : Prop := ∃ P : List Dsk, P.map Dsk.key = l ∧ PoolF w X P ∧ ∀ p ∈ P, ∀ b ∈ p.F, B ≤ b
theorem Pool.nil (B : Nat) (w : World) (X : List Nat) : Pool B w X [] := ⟨[], rfl, trivial, fun p hp => absurd hp List.not_mem_nil⟩
theorem Pool.later {B : Nat} {u w : World} {X : List Nat} {l : List (Nat × DiskV)} (h : Pool B u X l) (hb : Below u.heap.size u w) : Pool B w X l := by
  obtain ⟨P, h1, h2, h3⟩ := h; exact ⟨P, h1, h2.later hb, h3⟩
theorem Pool.more {B : Nat} {u : World} {X Y : List Nat} {l : List (Nat × DiskV)} (h : Pool B u X l) (hY : ∀ b ∈ Y, b ∈ X ∨ u.heap.size ≤ b) : Pool B u Y l := by
  obtain ⟨P, h1, h2, h3⟩ := h; exact ⟨P, h1, h2.more hY, h3⟩
theorem Pool.mine {B : Nat} {u w : World} {X : List Nat} {l : List (Nat × DiskV)} (h : Pool B u X l) (hA : Apart X u w) : Pool B w X l := by
  obtain ⟨P, h1, h2, h3⟩ := h; exact ⟨P, h1, h2.mine hA, h3⟩
theorem Pool.swap {B : Nat} {u : World} {X : List Nat} {p q : Nat × DiskV} {l : List (Nat × DiskV)} (h : Pool B u X (p :: q :: l)) : Pool B u X (q :: p :: l) := by
  obtain ⟨P, h1, h2, h3⟩ := h
  match P, h1 with
  | a :: b :: P, h1 =>
    simp only [List.map_cons, List.cons.injEq] at h1
    exact ⟨b :: a :: P, by simp only [List.map_cons, h1], h2.swap, fun p hp => h3 p (by simp only [List.mem_cons] at hp ⊢; rcases hp with r | r | r; exact .inr (.inl r); exact .inl r; exact .inr (.inr r))⟩
theorem Pool.tail {B : Nat} {u : World} {X : List Nat} {p : Nat × DiskV} {l : List (Nat × DiskV)} (h : Pool B u X (p :: l)) : Pool B u X l := by
  obtain ⟨P, h1, h2, h3⟩ := h
  match P, h1 with
  | a :: P, h1 =>
    simp only [List.map_cons, List.cons.injEq] at h1
    exact ⟨P, h1.2, h2.2.more (fun b hb => .inl (List.mem_append_left _ hb)), fun p hp => h3 p (List.mem_cons_of_mem _ hp)⟩
theorem Pool.dk {B : Nat} {u : World} {X : List Nat} {M : Nat} {d : DiskV} {l : List (Nat × DiskV)} (h : Pool B u X ((M, d) :: l)) : DKv B u M X d := by
  obtain ⟨P, h1, h2, h3⟩ := h
  match P, h1 with
  | a :: P, h1 =>
    simp only [List.map_cons, List.cons.injEq, Dsk.key, Prod.mk.injEq] at h1
    obtain ⟨⟨rfl, rfl⟩, _⟩ := h1
    exact ⟨a.F, h2.1.more (fun b hb => .inl (List.mem_append_left _ hb)), h3 a List.mem_cons_self⟩
/-- The head acts. -/
theorem Pool.act {B : Nat} {u : World} {X : List Nat} {M : Nat} {d : DiskV} {l : List (Nat × DiskV)} (h : Pool B u X ((M, d) :: l)) (hX : ∀ b ∈ X, b < u.heap.size) (hB : B ≤ u.heap.size) : ∃ Y F, DAt u M Y F d ∧ (∀ b ∈ Y, b < u.heap.size) ∧ ∀ w d', DTo u w M Y F d' → Pool B w X ((M, d') :: l) ∧ Below B u w ∧ Free X u w := by
  obtain ⟨P, h1, h2, h3⟩ := h
  match P, h1 with
  | a :: P, h1 =>
    simp only [List.map_cons, List.cons.injEq, Dsk.key, Prod.mk.injEq] at h1
    obtain ⟨⟨rfl, rfl⟩, rfl⟩ := h1
    refine ⟨X ++ feet P, a.F, h2.1, fun b hb => (List.mem_append.1 hb).elim (hX b) (h2.2.flt b), fun w d' hq => ?_⟩
    obtain ⟨G, g1, g2, g3⟩ := hq
    have hF := h3 a List.mem_cons_self
    obtain ⟨_, _, _, _, _, _, _, _, _, h7⟩ := h2.1
    exact ⟨⟨⟨a.M, G, d'⟩ :: P, rfl, ⟨g1, h2.2.beside g2 g3⟩, fun p hp => by
      rcases List.mem_cons.1 hp with rfl | r
      · exact fun b hb => (g3 b hb).elim (hF b) (fun z => Nat.le_trans hB z)
      · exact h3 p (List.mem_cons_of_mem _ r)⟩, g2.below hF hB, a.F, g2, fun b hb => h7 b (List.mem_append_left _ hb)⟩
section
variable (B : Nat) (M : Nat) (X : List Nat) (d : DiskV) (l : List (Nat × DiskV)) (w : World)
theorem pl_New (h : Pool B w X l) (hX : ∀ b ∈ X, b < w.heap.size) (hB : B ≤ w.heap.size) : Calls Try.prog 10 #[] w fun e w' => ∃ M, e = .returned (.pointer (some ⟨M, 0, none⟩)) ∧ Pool B w' X ((M, ⟨[], [], 0⟩) :: l) ∧ Below w.heap.size w w' := by
  obtain ⟨P, h1, h2, h3⟩ := h
  refine (dk_New (X ++ feet P) w (fun b hb => (List.mem_append.1 hb).elim (hX b) (h2.flt b))).mono ?_
  rintro e w' ⟨rfl, g1, g2⟩
  have hlt := fun b hb => (g1.lt b hb).1
  exact ⟨_, rfl, ⟨⟨w.heap.size, _, _⟩ :: P, by rw [← h1]; rfl, ⟨g1, (h2.more (fun b hb => (List.mem_append.1 hb).imp id (hlt b))).later g2⟩, fun p hp => by
    rcases List.mem_cons.1 hp with rfl | r
    · exact fun b hb => Nat.le_trans hB (hlt b hb)
    · exact h3 p r⟩, g2⟩
variable (h : Pool B w X ((M, d) :: l)) (hX : ∀ b ∈ X, b < w.heap.size) (hB : B ≤ w.heap.size) (hc : d.cap + d.done.length ≤ 100000)
include h hX hB hc
theorem pl_Do (o : OpV) (hZ : Ints .u8 w o.ba o.Z.length o.bc o.Z) (hl : o.Z.length ≤ 1000000) (hs : o.small) : Calls Try.prog 21 #[.pointer (some ⟨M, 0, none⟩), .agg #[.int .i64 o.kind, .string o.name, .string o.dst, .slice o.ba o.Z.length o.bc]] w fun e w' => e = .returned (.int .i64 (doE o.m)) ∧ Pool B w' X ((M, doW d o.m) :: l) ∧ Below B w w' ∧ Free X w w' := by
  obtain ⟨Y, F, hd, hY, hA⟩ := h.act hX hB
  refine (dk_Do M Y F d w hd hY hc o hZ hl hs).mono ?_
  rintro e w' ⟨rfl, hq⟩
  exact ⟨rfl, hA _ _ hq⟩
theorem pl_Sync : Calls Try.prog 22 #[.pointer (some ⟨M, 0, none⟩)] w fun e w' => e = .returned (.tuple #[]) ∧ Pool B w' X ((M, syncW d) :: l) ∧ Below B w w' ∧ Free X w w' := by
  obtain ⟨Y, F, hd, hY, hA⟩ := h.act hX hB
  refine (dk_Sync M Y F d w hd hY hc).mono ?_
  rintro e w' ⟨rfl, hq⟩
  exact ⟨rfl, hA _ _ hq⟩
theorem pl_Crash (ka : Option Addr) (kn kc : Nat) (K : List Int) (hK : Ints .i64 w ka kn kc K) : Calls Try.prog 20 #[.pointer (some ⟨M, 0, none⟩), .slice ka kn kc] w fun e w' => e = .returned (.tuple #[]) ∧ Pool B w' X ((M, crashW d K) :: l) ∧ Below B w w' ∧ Free X w w' := by
  obtain ⟨Y, F, hd, hY, hA⟩ := h.act hX hB
  refine (dk_Crash M Y F d w hd hY hc ka kn kc K hK).mono ?_
  rintro e w' ⟨rfl, hq⟩
  exact ⟨rfl, hA _ _ hq⟩
end
end Go.Proofs.Ytcbblgeleboggaa
