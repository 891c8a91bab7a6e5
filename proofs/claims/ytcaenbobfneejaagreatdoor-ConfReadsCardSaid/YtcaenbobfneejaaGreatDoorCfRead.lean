
/- Stage 7: what conf.Read's loop keeps: plain laws. Stage 7: what conf.Read's loop keeps: steps. Stage 7: conf.Read: contract. -/
import Derived.Test.YtcaenbobfneejaaGreatDoorCfPlaces
import Derived.Test.YtcaenbobfneejaaGreatDoorCfRight
import Derived.Test.YtcaenbobfneejaaGreatDoorLexCard
import Derived.Test.YtcaenbobfneejaaGreatDoorLexTM
import Derived.Test.YtcaenbobfneejaaGreatDoorThrBackM
namespace Go.Proofs.YtcaenbobfneejaaGreatDoor
open Go.RowKit Go.Maps Go.WideMaps
set_option linter.unusedVariables false
set_option linter.unusedSimpArgs false
theorem words_mem {f : FldV} : ∀ {F : List FldV} (b : Bool), f ∈ F → f.text.length ≤ (wordsF b F).length
  | g :: r, b, h => by
    unfold wordsF
    rw [List.length_append, List.length_append]
    rcases List.mem_cons.1 h with rfl | h
    · omega
    · have := words_mem false h
      omega
theorem join_mem {F : List FldV} {f : FldV} : ∀ {LL : List (List FldV)}, F ∈ LL → f ∈ F → f.text.length ≤ (joinF LL).length
  | G :: LL, h, hf => by
    unfold joinF
    rw [List.flatMap_cons, List.length_append, List.length_append]
    rcases List.mem_cons.1 h with rfl | h
    · have := words_mem true hf; omega
    · have := join_mem h hf; unfold joinF at this; omega
theorem txt_len {L : List UInt8} (h : L.length ≤ 65536) {F : List FldV} (hF : F ∈ fieldsF L) {f : FldV} (hf : f ∈ F) : f.text.length ≤ 200000 := by
  have h1 := join_mem hF hf
  have h2 := joinF_sum 1 (linesL L)
  rw [lines_sum] at h2
  have h3 : (joinF (fieldsF L)).length ≤ 2 * (L.length + 1) := h2
  omega
theorem lim_in {v : List UInt8} {p a : Int} (h : limF v = some (p, a)) : InI a := by
  unfold limF at h
  split at h
  · split at h
    · cases hd : dgv (cutC 37 v).1 100 with
      | none => rw [hd] at h; cases h
      | some n => rw [hd] at h; simp at h; rw [← h.2]; exact ⟨by omega, by omega⟩
    · cases h
  · split at h
    · simp at h; rw [← h.2]; exact inI_mul _ _
    · cases h
theorem thr_ok {l : List UInt8} {t : ThrV} (h : thF l = some t) : t.ok := by
  obtain ⟨h1, h2, h3⟩ := right_parts (read_is_right h)
  have ha : InI t.amt := by
    unfold thF at h
    split at h
    · cases hs : sigF (cutC 60 l).1 with
      | none => rw [hs] at h; cases h
      | some s =>
        cases hl : limF (cutC 58 (cutC 60 l).2.1).1 with
        | none => rw [hs, hl] at h; cases h
        | some q =>
          obtain ⟨p, a⟩ := q
          cases hg : grF (cutC 58 (cutC 60 l).2.1).2.2 (cutC 58 (cutC 60 l).2.1).2.1 with
          | none => rw [hs, hl, hg] at h; cases h
          | some g =>
            rw [hs, hl, hg] at h
            cases h
            exact lim_in hl
    · cases h
  refine ⟨⟨by omega, by omega⟩, ⟨?_, ?_⟩, ha, ⟨?_, ?_⟩⟩
  · rcases h2 with h2 | h2 <;> omega
  · rcases h2 with h2 | h2 <;> omega
  · rcases h3 with h3 | h3 <;> omega
  · rcases h3 with h3 | h3 <;> omega
theorem zero_in : InI 0 := ⟨by omega, by omega⟩
theorem CfM.zero_ok : CfM.zero.ok := ⟨⟨zero_in, zero_in, zero_in⟩, ⟨zero_in, zero_in, zero_in⟩, ⟨zero_in, zero_in, zero_in, zero_in⟩, fun t ht => by cases ht⟩
theorem getD_in (r : List FldV) (i : Nat) : InI ((numsF r).getD i 0) := by
  unfold numsF
  rw [List.getD_eq_getElem?_getD, List.getElem?_map]
  cases r[i]? with
  | none => exact zero_in
  | some g => exact inI_mul _ _
theorem setF_ok {c : CfM} (h : c.ok) (k : Nat) (r : List FldV) : (setF c k (numsF r)).ok := by
  obtain ⟨⟨a0, a1, a2⟩, ⟨b0, b1, b2⟩, ⟨d0, d1, d2, d3⟩, ht⟩ := h
  have g0 := getD_in r 0
  have g1 := getD_in r 1
  have g2 := getD_in r 2
  unfold setF
  split
  · exact ⟨⟨g0, g1, g2⟩, ⟨b0, b1, b2⟩, ⟨d0, d1, d2, d3⟩, ht⟩
  · exact ⟨⟨a0, a1, a2⟩, ⟨g0, g1, g2⟩, ⟨d0, d1, d2, d3⟩, ht⟩
  · exact ⟨⟨a0, a1, a2⟩, ⟨b0, b1, b2⟩, ⟨g0, d1, d2, d3⟩, ht⟩
  · exact ⟨⟨a0, a1, a2⟩, ⟨b0, b1, b2⟩, ⟨d0, g0, d2, d3⟩, ht⟩
  · exact ⟨⟨a0, a1, a2⟩, ⟨b0, b1, b2⟩, ⟨d0, d1, g0, d3⟩, ht⟩
  · exact ⟨⟨a0, a1, a2⟩, ⟨b0, b1, b2⟩, ⟨d0, d1, d2, g0⟩, ht⟩
theorem setF_T (c : CfM) (k : Nat) (n : List Int) : (setF c k n).T = c.T := by unfold setF; split <;> rfl
theorem addT_ok {c : CfM} (h : c.ok) {t : ThrV} (ht : t.ok) : ({ c with T := c.T ++ [t] } : CfM).ok := ⟨h.ck, h.ca, h.cp, fun u hu => (List.mem_append.1 hu).elim (h.thr u) (fun q => by simp at q; rw [q]; exact ht)⟩
/-- The words that are counted. -/
def SeenD (D : DataW Unit) (U : List Nat) : Prop := Maps.Tidy D ∧ (∀ k, k < 6 → D.atKey (KD (kwB k)) (.lit (.int .i64 0)) = .lit (.int .i64 (if k ∈ U then 1 else 0)) ∧ Maps.has D (KD (kwB k)) = decide (k ∈ U)) ∧ Maps.size D = U.length ∧ U.Nodup ∧ ∀ k ∈ U, k < 6
theorem SeenD.start : SeenD (.map []) [] := ⟨Maps.tidy_empty, fun k _ => ⟨rfl, rfl⟩, rfl, List.nodup_nil, fun k h => by cases h⟩
theorem nodup_lt : ∀ (n : Nat) (U : List Nat), U.Nodup → (∀ k ∈ U, k < n) → U.length ≤ n
  | 0, U, _, h => by
    cases U with
    | nil => simp
    | cons x l => exact absurd (h x List.mem_cons_self) (by omega)
  | n + 1, U, hn, h => by
    by_cases hm : n ∈ U
    · have h1 := nodup_lt n (U.erase n) (hn.erase n) (fun k hk => by
        have h2 := (hn.mem_erase_iff).1 hk
        have h3 := h k h2.2
        have h4 := h2.1
        omega)
      have h5 := List.length_erase_of_mem hm
      omega
    · have h1 := nodup_lt n U hn (fun k hk => by
        have h3 := h k hk
        have h4 : k ≠ n := fun e => hm (e ▸ hk)
        omega)
      omega
theorem SeenD.le6 {D : DataW Unit} {U : List Nat} (h : SeenD D U) : U.length ≤ 6 := by
  obtain ⟨_, _, _, hn, hk⟩ := h
  exact nodup_lt 6 U hn hk
theorem SeenD.step {D : DataW Unit} {U : List Nat} {k : Nat} (h : SeenD D U) (hk : k < 6) (hU : k ∉ U) : SeenD (D.put (KD (kwB k)) (.lit (.int .i64 1))) (U ++ [k]) := by
  obtain ⟨h1, h2, h3, h4, h5⟩ := h
  refine ⟨h1.put (KD_is _) _, fun i hi => ?_, ?_, ?_, ?_⟩
  · by_cases e : i = k
    · subst e
      exact ⟨by rw [Maps.atKey_put_same h1.isMap (KD_is _), if_pos (by simp)], by rw [Maps.has_put_same h1.isMap (KD_is _)]; simp⟩
    · have hne : KD (kwB i) ≠ KD (kwB k) := fun q => kwB_ne i hi k hk e (KD_inj q)
      have hm : (i ∈ U ++ [k]) = (i ∈ U) := by simp [e]
      exact ⟨by rw [Maps.atKey_put_other hne, (h2 i hi).1]; simp only [hm], by rw [Maps.has_put_other hne, (h2 i hi).2]; simp only [hm]⟩
  · rw [Maps.size_put h1, (h2 k hk).2, decide_eq_false hU, h3, List.length_append]; rfl
  · exact List.nodup_append.2 ⟨h4, by simp, fun a ha b hb => by simp at hb; subst hb; exact fun q => hU (q ▸ ha)⟩
  · intro i hi
    rcases List.mem_append.1 hi with q | q
    · exact h5 i q
    · simp at q; rw [q]; exact hk
theorem fields_ne {L : List UInt8} (h : readB L = true) {F : List FldV} (hF : F ∈ fieldsF L) : F ≠ [] := (fields_ok h F hF).1
theorem read_len {L : List UInt8} (h : readB L = true) : L.length ≤ 65536 := by
  unfold readB at h
  rw [Bool.and_eq_true] at h
  exact of_decide_eq_true h.2
theorem linesR_cut {s : CSt} {LL : List (List FldV)} {k : Nat} {F : List FldV} (h : LL[k]? = some F) : linesR s (LL.drop k) = match lineR s F with
    | .ok s' => linesR s' (LL.drop (k + 1))
    | .error e => .error (headLine F, e) := by
  have hk : k < LL.length := (List.getElem?_eq_some_iff.1 h).1
  have e : LL.drop k = F :: LL.drop (k + 1) := by
    rw [List.drop_eq_getElem_cons hk]
    congr 1
    rw [List.getElem?_eq_getElem hk] at h
    exact Option.some.inj h
  rw [e]
  rfl
/-- What a call of Read answers. -/
def ResC (w : World) (B : Nat) (e : Ending) (r : Except (Int × Int) CfM) : Prop := match r with
  | .ok c => ∃ v, e = .returned (.tuple #[c.v v, .int .i64 0, .int .i64 0]) ∧ OwnR w B 54 5 v c.T.length (c.T.flatMap ThrV.cells) ∧ c.ok ∧ rightM c = true
  | .error x => e = .returned (.tuple #[CfM.zero.v (.slice none 0 0), .int .i64 x.1, .int .i64 x.2])
theorem ToM.keep {u v : World} {B C m : Nat} {F : List Nat} (h : ToM u B C m) (hA : Apart F u v) (hF : ∀ b ∈ F, m ≠ b ∧ ∀ Cs, ¬ Blk u b Cs 70) : ToM v B C m := by
  have hl : m < u.heap.size := by obtain ⟨D, h1, _⟩ := h; exact h1.lt
  exact h.conv (hA.block m hl (fun q => (hF m q).1 rfl)) (fun g Cs T hg hb e => by subst e; exact hb.apart hA (fun q => (hF g q).2 Cs hb))
theorem owns_keep {H : Type} {P : Program} {k : TypeId} {R : Value → Option (DataW H × List MemPlace)} {u v : World} {b n : Nat} {D : DataW H} {F : List Nat} (h : u.ownsMap P k R b n D) (hA : Apart F u v) (hF : b ∉ F) : v.ownsMap P k R b n D := by
  have hl := h.lt
  obtain ⟨es, clock, h1, h2⟩ := h
  exact ⟨es, clock, (hA.block b hl hF).trans h1, h2⟩
theorem map_ne_blk {H : Type} {P : Program} {k : TypeId} {R : Value → Option (DataW H × List MemPlace)} {u : World} {b n g : Nat} {D : DataW H} {Cs : List Value} {T : TypeId} (h : u.ownsMap P k R b n D) (hb : Blk u g Cs T) : b ≠ g := fun e => by
  obtain ⟨es, clock, h1, _⟩ := h
  subst e; unfold Blk at hb; rw [h1] at hb; cases hb
end Go.Proofs.YtcaenbobfneejaaGreatDoor
namespace Go.Proofs.YtcaenbobfneejaaGreatDoor
open Go.RowKit Go.Sort Go.Maps Go.WideMaps
set_option linter.unusedVariables false
set_option linter.unusedSimpArgs false
theorem owns_tightG {H : Type} {P : Program} {k : TypeId} {R : Value → Option (DataW H × List MemPlace)} {w : World} {b n : Nat} {D : DataW H} (h : w.ownsMap P k R b n D) : w.ownsMap P k R b (Maps.size D) D := by
  obtain ⟨es, clock, hb, F, hs, rfl⟩ := h
  exact ⟨es, clock, hb, F, by rw [Maps.size_eq, length_read]; exact Nat.le_refl _, rfl⟩
structure RdI (w1 : World) (C mb sb BP : Nat) (s : CSt) (wr : World) : Prop where
  bel : Below w1.heap.size w1 wr
  low : w1.heap.size ≤ C ∧ w1.heap.size ≤ sb
  cfg : ∃ ta tc, Blk wr C (s.c.cells (.slice ta s.c.T.length tc)) 27 ∧ OwnR wr w1.heap.size 54 5 (.slice ta s.c.T.length tc) s.c.T.length (s.c.T.flatMap ThrV.cells)
  tom : ToM wr BP C mb
  seen : ∃ D : DataW Unit, wr.ownsMap Tryz.prog 9 (plainElem Tryz.prog 3) sb 6 D ∧ SeenD D s.U
  ne : mb ≠ sb
  ok : s.c.ok
theorem ne_typ {u : World} {g : Nat} {C Cs : List Value} {S T : TypeId} (h : Blk u g C S) (hne : S ≠ T) : ¬ Blk u g Cs T := fun k => hne (h.type k)
theorem ToM.owns {u : World} {B C m : Nat} (h : ToM u B C m) : ∃ D : DataW Value, u.ownsMap Tryz.prog 9 RHc m 6 D := by
  obtain ⟨D, h1, _⟩ := h
  exact ⟨D, h1⟩
theorem RdI.thr {w1 wr w' : World} {C mb sb BP : Nat} {s : CSt} (h : RdI w1 C mb sb BP s wr) {v : Value} {cs : List Value} (hb : Blk wr C cs 27) (ho : OwnR wr w1.heap.size 54 5 v s.c.T.length (s.c.T.flatMap ThrV.cells)) {t : ThrV} (ht : t.ok)
    {v2 : Value} (hC : Blk w' C (({ s.c with T := s.c.T ++ [t] } : CfM).cells v2) 27) (ho2 : OwnR w' w1.heap.size 54 5 v2 (s.c.T ++ [t]).length ((s.c.T ++ [t]).flatMap ThrV.cells)) (hA : Apart (C :: v.ownBlock.toList) wr w') : RdI w1 C mb sb BP { s with c := { s.c with T := s.c.T ++ [t] } } w' := by
  obtain ⟨va, vc, rfl, _⟩ := rowR_of_own ho2
  obtain ⟨D2, hD2⟩ := h.tom.owns
  obtain ⟨D, hD, hS⟩ := h.seen
  have hF : ∀ b ∈ C :: v.ownBlock.toList, w1.heap.size ≤ b := fun b hb2 => by
    rcases List.mem_cons.1 hb2 with rfl | q
    · exact h.low.1
    · exact (own_type ho (Option.mem_toList.1 q)).1
  refine ⟨h.bel.trans (hA.below hF h.bel.size), h.low, ⟨va, vc, hC, ho2⟩, h.tom.keep hA (fun b hb2 => ?_), ⟨D, owns_keep hD hA (fun hb2 => ?_), hS⟩, h.ne, addT_ok h.ok ht⟩
  · rcases List.mem_cons.1 hb2 with rfl | q
    · exact ⟨map_ne_blk hD2 hb, fun Cs => ne_typ hb (by decide)⟩
    · obtain ⟨_, _, C3, h3⟩ := own_type ho (Option.mem_toList.1 q)
      exact ⟨map_ne_blk hD2 h3, fun Cs => ne_typ h3 (by decide)⟩
  · rcases List.mem_cons.1 hb2 with q | q
    · exact map_ne_blk hD hb q
    · obtain ⟨_, _, C3, h3⟩ := own_type ho (Option.mem_toList.1 q)
      exact map_ne_blk hD h3 rfl
theorem RdI.put {w1 wr w' : World} {C mb sb BP : Nat} {s : CSt} (h : RdI w1 C mb sb BP s wr) {v : Value} {cs : List Value} (hb : Blk wr C cs 27) (ho : OwnR wr w1.heap.size 54 5 v s.c.T.length (s.c.T.flatMap ThrV.cells)) {k : Nat} {r : List FldV}
    (hC : Blk w' C ((setF s.c k (numsF r)).cells v) 27) (hA : Apart [C] wr w') : RdI w1 C mb sb BP { s with c := setF s.c k (numsF r) } w' := by
  obtain ⟨va, vc, rfl, _⟩ := rowR_of_own ho
  obtain ⟨D2, hD2⟩ := h.tom.owns
  obtain ⟨D, hD, hS⟩ := h.seen
  refine ⟨h.bel.trans (hA.below (fun b hb2 => by simp at hb2; rw [hb2]; exact h.low.1) h.bel.size), h.low, ⟨va, vc, ?_, ?_⟩, h.tom.keep hA (fun b hb2 => ?_), ⟨D, owns_keep hD hA (fun hb2 => ?_), hS⟩, h.ne, setF_ok h.ok k r⟩
  · show Blk w' C ((setF s.c k (numsF r)).cells (.slice va (setF s.c k (numsF r)).T.length vc)) _
    rw [setF_T]; exact hC
  · show OwnR w' _ _ 5 (.slice va (setF s.c k (numsF r)).T.length vc) (setF s.c k (numsF r)).T.length ((setF s.c k (numsF r)).T.flatMap ThrV.cells)
    rw [setF_T]
    exact own_same ho (fun g e => hA.block g (own_type ho e).2.1 (fun q => by
      simp at q
      have h1 := own_ne_blk ho hb (by decide)
      exact h1 (by rw [e, q])))
  · simp at hb2; rw [hb2]
    exact ⟨map_ne_blk hD2 hb, fun Cs => ne_typ hb (by decide)⟩
  · simp at hb2
    exact map_ne_blk hD hb hb2
theorem RdI.see {w1 wr w' : World} {C mb sb BP : Nat} {s : CSt} (h : RdI w1 C mb sb BP s wr) {D : DataW Unit} (hS : SeenD D s.U) {k n : Nat} (hk : k < 6) (hU : k ∉ s.U) (hD : w'.ownsMap Tryz.prog 9 (plainElem Tryz.prog 3) sb n (D.put (KD (kwB k)) (.lit (.int .i64 1)))) (hg : wr.grownBy w' (some sb)) : RdI w1 C mb sb BP { s with U := s.U ++ [k] } w' := by
  obtain ⟨ta, tc, h1, h2⟩ := h.cfg
  obtain ⟨D0, hD0, _⟩ := h.seen
  have hA : Apart [sb] wr w' := Apart.of_grown hg (fun b hb => by cases hb; simp)
  have hS2 := hS.step hk hU
  have hne : C ∉ [sb] := fun q => by simp at q; exact map_ne_blk hD0 h1 q.symm
  refine ⟨h.bel.trans (hA.below (fun b hb2 => by simp at hb2; rw [hb2]; exact h.low.2) h.bel.size), h.low, ⟨ta, tc, h1.apart hA hne, own_same h2 (fun g e => hA.block g (own_type h2 e).2.1 (fun q => ?_))⟩, h.tom.keep hA (fun b hb2 => ?_), ⟨_, (owns_tightG hD).mono ?_, hS2⟩, h.ne, h.ok⟩
  · simp at q
    obtain ⟨_, _, C3, h3⟩ := own_type h2 e
    exact map_ne_blk hD0 h3 q.symm
  · simp at hb2; subst hb2
    exact ⟨h.ne, fun Cs hb3 => map_ne_blk hD0 hb3 rfl⟩
  · rw [hS2.2.2.1]; exact hS2.le6
theorem RdI.later {w1 wr w' : World} {C mb sb BP : Nat} {s : CSt} (h : RdI w1 C mb sb BP s wr) (hb : Below wr.heap.size wr w') : RdI w1 C mb sb BP s w' := by
  obtain ⟨ta, tc, h1, h2⟩ := h.cfg
  obtain ⟨D0, hD0, hS⟩ := h.seen
  exact ⟨belStep h.bel hb, h.low, ⟨ta, tc, h1.later hb, h2.later hb⟩, h.tom.keep (Apart.of_below (F := []) hb) (fun b q => by cases q), ⟨D0, owns_keep hD0 (Apart.of_below (F := []) hb) (fun q => by cases q), hS⟩, h.ne, h.ok⟩
theorem RdI.belthr {w1 wr w' : World} {C mb sb BP : Nat} {s : CSt} (h : RdI w1 C mb sb BP s wr) {v : Value} (ho : OwnR wr w1.heap.size 54 5 v s.c.T.length (s.c.T.flatMap ThrV.cells)) (hA : Apart (C :: v.ownBlock.toList) wr w') : Below w1.heap.size wr w' := hA.below (fun b hb2 => by
    rcases List.mem_cons.1 hb2 with rfl | q
    · exact h.low.1
    · exact (own_type ho (Option.mem_toList.1 q)).1) h.bel.size
theorem zero_slC (w : World) : (zeroValue 47).run Tryz.prog w = .ok (.slice none 0 0) w := by kernel_rfl
theorem zero_inC (w : World) : (zeroValue 3).run Tryz.prog w = .ok (.int .i64 0) w := by kernel_rfl
theorem one_mem {k : Nat} {U : List Nat} {c : Int} (h : (DataW.lit (H := Unit) (Lit.int .i64 (if k ∈ U then 1 else 0))) = .lit (.int .i64 c)) : (k ∈ U ∧ c = 1) ∨ (k ∉ U ∧ c = 0) := by
  simp only [DataW.lit.injEq, Lit.int.injEq, true_and] at h
  by_cases hk : k ∈ U
  · rw [if_pos hk] at h; exact .inl ⟨hk, h.symm⟩
  · rw [if_neg hk] at h; exact .inr ⟨hk, h.symm⟩
theorem allF_le (n : Int) (R : List (List UInt8)) : (allF n R).length ≤ R.length := by
  induction R generalizing n with
  | nil => exact Nat.le_refl _
  | cons l R ih =>
    show (oneF n l ++ allF (n + 1) R).length ≤ _
    have h1 := ih (n + 1)
    have h2 : (oneF n l).length ≤ 1 := by unfold oneF; split <;> simp
    rw [List.length_append, List.length_cons]
    omega
theorem sum_le (R : List (List UInt8)) : R.length ≤ (R.map (fun l => l.length + 1)).sum := by
  induction R with
  | nil => exact Nat.le_refl _
  | cons l R ih => rw [List.map_cons, List.sum_cons, List.length_cons]; omega
theorem fields_le (L : List UInt8) : (fieldsF L).length ≤ L.length + 1 := by
  have h1 := allF_le 1 (linesL L)
  have h2 := sum_le (linesL L)
  rw [lines_sum] at h2
  exact Nat.le_trans h1 h2
theorem lineR_thr (s : CSt) {f : FldV} (r : List FldV) (h : f.text = tkw) : lineR s (f :: r) = match thrR r with
    | some t => .ok { s with c := { s.c with T := s.c.T ++ [t] } }
    | none => .error 2 := by
  unfold lineR thrR
  dsimp only
  rw [if_pos h]
  match r with
  | [] => rfl
  | [g] => rfl
  | _ :: _ :: _ => rfl
theorem lineR_no (s : CSt) {f : FldV} (r : List FldV) (h : ¬ f.text = tkw) (hi : idxK f.text = none) : lineR s (f :: r) = .error 2 := by
  unfold lineR
  dsimp only
  rw [if_neg h, hi]
theorem lineR_bad (s : CSt) {f : FldV} (r : List FldV) (h : ¬ f.text = tkw) {k : Nat} (hi : idxK f.text = some k) (hn : (decide (r.length = needN k) && numsOk r) = false) : lineR s (f :: r) = .error 2 := by
  unfold lineR
  dsimp only
  rw [if_neg h, hi]
  simp only
  rw [if_pos]
  rw [Bool.and_eq_false_iff] at hn
  exact hn.imp of_decide_eq_false id
theorem lineR_two (s : CSt) {f : FldV} (r : List FldV) (h : ¬ f.text = tkw) {k : Nat} (hi : idxK f.text = some k) (hn : (decide (r.length = needN k) && numsOk r) = true) (hU : k ∈ s.U) : lineR s (f :: r) = .error 5 := by
  rw [Bool.and_eq_true] at hn
  unfold lineR
  dsimp only
  rw [if_neg h, hi]
  simp only
  rw [if_neg (fun q => q.elim (fun z => z (of_decide_eq_true hn.1)) (fun z => by rw [hn.2] at z; cases z)), if_pos hU]
theorem lineR_ok (s : CSt) {f : FldV} (r : List FldV) (h : ¬ f.text = tkw) {k : Nat} (hi : idxK f.text = some k) (hn : (decide (r.length = needN k) && numsOk r) = true) (hU : k ∉ s.U) : lineR s (f :: r) = .ok ⟨setF s.c k (numsF r), s.U ++ [k]⟩ := by
  rw [Bool.and_eq_true] at hn
  unfold lineR
  dsimp only
  rw [if_neg h, hi]
  simp only
  rw [if_neg (fun q => q.elim (fun z => z (of_decide_eq_true hn.1)) (fun z => by rw [hn.2] at z; cases z)), if_neg hU]
theorem conf_err {L : List UInt8} {LL : List (List FldV)} {s : CSt} {k : Nat} {F : List FldV} {x : Int} (hc : confF L = (match linesR CSt.zero LL with | .error x => .error x | .ok s => endR s)) (hs : linesR CSt.zero LL = linesR s (LL.drop k)) (hn : linesR s (LL.drop k) = match lineR s F with | .ok s' => linesR s' (LL.drop (k + 1)) | .error e => .error (headLine F, e)) (hl : lineR s F = .error x) : confF L = .error (headLine F, x) := by
  rw [hc, hs, hn, hl]
theorem conf_step {LL : List (List FldV)} {s s2 : CSt} {k : Nat} {F : List FldV} (hs : linesR CSt.zero LL = linesR s (LL.drop k)) (hn : linesR s (LL.drop k) = match lineR s F with | .ok s' => linesR s' (LL.drop (k + 1)) | .error e => .error (headLine F, e)) (hl : lineR s F = .ok s2) : linesR CSt.zero LL = linesR s2 (LL.drop (k + 1)) := by
  rw [hs, hn, hl]
set_option maxHeartbeats 1000000 in
/-- Where Read returns: the config lies in its block. -/
theorem cf_ret (R : Nat) (W : World) (tm : Array Value) (x y : Int) (c : CfM) (tv : Value) (Q : Ending → World → Prop) (h2 : tm.getD 2 undef = .pointer (some ⟨R, 0, none⟩)) (h3 : tm.getD 3 undef = .int .i64 x) (h4 : tm.getD 4 undef = .int .i64 y) (hb : Blk W R (c.cells tv) 27) (hQ : Q (.returned (.tuple #[c.v tv, .int .i64 x, .int .i64 y])) W) :
    bodyPost Tryz.prog Tryz.f5 Q Exit.ret { tmps := tm, defers := [] } W := by
  have z0 := hb.cell (j := 0) rfl
  have z1 := hb.cell (j := 1) rfl
  have z2 := hb.cell (j := 2) rfl
  have z3 := hb.cell (j := 3) rfl
  have z4 := hb.cell (j := 4) rfl
  have z5 := hb.cell (j := 5) rfl
  have z6 := hb.cell (j := 6) rfl
  have z7 := hb.cell (j := 7) rfl
  have z8 := hb.cell (j := 8) rfl
  have z9 := hb.cell (j := 9) rfl
  have z10 := hb.cell (j := 10) rfl
  refine bodyPost_ret (v := .tuple #[c.v tv, .int .i64 x, .int .i64 y]) ?_ rfl hQ
  simp only [Array.getD_eq_getD_getElem?] at h2 h3 h4
  simp [results, Tryz.results5, go_sem, CfM.v, h2, h3, h4, z0, z1, z2, z3, z4, z5, z6, z7, z8, z9, z10]
end Go.Proofs.YtcaenbobfneejaaGreatDoor
namespace Go.Proofs.YtcaenbobfneejaaGreatDoor
open Go.RowKit Go.Sort Go.Maps Go.WideMaps
set_option linter.unusedVariables false
set_option linter.unusedSimpArgs false
set_option maxRecDepth 100000 in
set_option maxHeartbeats 32000000 in
theorem cf_Read (a : Option Addr) (len cap : Nat) (L : List UInt8) (w : World) (he : Env w) (hI : Ints .u8 w a len cap (numsL L)) :
    Calls Tryz.prog 5 #[.slice a len cap] w fun e w' => ResC w' w.heap.size e (confF L) ∧ Below w.heap.size w w' := by
  have HE := Lib.hid he
  have HI := Lib.hid hI
  clear he hI
  go_enter Tryz.func5, Tryz.ntmps5
  go_upto_region 1 with fail
  have kR := belAlloc (Below.refl w.heap.size w) (.cells #[.int .i64 0, .int .i64 0, .int .i64 0, .int .i64 0, .int .i64 0, .int .i64 0, .slice none 0 0, .int .i64 0, .int .i64 0, .int .i64 0, .int .i64 0] 27)
  have HR0 := Lib.hid (Blk.new w [.int .i64 0, .int .i64 0, .int .i64 0, .int .i64 0, .int .i64 0, .int .i64 0, .slice none 0 0, .int .i64 0, .int .i64 0, .int .i64 0, .int .i64 0] 27)
  generalize w.alloc (.cells #[.int .i64 0, .int .i64 0, .int .i64 0, .int .i64 0, .int .i64 0, .int .i64 0, .slice none 0 0, .int .i64 0, .int .i64 0, .int .i64 0, .int .i64 0] 27) = w0 at *
  have HE0 := Lib.hid (HE.out.later kR)
  obtain ⟨m, hm⟩ := HE0.out.ml
  have HI0 := Lib.hid (HI.out.later kR)
  have HB0 := Lib.hid kR
  clear kR HE HI
  cases hrd : readB L with
  | false =>
    have CL := Lib.hid (lines_no a len cap L m w0 HI0.out hm hrd)
    have HCF := Lib.hid (show confF L = .error (0, 2) from by unfold confF; rw [hrd]; rfl)
    clear hrd hm
    go_upto_region 3 with (go_at_call 12; (with_reducible refine (CL.out).mono ?_); rintro e w1 ⟨rfl, hb_⟩; have HB1 := Lib.hid (belStep HB0.out hb_); have HR1 := Lib.hid (HR0.out.later hb_); clear hb_ CL)
    have z0 := HR1.out.cell (j := 0) rfl
    have z1 := HR1.out.cell (j := 1) rfl
    have z2 := HR1.out.cell (j := 2) rfl
    have z3 := HR1.out.cell (j := 3) rfl
    have z4 := HR1.out.cell (j := 4) rfl
    have z5 := HR1.out.cell (j := 5) rfl
    have z6 := HR1.out.cell (j := 6) rfl
    have z7 := HR1.out.cell (j := 7) rfl
    have z8 := HR1.out.cell (j := 8) rfl
    have z9 := HR1.out.cell (j := 9) rfl
    have z10 := HR1.out.cell (j := 10) rfl
    have zf := HR1.out.frozen
    go_wp2
    have hb10 := (belSet (belSet (belSet (belSet (belSet (belSet (belSet (belSet (belSet (belSet (belSet HB1.out ⟨w.heap.size, 0, none⟩ (.int .i64 0) (Nat.le_refl _)) ⟨w.heap.size, 1, none⟩ (.int .i64 0) (Nat.le_refl _)) ⟨w.heap.size, 2, none⟩ (.int .i64 0) (Nat.le_refl _)) ⟨w.heap.size, 3, none⟩ (.int .i64 0) (Nat.le_refl _)) ⟨w.heap.size, 4, none⟩ (.int .i64 0) (Nat.le_refl _)) ⟨w.heap.size, 5, none⟩ (.int .i64 0) (Nat.le_refl _)) ⟨w.heap.size, 6, none⟩ (.slice none 0 0) (Nat.le_refl _)) ⟨w.heap.size, 7, none⟩ (.int .i64 0) (Nat.le_refl _)) ⟨w.heap.size, 8, none⟩ (.int .i64 0) (Nat.le_refl _)) ⟨w.heap.size, 9, none⟩ (.int .i64 0) (Nat.le_refl _)) ⟨w.heap.size, 10, none⟩ (.int .i64 0) (Nat.le_refl _))
    have hR10 := (((((((((((HR1.out.set 0 (.int .i64 0)).set 1 (.int .i64 0)).set 2 (.int .i64 0)).set 3 (.int .i64 0)).set 4 (.int .i64 0)).set 5 (.int .i64 0)).set 6 (.slice none 0 0)).set 7 (.int .i64 0)).set 8 (.int .i64 0)).set 9 (.int .i64 0)).set 10 (.int .i64 0))
    generalize (((((((((((w1.setCell ⟨w.heap.size, 0, none⟩ (.int .i64 0)).setCell ⟨w.heap.size, 1, none⟩ (.int .i64 0)).setCell ⟨w.heap.size, 2, none⟩ (.int .i64 0)).setCell ⟨w.heap.size, 3, none⟩ (.int .i64 0)).setCell ⟨w.heap.size, 4, none⟩ (.int .i64 0)).setCell ⟨w.heap.size, 5, none⟩ (.int .i64 0)).setCell ⟨w.heap.size, 6, none⟩ (.slice none 0 0)).setCell ⟨w.heap.size, 7, none⟩ (.int .i64 0)).setCell ⟨w.heap.size, 8, none⟩ (.int .i64 0)).setCell ⟨w.heap.size, 9, none⟩ (.int .i64 0)).setCell ⟨w.heap.size, 10, none⟩ (.int .i64 0)) = W10 at hb10 hR10 ⊢
    refine cf_ret w.heap.size W10 _ _ _ (CfM.zero) (.slice none 0 0) _ rfl rfl rfl hR10 ⟨?_, hb10⟩
    rw [HCF.out]
    rfl
  | true =>
    have CL := Lib.hid (lines_of a len cap L m w0 HI0.out hm hrd)
    have HRD := Lib.hid hrd
    clear hrd hm
    go_upto_region 4 with (go_at_call 12; (with_reducible refine (CL.out).mono ?_); rintro e w1 ⟨⟨lb, ln, vs, rfl, hrow_⟩, hb_⟩; have HB1 := Lib.hid (belStep HB0.out hb_); have HR1 := Lib.hid (HR0.out.later hb_); have HE1 := Lib.hid (HE0.out.later hb_); have HW := Lib.hid hrow_; clear hb_ hrow_ CL HI0 HE0 HR0 HB0)
    obtain ⟨LL, hLL⟩ : ∃ LL, fieldsF L = LL := ⟨_, rfl⟩
    rw [hLL] at HW ⊢
    have HLL := Lib.hid hLL
    clear hLL
    have HCF := Lib.hid (show confF L = (match linesR CSt.zero LL with | .error x => .error x | .ok s => endR s) from by unfold confF; rw [HRD.out, HLL.out]; rfl)
    have hln : LL.length ≤ ln ∧ ln ≤ 9223372036854775807 := by obtain ⟨_, _, e9, hr9⟩ := rowR_of_own HW.out.out; obtain ⟨_, h1, h2, _⟩ := hr9; simp at e9; obtain ⟨_, rfl⟩ := e9; unfold maxLen at h2; exact ⟨h1, h2⟩
    obtain ⟨hln1, hln2⟩ := hln
    go_upto_region 5 with fail
    have kC := belAlloc (Below.refl w1.heap.size w1) (.cells #[.int .i64 0, .int .i64 0, .int .i64 0, .int .i64 0, .int .i64 0, .int .i64 0, .slice none 0 0, .int .i64 0, .int .i64 0, .int .i64 0, .int .i64 0] 27)
    have HC0 := Lib.hid (Blk.new w1 [.int .i64 0, .int .i64 0, .int .i64 0, .int .i64 0, .int .i64 0, .int .i64 0, .slice none 0 0, .int .i64 0, .int .i64 0, .int .i64 0, .int .i64 0] 27)
    generalize w1.alloc (.cells #[.int .i64 0, .int .i64 0, .int .i64 0, .int .i64 0, .int .i64 0, .int .i64 0, .slice none 0 0, .int .i64 0, .int .i64 0, .int .i64 0, .int .i64 0] 27) = wC at *
    have HBC := Lib.hid kC
    clear kC
    have CP := Lib.hid (cf_places w1.heap.size wC)
    go_upto_region 6 with (go_at_call 13; (with_reducible refine (CP.out).mono ?_); rintro e w3 ⟨mb, rfl, hto_, hmb_, hb_⟩; have HTO := Lib.hid hto_; have hmb := hmb_; have HB3 := Lib.hid hb_; clear hto_ hmb_ hb_ CP)
    have hmm := @run_makeMap Tryz.prog
    go_upto_region 7 with fail
    clear hmm
    have kS := belAlloc (Below.refl w3.heap.size w3) (.map #[] 0)
    have HS0 := Lib.hid (World.ownsMap_made (H := Unit) w3 Tryz.prog 9 (plainElem Tryz.prog 3))
    have hmlt : mb < w3.heap.size := by obtain ⟨D, h1⟩ := HTO.out.owns; exact h1.lt
    have HRI := Lib.hid (show RdI w1 w1.heap.size mb w3.heap.size wC.heap.size CSt.zero (w3.alloc (.map #[] 0)) from ⟨belStep (belStep HBC.out HB3.out) kS, ⟨Nat.le_refl _, Nat.le_trans HBC.out.size HB3.out.size⟩, ⟨none, 0, (HC0.out.later HB3.out).later kS, OwnR.nil _ _ _ _⟩, HTO.out.keep (Apart.of_below (F := []) kS) (fun b hb => by cases hb), ⟨_, HS0.out.mono (by omega), SeenD.start⟩, (by omega), CfM.zero_ok⟩)
    generalize w3.alloc (.map #[] 0) = w4 at *
    generalize w3.heap.size = sb at *
    generalize wC.heap.size = BP at *
    clear kS HS0 HTO hmb hmlt HB3 HBC HC0
    go_wp2
    go_loopw [27] (fun i wr => ∃ (k : Nat) (s : CSt), k ≤ LL.length ∧ i = .int .i64 k ∧ Hid (linesR CSt.zero LL = linesR s (LL.drop k)) ∧ Hid (s.c.T.length ≤ k) ∧ Hid (RdI w1 w1.heap.size mb sb BP s wr)) (fun i _ => LL.length - (intOf i).toNat)
    case atStart => exact ⟨0, CSt.zero, Nat.zero_le _, rfl, Lib.hid rfl, Lib.hid (Nat.zero_le _), HRI⟩
    case round =>
      clear HRI
      obtain ⟨k, s, hk, rfl, HS, HT, HRI⟩ := hrel
      have hbel1 : Below w1.heap.size w1 wr := HRI.out.bel
      have HBw := Lib.hid (belStep HB1.out hbel1)
      by_cases hlt : k < LL.length
      · have hd : decide ((k : Int) < (LL.length : Int)) = true := decide_eq_true (by omega)
        have hki : (k : Int) < (LL.length : Int) := by omega
        have hk0 : (0 : Int) ≤ (k : Int) := by omega
        obtain ⟨F, hF⟩ : ∃ F, LL[k]? = some F := ⟨LL[k], List.getElem?_eq_getElem hlt⟩
        have hFm : F ∈ fieldsF L := by rw [HLL.out]; exact List.mem_of_getElem? hF
        have hne := fields_ne HRD.out hFm
        have HLN := Lib.hid (linesR_cut (s := s) hF)
        have htxt : ∀ x ∈ F, x.text.length ≤ 200000 := fun x hx => txt_len (read_len HRD.out) hFm hx
        cases F with
        | nil => exact absurd rfl hne
        | cons f r =>
          have HTX := Lib.hid htxt
          clear hne htxt hFm
          obtain ⟨gl, rfl⟩ : ∃ g, lb = some ⟨g, 0, none⟩ := by rcases own_shape HW.out.out with ⟨_, e9⟩ | ⟨g9, c9, e9, _⟩; omega; exact ⟨g9, by simp at e9; exact e9.1⟩
          obtain ⟨la, lc, hrowc, hown⟩ := rows_at (HW.out.later hbel1) hF
          obtain ⟨fb, rfl, _, _, hfl, c0, c1, _⟩ := fld_at hown (f := f) (k := 0) rfl
          simp only [Nat.zero_mul, Nat.zero_add] at c0 c1
          obtain ⟨_, _, e9, hfr⟩ := rowR_of_own hown
          simp only [Value.slice.injEq, true_and] at e9
          obtain ⟨rfl, rfl⟩ := e9
          have HFR := Lib.hid hfr
          have HFN := Lib.hid (show fb ≠ w1.heap.size from fun e => by obtain ⟨ta, tc, h8, _⟩ := HRI.out.cfg; obtain ⟨_, _, C3, h3⟩ := own_type hown (g := fb) rfl; rw [e] at h3; exact absurd (h3.type h8) (by decide))
          have HOW := Lib.hid hown
          clear hF hown hfr
          have hlen : (f :: r).length = r.length + 1 := rfl
          have hcapF : r.length + 1 ≤ lc ∧ lc ≤ 9223372036854775807 := by obtain ⟨_, h1, h2, _⟩ := HFR.out; unfold maxLen at h2; exact ⟨h1, h2⟩
          obtain ⟨hcF1, hcF2⟩ := hcapF
          rw [hlen] at hrowc HOW HFR
          have h0F : (0 : Int) < ((r.length + 1 : Nat) : Int) := by omega
          have h1F : (1 : Int) ≤ (r.length : Int) + 1 := by omega
          obtain ⟨wd, hwd⟩ : ∃ z, bA f.text = z := ⟨_, rfl⟩
          rw [hwd] at c0
          have HWD := Lib.hid (show wd.data.toList = f.text from by rw [← hwd]; exact bA_data _)
          clear hwd
          go_upto_region 10 with fail
          go_region
          have kd : Below wr.heap.size wr wr.drew := belDrew (Below.refl wr.heap.size wr)
          have HRI5 := Lib.hid (HRI.out.later kd)
          have HFR5 := Lib.hid (HFR.out.later kd)
          clear hbel1 HBw HRI HFR HOW hrowc c0 c1 kd
          generalize wr.drew = W5 at *
          have HBw := Lib.hid (belStep HB1.out HRI5.out.bel)
          have HE5 := Lib.hid (HE1.out.later HRI5.out.bel)
          have HR5 := Lib.hid (HR1.out.later HRI5.out.bel)
          have HCE := Lib.hid (fun (x : Int) (hx : lineR s (f :: r) = .error x) => (conf_err HCF.out HS.out HLN.out hx : confF L = .error (f.line, x)))
          by_cases htk : f.text = tkw
          · have hst : (wd.toList == [116, 104, 114, 101, 115, 104, 111, 108, 100]) = true := by rw [ByteArray.toList_eq, HWD.out, htk]; rfl
            have HTK := Lib.hid htk
            clear htk
            by_cases hc1 : lc = 1
            · have hr0 : r.length = 0 := by omega
              have hrr : Row W5 (some ⟨fb, 0, none⟩) r.length (lc - 1) 3 (r.flatMap FldV.cells) := by have z := row_dropG FldV.cells_len (by omega) (L := f :: r) (k := 1) HFR5.out (by simp); rw [if_pos hc1] at z; exact z
              obtain rfl : r = [] := List.eq_nil_of_length_eq_zero hr0
              subst hc1
              obtain ⟨ta, tc, hCb, hTo⟩ := HRI5.out.cfg
              have CT := Lib.hid (cf_thresh w1.heap.size w1.heap.size s.c (.slice ta s.c.T.length tc) (some ⟨fb, 0, none⟩) 0 [] W5 HE5.out hrr (fun x hx => Nat.le_trans (HTX.out x (List.mem_cons_of_mem _ hx)) (by omega)) hCb hTo HRI5.out.bel.size (by have h1 := HT.out; have h2 := read_len HRD.out; have h3 := fields_le L; rw [HLL.out] at h3; omega))
              have HCb := Lib.hid hCb
              have HTo := Lib.hid hTo
              clear hCb hTo hrr
              rw [show ([] : List FldV).length = 0 from rfl] at CT
              cases htr : thrR ([] : List FldV) with
              | some t =>
                have HTR := Lib.hid htr
                have htok : t.ok := by unfold thrR at htr; split at htr; exact thr_ok htr; cases htr
                go_wp2_with (go_at_call 14; (with_reducible refine (CT.out).mono ?_); rintro e w6 ⟨bq, rfl, hbv, hpost_, hA_⟩; rw [htr] at hbv; subst hbv; have HA6 := Lib.hid hA_; have HP6 := Lib.hid hpost_; clear hA_ hpost_ CT)
                obtain ⟨v2, hC2, ho2, _⟩ := HP6.out t HTR.out
                go_roundw
                case rel =>
                  refine ⟨k + 1, { s with c := { s.c with T := s.c.T ++ [t] } }, by omega, by push_cast; rfl, Lib.hid (conf_step HS.out HLN.out (by rw [lineR_thr s _ HTK.out, HTR.out])), Lib.hid ?_, Lib.hid (HRI5.out.thr HCb.out HTo.out htok hC2 ho2 HA6.out)⟩
                  show (s.c.T ++ [t]).length ≤ k + 1
                  rw [List.length_append]; have h1 := HT.out; simp; omega
                case measure => simp [intOf] <;> omega
              | none =>
                have HCX := Lib.hid (HCE.out 2 (by rw [lineR_thr s _ HTK.out, htr]))
                go_upto_region 13 with (go_at_call 14; (with_reducible refine (CT.out).mono ?_); rintro e w6 ⟨bq, rfl, hbv, hpost_, hA_⟩; rw [htr] at hbv; subst hbv; have HA6 := Lib.hid hA_; have HP6 := Lib.hid hpost_; clear hA_ hpost_ CT)
                have HB6 := Lib.hid (HRI5.out.belthr HTo.out HA6.out)
                have HR6 := Lib.hid (HR5.out.below HB6.out HR1.out.lt)
                have HBW6 := Lib.hid (HBw.out.trans (HB6.out.mono HB1.out.size))
                have z0 := HR6.out.cell (j := 0) rfl
                have z1 := HR6.out.cell (j := 1) rfl
                have z2 := HR6.out.cell (j := 2) rfl
                have z3 := HR6.out.cell (j := 3) rfl
                have z4 := HR6.out.cell (j := 4) rfl
                have z5 := HR6.out.cell (j := 5) rfl
                have z6 := HR6.out.cell (j := 6) rfl
                have z7 := HR6.out.cell (j := 7) rfl
                have z8 := HR6.out.cell (j := 8) rfl
                have z9 := HR6.out.cell (j := 9) rfl
                have z10 := HR6.out.cell (j := 10) rfl
                have zf := HR6.out.frozen
                go_wp2
                have hb10 := (belSet (belSet (belSet (belSet (belSet (belSet (belSet (belSet (belSet (belSet (belSet HBW6.out ⟨w.heap.size, 0, none⟩ (.int .i64 0) (Nat.le_refl _)) ⟨w.heap.size, 1, none⟩ (.int .i64 0) (Nat.le_refl _)) ⟨w.heap.size, 2, none⟩ (.int .i64 0) (Nat.le_refl _)) ⟨w.heap.size, 3, none⟩ (.int .i64 0) (Nat.le_refl _)) ⟨w.heap.size, 4, none⟩ (.int .i64 0) (Nat.le_refl _)) ⟨w.heap.size, 5, none⟩ (.int .i64 0) (Nat.le_refl _)) ⟨w.heap.size, 6, none⟩ (.slice none 0 0) (Nat.le_refl _)) ⟨w.heap.size, 7, none⟩ (.int .i64 0) (Nat.le_refl _)) ⟨w.heap.size, 8, none⟩ (.int .i64 0) (Nat.le_refl _)) ⟨w.heap.size, 9, none⟩ (.int .i64 0) (Nat.le_refl _)) ⟨w.heap.size, 10, none⟩ (.int .i64 0) (Nat.le_refl _))
                have hR10 := (((((((((((HR6.out.set 0 (.int .i64 0)).set 1 (.int .i64 0)).set 2 (.int .i64 0)).set 3 (.int .i64 0)).set 4 (.int .i64 0)).set 5 (.int .i64 0)).set 6 (.slice none 0 0)).set 7 (.int .i64 0)).set 8 (.int .i64 0)).set 9 (.int .i64 0)).set 10 (.int .i64 0))
                generalize (((((((((((w6.setCell ⟨w.heap.size, 0, none⟩ (.int .i64 0)).setCell ⟨w.heap.size, 1, none⟩ (.int .i64 0)).setCell ⟨w.heap.size, 2, none⟩ (.int .i64 0)).setCell ⟨w.heap.size, 3, none⟩ (.int .i64 0)).setCell ⟨w.heap.size, 4, none⟩ (.int .i64 0)).setCell ⟨w.heap.size, 5, none⟩ (.int .i64 0)).setCell ⟨w.heap.size, 6, none⟩ (.slice none 0 0)).setCell ⟨w.heap.size, 7, none⟩ (.int .i64 0)).setCell ⟨w.heap.size, 8, none⟩ (.int .i64 0)).setCell ⟨w.heap.size, 9, none⟩ (.int .i64 0)).setCell ⟨w.heap.size, 10, none⟩ (.int .i64 0)) = W10 at hb10 hR10 ⊢
                refine cf_ret w.heap.size W10 _ _ _ (CfM.zero) (.slice none 0 0) _ rfl rfl rfl hR10 ⟨?_, hb10⟩
                rw [HCX.out]
                rfl
            · have hrr : Row W5 (some ⟨fb, 3, none⟩) r.length (lc - 1) 3 (r.flatMap FldV.cells) := by have z := row_dropG FldV.cells_len (by omega) (L := f :: r) (k := 1) HFR5.out (by simp); rw [if_neg hc1] at z; simpa [Addr.add] using z
              obtain ⟨ta, tc, hCb, hTo⟩ := HRI5.out.cfg
              have CT := Lib.hid (cf_thresh w1.heap.size w1.heap.size s.c (.slice ta s.c.T.length tc) (some ⟨fb, 3, none⟩) (lc - 1) r W5 HE5.out hrr (fun x hx => Nat.le_trans (HTX.out x (List.mem_cons_of_mem _ hx)) (by omega)) hCb hTo HRI5.out.bel.size (by have h1 := HT.out; have h2 := read_len HRD.out; have h3 := fields_le L; rw [HLL.out] at h3; omega))
              have HCb := Lib.hid hCb
              have HTo := Lib.hid hTo
              clear hCb hTo hrr
              cases htr : thrR r with
              | some t =>
                have HTR := Lib.hid htr
                have htok : t.ok := by unfold thrR at htr; split at htr; exact thr_ok htr; cases htr
                go_wp2_with (go_at_call 14; (with_reducible refine (CT.out).mono ?_); rintro e w6 ⟨bq, rfl, hbv, hpost_, hA_⟩; rw [htr] at hbv; subst hbv; have HA6 := Lib.hid hA_; have HP6 := Lib.hid hpost_; clear hA_ hpost_ CT)
                obtain ⟨v2, hC2, ho2, _⟩ := HP6.out t HTR.out
                go_roundw
                case rel =>
                  refine ⟨k + 1, { s with c := { s.c with T := s.c.T ++ [t] } }, by omega, by push_cast; rfl, Lib.hid (conf_step HS.out HLN.out (by rw [lineR_thr s _ HTK.out, HTR.out])), Lib.hid ?_, Lib.hid (HRI5.out.thr HCb.out HTo.out htok hC2 ho2 HA6.out)⟩
                  show (s.c.T ++ [t]).length ≤ k + 1
                  rw [List.length_append]; have h1 := HT.out; simp; omega
                case measure => simp [intOf] <;> omega
              | none =>
                have HCX := Lib.hid (HCE.out 2 (by rw [lineR_thr s _ HTK.out, htr]))
                go_upto_region 13 with (go_at_call 14; (with_reducible refine (CT.out).mono ?_); rintro e w6 ⟨bq, rfl, hbv, hpost_, hA_⟩; rw [htr] at hbv; subst hbv; have HA6 := Lib.hid hA_; have HP6 := Lib.hid hpost_; clear hA_ hpost_ CT)
                have HB6 := Lib.hid (HRI5.out.belthr HTo.out HA6.out)
                have HR6 := Lib.hid (HR5.out.below HB6.out HR1.out.lt)
                have HBW6 := Lib.hid (HBw.out.trans (HB6.out.mono HB1.out.size))
                have z0 := HR6.out.cell (j := 0) rfl
                have z1 := HR6.out.cell (j := 1) rfl
                have z2 := HR6.out.cell (j := 2) rfl
                have z3 := HR6.out.cell (j := 3) rfl
                have z4 := HR6.out.cell (j := 4) rfl
                have z5 := HR6.out.cell (j := 5) rfl
                have z6 := HR6.out.cell (j := 6) rfl
                have z7 := HR6.out.cell (j := 7) rfl
                have z8 := HR6.out.cell (j := 8) rfl
                have z9 := HR6.out.cell (j := 9) rfl
                have z10 := HR6.out.cell (j := 10) rfl
                have zf := HR6.out.frozen
                go_wp2
                have hb10 := (belSet (belSet (belSet (belSet (belSet (belSet (belSet (belSet (belSet (belSet (belSet HBW6.out ⟨w.heap.size, 0, none⟩ (.int .i64 0) (Nat.le_refl _)) ⟨w.heap.size, 1, none⟩ (.int .i64 0) (Nat.le_refl _)) ⟨w.heap.size, 2, none⟩ (.int .i64 0) (Nat.le_refl _)) ⟨w.heap.size, 3, none⟩ (.int .i64 0) (Nat.le_refl _)) ⟨w.heap.size, 4, none⟩ (.int .i64 0) (Nat.le_refl _)) ⟨w.heap.size, 5, none⟩ (.int .i64 0) (Nat.le_refl _)) ⟨w.heap.size, 6, none⟩ (.slice none 0 0) (Nat.le_refl _)) ⟨w.heap.size, 7, none⟩ (.int .i64 0) (Nat.le_refl _)) ⟨w.heap.size, 8, none⟩ (.int .i64 0) (Nat.le_refl _)) ⟨w.heap.size, 9, none⟩ (.int .i64 0) (Nat.le_refl _)) ⟨w.heap.size, 10, none⟩ (.int .i64 0) (Nat.le_refl _))
                have hR10 := (((((((((((HR6.out.set 0 (.int .i64 0)).set 1 (.int .i64 0)).set 2 (.int .i64 0)).set 3 (.int .i64 0)).set 4 (.int .i64 0)).set 5 (.int .i64 0)).set 6 (.slice none 0 0)).set 7 (.int .i64 0)).set 8 (.int .i64 0)).set 9 (.int .i64 0)).set 10 (.int .i64 0))
                generalize (((((((((((w6.setCell ⟨w.heap.size, 0, none⟩ (.int .i64 0)).setCell ⟨w.heap.size, 1, none⟩ (.int .i64 0)).setCell ⟨w.heap.size, 2, none⟩ (.int .i64 0)).setCell ⟨w.heap.size, 3, none⟩ (.int .i64 0)).setCell ⟨w.heap.size, 4, none⟩ (.int .i64 0)).setCell ⟨w.heap.size, 5, none⟩ (.int .i64 0)).setCell ⟨w.heap.size, 6, none⟩ (.slice none 0 0)).setCell ⟨w.heap.size, 7, none⟩ (.int .i64 0)).setCell ⟨w.heap.size, 8, none⟩ (.int .i64 0)).setCell ⟨w.heap.size, 9, none⟩ (.int .i64 0)).setCell ⟨w.heap.size, 10, none⟩ (.int .i64 0)) = W10 at hb10 hR10 ⊢
                refine cf_ret w.heap.size W10 _ _ _ (CfM.zero) (.slice none 0 0) _ rfl rfl rfl hR10 ⟨?_, hb10⟩
                rw [HCX.out]
                rfl
          · have hst : (wd.toList == [116, 104, 114, 101, 115, 104, 111, 108, 100]) = false := by rw [ByteArray.toList_eq, HWD.out, beq_eq_false_iff_ne]; exact htk
            have HTK := Lib.hid htk
            clear htk
            have hwsz : wd.size ≤ maxLen := by
              have h1 := HTX.out f List.mem_cons_self
              have h2 := congrArg List.length HWD.out
              rw [Array.length_toList] at h2
              have h3 : wd.size = wd.data.size := rfl
              unfold maxLen
              omega
            go_upto_region 14 with fail
            have kd : Below W5.heap.size W5 W5.drew := belDrew (Below.refl W5.heap.size W5)
            have HRI6 := Lib.hid (HRI5.out.later kd)
            have HFR6 := Lib.hid (HFR5.out.later kd)
            have HB5d := Lib.hid kd
            clear kd
            rcases HRI6.out.tom.look wd hwsz (zero_slC _) with ⟨kk, gg, hik, hk6, hgg, hgb, hrun⟩ | ⟨hik, hrun⟩
            · have HIK := Lib.hid (show idxK f.text = some kk from by rw [← HWD.out]; exact hik)
              have HRUN := Lib.hid hrun
              have HWK := Lib.hid (idx_kw hik).2
              clear hik hrun
              obtain ⟨ta, tc, hCb, hTo⟩ := HRI6.out.cfg
              have HCb := Lib.hid hCb
              have HTo := Lib.hid hTo
              clear hCb hTo
              have hnk : ((needN kk : Int) == 0) = false := by unfold needN; split <;> rfl
              have hnk2 : ¬ (needN kk : Int) = 0 := by unfold needN; split <;> omega
              by_cases hc1 : lc = 1
              · have hr0 : r.length = 0 := by omega
                have hrr : Row W5.drew (some ⟨fb, 0, none⟩) r.length (lc - 1) 3 (r.flatMap FldV.cells) := by have z := row_dropG FldV.cells_len (by omega) (L := f :: r) (k := 1) HFR6.out (by simp); rw [if_pos hc1] at z; exact z
                obtain rfl : r = [] := List.eq_nil_of_length_eq_zero hr0
                subst hc1
                have hneg : gg ≠ w1.heap.size := fun e => by subst e; exact absurd (hgb.type HCb.out) (by decide)
                have CQ := Lib.hid (cf_quant w1.heap.size gg kk hk6 hneg s.c (.slice ta s.c.T.length tc) (some ⟨fb, 0, none⟩) 0 [] W5.drew hrr (fun y e => by cases e; exact fun q => by have h1 := HFN.out; exact h1 q) (fun x hx => Nat.le_trans (HTX.out x (List.mem_cons_of_mem _ hx)) (by unfold maxLen; omega)) HCb.out hgb)
                clear hrr
                rw [show ([] : List FldV).length = 0 from rfl] at CQ
                have hq : (decide (0 = needN kk) && numsOk ([] : List FldV)) = false := by rw [decide_eq_false (show ¬ (0 = needN kk) from by unfold needN; split <;> simp)]; rfl
                have HQ := Lib.hid hq
                clear hq
                have HCX := Lib.hid (HCE.out 2 (lineR_bad s _ HTK.out HIK.out HQ.out))
                refine wp_region_upto (S := fun u => (Instr.lookup 39 (.map (some mb)) (.string wd) false).run Tryz.prog u = .ok (.slice (some ⟨gg, 0, none⟩) (needN kk) (needN kk)) u) [11, 12, 13] (by kernel_rfl) (by exact HRUN.out) (fun hHeld => ?_)
                refine UpTo.take (i := 0) (oi := ?oi_u15) (v := ?v_u15) ?hi_u15 (by kernel_rfl) ?hf_u15 ?hr_u15 (by kernel_rfl) ?hQ_u15 (Or.inl ⟨?hw_u15, ?hy_u15⟩) (by assumption) ?rest_u15
                case hi_u15 => ((simp only [List.getElem?_toArray, List.getElem?_cons_succ, List.getElem?_cons_zero]); rfl)
                case hf_u15 => kernel_rfl
                case hr_u15 => kernel_rfl
                case hQ_u15 => exact fun _ _ _ h => h
                case hw_u15 => rfl
                case hy_u15 => ((intro w hSw; (try dsimp only at hSw); go_simp); all_goals (with_reducible rfl))
                try simp only [Act.put, List.setIfInBounds_toArray, List.set_cons_zero, List.set_cons_succ]
                refine UpTo.take (i := 1) (oi := ?oi_u16) (v := ?v_u16) ?hi_u16 (by kernel_rfl) ?hf_u16 ?hr_u16 (by kernel_rfl) ?hQ_u16 (Or.inl ⟨?hw_u16, ?hy_u16⟩) (by assumption) ?rest_u16
                case hi_u16 => ((simp only [List.getElem?_toArray, List.getElem?_cons_succ, List.getElem?_cons_zero]); rfl)
                case hf_u16 => kernel_rfl
                case hr_u16 => kernel_rfl
                case hQ_u16 => exact fun _ _ _ h => h
                case hw_u16 => rfl
                case hy_u16 => ((intro w hSw; (try dsimp only at hSw); go_simp); all_goals (with_reducible rfl))
                try simp only [Act.put, List.setIfInBounds_toArray, List.set_cons_zero, List.set_cons_succ]
                refine UpTo.take (i := 2) (oi := ?oi_u17) (v := ?v_u17) ?hi_u17 (by kernel_rfl) ?hf_u17 ?hr_u17 (by kernel_rfl) ?hQ_u17 (Or.inl ⟨?hw_u17, ?hy_u17⟩) (by assumption) ?rest_u17
                case hi_u17 => ((simp only [List.getElem?_toArray, List.getElem?_cons_succ, List.getElem?_cons_zero]); rfl)
                case hf_u17 => kernel_rfl
                case hr_u17 => kernel_rfl
                case hQ_u17 => exact fun _ _ _ h => h
                case hw_u17 => rfl
                case hy_u17 => ((intro w hSw; (try dsimp only at hSw); go_simp); all_goals (with_reducible rfl))
                try simp only [Act.put, List.setIfInBounds_toArray, List.set_cons_zero, List.set_cons_succ]
                refine UpTo.take (i := 3) (oi := ?oi_u18) (v := ?v_u18) ?hi_u18 (by kernel_rfl) ?hf_u18 ?hr_u18 (by kernel_rfl) ?hQ_u18 (Or.inl ⟨?hw_u18, ?hy_u18⟩) (by assumption) ?rest_u18
                case hi_u18 => ((simp only [List.getElem?_toArray, List.getElem?_cons_succ, List.getElem?_cons_zero]); rfl)
                case hf_u18 => kernel_rfl
                case hr_u18 => kernel_rfl
                case hQ_u18 => exact fun _ _ _ h => h
                case hw_u18 => rfl
                case hy_u18 => ((intro w hSw; (try dsimp only at hSw); go_simp); all_goals (with_reducible rfl))
                try simp only [Act.put, List.setIfInBounds_toArray, List.set_cons_zero, List.set_cons_succ]
                refine UpTo.take (i := 4) (oi := ?oi_u19) (v := ?v_u19) ?hi_u19 (by kernel_rfl) ?hf_u19 ?hr_u19 (by kernel_rfl) ?hQ_u19 (Or.inl ⟨?hw_u19, ?hy_u19⟩) (by assumption) ?rest_u19
                case hi_u19 => ((simp only [List.getElem?_toArray, List.getElem?_cons_succ, List.getElem?_cons_zero]); rfl)
                case hf_u19 => kernel_rfl
                case hr_u19 => kernel_rfl
                case hQ_u19 => exact fun _ _ _ h => h
                case hw_u19 => rfl
                case hy_u19 => ((intro w hSw; (try dsimp only at hSw); go_simp); all_goals (with_reducible rfl))
                try simp only [Act.put, List.setIfInBounds_toArray, List.set_cons_zero, List.set_cons_succ]
                refine UpTo.take (i := 5) (oi := ?oi_u20) (v := ?v_u20) ?hi_u20 (by kernel_rfl) ?hf_u20 ?hr_u20 (by kernel_rfl) ?hQ_u20 (Or.inl ⟨?hw_u20, ?hy_u20⟩) (by assumption) ?rest_u20
                case hi_u20 => ((simp only [List.getElem?_toArray, List.getElem?_cons_succ, List.getElem?_cons_zero]); rfl)
                case hf_u20 => kernel_rfl
                case hr_u20 => kernel_rfl
                case hQ_u20 => exact fun _ _ _ h => h
                case hw_u20 => rfl
                case hy_u20 => ((intro w hSw; (try dsimp only at hSw); go_simp); all_goals (with_reducible rfl))
                try simp only [Act.put, List.setIfInBounds_toArray, List.set_cons_zero, List.set_cons_succ]
                refine UpTo.take (i := 6) (oi := ?oi_u21) (v := ?v_u21) ?hi_u21 (by kernel_rfl) ?hf_u21 ?hr_u21 (by kernel_rfl) ?hQ_u21 (Or.inl ⟨?hw_u21, ?hy_u21⟩) (by assumption) ?rest_u21
                case hi_u21 => ((simp only [List.getElem?_toArray, List.getElem?_cons_succ, List.getElem?_cons_zero]); rfl)
                case hf_u21 => kernel_rfl
                case hr_u21 => kernel_rfl
                case hQ_u21 => exact fun _ _ _ h => h
                case hw_u21 => rfl
                case hy_u21 => ((intro w hSw; (try dsimp only at hSw); go_simp); all_goals (with_reducible rfl))
                try simp only [Act.put, List.setIfInBounds_toArray, List.set_cons_zero, List.set_cons_succ]
                refine UpTo.take (i := 7) (oi := ?oi_u22) (v := ?v_u22) ?hi_u22 (by kernel_rfl) ?hf_u22 ?hr_u22 (by kernel_rfl) ?hQ_u22 (Or.inl ⟨?hw_u22, ?hy_u22⟩) (by assumption) ?rest_u22
                case hi_u22 => ((simp only [List.getElem?_toArray, List.getElem?_cons_succ, List.getElem?_cons_zero]); rfl)
                case hf_u22 => kernel_rfl
                case hr_u22 => kernel_rfl
                case hQ_u22 => exact fun _ _ _ h => h
                case hw_u22 => rfl
                case hy_u22 => ((intro w hSw; (try dsimp only at hSw); go_simp); all_goals (with_reducible rfl))
                try simp only [Act.put, List.setIfInBounds_toArray, List.set_cons_zero, List.set_cons_succ]
                refine UpTo.take (i := 8) (oi := ?oi_u23) (v := ?v_u23) ?hi_u23 (by kernel_rfl) ?hf_u23 ?hr_u23 (by kernel_rfl) ?hQ_u23 (Or.inl ⟨?hw_u23, ?hy_u23⟩) (by assumption) ?rest_u23
                case hi_u23 => ((simp only [List.getElem?_toArray, List.getElem?_cons_succ, List.getElem?_cons_zero]); rfl)
                case hf_u23 => kernel_rfl
                case hr_u23 => kernel_rfl
                case hQ_u23 => exact fun _ _ _ h => h
                case hw_u23 => rfl
                case hy_u23 => ((intro w hSw; (try dsimp only at hSw); go_simp); all_goals (with_reducible rfl))
                try simp only [Act.put, List.setIfInBounds_toArray, List.set_cons_zero, List.set_cons_succ]
                refine UpTo.take (i := 9) (oi := ?oi_u24) (v := ?v_u24) ?hi_u24 (by kernel_rfl) ?hf_u24 ?hr_u24 (by kernel_rfl) ?hQ_u24 (Or.inl ⟨?hw_u24, ?hy_u24⟩) (by assumption) ?rest_u24
                case hi_u24 => ((simp only [List.getElem?_toArray, List.getElem?_cons_succ, List.getElem?_cons_zero]); rfl)
                case hf_u24 => kernel_rfl
                case hr_u24 => kernel_rfl
                case hQ_u24 => exact fun _ _ _ h => h
                case hw_u24 => rfl
                case hy_u24 => ((intro w hSw; (try dsimp only at hSw); go_simp); all_goals (with_reducible rfl))
                try simp only [Act.put, List.setIfInBounds_toArray, List.set_cons_zero, List.set_cons_succ]
                refine UpTo.take (i := 10) (oi := ?oi_u25) (v := ?v_u25) ?hi_u25 (by kernel_rfl) ?hf_u25 ?hr_u25 (by kernel_rfl) ?hQ_u25 (Or.inl ⟨?hw_u25, ?hy_u25⟩) (by assumption) ?rest_u25
                case hi_u25 => ((simp only [List.getElem?_toArray, List.getElem?_cons_succ, List.getElem?_cons_zero]); rfl)
                case hf_u25 => kernel_rfl
                case hr_u25 => kernel_rfl
                case hQ_u25 => exact fun _ _ _ h => h
                case hw_u25 => rfl
                case hy_u25 => ((intro w hSw; (try dsimp only at hSw); go_simp); all_goals (with_reducible rfl))
                try simp only [Act.put, List.setIfInBounds_toArray, List.set_cons_zero, List.set_cons_succ]
                refine UpTo.one (i := 11) (o := ?o_u26) (by kernel_rfl) ?hi_u26 (fun K hK => ?rest_u26)
                case hi_u26 => ((simp only [List.getElem?_toArray, List.getElem?_cons_succ, List.getElem?_cons_zero]); rfl)
                go_simp
                (go_at_call 15; (with_reducible refine (CQ.out).mono ?_); rintro e w6 ⟨bq, rfl, hbv, hA_, hpost_⟩; rw [HQ.out] at hbv; subst hbv; have HA6 := Lib.hid hA_; have HP6 := Lib.hid hpost_; clear hA_ hpost_ CQ)
                try go_simp
                refine hK.out _ _ (fun q => absurd q (by decide)) (fun _ => ?_)
                clear hK K
                try simp only [Act.put, List.setIfInBounds_toArray, List.set_cons_zero, List.set_cons_succ]
                refine UpTo.one (i := 12) (o := ?o_u27) (by kernel_rfl) ?hi_u27 (fun K hK => ?rest_u27)
                case hi_u27 => ((simp only [List.getElem?_toArray, List.getElem?_cons_succ, List.getElem?_cons_zero]); rfl)
                go_simp
                refine hK.out _ _ (fun q => absurd q (by decide)) (fun _ => ?_)
                clear hK K
                try simp only [Act.put, List.setIfInBounds_toArray, List.set_cons_zero, List.set_cons_succ]
                refine UpTo.one (i := 13) (o := ?o_u28) (by kernel_rfl) ?hi_u28 (fun K hK => ?rest_u28)
                case hi_u28 => ((simp only [List.getElem?_toArray, List.getElem?_cons_succ, List.getElem?_cons_zero]); rfl)
                go_simp
                refine hK.out _ _ (fun q => absurd q (by decide)) (fun _ => ?_)
                clear hK K
                try simp only [Act.put, List.setIfInBounds_toArray, List.set_cons_zero, List.set_cons_succ]
                refine UpTo.done (by kernel_rfl) ?_ _
                have HB6 := Lib.hid (show Below w1.heap.size W5 w6 from (HB5d.out.mono HRI5.out.bel.size).trans (HA6.out.below (fun b hb => by simp at hb; rw [hb]; exact Nat.le_refl _) HRI6.out.bel.size))
                have HR6 := Lib.hid (HR5.out.below HB6.out HR1.out.lt)
                have HBW6 := Lib.hid (HBw.out.trans (HB6.out.mono HB1.out.size))
                have z0 := HR6.out.cell (j := 0) rfl
                have z1 := HR6.out.cell (j := 1) rfl
                have z2 := HR6.out.cell (j := 2) rfl
                have z3 := HR6.out.cell (j := 3) rfl
                have z4 := HR6.out.cell (j := 4) rfl
                have z5 := HR6.out.cell (j := 5) rfl
                have z6 := HR6.out.cell (j := 6) rfl
                have z7 := HR6.out.cell (j := 7) rfl
                have z8 := HR6.out.cell (j := 8) rfl
                have z9 := HR6.out.cell (j := 9) rfl
                have z10 := HR6.out.cell (j := 10) rfl
                have zf := HR6.out.frozen
                go_wp2
                have hb10 := (belSet (belSet (belSet (belSet (belSet (belSet (belSet (belSet (belSet (belSet (belSet HBW6.out ⟨w.heap.size, 0, none⟩ (.int .i64 0) (Nat.le_refl _)) ⟨w.heap.size, 1, none⟩ (.int .i64 0) (Nat.le_refl _)) ⟨w.heap.size, 2, none⟩ (.int .i64 0) (Nat.le_refl _)) ⟨w.heap.size, 3, none⟩ (.int .i64 0) (Nat.le_refl _)) ⟨w.heap.size, 4, none⟩ (.int .i64 0) (Nat.le_refl _)) ⟨w.heap.size, 5, none⟩ (.int .i64 0) (Nat.le_refl _)) ⟨w.heap.size, 6, none⟩ (.slice none 0 0) (Nat.le_refl _)) ⟨w.heap.size, 7, none⟩ (.int .i64 0) (Nat.le_refl _)) ⟨w.heap.size, 8, none⟩ (.int .i64 0) (Nat.le_refl _)) ⟨w.heap.size, 9, none⟩ (.int .i64 0) (Nat.le_refl _)) ⟨w.heap.size, 10, none⟩ (.int .i64 0) (Nat.le_refl _))
                have hR10 := (((((((((((HR6.out.set 0 (.int .i64 0)).set 1 (.int .i64 0)).set 2 (.int .i64 0)).set 3 (.int .i64 0)).set 4 (.int .i64 0)).set 5 (.int .i64 0)).set 6 (.slice none 0 0)).set 7 (.int .i64 0)).set 8 (.int .i64 0)).set 9 (.int .i64 0)).set 10 (.int .i64 0))
                generalize (((((((((((w6.setCell ⟨w.heap.size, 0, none⟩ (.int .i64 0)).setCell ⟨w.heap.size, 1, none⟩ (.int .i64 0)).setCell ⟨w.heap.size, 2, none⟩ (.int .i64 0)).setCell ⟨w.heap.size, 3, none⟩ (.int .i64 0)).setCell ⟨w.heap.size, 4, none⟩ (.int .i64 0)).setCell ⟨w.heap.size, 5, none⟩ (.int .i64 0)).setCell ⟨w.heap.size, 6, none⟩ (.slice none 0 0)).setCell ⟨w.heap.size, 7, none⟩ (.int .i64 0)).setCell ⟨w.heap.size, 8, none⟩ (.int .i64 0)).setCell ⟨w.heap.size, 9, none⟩ (.int .i64 0)).setCell ⟨w.heap.size, 10, none⟩ (.int .i64 0)) = W10 at hb10 hR10 ⊢
                refine cf_ret w.heap.size W10 _ _ _ (CfM.zero) (.slice none 0 0) _ rfl rfl rfl hR10 ⟨?_, hb10⟩
                rw [HCX.out]
                rfl
              · have hrr : Row W5.drew (some ⟨fb, 3, none⟩) r.length (lc - 1) 3 (r.flatMap FldV.cells) := by have z := row_dropG FldV.cells_len (by omega) (L := f :: r) (k := 1) HFR6.out (by simp); rw [if_neg hc1] at z; simpa [Addr.add] using z
                have hneg : gg ≠ w1.heap.size := fun e => by subst e; exact absurd (hgb.type HCb.out) (by decide)
                have CQ := Lib.hid (cf_quant w1.heap.size gg kk hk6 hneg s.c (.slice ta s.c.T.length tc) (some ⟨fb, 3, none⟩) (lc - 1) r W5.drew hrr (fun y e => by cases e; exact fun q => by have h1 := HFN.out; exact h1 q) (fun x hx => Nat.le_trans (HTX.out x (List.mem_cons_of_mem _ hx)) (by unfold maxLen; omega)) HCb.out hgb)
                clear hrr
                cases hq : (decide (r.length = needN kk) && numsOk r) with
                | false =>
                  have HQ := Lib.hid hq
                  clear hq
                  have HCX := Lib.hid (HCE.out 2 (lineR_bad s _ HTK.out HIK.out HQ.out))
                  refine wp_region_upto (S := fun u => (Instr.lookup 39 (.map (some mb)) (.string wd) false).run Tryz.prog u = .ok (.slice (some ⟨gg, 0, none⟩) (needN kk) (needN kk)) u) [11, 12, 13] (by kernel_rfl) (by exact HRUN.out) (fun hHeld => ?_)
                  refine UpTo.take (i := 0) (oi := ?oi_u29) (v := ?v_u29) ?hi_u29 (by kernel_rfl) ?hf_u29 ?hr_u29 (by kernel_rfl) ?hQ_u29 (Or.inl ⟨?hw_u29, ?hy_u29⟩) (by assumption) ?rest_u29
                  case hi_u29 => ((simp only [List.getElem?_toArray, List.getElem?_cons_succ, List.getElem?_cons_zero]); rfl)
                  case hf_u29 => kernel_rfl
                  case hr_u29 => kernel_rfl
                  case hQ_u29 => exact fun _ _ _ h => h
                  case hw_u29 => rfl
                  case hy_u29 => ((intro w hSw; (try dsimp only at hSw); go_simp); all_goals (with_reducible rfl))
                  try simp only [Act.put, List.setIfInBounds_toArray, List.set_cons_zero, List.set_cons_succ]
                  refine UpTo.take (i := 1) (oi := ?oi_u30) (v := ?v_u30) ?hi_u30 (by kernel_rfl) ?hf_u30 ?hr_u30 (by kernel_rfl) ?hQ_u30 (Or.inl ⟨?hw_u30, ?hy_u30⟩) (by assumption) ?rest_u30
                  case hi_u30 => ((simp only [List.getElem?_toArray, List.getElem?_cons_succ, List.getElem?_cons_zero]); rfl)
                  case hf_u30 => kernel_rfl
                  case hr_u30 => kernel_rfl
                  case hQ_u30 => exact fun _ _ _ h => h
                  case hw_u30 => rfl
                  case hy_u30 => ((intro w hSw; (try dsimp only at hSw); go_simp); all_goals (with_reducible rfl))
                  try simp only [Act.put, List.setIfInBounds_toArray, List.set_cons_zero, List.set_cons_succ]
                  refine UpTo.take (i := 2) (oi := ?oi_u31) (v := ?v_u31) ?hi_u31 (by kernel_rfl) ?hf_u31 ?hr_u31 (by kernel_rfl) ?hQ_u31 (Or.inl ⟨?hw_u31, ?hy_u31⟩) (by assumption) ?rest_u31
                  case hi_u31 => ((simp only [List.getElem?_toArray, List.getElem?_cons_succ, List.getElem?_cons_zero]); rfl)
                  case hf_u31 => kernel_rfl
                  case hr_u31 => kernel_rfl
                  case hQ_u31 => exact fun _ _ _ h => h
                  case hw_u31 => rfl
                  case hy_u31 => ((intro w hSw; (try dsimp only at hSw); go_simp); all_goals (with_reducible rfl))
                  try simp only [Act.put, List.setIfInBounds_toArray, List.set_cons_zero, List.set_cons_succ]
                  refine UpTo.take (i := 3) (oi := ?oi_u32) (v := ?v_u32) ?hi_u32 (by kernel_rfl) ?hf_u32 ?hr_u32 (by kernel_rfl) ?hQ_u32 (Or.inl ⟨?hw_u32, ?hy_u32⟩) (by assumption) ?rest_u32
                  case hi_u32 => ((simp only [List.getElem?_toArray, List.getElem?_cons_succ, List.getElem?_cons_zero]); rfl)
                  case hf_u32 => kernel_rfl
                  case hr_u32 => kernel_rfl
                  case hQ_u32 => exact fun _ _ _ h => h
                  case hw_u32 => rfl
                  case hy_u32 => ((intro w hSw; (try dsimp only at hSw); go_simp); all_goals (with_reducible rfl))
                  try simp only [Act.put, List.setIfInBounds_toArray, List.set_cons_zero, List.set_cons_succ]
                  refine UpTo.take (i := 4) (oi := ?oi_u33) (v := ?v_u33) ?hi_u33 (by kernel_rfl) ?hf_u33 ?hr_u33 (by kernel_rfl) ?hQ_u33 (Or.inl ⟨?hw_u33, ?hy_u33⟩) (by assumption) ?rest_u33
                  case hi_u33 => ((simp only [List.getElem?_toArray, List.getElem?_cons_succ, List.getElem?_cons_zero]); rfl)
                  case hf_u33 => kernel_rfl
                  case hr_u33 => kernel_rfl
                  case hQ_u33 => exact fun _ _ _ h => h
                  case hw_u33 => rfl
                  case hy_u33 => ((intro w hSw; (try dsimp only at hSw); go_simp); all_goals (with_reducible rfl))
                  try simp only [Act.put, List.setIfInBounds_toArray, List.set_cons_zero, List.set_cons_succ]
                  refine UpTo.take (i := 5) (oi := ?oi_u34) (v := ?v_u34) ?hi_u34 (by kernel_rfl) ?hf_u34 ?hr_u34 (by kernel_rfl) ?hQ_u34 (Or.inl ⟨?hw_u34, ?hy_u34⟩) (by assumption) ?rest_u34
                  case hi_u34 => ((simp only [List.getElem?_toArray, List.getElem?_cons_succ, List.getElem?_cons_zero]); rfl)
                  case hf_u34 => kernel_rfl
                  case hr_u34 => kernel_rfl
                  case hQ_u34 => exact fun _ _ _ h => h
                  case hw_u34 => rfl
                  case hy_u34 => ((intro w hSw; (try dsimp only at hSw); go_simp); all_goals (with_reducible rfl))
                  try simp only [Act.put, List.setIfInBounds_toArray, List.set_cons_zero, List.set_cons_succ]
                  refine UpTo.take (i := 6) (oi := ?oi_u35) (v := ?v_u35) ?hi_u35 (by kernel_rfl) ?hf_u35 ?hr_u35 (by kernel_rfl) ?hQ_u35 (Or.inl ⟨?hw_u35, ?hy_u35⟩) (by assumption) ?rest_u35
                  case hi_u35 => ((simp only [List.getElem?_toArray, List.getElem?_cons_succ, List.getElem?_cons_zero]); rfl)
                  case hf_u35 => kernel_rfl
                  case hr_u35 => kernel_rfl
                  case hQ_u35 => exact fun _ _ _ h => h
                  case hw_u35 => rfl
                  case hy_u35 => ((intro w hSw; (try dsimp only at hSw); go_simp); all_goals (with_reducible rfl))
                  try simp only [Act.put, List.setIfInBounds_toArray, List.set_cons_zero, List.set_cons_succ]
                  refine UpTo.take (i := 7) (oi := ?oi_u36) (v := ?v_u36) ?hi_u36 (by kernel_rfl) ?hf_u36 ?hr_u36 (by kernel_rfl) ?hQ_u36 (Or.inl ⟨?hw_u36, ?hy_u36⟩) (by assumption) ?rest_u36
                  case hi_u36 => ((simp only [List.getElem?_toArray, List.getElem?_cons_succ, List.getElem?_cons_zero]); rfl)
                  case hf_u36 => kernel_rfl
                  case hr_u36 => kernel_rfl
                  case hQ_u36 => exact fun _ _ _ h => h
                  case hw_u36 => rfl
                  case hy_u36 => ((intro w hSw; (try dsimp only at hSw); go_simp); all_goals (with_reducible rfl))
                  try simp only [Act.put, List.setIfInBounds_toArray, List.set_cons_zero, List.set_cons_succ]
                  refine UpTo.take (i := 8) (oi := ?oi_u37) (v := ?v_u37) ?hi_u37 (by kernel_rfl) ?hf_u37 ?hr_u37 (by kernel_rfl) ?hQ_u37 (Or.inl ⟨?hw_u37, ?hy_u37⟩) (by assumption) ?rest_u37
                  case hi_u37 => ((simp only [List.getElem?_toArray, List.getElem?_cons_succ, List.getElem?_cons_zero]); rfl)
                  case hf_u37 => kernel_rfl
                  case hr_u37 => kernel_rfl
                  case hQ_u37 => exact fun _ _ _ h => h
                  case hw_u37 => rfl
                  case hy_u37 => ((intro w hSw; (try dsimp only at hSw); go_simp); all_goals (with_reducible rfl))
                  try simp only [Act.put, List.setIfInBounds_toArray, List.set_cons_zero, List.set_cons_succ]
                  refine UpTo.take (i := 9) (oi := ?oi_u38) (v := ?v_u38) ?hi_u38 (by kernel_rfl) ?hf_u38 ?hr_u38 (by kernel_rfl) ?hQ_u38 (Or.inl ⟨?hw_u38, ?hy_u38⟩) (by assumption) ?rest_u38
                  case hi_u38 => ((simp only [List.getElem?_toArray, List.getElem?_cons_succ, List.getElem?_cons_zero]); rfl)
                  case hf_u38 => kernel_rfl
                  case hr_u38 => kernel_rfl
                  case hQ_u38 => exact fun _ _ _ h => h
                  case hw_u38 => rfl
                  case hy_u38 => ((intro w hSw; (try dsimp only at hSw); go_simp); all_goals (with_reducible rfl))
                  try simp only [Act.put, List.setIfInBounds_toArray, List.set_cons_zero, List.set_cons_succ]
                  refine UpTo.take (i := 10) (oi := ?oi_u39) (v := ?v_u39) ?hi_u39 (by kernel_rfl) ?hf_u39 ?hr_u39 (by kernel_rfl) ?hQ_u39 (Or.inl ⟨?hw_u39, ?hy_u39⟩) (by assumption) ?rest_u39
                  case hi_u39 => ((simp only [List.getElem?_toArray, List.getElem?_cons_succ, List.getElem?_cons_zero]); rfl)
                  case hf_u39 => kernel_rfl
                  case hr_u39 => kernel_rfl
                  case hQ_u39 => exact fun _ _ _ h => h
                  case hw_u39 => rfl
                  case hy_u39 => ((intro w hSw; (try dsimp only at hSw); go_simp); all_goals (with_reducible rfl))
                  try simp only [Act.put, List.setIfInBounds_toArray, List.set_cons_zero, List.set_cons_succ]
                  refine UpTo.one (i := 11) (o := ?o_u40) (by kernel_rfl) ?hi_u40 (fun K hK => ?rest_u40)
                  case hi_u40 => ((simp only [List.getElem?_toArray, List.getElem?_cons_succ, List.getElem?_cons_zero]); rfl)
                  go_simp
                  (go_at_call 15; (with_reducible refine (CQ.out).mono ?_); rintro e w6 ⟨bq, rfl, hbv, hA_, hpost_⟩; rw [HQ.out] at hbv; subst hbv; have HA6 := Lib.hid hA_; have HP6 := Lib.hid hpost_; clear hA_ hpost_ CQ)
                  try go_simp
                  refine hK.out _ _ (fun q => absurd q (by decide)) (fun _ => ?_)
                  clear hK K
                  try simp only [Act.put, List.setIfInBounds_toArray, List.set_cons_zero, List.set_cons_succ]
                  refine UpTo.one (i := 12) (o := ?o_u41) (by kernel_rfl) ?hi_u41 (fun K hK => ?rest_u41)
                  case hi_u41 => ((simp only [List.getElem?_toArray, List.getElem?_cons_succ, List.getElem?_cons_zero]); rfl)
                  go_simp
                  refine hK.out _ _ (fun q => absurd q (by decide)) (fun _ => ?_)
                  clear hK K
                  try simp only [Act.put, List.setIfInBounds_toArray, List.set_cons_zero, List.set_cons_succ]
                  refine UpTo.one (i := 13) (o := ?o_u42) (by kernel_rfl) ?hi_u42 (fun K hK => ?rest_u42)
                  case hi_u42 => ((simp only [List.getElem?_toArray, List.getElem?_cons_succ, List.getElem?_cons_zero]); rfl)
                  go_simp
                  refine hK.out _ _ (fun q => absurd q (by decide)) (fun _ => ?_)
                  clear hK K
                  try simp only [Act.put, List.setIfInBounds_toArray, List.set_cons_zero, List.set_cons_succ]
                  refine UpTo.done (by kernel_rfl) ?_ _
                  have HB6 := Lib.hid (show Below w1.heap.size W5 w6 from (HB5d.out.mono HRI5.out.bel.size).trans (HA6.out.below (fun b hb => by simp at hb; rw [hb]; exact Nat.le_refl _) HRI6.out.bel.size))
                  have HR6 := Lib.hid (HR5.out.below HB6.out HR1.out.lt)
                  have HBW6 := Lib.hid (HBw.out.trans (HB6.out.mono HB1.out.size))
                  have z0 := HR6.out.cell (j := 0) rfl
                  have z1 := HR6.out.cell (j := 1) rfl
                  have z2 := HR6.out.cell (j := 2) rfl
                  have z3 := HR6.out.cell (j := 3) rfl
                  have z4 := HR6.out.cell (j := 4) rfl
                  have z5 := HR6.out.cell (j := 5) rfl
                  have z6 := HR6.out.cell (j := 6) rfl
                  have z7 := HR6.out.cell (j := 7) rfl
                  have z8 := HR6.out.cell (j := 8) rfl
                  have z9 := HR6.out.cell (j := 9) rfl
                  have z10 := HR6.out.cell (j := 10) rfl
                  have zf := HR6.out.frozen
                  go_wp2
                  have hb10 := (belSet (belSet (belSet (belSet (belSet (belSet (belSet (belSet (belSet (belSet (belSet HBW6.out ⟨w.heap.size, 0, none⟩ (.int .i64 0) (Nat.le_refl _)) ⟨w.heap.size, 1, none⟩ (.int .i64 0) (Nat.le_refl _)) ⟨w.heap.size, 2, none⟩ (.int .i64 0) (Nat.le_refl _)) ⟨w.heap.size, 3, none⟩ (.int .i64 0) (Nat.le_refl _)) ⟨w.heap.size, 4, none⟩ (.int .i64 0) (Nat.le_refl _)) ⟨w.heap.size, 5, none⟩ (.int .i64 0) (Nat.le_refl _)) ⟨w.heap.size, 6, none⟩ (.slice none 0 0) (Nat.le_refl _)) ⟨w.heap.size, 7, none⟩ (.int .i64 0) (Nat.le_refl _)) ⟨w.heap.size, 8, none⟩ (.int .i64 0) (Nat.le_refl _)) ⟨w.heap.size, 9, none⟩ (.int .i64 0) (Nat.le_refl _)) ⟨w.heap.size, 10, none⟩ (.int .i64 0) (Nat.le_refl _))
                  have hR10 := (((((((((((HR6.out.set 0 (.int .i64 0)).set 1 (.int .i64 0)).set 2 (.int .i64 0)).set 3 (.int .i64 0)).set 4 (.int .i64 0)).set 5 (.int .i64 0)).set 6 (.slice none 0 0)).set 7 (.int .i64 0)).set 8 (.int .i64 0)).set 9 (.int .i64 0)).set 10 (.int .i64 0))
                  generalize (((((((((((w6.setCell ⟨w.heap.size, 0, none⟩ (.int .i64 0)).setCell ⟨w.heap.size, 1, none⟩ (.int .i64 0)).setCell ⟨w.heap.size, 2, none⟩ (.int .i64 0)).setCell ⟨w.heap.size, 3, none⟩ (.int .i64 0)).setCell ⟨w.heap.size, 4, none⟩ (.int .i64 0)).setCell ⟨w.heap.size, 5, none⟩ (.int .i64 0)).setCell ⟨w.heap.size, 6, none⟩ (.slice none 0 0)).setCell ⟨w.heap.size, 7, none⟩ (.int .i64 0)).setCell ⟨w.heap.size, 8, none⟩ (.int .i64 0)).setCell ⟨w.heap.size, 9, none⟩ (.int .i64 0)).setCell ⟨w.heap.size, 10, none⟩ (.int .i64 0)) = W10 at hb10 hR10 ⊢
                  refine cf_ret w.heap.size W10 _ _ _ (CfM.zero) (.slice none 0 0) _ rfl rfl rfl hR10 ⟨?_, hb10⟩
                  rw [HCX.out]
                  rfl
                | true =>
                  have HQ := Lib.hid hq
                  clear hq
                  refine wp_region_upto (S := fun u => (Instr.lookup 39 (.map (some mb)) (.string wd) false).run Tryz.prog u = .ok (.slice (some ⟨gg, 0, none⟩) (needN kk) (needN kk)) u) [11, 12, 13] (by kernel_rfl) (by exact HRUN.out) (fun hHeld => ?_)
                  refine UpTo.take (i := 0) (oi := ?oi_u43) (v := ?v_u43) ?hi_u43 (by kernel_rfl) ?hf_u43 ?hr_u43 (by kernel_rfl) ?hQ_u43 (Or.inl ⟨?hw_u43, ?hy_u43⟩) (by assumption) ?rest_u43
                  case hi_u43 => ((simp only [List.getElem?_toArray, List.getElem?_cons_succ, List.getElem?_cons_zero]); rfl)
                  case hf_u43 => kernel_rfl
                  case hr_u43 => kernel_rfl
                  case hQ_u43 => exact fun _ _ _ h => h
                  case hw_u43 => rfl
                  case hy_u43 => ((intro w hSw; (try dsimp only at hSw); go_simp); all_goals (with_reducible rfl))
                  try simp only [Act.put, List.setIfInBounds_toArray, List.set_cons_zero, List.set_cons_succ]
                  refine UpTo.take (i := 1) (oi := ?oi_u44) (v := ?v_u44) ?hi_u44 (by kernel_rfl) ?hf_u44 ?hr_u44 (by kernel_rfl) ?hQ_u44 (Or.inl ⟨?hw_u44, ?hy_u44⟩) (by assumption) ?rest_u44
                  case hi_u44 => ((simp only [List.getElem?_toArray, List.getElem?_cons_succ, List.getElem?_cons_zero]); rfl)
                  case hf_u44 => kernel_rfl
                  case hr_u44 => kernel_rfl
                  case hQ_u44 => exact fun _ _ _ h => h
                  case hw_u44 => rfl
                  case hy_u44 => ((intro w hSw; (try dsimp only at hSw); go_simp); all_goals (with_reducible rfl))
                  try simp only [Act.put, List.setIfInBounds_toArray, List.set_cons_zero, List.set_cons_succ]
                  refine UpTo.take (i := 2) (oi := ?oi_u45) (v := ?v_u45) ?hi_u45 (by kernel_rfl) ?hf_u45 ?hr_u45 (by kernel_rfl) ?hQ_u45 (Or.inl ⟨?hw_u45, ?hy_u45⟩) (by assumption) ?rest_u45
                  case hi_u45 => ((simp only [List.getElem?_toArray, List.getElem?_cons_succ, List.getElem?_cons_zero]); rfl)
                  case hf_u45 => kernel_rfl
                  case hr_u45 => kernel_rfl
                  case hQ_u45 => exact fun _ _ _ h => h
                  case hw_u45 => rfl
                  case hy_u45 => ((intro w hSw; (try dsimp only at hSw); go_simp); all_goals (with_reducible rfl))
                  try simp only [Act.put, List.setIfInBounds_toArray, List.set_cons_zero, List.set_cons_succ]
                  refine UpTo.take (i := 3) (oi := ?oi_u46) (v := ?v_u46) ?hi_u46 (by kernel_rfl) ?hf_u46 ?hr_u46 (by kernel_rfl) ?hQ_u46 (Or.inl ⟨?hw_u46, ?hy_u46⟩) (by assumption) ?rest_u46
                  case hi_u46 => ((simp only [List.getElem?_toArray, List.getElem?_cons_succ, List.getElem?_cons_zero]); rfl)
                  case hf_u46 => kernel_rfl
                  case hr_u46 => kernel_rfl
                  case hQ_u46 => exact fun _ _ _ h => h
                  case hw_u46 => rfl
                  case hy_u46 => ((intro w hSw; (try dsimp only at hSw); go_simp); all_goals (with_reducible rfl))
                  try simp only [Act.put, List.setIfInBounds_toArray, List.set_cons_zero, List.set_cons_succ]
                  refine UpTo.take (i := 4) (oi := ?oi_u47) (v := ?v_u47) ?hi_u47 (by kernel_rfl) ?hf_u47 ?hr_u47 (by kernel_rfl) ?hQ_u47 (Or.inl ⟨?hw_u47, ?hy_u47⟩) (by assumption) ?rest_u47
                  case hi_u47 => ((simp only [List.getElem?_toArray, List.getElem?_cons_succ, List.getElem?_cons_zero]); rfl)
                  case hf_u47 => kernel_rfl
                  case hr_u47 => kernel_rfl
                  case hQ_u47 => exact fun _ _ _ h => h
                  case hw_u47 => rfl
                  case hy_u47 => ((intro w hSw; (try dsimp only at hSw); go_simp); all_goals (with_reducible rfl))
                  try simp only [Act.put, List.setIfInBounds_toArray, List.set_cons_zero, List.set_cons_succ]
                  refine UpTo.take (i := 5) (oi := ?oi_u48) (v := ?v_u48) ?hi_u48 (by kernel_rfl) ?hf_u48 ?hr_u48 (by kernel_rfl) ?hQ_u48 (Or.inl ⟨?hw_u48, ?hy_u48⟩) (by assumption) ?rest_u48
                  case hi_u48 => ((simp only [List.getElem?_toArray, List.getElem?_cons_succ, List.getElem?_cons_zero]); rfl)
                  case hf_u48 => kernel_rfl
                  case hr_u48 => kernel_rfl
                  case hQ_u48 => exact fun _ _ _ h => h
                  case hw_u48 => rfl
                  case hy_u48 => ((intro w hSw; (try dsimp only at hSw); go_simp); all_goals (with_reducible rfl))
                  try simp only [Act.put, List.setIfInBounds_toArray, List.set_cons_zero, List.set_cons_succ]
                  refine UpTo.take (i := 6) (oi := ?oi_u49) (v := ?v_u49) ?hi_u49 (by kernel_rfl) ?hf_u49 ?hr_u49 (by kernel_rfl) ?hQ_u49 (Or.inl ⟨?hw_u49, ?hy_u49⟩) (by assumption) ?rest_u49
                  case hi_u49 => ((simp only [List.getElem?_toArray, List.getElem?_cons_succ, List.getElem?_cons_zero]); rfl)
                  case hf_u49 => kernel_rfl
                  case hr_u49 => kernel_rfl
                  case hQ_u49 => exact fun _ _ _ h => h
                  case hw_u49 => rfl
                  case hy_u49 => ((intro w hSw; (try dsimp only at hSw); go_simp); all_goals (with_reducible rfl))
                  try simp only [Act.put, List.setIfInBounds_toArray, List.set_cons_zero, List.set_cons_succ]
                  refine UpTo.take (i := 7) (oi := ?oi_u50) (v := ?v_u50) ?hi_u50 (by kernel_rfl) ?hf_u50 ?hr_u50 (by kernel_rfl) ?hQ_u50 (Or.inl ⟨?hw_u50, ?hy_u50⟩) (by assumption) ?rest_u50
                  case hi_u50 => ((simp only [List.getElem?_toArray, List.getElem?_cons_succ, List.getElem?_cons_zero]); rfl)
                  case hf_u50 => kernel_rfl
                  case hr_u50 => kernel_rfl
                  case hQ_u50 => exact fun _ _ _ h => h
                  case hw_u50 => rfl
                  case hy_u50 => ((intro w hSw; (try dsimp only at hSw); go_simp); all_goals (with_reducible rfl))
                  try simp only [Act.put, List.setIfInBounds_toArray, List.set_cons_zero, List.set_cons_succ]
                  refine UpTo.take (i := 8) (oi := ?oi_u51) (v := ?v_u51) ?hi_u51 (by kernel_rfl) ?hf_u51 ?hr_u51 (by kernel_rfl) ?hQ_u51 (Or.inl ⟨?hw_u51, ?hy_u51⟩) (by assumption) ?rest_u51
                  case hi_u51 => ((simp only [List.getElem?_toArray, List.getElem?_cons_succ, List.getElem?_cons_zero]); rfl)
                  case hf_u51 => kernel_rfl
                  case hr_u51 => kernel_rfl
                  case hQ_u51 => exact fun _ _ _ h => h
                  case hw_u51 => rfl
                  case hy_u51 => ((intro w hSw; (try dsimp only at hSw); go_simp); all_goals (with_reducible rfl))
                  try simp only [Act.put, List.setIfInBounds_toArray, List.set_cons_zero, List.set_cons_succ]
                  refine UpTo.take (i := 9) (oi := ?oi_u52) (v := ?v_u52) ?hi_u52 (by kernel_rfl) ?hf_u52 ?hr_u52 (by kernel_rfl) ?hQ_u52 (Or.inl ⟨?hw_u52, ?hy_u52⟩) (by assumption) ?rest_u52
                  case hi_u52 => ((simp only [List.getElem?_toArray, List.getElem?_cons_succ, List.getElem?_cons_zero]); rfl)
                  case hf_u52 => kernel_rfl
                  case hr_u52 => kernel_rfl
                  case hQ_u52 => exact fun _ _ _ h => h
                  case hw_u52 => rfl
                  case hy_u52 => ((intro w hSw; (try dsimp only at hSw); go_simp); all_goals (with_reducible rfl))
                  try simp only [Act.put, List.setIfInBounds_toArray, List.set_cons_zero, List.set_cons_succ]
                  refine UpTo.take (i := 10) (oi := ?oi_u53) (v := ?v_u53) ?hi_u53 (by kernel_rfl) ?hf_u53 ?hr_u53 (by kernel_rfl) ?hQ_u53 (Or.inl ⟨?hw_u53, ?hy_u53⟩) (by assumption) ?rest_u53
                  case hi_u53 => ((simp only [List.getElem?_toArray, List.getElem?_cons_succ, List.getElem?_cons_zero]); rfl)
                  case hf_u53 => kernel_rfl
                  case hr_u53 => kernel_rfl
                  case hQ_u53 => exact fun _ _ _ h => h
                  case hw_u53 => rfl
                  case hy_u53 => ((intro w hSw; (try dsimp only at hSw); go_simp); all_goals (with_reducible rfl))
                  try simp only [Act.put, List.setIfInBounds_toArray, List.set_cons_zero, List.set_cons_succ]
                  refine UpTo.one (i := 11) (o := ?o_u54) (by kernel_rfl) ?hi_u54 (fun K hK => ?rest_u54)
                  case hi_u54 => ((simp only [List.getElem?_toArray, List.getElem?_cons_succ, List.getElem?_cons_zero]); rfl)
                  go_simp
                  (go_at_call 15; (with_reducible refine (CQ.out).mono ?_); rintro e w6 ⟨bq, rfl, hbv, hA_, hpost_⟩; rw [HQ.out] at hbv; subst hbv; have HA6 := Lib.hid hA_; have HP6 := Lib.hid hpost_; clear hA_ hpost_ CQ)
                  try go_simp
                  refine hK.out _ _ (fun q => absurd q (by decide)) (fun _ => ?_)
                  clear hK K
                  try simp only [Act.put, List.setIfInBounds_toArray, List.set_cons_zero, List.set_cons_succ]
                  refine UpTo.one (i := 12) (o := ?o_u55) (by kernel_rfl) ?hi_u55 (fun K hK => ?rest_u55)
                  case hi_u55 => ((simp only [List.getElem?_toArray, List.getElem?_cons_succ, List.getElem?_cons_zero]); rfl)
                  go_simp
                  refine hK.out _ _ (fun q => absurd q (by decide)) (fun _ => ?_)
                  clear hK K
                  try simp only [Act.put, List.setIfInBounds_toArray, List.set_cons_zero, List.set_cons_succ]
                  refine UpTo.one (i := 13) (o := ?o_u56) (by kernel_rfl) ?hi_u56 (fun K hK => ?rest_u56)
                  case hi_u56 => ((simp only [List.getElem?_toArray, List.getElem?_cons_succ, List.getElem?_cons_zero]); rfl)
                  go_simp
                  refine hK.out _ _ (fun q => absurd q (by decide)) (fun _ => ?_)
                  clear hK K
                  try simp only [Act.put, List.setIfInBounds_toArray, List.set_cons_zero, List.set_cons_succ]
                  refine UpTo.done (by kernel_rfl) ?_ _
                  have HB6 := Lib.hid (show Below w1.heap.size W5 w6 from (HB5d.out.mono HRI5.out.bel.size).trans (HA6.out.below (fun b hb => by simp at hb; rw [hb]; exact Nat.le_refl _) HRI6.out.bel.size))
                  have HR6 := Lib.hid (HR5.out.below HB6.out HR1.out.lt)
                  have HBW6 := Lib.hid (HBw.out.trans (HB6.out.mono HB1.out.size))
                  have HRI7 := Lib.hid (HRI6.out.put HCb.out HTo.out (HP6.out rfl) HA6.out)
                  obtain ⟨D, hD, hSD⟩ := HRI7.out.seen
                  have HD := Lib.hid hD
                  have hSD := Lib.hid hSD
                  have HKEY := Lib.hid (show keyOf Tryz.prog 9 (.string wd) = some (KD (kwB kk)) from by rw [HWK.out]; exact key_kw kk hk6)
                  clear hD
                  by_cases hU : kk ∈ s.U
                  · have HCX := Lib.hid (HCE.out 5 (lineR_two s r HTK.out HIK.out HQ.out hU))
                    go_upto_region 17 with (first | (at_lookup; refine wpList_lookup_own_int _ rfl _ _ 42 rfl 9 3 .i64 keyed_str Tryz.underlying42 Tryz.underlying3 (zero_inC _) sb 6 _ rfl HD.out _ _ rfl HKEY.out ?_; intro c hat hwc; obtain rfl : c = 1 := (one_mem ((hSD.out.2.1 kk hk6).1.symm.trans hat)).elim (fun q => q.2) (fun q => absurd hU q.1)) | (at_mapUpdate; refine wpList_mapUpdate_own _ rfl _ _ _ 42 rfl 9 3 keyed_str Tryz.underlying42 _ sb 6 _ rfl HD.out (by unfold maxLen; omega) _ _ _ rfl rfl HKEY.out _ [] (plainElem_int Tryz.underlying3 (by decide)) ?_; intro w7 hown7 hgrow7; have HD7 := Lib.hid hown7; have HG7 := Lib.hid hgrow7; clear hown7 hgrow7))
                    have HB7 := Lib.hid (show Below w1.heap.size w6 w7 from (Apart.of_grown (F := [sb]) HG7.out (fun b hb => by cases hb; simp)).below (fun b hb => by simp at hb; rw [hb]; exact HRI7.out.low.2) HRI7.out.bel.size)
                    have HR7 := Lib.hid (HR6.out.below HB7.out HR1.out.lt)
                    have HBW7 := Lib.hid (HBW6.out.trans (HB7.out.mono HB1.out.size))
                    have z0 := HR7.out.cell (j := 0) rfl
                    have z1 := HR7.out.cell (j := 1) rfl
                    have z2 := HR7.out.cell (j := 2) rfl
                    have z3 := HR7.out.cell (j := 3) rfl
                    have z4 := HR7.out.cell (j := 4) rfl
                    have z5 := HR7.out.cell (j := 5) rfl
                    have z6 := HR7.out.cell (j := 6) rfl
                    have z7 := HR7.out.cell (j := 7) rfl
                    have z8 := HR7.out.cell (j := 8) rfl
                    have z9 := HR7.out.cell (j := 9) rfl
                    have z10 := HR7.out.cell (j := 10) rfl
                    have zf := HR7.out.frozen
                    go_wp2_with (at_lookup; refine wpList_lookup_own_int _ rfl _ _ 42 rfl 9 3 .i64 keyed_str Tryz.underlying42 Tryz.underlying3 (zero_inC _) sb 7 _ rfl HD7.out _ _ rfl HKEY.out ?_; intro c hat hwc; obtain rfl : c = 2 := by rw [Maps.atKey_put_same hSD.out.1.isMap (KD_is _)] at hat; simpa using hat.symm)
                    have hb10 := (belSet (belSet (belSet (belSet (belSet (belSet (belSet (belSet (belSet (belSet (belSet HBW7.out ⟨w.heap.size, 0, none⟩ (.int .i64 0) (Nat.le_refl _)) ⟨w.heap.size, 1, none⟩ (.int .i64 0) (Nat.le_refl _)) ⟨w.heap.size, 2, none⟩ (.int .i64 0) (Nat.le_refl _)) ⟨w.heap.size, 3, none⟩ (.int .i64 0) (Nat.le_refl _)) ⟨w.heap.size, 4, none⟩ (.int .i64 0) (Nat.le_refl _)) ⟨w.heap.size, 5, none⟩ (.int .i64 0) (Nat.le_refl _)) ⟨w.heap.size, 6, none⟩ (.slice none 0 0) (Nat.le_refl _)) ⟨w.heap.size, 7, none⟩ (.int .i64 0) (Nat.le_refl _)) ⟨w.heap.size, 8, none⟩ (.int .i64 0) (Nat.le_refl _)) ⟨w.heap.size, 9, none⟩ (.int .i64 0) (Nat.le_refl _)) ⟨w.heap.size, 10, none⟩ (.int .i64 0) (Nat.le_refl _))
                    have hR10 := (((((((((((HR7.out.set 0 (.int .i64 0)).set 1 (.int .i64 0)).set 2 (.int .i64 0)).set 3 (.int .i64 0)).set 4 (.int .i64 0)).set 5 (.int .i64 0)).set 6 (.slice none 0 0)).set 7 (.int .i64 0)).set 8 (.int .i64 0)).set 9 (.int .i64 0)).set 10 (.int .i64 0))
                    generalize (((((((((((w7.setCell ⟨w.heap.size, 0, none⟩ (.int .i64 0)).setCell ⟨w.heap.size, 1, none⟩ (.int .i64 0)).setCell ⟨w.heap.size, 2, none⟩ (.int .i64 0)).setCell ⟨w.heap.size, 3, none⟩ (.int .i64 0)).setCell ⟨w.heap.size, 4, none⟩ (.int .i64 0)).setCell ⟨w.heap.size, 5, none⟩ (.int .i64 0)).setCell ⟨w.heap.size, 6, none⟩ (.slice none 0 0)).setCell ⟨w.heap.size, 7, none⟩ (.int .i64 0)).setCell ⟨w.heap.size, 8, none⟩ (.int .i64 0)).setCell ⟨w.heap.size, 9, none⟩ (.int .i64 0)).setCell ⟨w.heap.size, 10, none⟩ (.int .i64 0)) = W10 at hb10 hR10 ⊢
                    refine cf_ret w.heap.size W10 _ _ _ (CfM.zero) (.slice none 0 0) _ rfl rfl rfl hR10 ⟨?_, hb10⟩
                    rw [HCX.out]
                    rfl
                  · go_upto_region 17 with (first | (at_lookup; refine wpList_lookup_own_int _ rfl _ _ 42 rfl 9 3 .i64 keyed_str Tryz.underlying42 Tryz.underlying3 (zero_inC _) sb 6 _ rfl HD.out _ _ rfl HKEY.out ?_; intro c hat hwc; obtain rfl : c = 0 := (one_mem ((hSD.out.2.1 kk hk6).1.symm.trans hat)).elim (fun q => absurd q.1 hU) (fun q => q.2)) | (at_mapUpdate; refine wpList_mapUpdate_own _ rfl _ _ _ 42 rfl 9 3 keyed_str Tryz.underlying42 _ sb 6 _ rfl HD.out (by unfold maxLen; omega) _ _ _ rfl rfl HKEY.out _ [] (plainElem_int Tryz.underlying3 (by decide)) ?_; intro w7 hown7 hgrow7; have HD7 := Lib.hid hown7; have HG7 := Lib.hid hgrow7; clear hown7 hgrow7))
                    have HB7 := Lib.hid (show Below w1.heap.size w6 w7 from (Apart.of_grown (F := [sb]) HG7.out (fun b hb => by cases hb; simp)).below (fun b hb => by simp at hb; rw [hb]; exact HRI7.out.low.2) HRI7.out.bel.size)
                    go_wp2_with (at_lookup; refine wpList_lookup_own_int _ rfl _ _ 42 rfl 9 3 .i64 keyed_str Tryz.underlying42 Tryz.underlying3 (zero_inC _) sb 7 _ rfl HD7.out _ _ rfl HKEY.out ?_; intro c hat hwc; obtain rfl : c = 1 := by rw [Maps.atKey_put_same hSD.out.1.isMap (KD_is _)] at hat; simpa using hat.symm)
                    go_roundw
                    case rel =>
                      refine ⟨k + 1, ⟨setF s.c kk (numsF r), s.U ++ [kk]⟩, by omega, by push_cast; rfl, Lib.hid (conf_step HS.out HLN.out (lineR_ok s r HTK.out HIK.out HQ.out hU)), Lib.hid ?_, Lib.hid (HRI7.out.see hSD.out hk6 hU HD7.out HG7.out)⟩
                      show (setF s.c kk (numsF r)).T.length ≤ k + 1
                      rw [setF_T]; have h1 := HT.out; omega
                    case measure => simp [intOf] <;> omega
            · have HIK := Lib.hid (show idxK f.text = none from by rw [← HWD.out]; exact hik)
              have HRUN := Lib.hid hrun
              clear hik hrun
              refine wp_region_held_drew (S := fun u => (Instr.lookup 39 (.map (some mb)) (.string wd) false).run Tryz.prog u = .ok (.slice none 0 0) u) (by kernel_rfl) (by exact HRUN.out) (fun hHeld => ?_)
              refine wpAnyH_take (i := 0) (oi := ?oi_k1) (v := ?v_k1) ?hi_k1 (by kernel_rfl) ?hf_k1 ?hr_k1 ?hQ_k1 (Or.inl ⟨?hw_k1, ?hy_k1⟩) (by assumption) ?rest_k1
              case hi_k1 => ((simp only [List.getElem?_toArray, List.getElem?_cons_succ, List.getElem?_cons_zero]); rfl)
              case hf_k1 => kernel_rfl
              case hr_k1 => kernel_rfl
              case hQ_k1 => exact fun _ _ _ h => h
              case hw_k1 => rfl
              case hy_k1 => ((intro w hSw; (try dsimp only at hSw); go_simp); all_goals (with_reducible rfl))
              try simp only [Act.put, List.setIfInBounds_toArray, List.set_cons_zero, List.set_cons_succ]
              refine wpAnyH_take (i := 1) (oi := ?oi_k2) (v := ?v_k2) ?hi_k2 (by kernel_rfl) ?hf_k2 ?hr_k2 ?hQ_k2 (Or.inl ⟨?hw_k2, ?hy_k2⟩) (by assumption) ?rest_k2
              case hi_k2 => ((simp only [List.getElem?_toArray, List.getElem?_cons_succ, List.getElem?_cons_zero]); rfl)
              case hf_k2 => kernel_rfl
              case hr_k2 => kernel_rfl
              case hQ_k2 => exact fun _ _ _ h => h
              case hw_k2 => rfl
              case hy_k2 => ((intro w hSw; (try dsimp only at hSw); go_simp); all_goals (with_reducible rfl))
              try simp only [Act.put, List.setIfInBounds_toArray, List.set_cons_zero, List.set_cons_succ]
              refine wpAnyH_take (i := 2) (oi := ?oi_k3) (v := ?v_k3) ?hi_k3 (by kernel_rfl) ?hf_k3 ?hr_k3 ?hQ_k3 (Or.inl ⟨?hw_k3, ?hy_k3⟩) (by assumption) ?rest_k3
              case hi_k3 => ((simp only [List.getElem?_toArray, List.getElem?_cons_succ, List.getElem?_cons_zero]); rfl)
              case hf_k3 => kernel_rfl
              case hr_k3 => kernel_rfl
              case hQ_k3 => exact fun _ _ _ h => h
              case hw_k3 => rfl
              case hy_k3 => ((intro w hSw; (try dsimp only at hSw); go_simp); all_goals (with_reducible rfl))
              try simp only [Act.put, List.setIfInBounds_toArray, List.set_cons_zero, List.set_cons_succ]
              refine wpAnyH_take (i := 3) (oi := ?oi_k4) (v := ?v_k4) ?hi_k4 (by kernel_rfl) ?hf_k4 ?hr_k4 ?hQ_k4 (Or.inl ⟨?hw_k4, ?hy_k4⟩) (by assumption) ?rest_k4
              case hi_k4 => ((simp only [List.getElem?_toArray, List.getElem?_cons_succ, List.getElem?_cons_zero]); rfl)
              case hf_k4 => kernel_rfl
              case hr_k4 => kernel_rfl
              case hQ_k4 => exact fun _ _ _ h => h
              case hw_k4 => rfl
              case hy_k4 => ((intro w hSw; (try dsimp only at hSw); go_simp); all_goals (with_reducible rfl))
              try simp only [Act.put, List.setIfInBounds_toArray, List.set_cons_zero, List.set_cons_succ]
              refine wpAnyH_take (i := 4) (oi := ?oi_k5) (v := ?v_k5) ?hi_k5 (by kernel_rfl) ?hf_k5 ?hr_k5 ?hQ_k5 (Or.inl ⟨?hw_k5, ?hy_k5⟩) (by assumption) ?rest_k5
              case hi_k5 => ((simp only [List.getElem?_toArray, List.getElem?_cons_succ, List.getElem?_cons_zero]); rfl)
              case hf_k5 => kernel_rfl
              case hr_k5 => kernel_rfl
              case hQ_k5 => exact fun _ _ _ h => h
              case hw_k5 => rfl
              case hy_k5 => ((intro w hSw; (try dsimp only at hSw); go_simp); all_goals (with_reducible rfl))
              try simp only [Act.put, List.setIfInBounds_toArray, List.set_cons_zero, List.set_cons_succ]
              refine wpAnyH_take (i := 5) (oi := ?oi_k6) (v := ?v_k6) ?hi_k6 (by kernel_rfl) ?hf_k6 ?hr_k6 ?hQ_k6 (Or.inl ⟨?hw_k6, ?hy_k6⟩) (by assumption) ?rest_k6
              case hi_k6 => ((simp only [List.getElem?_toArray, List.getElem?_cons_succ, List.getElem?_cons_zero]); rfl)
              case hf_k6 => kernel_rfl
              case hr_k6 => kernel_rfl
              case hQ_k6 => exact fun _ _ _ h => h
              case hw_k6 => rfl
              case hy_k6 => ((intro w hSw; (try dsimp only at hSw); go_simp); all_goals (with_reducible rfl))
              try simp only [Act.put, List.setIfInBounds_toArray, List.set_cons_zero, List.set_cons_succ]
              refine wpAnyH_take (i := 6) (oi := ?oi_k7) (v := undef) ?hi_k7 (by kernel_rfl) ?hf_k7 ?hr_k7 ?hQ_k7 (Or.inr ⟨?hw_k7, rfl⟩) (by assumption) ?rest_k7
              case hi_k7 => ((simp only [List.getElem?_toArray, List.getElem?_cons_succ, List.getElem?_cons_zero]); rfl)
              case hf_k7 => kernel_rfl
              case hr_k7 => kernel_rfl
              case hQ_k7 => exact fun _ _ _ h => h
              case hw_k7 => rfl
              try simp only [Act.put, List.setIfInBounds_toArray, List.set_cons_zero, List.set_cons_succ]
              refine wpAnyH_take (i := 7) (oi := ?oi_k8) (v := undef) ?hi_k8 (by kernel_rfl) ?hf_k8 ?hr_k8 ?hQ_k8 (Or.inr ⟨?hw_k8, rfl⟩) (by assumption) ?rest_k8
              case hi_k8 => ((simp only [List.getElem?_toArray, List.getElem?_cons_succ, List.getElem?_cons_zero]); rfl)
              case hf_k8 => kernel_rfl
              case hr_k8 => kernel_rfl
              case hQ_k8 => exact fun _ _ _ h => h
              case hw_k8 => rfl
              try simp only [Act.put, List.setIfInBounds_toArray, List.set_cons_zero, List.set_cons_succ]
              refine wpAnyH_take (i := 8) (oi := ?oi_k9) (v := undef) ?hi_k9 (by kernel_rfl) ?hf_k9 ?hr_k9 ?hQ_k9 (Or.inr ⟨?hw_k9, rfl⟩) (by assumption) ?rest_k9
              case hi_k9 => ((simp only [List.getElem?_toArray, List.getElem?_cons_succ, List.getElem?_cons_zero]); rfl)
              case hf_k9 => kernel_rfl
              case hr_k9 => kernel_rfl
              case hQ_k9 => exact fun _ _ _ h => h
              case hw_k9 => rfl
              try simp only [Act.put, List.setIfInBounds_toArray, List.set_cons_zero, List.set_cons_succ]
              refine wpAnyH_take (i := 9) (oi := ?oi_k10) (v := undef) ?hi_k10 (by kernel_rfl) ?hf_k10 ?hr_k10 ?hQ_k10 (Or.inr ⟨?hw_k10, rfl⟩) (by assumption) ?rest_k10
              case hi_k10 => ((simp only [List.getElem?_toArray, List.getElem?_cons_succ, List.getElem?_cons_zero]); rfl)
              case hf_k10 => kernel_rfl
              case hr_k10 => kernel_rfl
              case hQ_k10 => exact fun _ _ _ h => h
              case hw_k10 => rfl
              try simp only [Act.put, List.setIfInBounds_toArray, List.set_cons_zero, List.set_cons_succ]
              refine wpAnyH_take (i := 10) (oi := ?oi_k11) (v := undef) ?hi_k11 (by kernel_rfl) ?hf_k11 ?hr_k11 ?hQ_k11 (Or.inr ⟨?hw_k11, rfl⟩) (by assumption) ?rest_k11
              case hi_k11 => ((simp only [List.getElem?_toArray, List.getElem?_cons_succ, List.getElem?_cons_zero]); rfl)
              case hf_k11 => kernel_rfl
              case hr_k11 => kernel_rfl
              case hQ_k11 => exact fun _ _ _ h => h
              case hw_k11 => rfl
              try simp only [Act.put, List.setIfInBounds_toArray, List.set_cons_zero, List.set_cons_succ]
              refine wpAnyH_take (i := 11) (oi := ?oi_k12) (v := undef) ?hi_k12 (by kernel_rfl) ?hf_k12 ?hr_k12 ?hQ_k12 (Or.inr ⟨?hw_k12, rfl⟩) (by assumption) ?rest_k12
              case hi_k12 => ((simp only [List.getElem?_toArray, List.getElem?_cons_succ, List.getElem?_cons_zero]); rfl)
              case hf_k12 => kernel_rfl
              case hr_k12 => kernel_rfl
              case hQ_k12 => exact fun _ _ _ h => h
              case hw_k12 => rfl
              try simp only [Act.put, List.setIfInBounds_toArray, List.set_cons_zero, List.set_cons_succ]
              refine wpAnyH_take (i := 12) (oi := ?oi_k13) (v := undef) ?hi_k13 (by kernel_rfl) ?hf_k13 ?hr_k13 ?hQ_k13 (Or.inr ⟨?hw_k13, rfl⟩) (by assumption) ?rest_k13
              case hi_k13 => ((simp only [List.getElem?_toArray, List.getElem?_cons_succ, List.getElem?_cons_zero]); rfl)
              case hf_k13 => kernel_rfl
              case hr_k13 => kernel_rfl
              case hQ_k13 => exact fun _ _ _ h => h
              case hw_k13 => rfl
              try simp only [Act.put, List.setIfInBounds_toArray, List.set_cons_zero, List.set_cons_succ]
              refine wpAnyH_take (i := 13) (oi := ?oi_k14) (v := ?v_k14) ?hi_k14 (by kernel_rfl) ?hf_k14 ?hr_k14 ?hQ_k14 (Or.inl ⟨?hw_k14, ?hy_k14⟩) (by assumption) ?rest_k14
              case hi_k14 => ((simp only [List.getElem?_toArray, List.getElem?_cons_succ, List.getElem?_cons_zero]); rfl)
              case hf_k14 => kernel_rfl
              case hr_k14 => kernel_rfl
              case hQ_k14 => exact fun _ _ _ h => h
              case hw_k14 => rfl
              case hy_k14 => ((intro w hSw; (try dsimp only at hSw); go_simp); all_goals (with_reducible rfl))
              try simp only [Act.put, List.setIfInBounds_toArray, List.set_cons_zero, List.set_cons_succ]
              refine wpAnyH_done (by kernel_rfl) ?_ _
              have HCX := Lib.hid (HCE.out 2 (lineR_no s r HTK.out HIK.out))
              generalize W5.drew = W6 at *
              have HBw6 := Lib.hid (belStep HBw.out HB5d.out)
              have HR6 := Lib.hid (HR5.out.later HB5d.out)
              have z0 := HR6.out.cell (j := 0) rfl
              have z1 := HR6.out.cell (j := 1) rfl
              have z2 := HR6.out.cell (j := 2) rfl
              have z3 := HR6.out.cell (j := 3) rfl
              have z4 := HR6.out.cell (j := 4) rfl
              have z5 := HR6.out.cell (j := 5) rfl
              have z6 := HR6.out.cell (j := 6) rfl
              have z7 := HR6.out.cell (j := 7) rfl
              have z8 := HR6.out.cell (j := 8) rfl
              have z9 := HR6.out.cell (j := 9) rfl
              have z10 := HR6.out.cell (j := 10) rfl
              have zf := HR6.out.frozen
              go_wp2
              have hb10 := (belSet (belSet (belSet (belSet (belSet (belSet (belSet (belSet (belSet (belSet (belSet HBw6.out ⟨w.heap.size, 0, none⟩ (.int .i64 0) (Nat.le_refl _)) ⟨w.heap.size, 1, none⟩ (.int .i64 0) (Nat.le_refl _)) ⟨w.heap.size, 2, none⟩ (.int .i64 0) (Nat.le_refl _)) ⟨w.heap.size, 3, none⟩ (.int .i64 0) (Nat.le_refl _)) ⟨w.heap.size, 4, none⟩ (.int .i64 0) (Nat.le_refl _)) ⟨w.heap.size, 5, none⟩ (.int .i64 0) (Nat.le_refl _)) ⟨w.heap.size, 6, none⟩ (.slice none 0 0) (Nat.le_refl _)) ⟨w.heap.size, 7, none⟩ (.int .i64 0) (Nat.le_refl _)) ⟨w.heap.size, 8, none⟩ (.int .i64 0) (Nat.le_refl _)) ⟨w.heap.size, 9, none⟩ (.int .i64 0) (Nat.le_refl _)) ⟨w.heap.size, 10, none⟩ (.int .i64 0) (Nat.le_refl _))
              have hR10 := (((((((((((HR6.out.set 0 (.int .i64 0)).set 1 (.int .i64 0)).set 2 (.int .i64 0)).set 3 (.int .i64 0)).set 4 (.int .i64 0)).set 5 (.int .i64 0)).set 6 (.slice none 0 0)).set 7 (.int .i64 0)).set 8 (.int .i64 0)).set 9 (.int .i64 0)).set 10 (.int .i64 0))
              generalize (((((((((((W6.setCell ⟨w.heap.size, 0, none⟩ (.int .i64 0)).setCell ⟨w.heap.size, 1, none⟩ (.int .i64 0)).setCell ⟨w.heap.size, 2, none⟩ (.int .i64 0)).setCell ⟨w.heap.size, 3, none⟩ (.int .i64 0)).setCell ⟨w.heap.size, 4, none⟩ (.int .i64 0)).setCell ⟨w.heap.size, 5, none⟩ (.int .i64 0)).setCell ⟨w.heap.size, 6, none⟩ (.slice none 0 0)).setCell ⟨w.heap.size, 7, none⟩ (.int .i64 0)).setCell ⟨w.heap.size, 8, none⟩ (.int .i64 0)).setCell ⟨w.heap.size, 9, none⟩ (.int .i64 0)).setCell ⟨w.heap.size, 10, none⟩ (.int .i64 0)) = W10 at hb10 hR10 ⊢
              refine cf_ret w.heap.size W10 _ _ _ (CfM.zero) (.slice none 0 0) _ rfl rfl rfl hR10 ⟨?_, hb10⟩
              rw [HCX.out]
              rfl
      · obtain rfl : k = LL.length := by omega
        have hdl : decide ((LL.length : Int) < (LL.length : Int)) = false := decide_eq_false (by omega)
        have HCE := Lib.hid (show confF L = endR s from by rw [HCF.out, HS.out, List.drop_length]; rfl)
        have HR5 := Lib.hid (HR1.out.later hbel1)
        obtain ⟨D, hD, hSD⟩ := HRI.out.seen
        obtain ⟨D2, hD2, hg2, hs2, _⟩ := HRI.out.tom
        have hln1 := hD.len Tryz.underlying42 3
        have hln2 := hD2.len Tryz.underlying39 3
        rw [hs2] at hln2
        rw [hSD.2.2.1] at hln1
        clear hD hSD hD2 hg2 hs2
        obtain ⟨ta, tc, hCb, hTo⟩ := HRI.out.cfg
        have HCb := Lib.hid hCb
        have HTo := Lib.hid hTo
        clear hCb hTo
        obtain ⟨_, _, e9, hrw⟩ := rowR_of_own HTo.out
        simp only [Value.slice.injEq, true_and] at e9
        obtain ⟨rfl, rfl⟩ := e9
        have HRW := Lib.hid hrw
        clear hrw
        by_cases h6 : s.U.length < 6
        · have d6 : decide ((s.U.length : Int) < 6) = true := decide_eq_true (by omega)
          have i6 : (s.U.length : Int) < 6 := by omega
          have HCX := Lib.hid (show confF L = .error (0, 4) from by rw [HCE.out]; unfold endR; rw [if_pos h6])
          have z0 := HR5.out.cell (j := 0) rfl
          have z1 := HR5.out.cell (j := 1) rfl
          have z2 := HR5.out.cell (j := 2) rfl
          have z3 := HR5.out.cell (j := 3) rfl
          have z4 := HR5.out.cell (j := 4) rfl
          have z5 := HR5.out.cell (j := 5) rfl
          have z6 := HR5.out.cell (j := 6) rfl
          have z7 := HR5.out.cell (j := 7) rfl
          have z8 := HR5.out.cell (j := 8) rfl
          have z9 := HR5.out.cell (j := 9) rfl
          have z10 := HR5.out.cell (j := 10) rfl
          have zf := HR5.out.frozen
          go_wp2
          have hb10 := (belSet (belSet (belSet (belSet (belSet (belSet (belSet (belSet (belSet (belSet (belSet HBw.out ⟨w.heap.size, 0, none⟩ (.int .i64 0) (Nat.le_refl _)) ⟨w.heap.size, 1, none⟩ (.int .i64 0) (Nat.le_refl _)) ⟨w.heap.size, 2, none⟩ (.int .i64 0) (Nat.le_refl _)) ⟨w.heap.size, 3, none⟩ (.int .i64 0) (Nat.le_refl _)) ⟨w.heap.size, 4, none⟩ (.int .i64 0) (Nat.le_refl _)) ⟨w.heap.size, 5, none⟩ (.int .i64 0) (Nat.le_refl _)) ⟨w.heap.size, 6, none⟩ (.slice none 0 0) (Nat.le_refl _)) ⟨w.heap.size, 7, none⟩ (.int .i64 0) (Nat.le_refl _)) ⟨w.heap.size, 8, none⟩ (.int .i64 0) (Nat.le_refl _)) ⟨w.heap.size, 9, none⟩ (.int .i64 0) (Nat.le_refl _)) ⟨w.heap.size, 10, none⟩ (.int .i64 0) (Nat.le_refl _))
          have hR10 := (((((((((((HR5.out.set 0 (.int .i64 0)).set 1 (.int .i64 0)).set 2 (.int .i64 0)).set 3 (.int .i64 0)).set 4 (.int .i64 0)).set 5 (.int .i64 0)).set 6 (.slice none 0 0)).set 7 (.int .i64 0)).set 8 (.int .i64 0)).set 9 (.int .i64 0)).set 10 (.int .i64 0))
          generalize (((((((((((wr.setCell ⟨w.heap.size, 0, none⟩ (.int .i64 0)).setCell ⟨w.heap.size, 1, none⟩ (.int .i64 0)).setCell ⟨w.heap.size, 2, none⟩ (.int .i64 0)).setCell ⟨w.heap.size, 3, none⟩ (.int .i64 0)).setCell ⟨w.heap.size, 4, none⟩ (.int .i64 0)).setCell ⟨w.heap.size, 5, none⟩ (.int .i64 0)).setCell ⟨w.heap.size, 6, none⟩ (.slice none 0 0)).setCell ⟨w.heap.size, 7, none⟩ (.int .i64 0)).setCell ⟨w.heap.size, 8, none⟩ (.int .i64 0)).setCell ⟨w.heap.size, 9, none⟩ (.int .i64 0)).setCell ⟨w.heap.size, 10, none⟩ (.int .i64 0)) = W10 at hb10 hR10 ⊢
          refine cf_ret w.heap.size W10 _ _ _ (CfM.zero) (.slice none 0 0) _ rfl rfl rfl hR10 ⟨?_, hb10⟩
          rw [HCX.out]
          rfl
        · have d6 : decide ((s.U.length : Int) < 6) = false := decide_eq_false (by omega)
          have i6 : ¬ (s.U.length : Int) < 6 := by omega
          have y0 := HCb.out.cell (j := 0) rfl
          have y1 := HCb.out.cell (j := 1) rfl
          have y2 := HCb.out.cell (j := 2) rfl
          have y3 := HCb.out.cell (j := 3) rfl
          have y4 := HCb.out.cell (j := 4) rfl
          have y5 := HCb.out.cell (j := 5) rfl
          have y6 := HCb.out.cell (j := 6) rfl
          have y7 := HCb.out.cell (j := 7) rfl
          have y8 := HCb.out.cell (j := 8) rfl
          have y9 := HCb.out.cell (j := 9) rfl
          have y10 := HCb.out.cell (j := 10) rfl
          have yf := HCb.out.frozen
          have CRt := Lib.hid (cf_Right s.c ta tc wr ⟨HRI.out.ok, HRW.out⟩)
          cases hrt : rightM s.c with
          | false =>
            rw [hrt] at CRt
            have HCX := Lib.hid (show confF L = .error (0, 1) from by rw [HCE.out]; unfold endR; rw [if_neg h6, if_pos hrt])
            go_upto_region 23 with (go_at_call 10; (with_reducible refine (CRt.out).mono ?_); rintro e w6 ⟨rfl, hb_⟩; have HB6 := Lib.hid hb_; clear hb_ CRt)
            have HR6 := Lib.hid (HR5.out.later HB6.out)
            have HBW6 := Lib.hid (belStep HBw.out HB6.out)
            have z0 := HR6.out.cell (j := 0) rfl
            have z1 := HR6.out.cell (j := 1) rfl
            have z2 := HR6.out.cell (j := 2) rfl
            have z3 := HR6.out.cell (j := 3) rfl
            have z4 := HR6.out.cell (j := 4) rfl
            have z5 := HR6.out.cell (j := 5) rfl
            have z6 := HR6.out.cell (j := 6) rfl
            have z7 := HR6.out.cell (j := 7) rfl
            have z8 := HR6.out.cell (j := 8) rfl
            have z9 := HR6.out.cell (j := 9) rfl
            have z10 := HR6.out.cell (j := 10) rfl
            have zf := HR6.out.frozen
            go_wp2
            have hb10 := (belSet (belSet (belSet (belSet (belSet (belSet (belSet (belSet (belSet (belSet (belSet HBW6.out ⟨w.heap.size, 0, none⟩ (.int .i64 0) (Nat.le_refl _)) ⟨w.heap.size, 1, none⟩ (.int .i64 0) (Nat.le_refl _)) ⟨w.heap.size, 2, none⟩ (.int .i64 0) (Nat.le_refl _)) ⟨w.heap.size, 3, none⟩ (.int .i64 0) (Nat.le_refl _)) ⟨w.heap.size, 4, none⟩ (.int .i64 0) (Nat.le_refl _)) ⟨w.heap.size, 5, none⟩ (.int .i64 0) (Nat.le_refl _)) ⟨w.heap.size, 6, none⟩ (.slice none 0 0) (Nat.le_refl _)) ⟨w.heap.size, 7, none⟩ (.int .i64 0) (Nat.le_refl _)) ⟨w.heap.size, 8, none⟩ (.int .i64 0) (Nat.le_refl _)) ⟨w.heap.size, 9, none⟩ (.int .i64 0) (Nat.le_refl _)) ⟨w.heap.size, 10, none⟩ (.int .i64 0) (Nat.le_refl _))
            have hR10 := (((((((((((HR6.out.set 0 (.int .i64 0)).set 1 (.int .i64 0)).set 2 (.int .i64 0)).set 3 (.int .i64 0)).set 4 (.int .i64 0)).set 5 (.int .i64 0)).set 6 (.slice none 0 0)).set 7 (.int .i64 0)).set 8 (.int .i64 0)).set 9 (.int .i64 0)).set 10 (.int .i64 0))
            generalize (((((((((((w6.setCell ⟨w.heap.size, 0, none⟩ (.int .i64 0)).setCell ⟨w.heap.size, 1, none⟩ (.int .i64 0)).setCell ⟨w.heap.size, 2, none⟩ (.int .i64 0)).setCell ⟨w.heap.size, 3, none⟩ (.int .i64 0)).setCell ⟨w.heap.size, 4, none⟩ (.int .i64 0)).setCell ⟨w.heap.size, 5, none⟩ (.int .i64 0)).setCell ⟨w.heap.size, 6, none⟩ (.slice none 0 0)).setCell ⟨w.heap.size, 7, none⟩ (.int .i64 0)).setCell ⟨w.heap.size, 8, none⟩ (.int .i64 0)).setCell ⟨w.heap.size, 9, none⟩ (.int .i64 0)).setCell ⟨w.heap.size, 10, none⟩ (.int .i64 0)) = W10 at hb10 hR10 ⊢
            refine cf_ret w.heap.size W10 _ _ _ (CfM.zero) (.slice none 0 0) _ rfl rfl rfl hR10 ⟨?_, hb10⟩
            rw [HCX.out]
            rfl
          | true =>
            rw [hrt] at CRt
            have HCX := Lib.hid (show confF L = .ok s.c from by rw [HCE.out]; unfold endR; rw [if_neg h6, if_neg (by rw [hrt]; simp)])
            have HRT := Lib.hid hrt
            go_upto_region 24 with (go_at_call 10; (with_reducible refine (CRt.out).mono ?_); rintro e w6 ⟨rfl, hb_⟩; have HB6 := Lib.hid hb_; clear hb_ CRt)
            have HR6 := Lib.hid (HR5.out.later HB6.out)
            have HBW6 := Lib.hid (belStep HBw.out HB6.out)
            have HC6 := Lib.hid (HCb.out.later HB6.out)
            have HT6 := Lib.hid (HTo.out.later HB6.out)
            clear y0 y1 y2 y3 y4 y5 y6 y7 y8 y9 y10 yf
            have y0 := HC6.out.cell (j := 0) rfl
            have y1 := HC6.out.cell (j := 1) rfl
            have y2 := HC6.out.cell (j := 2) rfl
            have y3 := HC6.out.cell (j := 3) rfl
            have y4 := HC6.out.cell (j := 4) rfl
            have y5 := HC6.out.cell (j := 5) rfl
            have y6 := HC6.out.cell (j := 6) rfl
            have y7 := HC6.out.cell (j := 7) rfl
            have y8 := HC6.out.cell (j := 8) rfl
            have y9 := HC6.out.cell (j := 9) rfl
            have y10 := HC6.out.cell (j := 10) rfl
            have yf := HC6.out.frozen
            have z0 := HR6.out.cell (j := 0) rfl
            have z1 := HR6.out.cell (j := 1) rfl
            have z2 := HR6.out.cell (j := 2) rfl
            have z3 := HR6.out.cell (j := 3) rfl
            have z4 := HR6.out.cell (j := 4) rfl
            have z5 := HR6.out.cell (j := 5) rfl
            have z6 := HR6.out.cell (j := 6) rfl
            have z7 := HR6.out.cell (j := 7) rfl
            have z8 := HR6.out.cell (j := 8) rfl
            have z9 := HR6.out.cell (j := 9) rfl
            have z10 := HR6.out.cell (j := 10) rfl
            have zf := HR6.out.frozen
            go_wp2
            have hb10 := (belSet (belSet (belSet (belSet (belSet (belSet (belSet (belSet (belSet (belSet (belSet HBW6.out ⟨w.heap.size, 0, none⟩ (.int .i64 s.c.k0) (Nat.le_refl _)) ⟨w.heap.size, 1, none⟩ (.int .i64 s.c.k1) (Nat.le_refl _)) ⟨w.heap.size, 2, none⟩ (.int .i64 s.c.k2) (Nat.le_refl _)) ⟨w.heap.size, 3, none⟩ (.int .i64 s.c.a0) (Nat.le_refl _)) ⟨w.heap.size, 4, none⟩ (.int .i64 s.c.a1) (Nat.le_refl _)) ⟨w.heap.size, 5, none⟩ (.int .i64 s.c.a2) (Nat.le_refl _)) ⟨w.heap.size, 6, none⟩ (.slice ta s.c.T.length tc) (Nat.le_refl _)) ⟨w.heap.size, 7, none⟩ (.int .i64 s.c.per) (Nat.le_refl _)) ⟨w.heap.size, 8, none⟩ (.int .i64 s.c.ret) (Nat.le_refl _)) ⟨w.heap.size, 9, none⟩ (.int .i64 s.c.age) (Nat.le_refl _)) ⟨w.heap.size, 10, none⟩ (.int .i64 s.c.dead) (Nat.le_refl _))
            have hR10 := (((((((((((HR6.out.set 0 (.int .i64 s.c.k0)).set 1 (.int .i64 s.c.k1)).set 2 (.int .i64 s.c.k2)).set 3 (.int .i64 s.c.a0)).set 4 (.int .i64 s.c.a1)).set 5 (.int .i64 s.c.a2)).set 6 (.slice ta s.c.T.length tc)).set 7 (.int .i64 s.c.per)).set 8 (.int .i64 s.c.ret)).set 9 (.int .i64 s.c.age)).set 10 (.int .i64 s.c.dead))
            have hT10 : OwnR (((((((((((w6.setCell ⟨w.heap.size, 0, none⟩ (.int .i64 s.c.k0)).setCell ⟨w.heap.size, 1, none⟩ (.int .i64 s.c.k1)).setCell ⟨w.heap.size, 2, none⟩ (.int .i64 s.c.k2)).setCell ⟨w.heap.size, 3, none⟩ (.int .i64 s.c.a0)).setCell ⟨w.heap.size, 4, none⟩ (.int .i64 s.c.a1)).setCell ⟨w.heap.size, 5, none⟩ (.int .i64 s.c.a2)).setCell ⟨w.heap.size, 6, none⟩ (.slice ta s.c.T.length tc)).setCell ⟨w.heap.size, 7, none⟩ (.int .i64 s.c.per)).setCell ⟨w.heap.size, 8, none⟩ (.int .i64 s.c.ret)).setCell ⟨w.heap.size, 9, none⟩ (.int .i64 s.c.age)).setCell ⟨w.heap.size, 10, none⟩ (.int .i64 s.c.dead)) w.heap.size 54 5 (.slice ta s.c.T.length tc) s.c.T.length (s.c.T.flatMap ThrV.cells) := own_same (OwnR.mono HT6.out HB1.out.size) (fun g e => by
                have hne : g ≠ w.heap.size := fun q => absurd (own_type HT6.out e).1 (by have := HR1.out.lt; omega)
                simp [heap_set_ne, hne])
            generalize (((((((((((w6.setCell ⟨w.heap.size, 0, none⟩ (.int .i64 s.c.k0)).setCell ⟨w.heap.size, 1, none⟩ (.int .i64 s.c.k1)).setCell ⟨w.heap.size, 2, none⟩ (.int .i64 s.c.k2)).setCell ⟨w.heap.size, 3, none⟩ (.int .i64 s.c.a0)).setCell ⟨w.heap.size, 4, none⟩ (.int .i64 s.c.a1)).setCell ⟨w.heap.size, 5, none⟩ (.int .i64 s.c.a2)).setCell ⟨w.heap.size, 6, none⟩ (.slice ta s.c.T.length tc)).setCell ⟨w.heap.size, 7, none⟩ (.int .i64 s.c.per)).setCell ⟨w.heap.size, 8, none⟩ (.int .i64 s.c.ret)).setCell ⟨w.heap.size, 9, none⟩ (.int .i64 s.c.age)).setCell ⟨w.heap.size, 10, none⟩ (.int .i64 s.c.dead)) = W10 at hb10 hR10 hT10 ⊢
            refine cf_ret w.heap.size W10 _ _ _ (s.c) (.slice ta s.c.T.length tc) _ rfl rfl rfl hR10 ⟨?_, hb10⟩
            rw [HCX.out]
            exact ⟨_, rfl, hT10, HRI.out.ok, HRT.out⟩
end Go.Proofs.YtcaenbobfneejaaGreatDoor
