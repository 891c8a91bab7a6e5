
/- Stage 7: the map of places: plain laws. Stage 7: conf.places: contract. Stage 7: conf.quantities: contract. Stage 7: conf.threshold: contract. -/
import Derived.Test.YtcaenbobfneejaaGreatDoorCfRight
import Derived.Maps.OwnSet
import Derived.Maps.Views
import Derived.Maps.OwnOps
import Derived.StringKeys
import Derived.Sort.KeysCollected
import Derived.Test.YtcaenbobfneejaaGreatDoorKrip
import Derived.Test.YtcaenbobfneejaaGreatDoorLast
import Derived.Test.YtcaenbobfneejaaGreatDoorAp
import Derived.Test.YtcaenbobfneejaaGreatDoorLexJoin
import Derived.Test.YtcaenbobfneejaaGreatDoorQuantB
import Derived.Test.YtcaenbobfneejaaGreatDoorUpc
import Derived.Test.YtcaenbobfneejaaGreatDoorThr3
namespace Go.Proofs.YtcaenbobfneejaaGreatDoor
open Go.RowKit Go.Maps Go.WideMaps
set_option linter.unusedVariables false
set_option linter.unusedSimpArgs false
/-- A word as a key. -/
def kwB (j : Nat) : ByteArray := ⟨(kwL j).toArray⟩
def KD (s : ByteArray) : Lit := .string s.data.toList
theorem KD_is (s : ByteArray) : WideAt.IsKeyLit (KD s) := trivial
theorem KD_inj {s t : ByteArray} (h : KD s = KD t) : s = t := by
  unfold KD at h
  simp only [Lit.string.injEq] at h
  cases s; cases t
  simp only at h
  rw [Array.toList_inj.1 h]
/-- The elements of the map: slices as they are. -/
def RHc (v : Value) : Option (DataW Value × List MemPlace) := some (.held v, [])
/-- The places that a word's numbers go to: of the config at C. -/
def ptrC (C : Nat) : Nat → List Value
  | 0 => [.pointer (some ⟨C, 0, none⟩), .pointer (some ⟨C, 1, none⟩), .pointer (some ⟨C, 2, none⟩)]
  | 1 => [.pointer (some ⟨C, 3, none⟩), .pointer (some ⟨C, 4, none⟩), .pointer (some ⟨C, 5, none⟩)]
  | 2 => [.pointer (some ⟨C, 7, none⟩)]
  | 3 => [.pointer (some ⟨C, 8, none⟩)]
  | 4 => [.pointer (some ⟨C, 9, none⟩)]
  | _ => [.pointer (some ⟨C, 10, none⟩)]
def hasN (D : DataW Value) (j : Nat) : Nat := if Maps.has D (KD (kwB j)) then 1 else 0
def GD (u : World) (B C : Nat) (D : DataW Value) : Prop := (∀ s : ByteArray, Maps.has D (KD s) = true → ∃ j g, j < 6 ∧ s = kwB j ∧ (∀ z, D.atKey (KD s) z = .held (.slice (some ⟨g, 0, none⟩) (needN j) (needN j))) ∧ B ≤ g ∧ Blk u g (ptrC C j) 70) ∧ Maps.size D = hasN D 0 + hasN D 1 + hasN D 2 + hasN D 3 + hasN D 4 + hasN D 5
theorem GD.le6 {u : World} {B C : Nat} {D : DataW Value} (h : GD u B C D) : Maps.size D ≤ 6 := by
  rw [h.2]
  unfold hasN
  repeat' split
  all_goals omega
theorem GD.conv {u v : World} {B C : Nat} {D : DataW Value} (h : GD u B C D) (hb : ∀ g Cs T, Blk u g Cs T → Blk v g Cs T) : GD v B C D := ⟨fun s hs => by
  obtain ⟨j, g, h1, h2, h3, h4, h5⟩ := h.1 s hs
  exact ⟨j, g, h1, h2, h3, h4, hb _ _ _ h5⟩, h.2⟩
theorem GD.empty (u : World) (B C : Nat) : GD u B C (.map []) := ⟨fun s hs => absurd hs (by simp [Maps.has]), (by unfold hasN; rfl)⟩
theorem kwB_ne : ∀ i, i < 6 → ∀ j, j < 6 → i ≠ j → kwB i ≠ kwB j := by decide +kernel
theorem GD.put {u : World} {B C g j : Nat} {D : DataW Value} (h : GD u B C D) (hT : Maps.Tidy D) (hj : j < 6) (hg : B ≤ g) (hr : Blk u g (ptrC C j) 70) : GD u B C (D.put (KD (kwB j)) (.held (.slice (some ⟨g, 0, none⟩) (needN j) (needN j)))) := by
  refine ⟨fun s hs => ?_, ?_⟩
  · by_cases e : s = kwB j
    · subst e
      exact ⟨j, g, hj, rfl, fun z => Maps.atKey_put_same hT.isMap (KD_is _) _ z, hg, hr⟩
    · have hne : KD s ≠ KD (kwB j) := fun q => e (KD_inj q)
      rw [Maps.has_put_other hne] at hs
      obtain ⟨i, g2, h1, h2, h3, h4, h5⟩ := h.1 s hs
      exact ⟨i, g2, h1, h2, fun z => (Maps.atKey_put_other hne _ z).trans (h3 z), h4, h5⟩
  · rw [Maps.size_put hT, h.2]
    have ho : ∀ i, i < 6 → i ≠ j → hasN (D.put (KD (kwB j)) (.held (.slice (some ⟨g, 0, none⟩) (needN j) (needN j)))) i = hasN D i := fun i hi hne => by
      unfold hasN
      rw [Maps.has_put_other (fun q => kwB_ne i hi j hj hne (KD_inj q))]
    have hs : hasN (D.put (KD (kwB j)) (.held (.slice (some ⟨g, 0, none⟩) (needN j) (needN j)))) j = 1 := by
      unfold hasN
      rw [Maps.has_put_same hT.isMap (KD_is _), if_pos rfl]
    have hd : (if Maps.has D (KD (kwB j)) = true then (0 : Nat) else 1) + hasN D j = 1 := by
      unfold hasN
      split <;> rfl
    rcases (show j = 0 ∨ j = 1 ∨ j = 2 ∨ j = 3 ∨ j = 4 ∨ j = 5 by omega) with rfl | rfl | rfl | rfl | rfl | rfl
    all_goals (
      first | rw [hs] | skip
      have o0 := ho 0 (by omega)
      have o1 := ho 1 (by omega)
      have o2 := ho 2 (by omega)
      have o3 := ho 3 (by omega)
      have o4 := ho 4 (by omega)
      have o5 := ho 5 (by omega)
      split at hd <;> rename_i hq <;> simp only [hq, if_true, if_false, Bool.false_eq_true] <;> omega)
def OwnK (u : World) (B C m : Nat) : Prop := ∃ n D, u.ownsMap Tryz.prog 9 RHc m n D ∧ GD u B C D
def HasK (u : World) (B C m j : Nat) : Prop := ∃ n D, u.ownsMap Tryz.prog 9 RHc m n D ∧ GD u B C D ∧ Maps.has D (KD (kwB j)) = true
theorem owns_tight {P : Program} {k : TypeId} {R : Value → Option (DataW Value × List MemPlace)} {w : World} {b n : Nat} {D : DataW Value} (h : w.ownsMap P k R b n D) : w.ownsMap P k R b (Maps.size D) D := by
  obtain ⟨es, clock, hb, F, hs, rfl⟩ := h
  exact ⟨es, clock, hb, F, by rw [Maps.size_eq, length_read]; exact Nat.le_refl _, rfl⟩
theorem owns_one {P : Program} {k : TypeId} {R : Value → Option (DataW Value × List MemPlace)} {w : World} {b n n' : Nat} {D D' : DataW Value} (h : w.ownsMap P k R b n D) (h' : w.ownsMap P k R b n' D') : D = D' := by
  obtain ⟨es, clock, hb, F, hs, rfl⟩ := h
  obtain ⟨es', clock', hb', F', hs', rfl⟩ := h'
  rw [hb] at hb'
  cases hb'
  rfl
def LeP (B C : Nat) (u v : World) : Prop := (∀ g Cs T, Blk u g Cs T → Blk v g Cs T) ∧ (∀ m, OwnK u B C m → OwnK v B C m) ∧ ∀ m j, HasK u B C m j → HasK v B C m j
theorem owns_below {P : Program} {k : TypeId} {R : Value → Option (DataW Value × List MemPlace)} {u v : World} {b n : Nat} {D : DataW Value} (h : u.ownsMap P k R b n D) (hb : Below u.heap.size u v) : v.ownsMap P k R b n D := by
  have hl := h.lt
  obtain ⟨es, clock, h1, h2⟩ := h
  exact ⟨es, clock, (hb.block b hl).trans h1, h2⟩
theorem LeP.below {B C : Nat} {u v : World} (h : Below u.heap.size u v) : LeP B C u v := ⟨fun g Cs T hg => hg.later h, fun m ⟨n, D, h1, h2⟩ => ⟨n, D, owns_below h1 h, h2.conv (fun g Cs T hg => hg.later h)⟩, fun m j ⟨n, D, h1, h2, h3⟩ => ⟨n, D, owns_below h1 h, h2.conv (fun g Cs T hg => hg.later h), h3⟩⟩
theorem keyed_str : Keyed Tryz.prog 9 := string_keyed Tryz.underlying9
theorem key_kw (j : Nat) (hj : j < 6) : keyOf Tryz.prog 9 (.string (kwB j)) = some (KD (kwB j)) := keyOf_string_mk Tryz.underlying9 (by unfold maxLen; rcases (show j = 0 ∨ j = 1 ∨ j = 2 ∨ j = 3 ∨ j = 4 ∨ j = 5 by omega) with rfl | rfl | rfl | rfl | rfl | rfl <;> decide)
/-- One more word. -/
theorem ins_run (B C m g j : Nat) (hj : j < 6) (u : World) (ho : OwnK u B C m) (hm : B ≤ m) (hg : B ≤ g) (hr : Blk u g (ptrC C j) 70) : ∃ v, (Instr.mapUpdate 39 (.map (some m)) (.string (kwB j)) (.slice (some ⟨g, 0, none⟩) (needN j) (needN j))).run Tryz.prog u = .ok () v ∧ LeP B C u v ∧ HasK v B C m j ∧ Below B u v := by
  obtain ⟨n, D, h1, h2⟩ := ho
  have hT := h1.tidy keyed_str
  obtain ⟨v, hrun, h3, h4⟩ := (owns_tight h1).update keyed_str Tryz.underlying39 (by have := h2.le6; unfold maxLen; omega) (key_kw j hj) (show RHc (.slice (some ⟨g, 0, none⟩) (needN j) (needN j)) = some (.held _, []) from rfl)
  have hblk : ∀ q Cs T, Blk u q Cs T → Blk v q Cs T := fun q Cs T hq => by
    obtain ⟨es, clock, hb, _⟩ := h1
    have hne : q ≠ m := fun e => by subst e; unfold Blk at hq; rw [hb] at hq; cases hq
    exact (h4.block q hq.lt (fun e => hne (by cases e; rfl))).trans hq
  have hD := (h2.put hT hj hg hr).conv hblk
  refine ⟨v, hrun, ⟨hblk, fun m2 ⟨n2, D2, q1, q2⟩ => ?_, fun m2 i ⟨n2, D2, q1, q2, q3⟩ => ?_⟩, ⟨_, _, h3, hD, Maps.has_put_same hT.isMap (KD_is _) _⟩, ⟨h4.os, h4.tape, h4.output, h4.size, fun b hb => ?_⟩⟩
  · by_cases e : m2 = m
    · subst e; exact ⟨_, _, h3, hD⟩
    · exact ⟨n2, D2, q1.kept h4 (fun z => e (by cases z; rfl)), q2.conv hblk⟩
  · by_cases e : m2 = m
    · subst e
      obtain rfl := owns_one q1 h1
      refine ⟨_, _, h3, hD, ?_⟩
      by_cases ei : KD (kwB i) = KD (kwB j)
      · rw [ei]; exact Maps.has_put_same hT.isMap (KD_is _) _
      · rw [Maps.has_put_other ei]; exact q3
    · exact ⟨n2, D2, q1.kept h4 (fun z => e (by cases z; rfl)), q2.conv hblk, q3⟩
  · have hl := h1.lt
    exact h4.block b (by omega) (fun e => by cases e; omega)
/-- All six words are there. -/
def ToM (u : World) (B C m : Nat) : Prop := ∃ D, u.ownsMap Tryz.prog 9 RHc m 6 D ∧ GD u B C D ∧ Maps.size D = 6 ∧ ∀ j, j < 6 → Maps.has D (KD (kwB j)) = true
theorem ToM.of {u : World} {B C m : Nat} (h : ∀ j, j < 6 → HasK u B C m j) : ToM u B C m := by
  obtain ⟨n, D, h1, h2, h3⟩ := h 0 (by omega)
  have ha : ∀ j, j < 6 → Maps.has D (KD (kwB j)) = true := fun j hj => by
    obtain ⟨n', D', q1, _, q3⟩ := h j hj
    rw [owns_one h1 q1]; exact q3
  have hs : Maps.size D = 6 := by
    rw [h2.2]
    unfold hasN
    rw [ha 0 (by omega), ha 1 (by omega), ha 2 (by omega), ha 3 (by omega), ha 4 (by omega), ha 5 (by omega)]
    rfl
  exact ⟨D, hs ▸ owns_tight h1, h2, hs, ha⟩
theorem ToM.conv {u v : World} {B C m : Nat} (h : ToM u B C m) (hm : v.heap[m]? = u.heap[m]?) (hb : ∀ g Cs T, B ≤ g → Blk u g Cs T → T = 70 → Blk v g Cs T) : ToM v B C m := by
  obtain ⟨D, ⟨es, clock, h1, h2⟩, h3, h4, h5⟩ := h
  refine ⟨D, ⟨es, clock, hm.trans h1, h2⟩, ⟨fun s hs => ?_, h3.2⟩, h4, h5⟩
  obtain ⟨j, g, q1, q2, q3, q4, q5⟩ := h3.1 s hs
  exact ⟨j, g, q1, q2, q3, q4, hb _ _ _ q4 q5 rfl⟩
theorem idx_kw {s : ByteArray} {k : Nat} (h : idxK s.data.toList = some k) : k < 6 ∧ s = kwB k := by
  have hs : ∀ j, s.data.toList = kwL j → s = kwB j := fun j e => by
    unfold kwB; cases s; simp only at e; rw [← e]
  unfold idxK at h
  repeat' split at h
  all_goals first | (cases h; refine ⟨by omega, ?_⟩; apply hs; assumption) | cases h
theorem idx_no {s : ByteArray} (h : idxK s.data.toList = none) : ∀ j, j < 6 → s ≠ kwB j := by
  intro j hj e
  subst e
  revert h
  rcases (show j = 0 ∨ j = 1 ∨ j = 2 ∨ j = 3 ∨ j = 4 ∨ j = 5 by omega) with rfl | rfl | rfl | rfl | rfl | rfl <;> decide
/-- What a lookup answers. -/
theorem ToM.look {u : World} {B C m : Nat} (h : ToM u B C m) (s : ByteArray) (hs : s.size ≤ maxLen) (hz : (zeroValue 47).run Tryz.prog u = .ok (.slice none 0 0) u) :
    (∃ k g, idxK s.data.toList = some k ∧ k < 6 ∧ B ≤ g ∧ Blk u g (ptrC C k) 70 ∧ (Instr.lookup 39 (.map (some m)) (.string s) false).run Tryz.prog u = .ok (.slice (some ⟨g, 0, none⟩) (needN k) (needN k)) u) ∨
    (idxK s.data.toList = none ∧ (Instr.lookup 39 (.map (some m)) (.string s) false).run Tryz.prog u = .ok (.slice none 0 0) u) := by
  obtain ⟨D, h1, h2, h3, h4⟩ := h
  obtain ⟨v, ps, hrun, hv⟩ := h1.lookup keyed_str Tryz.underlying39 hz (show RHc (.slice none 0 0) = some (.held (.slice none 0 0), []) from rfl) (keyOf_string_mk Tryz.underlying9 hs)
  cases hi : idxK s.data.toList with
  | some k =>
    obtain ⟨hk, rfl⟩ := idx_kw hi
    obtain ⟨j, g, q1, q2, q3, q4, q5⟩ := h2.1 _ (h4 k hk)
    obtain rfl : k = j := Classical.byContradiction fun e => kwB_ne k hk j q1 e q2
    have e := hv
    rw [show Lit.string (kwB k).data.toList = KD (kwB k) from rfl, q3] at e
    unfold RHc at e
    simp only [Option.some.injEq, Prod.mk.injEq, DataW.held.injEq] at e
    rw [e.1] at hrun
    exact .inl ⟨k, g, rfl, hk, q4, q5, hrun⟩
  | none =>
    have hn : Maps.has D (KD s) = false := by
      cases e : Maps.has D (KD s) with
      | false => rfl
      | true =>
        obtain ⟨j, g, q1, q2, _⟩ := h2.1 s e
        exact absurd q2 (idx_no hi j q1)
    have e := hv
    rw [show Lit.string s.data.toList = KD s from rfl, Maps.atKey_of_not_has hn] at e
    unfold RHc at e
    simp only [Option.some.injEq, Prod.mk.injEq, DataW.held.injEq] at e
    rw [e.1] at hrun
    exact .inr ⟨rfl, hrun⟩
end Go.Proofs.YtcaenbobfneejaaGreatDoor
namespace Go.Proofs.YtcaenbobfneejaaGreatDoor
open Go.RowKit Go.Maps Go.WideMaps
set_option linter.unusedVariables false
set_option linter.unusedSimpArgs false
set_option maxRecDepth 100000 in
set_option maxHeartbeats 16000000 in
theorem cf_places (C : Nat) (w : World) :
    Calls Tryz.prog 13 #[.pointer (some ⟨C, 0, none⟩)] w fun e w' => ∃ m, e = .returned (.map (some m)) ∧ ToM w' w.heap.size C m ∧ w.heap.size ≤ m ∧ Below w.heap.size w w' := by
  have hw : Below w.heap.size w w := Below.refl _ _
  have hbel := hw
  go_enter Tryz.func13, Tryz.ntmps13
  go_upto_region 1 with fail
  refine wp_region_held_drew (S := fun u => Below w.heap.size w u) (by kernel_rfl) (by exact (show Below w.heap.size w _ by repeat (first | assumption | exact Below.refl _ _ | refine belDrew ?_ | refine belAlloc ?_ _ | refine belStep ?_ (by assumption)))) (fun hHeld => ?_)
  refine wpAnyH_take (i := 1) (oi := ?oi_k3) (v := ?v_k3) ?hi_k3 (by kernel_rfl) ?hf_k3 ?hr_k3 ?hQ_k3 (Or.inl ⟨?hw_k3, ?hy_k3⟩) (by assumption) ?rest_k3
  case hi_k3 => ((simp only [List.getElem?_toArray, List.getElem?_cons_succ, List.getElem?_cons_zero]); rfl)
  case hf_k3 => kernel_rfl
  case hr_k3 => kernel_rfl
  case hQ_k3 => exact fun _ _ _ h => h
  case hw_k3 => rfl
  case hy_k3 => ((intro w hSw; (try dsimp only at hSw); go_simp); all_goals (with_reducible rfl))
  try simp only [Act.put, List.setIfInBounds_toArray, List.set_cons_zero, List.set_cons_succ]
  refine wpAnyH_take (i := 2) (oi := ?oi_k4) (v := ?v_k4) ?hi_k4 (by kernel_rfl) ?hf_k4 ?hr_k4 ?hQ_k4 (Or.inl ⟨?hw_k4, ?hy_k4⟩) (by assumption) ?rest_k4
  case hi_k4 => ((simp only [List.getElem?_toArray, List.getElem?_cons_succ, List.getElem?_cons_zero]); rfl)
  case hf_k4 => kernel_rfl
  case hr_k4 => kernel_rfl
  case hQ_k4 => exact fun _ _ _ h => h
  case hw_k4 => rfl
  case hy_k4 => ((intro w hSw; (try dsimp only at hSw); go_simp); all_goals (with_reducible rfl))
  try simp only [Act.put, List.setIfInBounds_toArray, List.set_cons_zero, List.set_cons_succ]
  refine wpAnyH_take (i := 3) (oi := ?oi_k5) (v := ?v_k5) ?hi_k5 (by kernel_rfl) ?hf_k5 ?hr_k5 ?hQ_k5 (Or.inl ⟨?hw_k5, ?hy_k5⟩) (by assumption) ?rest_k5
  case hi_k5 => ((simp only [List.getElem?_toArray, List.getElem?_cons_succ, List.getElem?_cons_zero]); rfl)
  case hf_k5 => kernel_rfl
  case hr_k5 => kernel_rfl
  case hQ_k5 => exact fun _ _ _ h => h
  case hw_k5 => rfl
  case hy_k5 => ((intro w hSw; (try dsimp only at hSw); go_simp); all_goals (with_reducible rfl))
  try simp only [Act.put, List.setIfInBounds_toArray, List.set_cons_zero, List.set_cons_succ]
  refine wpAnyH_take (i := 4) (oi := ?oi_k6) (v := ?v_k6) ?hi_k6 (by kernel_rfl) ?hf_k6 ?hr_k6 ?hQ_k6 (Or.inl ⟨?hw_k6, ?hy_k6⟩) (by assumption) ?rest_k6
  case hi_k6 => ((simp only [List.getElem?_toArray, List.getElem?_cons_succ, List.getElem?_cons_zero]); rfl)
  case hf_k6 => kernel_rfl
  case hr_k6 => kernel_rfl
  case hQ_k6 => exact fun _ _ _ h => h
  case hw_k6 => rfl
  case hy_k6 => ((intro w hSw; (try dsimp only at hSw); go_simp); all_goals (with_reducible rfl))
  try simp only [Act.put, List.setIfInBounds_toArray, List.set_cons_zero, List.set_cons_succ]
  refine wpAnyH_take (i := 5) (oi := ?oi_k7) (v := ?v_k7) ?hi_k7 (by kernel_rfl) ?hf_k7 ?hr_k7 ?hQ_k7 (Or.inl ⟨?hw_k7, ?hy_k7⟩) (by assumption) ?rest_k7
  case hi_k7 => ((simp only [List.getElem?_toArray, List.getElem?_cons_succ, List.getElem?_cons_zero]); rfl)
  case hf_k7 => kernel_rfl
  case hr_k7 => kernel_rfl
  case hQ_k7 => exact fun _ _ _ h => h
  case hw_k7 => rfl
  case hy_k7 => ((intro w hSw; (try dsimp only at hSw); go_simp); all_goals (with_reducible rfl))
  try simp only [Act.put, List.setIfInBounds_toArray, List.set_cons_zero, List.set_cons_succ]
  refine wpAnyH_take (i := 6) (oi := ?oi_k8) (v := ?v_k8) ?hi_k8 (by kernel_rfl) ?hf_k8 ?hr_k8 ?hQ_k8 (Or.inl ⟨?hw_k8, ?hy_k8⟩) (by assumption) ?rest_k8
  case hi_k8 => ((simp only [List.getElem?_toArray, List.getElem?_cons_succ, List.getElem?_cons_zero]); rfl)
  case hf_k8 => kernel_rfl
  case hr_k8 => kernel_rfl
  case hQ_k8 => exact fun _ _ _ h => h
  case hw_k8 => rfl
  case hy_k8 => ((intro w hSw; (try dsimp only at hSw); go_simp); all_goals (with_reducible rfl))
  try simp only [Act.put, List.setIfInBounds_toArray, List.set_cons_zero, List.set_cons_succ]
  refine wpAnyH_take (i := 7) (oi := ?oi_k9) (v := ?v_k9) ?hi_k9 (by kernel_rfl) ?hf_k9 ?hr_k9 ?hQ_k9 (Or.inl ⟨?hw_k9, ?hy_k9⟩) (by assumption) ?rest_k9
  case hi_k9 => ((simp only [List.getElem?_toArray, List.getElem?_cons_succ, List.getElem?_cons_zero]); rfl)
  case hf_k9 => kernel_rfl
  case hr_k9 => kernel_rfl
  case hQ_k9 => exact fun _ _ _ h => h
  case hw_k9 => rfl
  case hy_k9 => ((intro w hSw; (try dsimp only at hSw); go_simp); all_goals (with_reducible rfl))
  try simp only [Act.put, List.setIfInBounds_toArray, List.set_cons_zero, List.set_cons_succ]
  refine wpAnyH_take (i := 8) (oi := ?oi_k10) (v := ?v_k10) ?hi_k10 (by kernel_rfl) ?hf_k10 ?hr_k10 ?hQ_k10 (Or.inl ⟨?hw_k10, ?hy_k10⟩) (by assumption) ?rest_k10
  case hi_k10 => ((simp only [List.getElem?_toArray, List.getElem?_cons_succ, List.getElem?_cons_zero]); rfl)
  case hf_k10 => kernel_rfl
  case hr_k10 => kernel_rfl
  case hQ_k10 => exact fun _ _ _ h => h
  case hw_k10 => rfl
  case hy_k10 => ((intro w hSw; (try dsimp only at hSw); go_simp); all_goals (with_reducible rfl))
  try simp only [Act.put, List.setIfInBounds_toArray, List.set_cons_zero, List.set_cons_succ]
  refine wpAnyH_take (i := 9) (oi := ?oi_k11) (v := ?v_k11) ?hi_k11 (by kernel_rfl) ?hf_k11 ?hr_k11 ?hQ_k11 (Or.inl ⟨?hw_k11, ?hy_k11⟩) (by assumption) ?rest_k11
  case hi_k11 => ((simp only [List.getElem?_toArray, List.getElem?_cons_succ, List.getElem?_cons_zero]); rfl)
  case hf_k11 => kernel_rfl
  case hr_k11 => kernel_rfl
  case hQ_k11 => exact fun _ _ _ h => h
  case hw_k11 => rfl
  case hy_k11 => ((intro w hSw; (try dsimp only at hSw); go_simp); all_goals (with_reducible rfl))
  try simp only [Act.put, List.setIfInBounds_toArray, List.set_cons_zero, List.set_cons_succ]
  refine wpAnyH_take (i := 10) (oi := ?oi_k12) (v := ?v_k12) ?hi_k12 (by kernel_rfl) ?hf_k12 ?hr_k12 ?hQ_k12 (Or.inl ⟨?hw_k12, ?hy_k12⟩) (by assumption) ?rest_k12
  case hi_k12 => ((simp only [List.getElem?_toArray, List.getElem?_cons_succ, List.getElem?_cons_zero]); rfl)
  case hf_k12 => kernel_rfl
  case hr_k12 => kernel_rfl
  case hQ_k12 => exact fun _ _ _ h => h
  case hw_k12 => rfl
  case hy_k12 => ((intro w hSw; (try dsimp only at hSw); go_simp); all_goals (with_reducible rfl))
  try simp only [Act.put, List.setIfInBounds_toArray, List.set_cons_zero, List.set_cons_succ]
  refine wpAnyH_take (i := 11) (oi := ?oi_k13) (v := ?v_k13) ?hi_k13 (by kernel_rfl) ?hf_k13 ?hr_k13 ?hQ_k13 (Or.inl ⟨?hw_k13, ?hy_k13⟩) (by assumption) ?rest_k13
  case hi_k13 => ((simp only [List.getElem?_toArray, List.getElem?_cons_succ, List.getElem?_cons_zero]); rfl)
  case hf_k13 => kernel_rfl
  case hr_k13 => kernel_rfl
  case hQ_k13 => exact fun _ _ _ h => h
  case hw_k13 => rfl
  case hy_k13 => ((intro w hSw; (try dsimp only at hSw); go_simp); all_goals (with_reducible rfl))
  try simp only [Act.put, List.setIfInBounds_toArray, List.set_cons_zero, List.set_cons_succ]
  refine wpAnyH_take (i := 12) (oi := ?oi_k14) (v := ?v_k14) ?hi_k14 (by kernel_rfl) ?hf_k14 ?hr_k14 ?hQ_k14 (Or.inl ⟨?hw_k14, ?hy_k14⟩) (by assumption) ?rest_k14
  case hi_k14 => ((simp only [List.getElem?_toArray, List.getElem?_cons_succ, List.getElem?_cons_zero]); rfl)
  case hf_k14 => kernel_rfl
  case hr_k14 => kernel_rfl
  case hQ_k14 => exact fun _ _ _ h => h
  case hw_k14 => rfl
  case hy_k14 => ((intro w hSw; (try dsimp only at hSw); go_simp); all_goals (with_reducible rfl))
  try simp only [Act.put, List.setIfInBounds_toArray, List.set_cons_zero, List.set_cons_succ]
  refine wpAnyH_take (i := 15) (oi := ?oi_k15) (v := ?v_k15) ?hi_k15 (by kernel_rfl) ?hf_k15 ?hr_k15 ?hQ_k15 (Or.inl ⟨?hw_k15, ?hy_k15⟩) (by assumption) ?rest_k15
  case hi_k15 => ((simp only [List.getElem?_toArray, List.getElem?_cons_succ, List.getElem?_cons_zero]); rfl)
  case hf_k15 => kernel_rfl
  case hr_k15 => kernel_rfl
  case hQ_k15 => exact fun _ _ _ h => h
  case hw_k15 => rfl
  case hy_k15 => ((intro w hSw; (try dsimp only at hSw); go_simp); all_goals (with_reducible rfl))
  try simp only [Act.put, List.setIfInBounds_toArray, List.set_cons_zero, List.set_cons_succ]
  refine wpAnyH_take (i := 16) (oi := ?oi_k16) (v := ?v_k16) ?hi_k16 (by kernel_rfl) ?hf_k16 ?hr_k16 ?hQ_k16 (Or.inl ⟨?hw_k16, ?hy_k16⟩) (by assumption) ?rest_k16
  case hi_k16 => ((simp only [List.getElem?_toArray, List.getElem?_cons_succ, List.getElem?_cons_zero]); rfl)
  case hf_k16 => kernel_rfl
  case hr_k16 => kernel_rfl
  case hQ_k16 => exact fun _ _ _ h => h
  case hw_k16 => rfl
  case hy_k16 => ((intro w hSw; (try dsimp only at hSw); go_simp); all_goals (with_reducible rfl))
  try simp only [Act.put, List.setIfInBounds_toArray, List.set_cons_zero, List.set_cons_succ]
  refine wpAnyH_take (i := 17) (oi := ?oi_k17) (v := ?v_k17) ?hi_k17 (by kernel_rfl) ?hf_k17 ?hr_k17 ?hQ_k17 (Or.inl ⟨?hw_k17, ?hy_k17⟩) (by assumption) ?rest_k17
  case hi_k17 => ((simp only [List.getElem?_toArray, List.getElem?_cons_succ, List.getElem?_cons_zero]); rfl)
  case hf_k17 => kernel_rfl
  case hr_k17 => kernel_rfl
  case hQ_k17 => exact fun _ _ _ h => h
  case hw_k17 => rfl
  case hy_k17 => ((intro w hSw; (try dsimp only at hSw); go_simp); all_goals (with_reducible rfl))
  try simp only [Act.put, List.setIfInBounds_toArray, List.set_cons_zero, List.set_cons_succ]
  refine wpAnyH_take (i := 18) (oi := ?oi_k18) (v := ?v_k18) ?hi_k18 (by kernel_rfl) ?hf_k18 ?hr_k18 ?hQ_k18 (Or.inl ⟨?hw_k18, ?hy_k18⟩) (by assumption) ?rest_k18
  case hi_k18 => ((simp only [List.getElem?_toArray, List.getElem?_cons_succ, List.getElem?_cons_zero]); rfl)
  case hf_k18 => kernel_rfl
  case hr_k18 => kernel_rfl
  case hQ_k18 => exact fun _ _ _ h => h
  case hw_k18 => rfl
  case hy_k18 => ((intro w hSw; (try dsimp only at hSw); go_simp); all_goals (with_reducible rfl))
  try simp only [Act.put, List.setIfInBounds_toArray, List.set_cons_zero, List.set_cons_succ]
  refine wpAnyH_take (i := 19) (oi := ?oi_k19) (v := ?v_k19) ?hi_k19 (by kernel_rfl) ?hf_k19 ?hr_k19 ?hQ_k19 (Or.inl ⟨?hw_k19, ?hy_k19⟩) (by assumption) ?rest_k19
  case hi_k19 => ((simp only [List.getElem?_toArray, List.getElem?_cons_succ, List.getElem?_cons_zero]); rfl)
  case hf_k19 => kernel_rfl
  case hr_k19 => kernel_rfl
  case hQ_k19 => exact fun _ _ _ h => h
  case hw_k19 => rfl
  case hy_k19 => ((intro w hSw; (try dsimp only at hSw); go_simp); all_goals (with_reducible rfl))
  try simp only [Act.put, List.setIfInBounds_toArray, List.set_cons_zero, List.set_cons_succ]
  refine wpAnyH_take (i := 20) (oi := ?oi_k20) (v := ?v_k20) ?hi_k20 (by kernel_rfl) ?hf_k20 ?hr_k20 ?hQ_k20 (Or.inl ⟨?hw_k20, ?hy_k20⟩) (by assumption) ?rest_k20
  case hi_k20 => ((simp only [List.getElem?_toArray, List.getElem?_cons_succ, List.getElem?_cons_zero]); rfl)
  case hf_k20 => kernel_rfl
  case hr_k20 => kernel_rfl
  case hQ_k20 => exact fun _ _ _ h => h
  case hw_k20 => rfl
  case hy_k20 => ((intro w hSw; (try dsimp only at hSw); go_simp); all_goals (with_reducible rfl))
  try simp only [Act.put, List.setIfInBounds_toArray, List.set_cons_zero, List.set_cons_succ]
  refine wpAnyH_take (i := 21) (oi := ?oi_k21) (v := ?v_k21) ?hi_k21 (by kernel_rfl) ?hf_k21 ?hr_k21 ?hQ_k21 (Or.inl ⟨?hw_k21, ?hy_k21⟩) (by assumption) ?rest_k21
  case hi_k21 => ((simp only [List.getElem?_toArray, List.getElem?_cons_succ, List.getElem?_cons_zero]); rfl)
  case hf_k21 => kernel_rfl
  case hr_k21 => kernel_rfl
  case hQ_k21 => exact fun _ _ _ h => h
  case hw_k21 => rfl
  case hy_k21 => ((intro w hSw; (try dsimp only at hSw); go_simp); all_goals (with_reducible rfl))
  try simp only [Act.put, List.setIfInBounds_toArray, List.set_cons_zero, List.set_cons_succ]
  refine wpAnyH_take (i := 22) (oi := ?oi_k22) (v := ?v_k22) ?hi_k22 (by kernel_rfl) ?hf_k22 ?hr_k22 ?hQ_k22 (Or.inl ⟨?hw_k22, ?hy_k22⟩) (by assumption) ?rest_k22
  case hi_k22 => ((simp only [List.getElem?_toArray, List.getElem?_cons_succ, List.getElem?_cons_zero]); rfl)
  case hf_k22 => kernel_rfl
  case hr_k22 => kernel_rfl
  case hQ_k22 => exact fun _ _ _ h => h
  case hw_k22 => rfl
  case hy_k22 => ((intro w hSw; (try dsimp only at hSw); go_simp); all_goals (with_reducible rfl))
  try simp only [Act.put, List.setIfInBounds_toArray, List.set_cons_zero, List.set_cons_succ]
  refine wpAnyH_take (i := 23) (oi := ?oi_k23) (v := ?v_k23) ?hi_k23 (by kernel_rfl) ?hf_k23 ?hr_k23 ?hQ_k23 (Or.inl ⟨?hw_k23, ?hy_k23⟩) (by assumption) ?rest_k23
  case hi_k23 => ((simp only [List.getElem?_toArray, List.getElem?_cons_succ, List.getElem?_cons_zero]); rfl)
  case hf_k23 => kernel_rfl
  case hr_k23 => kernel_rfl
  case hQ_k23 => exact fun _ _ _ h => h
  case hw_k23 => rfl
  case hy_k23 => ((intro w hSw; (try dsimp only at hSw); go_simp); all_goals (with_reducible rfl))
  try simp only [Act.put, List.setIfInBounds_toArray, List.set_cons_zero, List.set_cons_succ]
  refine wpAnyH_take (i := 24) (oi := ?oi_k24) (v := ?v_k24) ?hi_k24 (by kernel_rfl) ?hf_k24 ?hr_k24 ?hQ_k24 (Or.inl ⟨?hw_k24, ?hy_k24⟩) (by assumption) ?rest_k24
  case hi_k24 => ((simp only [List.getElem?_toArray, List.getElem?_cons_succ, List.getElem?_cons_zero]); rfl)
  case hf_k24 => kernel_rfl
  case hr_k24 => kernel_rfl
  case hQ_k24 => exact fun _ _ _ h => h
  case hw_k24 => rfl
  case hy_k24 => ((intro w hSw; (try dsimp only at hSw); go_simp); all_goals (with_reducible rfl))
  try simp only [Act.put, List.setIfInBounds_toArray, List.set_cons_zero, List.set_cons_succ]
  refine wpAnyH_take (i := 25) (oi := ?oi_k25) (v := ?v_k25) ?hi_k25 (by kernel_rfl) ?hf_k25 ?hr_k25 ?hQ_k25 (Or.inl ⟨?hw_k25, ?hy_k25⟩) (by assumption) ?rest_k25
  case hi_k25 => ((simp only [List.getElem?_toArray, List.getElem?_cons_succ, List.getElem?_cons_zero]); rfl)
  case hf_k25 => kernel_rfl
  case hr_k25 => kernel_rfl
  case hQ_k25 => exact fun _ _ _ h => h
  case hw_k25 => rfl
  case hy_k25 => ((intro w hSw; (try dsimp only at hSw); go_simp); all_goals (with_reducible rfl))
  try simp only [Act.put, List.setIfInBounds_toArray, List.set_cons_zero, List.set_cons_succ]
  refine wpAnyH_take (i := 26) (oi := ?oi_k26) (v := ?v_k26) ?hi_k26 (by kernel_rfl) ?hf_k26 ?hr_k26 ?hQ_k26 (Or.inl ⟨?hw_k26, ?hy_k26⟩) (by assumption) ?rest_k26
  case hi_k26 => ((simp only [List.getElem?_toArray, List.getElem?_cons_succ, List.getElem?_cons_zero]); rfl)
  case hf_k26 => kernel_rfl
  case hr_k26 => kernel_rfl
  case hQ_k26 => exact fun _ _ _ h => h
  case hw_k26 => rfl
  case hy_k26 => ((intro w hSw; (try dsimp only at hSw); go_simp); all_goals (with_reducible rfl))
  try simp only [Act.put, List.setIfInBounds_toArray, List.set_cons_zero, List.set_cons_succ]
  refine wpAnyH_take (i := 29) (oi := ?oi_k27) (v := ?v_k27) ?hi_k27 (by kernel_rfl) ?hf_k27 ?hr_k27 ?hQ_k27 (Or.inl ⟨?hw_k27, ?hy_k27⟩) (by assumption) ?rest_k27
  case hi_k27 => ((simp only [List.getElem?_toArray, List.getElem?_cons_succ, List.getElem?_cons_zero]); rfl)
  case hf_k27 => kernel_rfl
  case hr_k27 => kernel_rfl
  case hQ_k27 => exact fun _ _ _ h => h
  case hw_k27 => rfl
  case hy_k27 => ((intro w hSw; (try dsimp only at hSw); go_simp); all_goals (with_reducible rfl))
  try simp only [Act.put, List.setIfInBounds_toArray, List.set_cons_zero, List.set_cons_succ]
  refine wpAnyH_take (i := 30) (oi := ?oi_k28) (v := ?v_k28) ?hi_k28 (by kernel_rfl) ?hf_k28 ?hr_k28 ?hQ_k28 (Or.inl ⟨?hw_k28, ?hy_k28⟩) (by assumption) ?rest_k28
  case hi_k28 => ((simp only [List.getElem?_toArray, List.getElem?_cons_succ, List.getElem?_cons_zero]); rfl)
  case hf_k28 => kernel_rfl
  case hr_k28 => kernel_rfl
  case hQ_k28 => exact fun _ _ _ h => h
  case hw_k28 => rfl
  case hy_k28 => ((intro w hSw; (try dsimp only at hSw); go_simp); all_goals (with_reducible rfl))
  try simp only [Act.put, List.setIfInBounds_toArray, List.set_cons_zero, List.set_cons_succ]
  refine wpAnyH_take (i := 31) (oi := ?oi_k29) (v := ?v_k29) ?hi_k29 (by kernel_rfl) ?hf_k29 ?hr_k29 ?hQ_k29 (Or.inl ⟨?hw_k29, ?hy_k29⟩) (by assumption) ?rest_k29
  case hi_k29 => ((simp only [List.getElem?_toArray, List.getElem?_cons_succ, List.getElem?_cons_zero]); rfl)
  case hf_k29 => kernel_rfl
  case hr_k29 => kernel_rfl
  case hQ_k29 => exact fun _ _ _ h => h
  case hw_k29 => rfl
  case hy_k29 => ((intro w hSw; (try dsimp only at hSw); go_simp); all_goals (with_reducible rfl))
  try simp only [Act.put, List.setIfInBounds_toArray, List.set_cons_zero, List.set_cons_succ]
  refine wpAnyH_take (i := 34) (oi := ?oi_k30) (v := ?v_k30) ?hi_k30 (by kernel_rfl) ?hf_k30 ?hr_k30 ?hQ_k30 (Or.inl ⟨?hw_k30, ?hy_k30⟩) (by assumption) ?rest_k30
  case hi_k30 => ((simp only [List.getElem?_toArray, List.getElem?_cons_succ, List.getElem?_cons_zero]); rfl)
  case hf_k30 => kernel_rfl
  case hr_k30 => kernel_rfl
  case hQ_k30 => exact fun _ _ _ h => h
  case hw_k30 => rfl
  case hy_k30 => ((intro w hSw; (try dsimp only at hSw); go_simp); all_goals (with_reducible rfl))
  try simp only [Act.put, List.setIfInBounds_toArray, List.set_cons_zero, List.set_cons_succ]
  refine wpAnyH_take (i := 35) (oi := ?oi_k31) (v := ?v_k31) ?hi_k31 (by kernel_rfl) ?hf_k31 ?hr_k31 ?hQ_k31 (Or.inl ⟨?hw_k31, ?hy_k31⟩) (by assumption) ?rest_k31
  case hi_k31 => ((simp only [List.getElem?_toArray, List.getElem?_cons_succ, List.getElem?_cons_zero]); rfl)
  case hf_k31 => kernel_rfl
  case hr_k31 => kernel_rfl
  case hQ_k31 => exact fun _ _ _ h => h
  case hw_k31 => rfl
  case hy_k31 => ((intro w hSw; (try dsimp only at hSw); go_simp); all_goals (with_reducible rfl))
  try simp only [Act.put, List.setIfInBounds_toArray, List.set_cons_zero, List.set_cons_succ]
  refine wpAnyH_take (i := 36) (oi := ?oi_k32) (v := ?v_k32) ?hi_k32 (by kernel_rfl) ?hf_k32 ?hr_k32 ?hQ_k32 (Or.inl ⟨?hw_k32, ?hy_k32⟩) (by assumption) ?rest_k32
  case hi_k32 => ((simp only [List.getElem?_toArray, List.getElem?_cons_succ, List.getElem?_cons_zero]); rfl)
  case hf_k32 => kernel_rfl
  case hr_k32 => kernel_rfl
  case hQ_k32 => exact fun _ _ _ h => h
  case hw_k32 => rfl
  case hy_k32 => ((intro w hSw; (try dsimp only at hSw); go_simp); all_goals (with_reducible rfl))
  try simp only [Act.put, List.setIfInBounds_toArray, List.set_cons_zero, List.set_cons_succ]
  refine wpAnyH_take (i := 39) (oi := ?oi_k33) (v := ?v_k33) ?hi_k33 (by kernel_rfl) ?hf_k33 ?hr_k33 ?hQ_k33 (Or.inl ⟨?hw_k33, ?hy_k33⟩) (by assumption) ?rest_k33
  case hi_k33 => ((simp only [List.getElem?_toArray, List.getElem?_cons_succ, List.getElem?_cons_zero]); rfl)
  case hf_k33 => kernel_rfl
  case hr_k33 => kernel_rfl
  case hQ_k33 => exact fun _ _ _ h => h
  case hw_k33 => rfl
  case hy_k33 => ((intro w hSw; (try dsimp only at hSw); go_simp); all_goals (with_reducible rfl))
  try simp only [Act.put, List.setIfInBounds_toArray, List.set_cons_zero, List.set_cons_succ]
  refine wpAnyH_take (i := 40) (oi := ?oi_k34) (v := ?v_k34) ?hi_k34 (by kernel_rfl) ?hf_k34 ?hr_k34 ?hQ_k34 (Or.inl ⟨?hw_k34, ?hy_k34⟩) (by assumption) ?rest_k34
  case hi_k34 => ((simp only [List.getElem?_toArray, List.getElem?_cons_succ, List.getElem?_cons_zero]); rfl)
  case hf_k34 => kernel_rfl
  case hr_k34 => kernel_rfl
  case hQ_k34 => exact fun _ _ _ h => h
  case hw_k34 => rfl
  case hy_k34 => ((intro w hSw; (try dsimp only at hSw); go_simp); all_goals (with_reducible rfl))
  try simp only [Act.put, List.setIfInBounds_toArray, List.set_cons_zero, List.set_cons_succ]
  refine wpAnyH_take (i := 41) (oi := ?oi_k35) (v := ?v_k35) ?hi_k35 (by kernel_rfl) ?hf_k35 ?hr_k35 ?hQ_k35 (Or.inl ⟨?hw_k35, ?hy_k35⟩) (by assumption) ?rest_k35
  case hi_k35 => ((simp only [List.getElem?_toArray, List.getElem?_cons_succ, List.getElem?_cons_zero]); rfl)
  case hf_k35 => kernel_rfl
  case hr_k35 => kernel_rfl
  case hQ_k35 => exact fun _ _ _ h => h
  case hw_k35 => rfl
  case hy_k35 => ((intro w hSw; (try dsimp only at hSw); go_simp); all_goals (with_reducible rfl))
  try simp only [Act.put, List.setIfInBounds_toArray, List.set_cons_zero, List.set_cons_succ]
  refine wpAnyH_take (i := 44) (oi := ?oi_k36) (v := ?v_k36) ?hi_k36 (by kernel_rfl) ?hf_k36 ?hr_k36 ?hQ_k36 (Or.inl ⟨?hw_k36, ?hy_k36⟩) (by assumption) ?rest_k36
  case hi_k36 => ((simp only [List.getElem?_toArray, List.getElem?_cons_succ, List.getElem?_cons_zero]); rfl)
  case hf_k36 => kernel_rfl
  case hr_k36 => kernel_rfl
  case hQ_k36 => exact fun _ _ _ h => h
  case hw_k36 => rfl
  case hy_k36 => ((intro w hSw; (try dsimp only at hSw); go_simp); all_goals (with_reducible rfl))
  try simp only [Act.put, List.setIfInBounds_toArray, List.set_cons_zero, List.set_cons_succ]
  refine wpAnyH_take (i := 45) (oi := ?oi_k37) (v := ?v_k37) ?hi_k37 (by kernel_rfl) ?hf_k37 ?hr_k37 ?hQ_k37 (Or.inl ⟨?hw_k37, ?hy_k37⟩) (by assumption) ?rest_k37
  case hi_k37 => ((simp only [List.getElem?_toArray, List.getElem?_cons_succ, List.getElem?_cons_zero]); rfl)
  case hf_k37 => kernel_rfl
  case hr_k37 => kernel_rfl
  case hQ_k37 => exact fun _ _ _ h => h
  case hw_k37 => rfl
  case hy_k37 => ((intro w hSw; (try dsimp only at hSw); go_simp); all_goals (with_reducible rfl))
  try simp only [Act.put, List.setIfInBounds_toArray, List.set_cons_zero, List.set_cons_succ]
  refine wpAnyH_take (i := 46) (oi := ?oi_k38) (v := ?v_k38) ?hi_k38 (by kernel_rfl) ?hf_k38 ?hr_k38 ?hQ_k38 (Or.inl ⟨?hw_k38, ?hy_k38⟩) (by assumption) ?rest_k38
  case hi_k38 => ((simp only [List.getElem?_toArray, List.getElem?_cons_succ, List.getElem?_cons_zero]); rfl)
  case hf_k38 => kernel_rfl
  case hr_k38 => kernel_rfl
  case hQ_k38 => exact fun _ _ _ h => h
  case hw_k38 => rfl
  case hy_k38 => ((intro w hSw; (try dsimp only at hSw); go_simp); all_goals (with_reducible rfl))
  try simp only [Act.put, List.setIfInBounds_toArray, List.set_cons_zero, List.set_cons_succ]
  refine krip (LeP (w.heap.size) C) [3, 16, 29, 33, 37, 41, 45] [[], [], [], [], [], [], [], [], [], [], [], [], [], [], [0, 13], [], [], [], [], [], [], [], [], [], [], [], [], [], [0, 27], [], [], [], [], [0, 32], [], [], [], [], [0, 37], [], [], [], [], [0, 42], [], [], [], [], [0, 47], [0, 13, 27, 32, 37, 42, 47, 14, 28, 33, 38, 43, 48], [0, 13, 27, 32, 37, 42, 47, 14, 28, 33, 38, 43, 48]] [[3], [], [], [], [], [], [], [], [], [], [], [], [], [16], [3], [], [], [], [], [], [], [], [], [], [], [], [], [29], [3], [], [], [], [33], [3], [], [], [], [37], [3], [], [], [], [41], [3], [], [], [], [45], [3], [], []] [0, 13, 27, 32, 37, 42, 47, 14, 28, 33, 38, 43, 48] (krF [(0, fun t u => ∃ m : Nat, t 3 = .map (some m) ∧ w.heap.size ≤ m ∧ OwnK u (w.heap.size) C m), (13, fun t u => ∃ g : Nat, t 16 = .slice (some ⟨g, 0, none⟩) 3 3 ∧ w.heap.size ≤ g ∧ Blk u g (ptrC C 0) 70), (27, fun t u => ∃ g : Nat, t 29 = .slice (some ⟨g, 0, none⟩) 3 3 ∧ w.heap.size ≤ g ∧ Blk u g (ptrC C 1) 70), (32, fun t u => ∃ g : Nat, t 33 = .slice (some ⟨g, 0, none⟩) 1 1 ∧ w.heap.size ≤ g ∧ Blk u g (ptrC C 2) 70), (37, fun t u => ∃ g : Nat, t 37 = .slice (some ⟨g, 0, none⟩) 1 1 ∧ w.heap.size ≤ g ∧ Blk u g (ptrC C 3) 70), (42, fun t u => ∃ g : Nat, t 41 = .slice (some ⟨g, 0, none⟩) 1 1 ∧ w.heap.size ≤ g ∧ Blk u g (ptrC C 4) 70), (47, fun t u => ∃ g : Nat, t 45 = .slice (some ⟨g, 0, none⟩) 1 1 ∧ w.heap.size ≤ g ∧ Blk u g (ptrC C 5) 70), (14, fun t u => ∃ m : Nat, t 3 = .map (some m) ∧ HasK u (w.heap.size) C m 0), (28, fun t u => ∃ m : Nat, t 3 = .map (some m) ∧ HasK u (w.heap.size) C m 1), (33, fun t u => ∃ m : Nat, t 3 = .map (some m) ∧ HasK u (w.heap.size) C m 2), (38, fun t u => ∃ m : Nat, t 3 = .map (some m) ∧ HasK u (w.heap.size) C m 3), (43, fun t u => ∃ m : Nat, t 3 = .map (some m) ∧ HasK u (w.heap.size) C m 4), (48, fun t u => ∃ m : Nat, t 3 = .map (some m) ∧ HasK u (w.heap.size) C m 5)]) 2 #[true, true, true, true, true, true, true, true, true, true, true, true, true, true, true, true, true, true, true, true, true, true, true, true, true, true, true, true, true, true, true, true, true, true, true, true, true, true, true, true, true, true, true, true, true, true, true, true, true, false, false] (by kernel_rfl) (by kernel_rfl) (by kernel_rfl) (by assumption) (AllL.cons ?s_0_q39 (AllL.cons ?s_13_q39 (AllL.cons ?s_27_q39 (AllL.cons ?s_32_q39 (AllL.cons ?s_37_q39 (AllL.cons ?s_42_q39 (AllL.cons ?s_47_q39 (AllL.cons ?s_14_q39 (AllL.cons ?s_28_q39 (AllL.cons ?s_33_q39 (AllL.cons ?s_38_q39 (AllL.cons ?s_43_q39 (AllL.cons ?s_48_q39 AllL.nil))))))))))))) (AllL.cons ?o_0_q39 (AllL.cons ?o_13_q39 (AllL.cons ?o_27_q39 (AllL.cons ?o_32_q39 (AllL.cons ?o_37_q39 (AllL.cons ?o_42_q39 (AllL.cons ?o_47_q39 (AllL.cons ?o_14_q39 (AllL.cons ?o_28_q39 (AllL.cons ?o_33_q39 (AllL.cons ?o_38_q39 (AllL.cons ?o_43_q39 (AllL.cons ?o_48_q39 AllL.nil))))))))))))) ?e_q39
  case s_0_q39 => exact fun t u u' hle ⟨m, e, hb, h⟩ => ⟨m, e, hb, hle.2.1 m h⟩
  case s_13_q39 => exact fun t u u' hle ⟨g, e, hb, h⟩ => ⟨g, e, hb, hle.1 _ _ _ h⟩
  case s_27_q39 => exact fun t u u' hle ⟨g, e, hb, h⟩ => ⟨g, e, hb, hle.1 _ _ _ h⟩
  case s_32_q39 => exact fun t u u' hle ⟨g, e, hb, h⟩ => ⟨g, e, hb, hle.1 _ _ _ h⟩
  case s_37_q39 => exact fun t u u' hle ⟨g, e, hb, h⟩ => ⟨g, e, hb, hle.1 _ _ _ h⟩
  case s_42_q39 => exact fun t u u' hle ⟨g, e, hb, h⟩ => ⟨g, e, hb, hle.1 _ _ _ h⟩
  case s_47_q39 => exact fun t u u' hle ⟨g, e, hb, h⟩ => ⟨g, e, hb, hle.1 _ _ _ h⟩
  case s_14_q39 => exact fun t u u' hle ⟨m, e, h⟩ => ⟨m, e, hle.2.2 m _ h⟩
  case s_28_q39 => exact fun t u u' hle ⟨m, e, h⟩ => ⟨m, e, hle.2.2 m _ h⟩
  case s_33_q39 => exact fun t u u' hle ⟨m, e, h⟩ => ⟨m, e, hle.2.2 m _ h⟩
  case s_38_q39 => exact fun t u u' hle ⟨m, e, h⟩ => ⟨m, e, hle.2.2 m _ h⟩
  case s_43_q39 => exact fun t u u' hle ⟨m, e, h⟩ => ⟨m, e, hle.2.2 m _ h⟩
  case s_48_q39 => exact fun t u u' hle ⟨m, e, h⟩ => ⟨m, e, hle.2.2 m _ h⟩
  case o_0_q39 =>
    refine KrOp.of (o := ?oo_0_q39) ?hi_0_q39 (fun t u hHeld hF K hK => ?rr_0_q39)
    case hi_0_q39 => ((simp only [List.getElem?_toArray, List.getElem?_cons_succ, List.getElem?_cons_zero]); rfl)
    case rr_0_q39 =>
      clear hF
      simp only [setl, List.foldl_cons, List.foldl_nil, Act.put, List.setIfInBounds_toArray, List.set_cons_zero, List.set_cons_succ] at hK ⊢
      have hmm := @run_makeMap Tryz.prog
      go_simp
      refine hK.out _ _ (by exact LeP.below (belAlloc (Below.refl _ _) _)) (by exact (show Below w.heap.size w _ by repeat (first | assumption | exact Below.refl _ _ | refine belDrew ?_ | refine belAlloc ?_ _ | refine belStep ?_ (by assumption)))) ?_
      exact ⟨_, rfl, Below.size hHeld, ⟨0, _, World.ownsMap_made _ _ _ _, GD.empty _ _ _⟩⟩
  case o_13_q39 =>
    refine KrOp.of (o := ?oo_13_q39) ?hi_13_q39 (fun t u hHeld hF K hK => ?rr_13_q39)
    case hi_13_q39 => ((simp only [List.getElem?_toArray, List.getElem?_cons_succ, List.getElem?_cons_zero]); rfl)
    case rr_13_q39 =>
      clear hF
      simp only [setl, List.foldl_cons, List.foldl_nil, Act.put, List.setIfInBounds_toArray, List.set_cons_zero, List.set_cons_succ] at hK ⊢
      go_simp
      refine hK.out _ _ (by exact LeP.below (belAlloc (Below.refl _ _) _)) (by exact (show Below w.heap.size w _ by repeat (first | assumption | exact Below.refl _ _ | refine belDrew ?_ | refine belAlloc ?_ _ | refine belStep ?_ (by assumption)))) ?_
      exact ⟨_, rfl, Below.size hHeld, Blk.new _ (ptrC C 0) 70⟩
  case o_27_q39 =>
    refine KrOp.of (o := ?oo_27_q39) ?hi_27_q39 (fun t u hHeld hF K hK => ?rr_27_q39)
    case hi_27_q39 => ((simp only [List.getElem?_toArray, List.getElem?_cons_succ, List.getElem?_cons_zero]); rfl)
    case rr_27_q39 =>
      clear hF
      simp only [setl, List.foldl_cons, List.foldl_nil, Act.put, List.setIfInBounds_toArray, List.set_cons_zero, List.set_cons_succ] at hK ⊢
      go_simp
      refine hK.out _ _ (by exact LeP.below (belAlloc (Below.refl _ _) _)) (by exact (show Below w.heap.size w _ by repeat (first | assumption | exact Below.refl _ _ | refine belDrew ?_ | refine belAlloc ?_ _ | refine belStep ?_ (by assumption)))) ?_
      exact ⟨_, rfl, Below.size hHeld, Blk.new _ (ptrC C 1) 70⟩
  case o_32_q39 =>
    refine KrOp.of (o := ?oo_32_q39) ?hi_32_q39 (fun t u hHeld hF K hK => ?rr_32_q39)
    case hi_32_q39 => ((simp only [List.getElem?_toArray, List.getElem?_cons_succ, List.getElem?_cons_zero]); rfl)
    case rr_32_q39 =>
      clear hF
      simp only [setl, List.foldl_cons, List.foldl_nil, Act.put, List.setIfInBounds_toArray, List.set_cons_zero, List.set_cons_succ] at hK ⊢
      go_simp
      refine hK.out _ _ (by exact LeP.below (belAlloc (Below.refl _ _) _)) (by exact (show Below w.heap.size w _ by repeat (first | assumption | exact Below.refl _ _ | refine belDrew ?_ | refine belAlloc ?_ _ | refine belStep ?_ (by assumption)))) ?_
      exact ⟨_, rfl, Below.size hHeld, Blk.new _ (ptrC C 2) 70⟩
  case o_37_q39 =>
    refine KrOp.of (o := ?oo_37_q39) ?hi_37_q39 (fun t u hHeld hF K hK => ?rr_37_q39)
    case hi_37_q39 => ((simp only [List.getElem?_toArray, List.getElem?_cons_succ, List.getElem?_cons_zero]); rfl)
    case rr_37_q39 =>
      clear hF
      simp only [setl, List.foldl_cons, List.foldl_nil, Act.put, List.setIfInBounds_toArray, List.set_cons_zero, List.set_cons_succ] at hK ⊢
      go_simp
      refine hK.out _ _ (by exact LeP.below (belAlloc (Below.refl _ _) _)) (by exact (show Below w.heap.size w _ by repeat (first | assumption | exact Below.refl _ _ | refine belDrew ?_ | refine belAlloc ?_ _ | refine belStep ?_ (by assumption)))) ?_
      exact ⟨_, rfl, Below.size hHeld, Blk.new _ (ptrC C 3) 70⟩
  case o_42_q39 =>
    refine KrOp.of (o := ?oo_42_q39) ?hi_42_q39 (fun t u hHeld hF K hK => ?rr_42_q39)
    case hi_42_q39 => ((simp only [List.getElem?_toArray, List.getElem?_cons_succ, List.getElem?_cons_zero]); rfl)
    case rr_42_q39 =>
      clear hF
      simp only [setl, List.foldl_cons, List.foldl_nil, Act.put, List.setIfInBounds_toArray, List.set_cons_zero, List.set_cons_succ] at hK ⊢
      go_simp
      refine hK.out _ _ (by exact LeP.below (belAlloc (Below.refl _ _) _)) (by exact (show Below w.heap.size w _ by repeat (first | assumption | exact Below.refl _ _ | refine belDrew ?_ | refine belAlloc ?_ _ | refine belStep ?_ (by assumption)))) ?_
      exact ⟨_, rfl, Below.size hHeld, Blk.new _ (ptrC C 4) 70⟩
  case o_47_q39 =>
    refine KrOp.of (o := ?oo_47_q39) ?hi_47_q39 (fun t u hHeld hF K hK => ?rr_47_q39)
    case hi_47_q39 => ((simp only [List.getElem?_toArray, List.getElem?_cons_succ, List.getElem?_cons_zero]); rfl)
    case rr_47_q39 =>
      clear hF
      simp only [setl, List.foldl_cons, List.foldl_nil, Act.put, List.setIfInBounds_toArray, List.set_cons_zero, List.set_cons_succ] at hK ⊢
      go_simp
      refine hK.out _ _ (by exact LeP.below (belAlloc (Below.refl _ _) _)) (by exact (show Below w.heap.size w _ by repeat (first | assumption | exact Below.refl _ _ | refine belDrew ?_ | refine belAlloc ?_ _ | refine belStep ?_ (by assumption)))) ?_
      exact ⟨_, rfl, Below.size hHeld, Blk.new _ (ptrC C 5) 70⟩
  case o_14_q39 =>
    refine KrOp.of (o := ?oo_14_q39) ?hi_14_q39 (fun t u hHeld hF K hK => ?rr_14_q39)
    case hi_14_q39 => ((simp only [List.getElem?_toArray, List.getElem?_cons_succ, List.getElem?_cons_zero]); rfl)
    case rr_14_q39 =>
      have h0 : ∃ m : Nat, t 3 = .map (some m) ∧ w.heap.size ≤ m ∧ OwnK u (w.heap.size) C m := hF 0 rfl rfl
      have h13 : ∃ g : Nat, t 16 = .slice (some ⟨g, 0, none⟩) 3 3 ∧ w.heap.size ≤ g ∧ Blk u g (ptrC C 0) 70 := hF 13 rfl rfl
      clear hF
      simp only [setl, List.foldl_cons, List.foldl_nil, Act.put, List.setIfInBounds_toArray, List.set_cons_zero, List.set_cons_succ] at hK ⊢
      obtain ⟨m0, e0, hm0, ho0⟩ := h0
      obtain ⟨g13, e13, hg13, hr13⟩ := h13
      simp only [e0, e13] at hK ⊢
      obtain ⟨w5, hrun, hle5, hk5, hb5⟩ := ins_run (w.heap.size) C m0 g13 0 (by omega) u ho0 hm0 hg13 hr13
      simp only [kwB, kwL, needN, Nat.reduceLT, if_true, if_false] at hrun
      go_simp
      refine hK.out undef _ (by exact hle5) (by exact hHeld.trans hb5) ?_
      exact ⟨m0, e0, hk5⟩
  case o_28_q39 =>
    refine KrOp.of (o := ?oo_28_q39) ?hi_28_q39 (fun t u hHeld hF K hK => ?rr_28_q39)
    case hi_28_q39 => ((simp only [List.getElem?_toArray, List.getElem?_cons_succ, List.getElem?_cons_zero]); rfl)
    case rr_28_q39 =>
      have h0 : ∃ m : Nat, t 3 = .map (some m) ∧ w.heap.size ≤ m ∧ OwnK u (w.heap.size) C m := hF 0 rfl rfl
      have h27 : ∃ g : Nat, t 29 = .slice (some ⟨g, 0, none⟩) 3 3 ∧ w.heap.size ≤ g ∧ Blk u g (ptrC C 1) 70 := hF 27 rfl rfl
      clear hF
      simp only [setl, List.foldl_cons, List.foldl_nil, Act.put, List.setIfInBounds_toArray, List.set_cons_zero, List.set_cons_succ] at hK ⊢
      obtain ⟨m0, e0, hm0, ho0⟩ := h0
      obtain ⟨g27, e27, hg27, hr27⟩ := h27
      simp only [e0, e27] at hK ⊢
      obtain ⟨w5, hrun, hle5, hk5, hb5⟩ := ins_run (w.heap.size) C m0 g27 1 (by omega) u ho0 hm0 hg27 hr27
      simp only [kwB, kwL, needN, Nat.reduceLT, if_true, if_false] at hrun
      go_simp
      refine hK.out undef _ (by exact hle5) (by exact hHeld.trans hb5) ?_
      exact ⟨m0, e0, hk5⟩
  case o_33_q39 =>
    refine KrOp.of (o := ?oo_33_q39) ?hi_33_q39 (fun t u hHeld hF K hK => ?rr_33_q39)
    case hi_33_q39 => ((simp only [List.getElem?_toArray, List.getElem?_cons_succ, List.getElem?_cons_zero]); rfl)
    case rr_33_q39 =>
      have h0 : ∃ m : Nat, t 3 = .map (some m) ∧ w.heap.size ≤ m ∧ OwnK u (w.heap.size) C m := hF 0 rfl rfl
      have h32 : ∃ g : Nat, t 33 = .slice (some ⟨g, 0, none⟩) 1 1 ∧ w.heap.size ≤ g ∧ Blk u g (ptrC C 2) 70 := hF 32 rfl rfl
      clear hF
      simp only [setl, List.foldl_cons, List.foldl_nil, Act.put, List.setIfInBounds_toArray, List.set_cons_zero, List.set_cons_succ] at hK ⊢
      obtain ⟨m0, e0, hm0, ho0⟩ := h0
      obtain ⟨g32, e32, hg32, hr32⟩ := h32
      simp only [e0, e32] at hK ⊢
      obtain ⟨w5, hrun, hle5, hk5, hb5⟩ := ins_run (w.heap.size) C m0 g32 2 (by omega) u ho0 hm0 hg32 hr32
      simp only [kwB, kwL, needN, Nat.reduceLT, if_true, if_false] at hrun
      go_simp
      refine hK.out undef _ (by exact hle5) (by exact hHeld.trans hb5) ?_
      exact ⟨m0, e0, hk5⟩
  case o_38_q39 =>
    refine KrOp.of (o := ?oo_38_q39) ?hi_38_q39 (fun t u hHeld hF K hK => ?rr_38_q39)
    case hi_38_q39 => ((simp only [List.getElem?_toArray, List.getElem?_cons_succ, List.getElem?_cons_zero]); rfl)
    case rr_38_q39 =>
      have h0 : ∃ m : Nat, t 3 = .map (some m) ∧ w.heap.size ≤ m ∧ OwnK u (w.heap.size) C m := hF 0 rfl rfl
      have h37 : ∃ g : Nat, t 37 = .slice (some ⟨g, 0, none⟩) 1 1 ∧ w.heap.size ≤ g ∧ Blk u g (ptrC C 3) 70 := hF 37 rfl rfl
      clear hF
      simp only [setl, List.foldl_cons, List.foldl_nil, Act.put, List.setIfInBounds_toArray, List.set_cons_zero, List.set_cons_succ] at hK ⊢
      obtain ⟨m0, e0, hm0, ho0⟩ := h0
      obtain ⟨g37, e37, hg37, hr37⟩ := h37
      simp only [e0, e37] at hK ⊢
      obtain ⟨w5, hrun, hle5, hk5, hb5⟩ := ins_run (w.heap.size) C m0 g37 3 (by omega) u ho0 hm0 hg37 hr37
      simp only [kwB, kwL, needN, Nat.reduceLT, if_true, if_false] at hrun
      go_simp
      refine hK.out undef _ (by exact hle5) (by exact hHeld.trans hb5) ?_
      exact ⟨m0, e0, hk5⟩
  case o_43_q39 =>
    refine KrOp.of (o := ?oo_43_q39) ?hi_43_q39 (fun t u hHeld hF K hK => ?rr_43_q39)
    case hi_43_q39 => ((simp only [List.getElem?_toArray, List.getElem?_cons_succ, List.getElem?_cons_zero]); rfl)
    case rr_43_q39 =>
      have h0 : ∃ m : Nat, t 3 = .map (some m) ∧ w.heap.size ≤ m ∧ OwnK u (w.heap.size) C m := hF 0 rfl rfl
      have h42 : ∃ g : Nat, t 41 = .slice (some ⟨g, 0, none⟩) 1 1 ∧ w.heap.size ≤ g ∧ Blk u g (ptrC C 4) 70 := hF 42 rfl rfl
      clear hF
      simp only [setl, List.foldl_cons, List.foldl_nil, Act.put, List.setIfInBounds_toArray, List.set_cons_zero, List.set_cons_succ] at hK ⊢
      obtain ⟨m0, e0, hm0, ho0⟩ := h0
      obtain ⟨g42, e42, hg42, hr42⟩ := h42
      simp only [e0, e42] at hK ⊢
      obtain ⟨w5, hrun, hle5, hk5, hb5⟩ := ins_run (w.heap.size) C m0 g42 4 (by omega) u ho0 hm0 hg42 hr42
      simp only [kwB, kwL, needN, Nat.reduceLT, if_true, if_false] at hrun
      go_simp
      refine hK.out undef _ (by exact hle5) (by exact hHeld.trans hb5) ?_
      exact ⟨m0, e0, hk5⟩
  case o_48_q39 =>
    refine KrOp.of (o := ?oo_48_q39) ?hi_48_q39 (fun t u hHeld hF K hK => ?rr_48_q39)
    case hi_48_q39 => ((simp only [List.getElem?_toArray, List.getElem?_cons_succ, List.getElem?_cons_zero]); rfl)
    case rr_48_q39 =>
      have h0 : ∃ m : Nat, t 3 = .map (some m) ∧ w.heap.size ≤ m ∧ OwnK u (w.heap.size) C m := hF 0 rfl rfl
      have h47 : ∃ g : Nat, t 45 = .slice (some ⟨g, 0, none⟩) 1 1 ∧ w.heap.size ≤ g ∧ Blk u g (ptrC C 5) 70 := hF 47 rfl rfl
      clear hF
      simp only [setl, List.foldl_cons, List.foldl_nil, Act.put, List.setIfInBounds_toArray, List.set_cons_zero, List.set_cons_succ] at hK ⊢
      obtain ⟨m0, e0, hm0, ho0⟩ := h0
      obtain ⟨g47, e47, hg47, hr47⟩ := h47
      simp only [e0, e47] at hK ⊢
      obtain ⟨w5, hrun, hle5, hk5, hb5⟩ := ins_run (w.heap.size) C m0 g47 5 (by omega) u ho0 hm0 hg47 hr47
      simp only [kwB, kwL, needN, Nat.reduceLT, if_true, if_false] at hrun
      go_simp
      refine hK.out undef _ (by exact hle5) (by exact hHeld.trans hb5) ?_
      exact ⟨m0, e0, hk5⟩
  case e_q39 =>
    intro t u hHeld hF
    have h0 : ∃ m : Nat, t 3 = .map (some m) ∧ w.heap.size ≤ m ∧ OwnK u (w.heap.size) C m := hF 0 rfl
    have h13 : ∃ g : Nat, t 16 = .slice (some ⟨g, 0, none⟩) 3 3 ∧ w.heap.size ≤ g ∧ Blk u g (ptrC C 0) 70 := hF 13 rfl
    have h27 : ∃ g : Nat, t 29 = .slice (some ⟨g, 0, none⟩) 3 3 ∧ w.heap.size ≤ g ∧ Blk u g (ptrC C 1) 70 := hF 27 rfl
    have h32 : ∃ g : Nat, t 33 = .slice (some ⟨g, 0, none⟩) 1 1 ∧ w.heap.size ≤ g ∧ Blk u g (ptrC C 2) 70 := hF 32 rfl
    have h37 : ∃ g : Nat, t 37 = .slice (some ⟨g, 0, none⟩) 1 1 ∧ w.heap.size ≤ g ∧ Blk u g (ptrC C 3) 70 := hF 37 rfl
    have h42 : ∃ g : Nat, t 41 = .slice (some ⟨g, 0, none⟩) 1 1 ∧ w.heap.size ≤ g ∧ Blk u g (ptrC C 4) 70 := hF 42 rfl
    have h47 : ∃ g : Nat, t 45 = .slice (some ⟨g, 0, none⟩) 1 1 ∧ w.heap.size ≤ g ∧ Blk u g (ptrC C 5) 70 := hF 47 rfl
    have h14 : ∃ m : Nat, t 3 = .map (some m) ∧ HasK u (w.heap.size) C m 0 := hF 14 rfl
    have h28 : ∃ m : Nat, t 3 = .map (some m) ∧ HasK u (w.heap.size) C m 1 := hF 28 rfl
    have h33 : ∃ m : Nat, t 3 = .map (some m) ∧ HasK u (w.heap.size) C m 2 := hF 33 rfl
    have h38 : ∃ m : Nat, t 3 = .map (some m) ∧ HasK u (w.heap.size) C m 3 := hF 38 rfl
    have h43 : ∃ m : Nat, t 3 = .map (some m) ∧ HasK u (w.heap.size) C m 4 := hF 43 rfl
    have h48 : ∃ m : Nat, t 3 = .map (some m) ∧ HasK u (w.heap.size) C m 5 := hF 48 rfl
    clear hF
    simp only [setl, List.foldl_cons, List.foldl_nil, Act.put, List.setIfInBounds_toArray, List.set_cons_zero, List.set_cons_succ]
    generalize t 3 = x3 at *
    generalize t 16 = x16 at *
    generalize t 29 = x29 at *
    generalize t 33 = x33 at *
    generalize t 37 = x37 at *
    generalize t 41 = x41 at *
    generalize t 45 = x45 at *
    obtain ⟨m48, e48, hk48⟩ := h48
    obtain ⟨m43, e43, hk43⟩ := h43
    obtain ⟨m38, e38, hk38⟩ := h38
    obtain ⟨m33, e33, hk33⟩ := h33
    obtain ⟨m28, e28, hk28⟩ := h28
    obtain ⟨m14, e14, hk14⟩ := h14
    obtain ⟨g47, rfl, hg47, hr47⟩ := h47
    obtain ⟨g42, rfl, hg42, hr42⟩ := h42
    obtain ⟨g37, rfl, hg37, hr37⟩ := h37
    obtain ⟨g32, rfl, hg32, hr32⟩ := h32
    obtain ⟨g27, rfl, hg27, hr27⟩ := h27
    obtain ⟨g13, rfl, hg13, hr13⟩ := h13
    obtain ⟨m0, rfl, hm0, ho0⟩ := h0
    have q14 : m0 = m14 := by have z := e14; simp at z; exact z
    subst q14
    have q28 : m0 = m28 := by have z := e28; simp at z; exact z
    subst q28
    have q33 : m0 = m33 := by have z := e33; simp at z; exact z
    subst q33
    have q38 : m0 = m38 := by have z := e38; simp at z; exact z
    subst q38
    have q43 : m0 = m43 := by have z := e43; simp at z; exact z
    subst q43
    have q48 : m0 = m48 := by have z := e48; simp at z; exact z
    subst q48
    have hTo : ToM u (w.heap.size) C m0 := ToM.of (fun j hj => by rcases (show j = 0 ∨ j = 1 ∨ j = 2 ∨ j = 3 ∨ j = 4 ∨ j = 5 by omega) with rfl | rfl | rfl | rfl | rfl | rfl; exact hk14; exact hk28; exact hk33; exact hk38; exact hk43; exact hk48)
    refine wpAnyH_ready (rs := [49]) (by kernel_rfl) (by simp) ?_
    refine AllReadyH.cons (o := ?o1_k1) ?hi_k1 (fun K hK => ?rest_k1) AllReadyH.nil
    case hi_k1 => ((simp only [List.getElem?_toArray, List.getElem?_cons_succ, List.getElem?_cons_zero]); rfl)
    go_simp
    refine hK.out _ _ (by exact (show Below w.heap.size w _ by repeat (first | assumption | exact Below.refl _ _ | refine belDrew ?_ | refine belAlloc ?_ _ | refine belStep ?_ (by assumption)))) (fun hHeld => ?_)
    clear hK K
    try simp only [Act.put, List.setIfInBounds_toArray, List.set_cons_zero, List.set_cons_succ]
    refine wpAnyH_ready (rs := [50]) (by kernel_rfl) (by simp) ?_
    refine AllReadyH.cons (o := ?o1_k2) ?hi_k2 (fun K hK => ?rest_k2) AllReadyH.nil
    case hi_k2 => ((simp only [List.getElem?_toArray, List.getElem?_cons_succ, List.getElem?_cons_zero]); rfl)
    go_simp
    refine hK.out _ _ (by exact (show Below w.heap.size w _ by repeat (first | assumption | exact Below.refl _ _ | refine belDrew ?_ | refine belAlloc ?_ _ | refine belStep ?_ (by assumption)))) (fun hHeld => ?_)
    clear hK K
    try simp only [Act.put, List.setIfInBounds_toArray, List.set_cons_zero, List.set_cons_succ]
    refine wpAnyH_done (by kernel_rfl) ?_ _
    go_wp2
    go_ret
    exact ⟨m0, rfl, hTo, hm0, hHeld⟩
end Go.Proofs.YtcaenbobfneejaaGreatDoor
namespace Go.Proofs.YtcaenbobfneejaaGreatDoor
open Go.RowKit Go.Sort
set_option linter.unusedVariables false
set_option linter.unusedSimpArgs false
def posK : Nat → Nat → Nat
  | 0, i => i
  | 1, i => 3 + i
  | 2, _ => 7
  | 3, _ => 8
  | 4, _ => 9
  | _, _ => 10
def putN (k : Nat) : List Value → Nat → List Int → List Value
  | cs, _, [] => cs
  | cs, i, n :: ns => putN k (cs.set (posK k i) (.int .i64 n)) (i + 1) ns
theorem putN_snoc (k : Nat) (n : Int) : ∀ (ns : List Int) (cs : List Value) (i : Nat), putN k cs i (ns ++ [n]) = (putN k cs i ns).set (posK k (i + ns.length)) (.int .i64 n)
  | [], cs, i => rfl
  | m :: ns, cs, i => by
    show putN k (cs.set (posK k i) (.int .i64 m)) (i + 1) (ns ++ [n]) = (putN k (cs.set (posK k i) (.int .i64 m)) (i + 1) ns).set _ _
    rw [putN_snoc k n ns, List.length_cons]
    congr 2
    omega
theorem ptr_at (C k i : Nat) (hi : i < needN k) (hk : k < 6) : (ptrC C k)[i]? = some (.pointer (some ⟨C, posK k i, none⟩)) := by
  rcases (show k = 0 ∨ k = 1 ∨ k = 2 ∨ k = 3 ∨ k = 4 ∨ k = 5 by omega) with rfl | rfl | rfl | rfl | rfl | rfl
  all_goals (
    unfold needN at hi
    simp only [Nat.reduceLT, if_true, if_false] at hi
    rcases (show i = 0 ∨ i = 1 ∨ i = 2 by omega) with rfl | rfl | rfl <;> first | rfl | omega)
theorem putN_set (c : CfM) (tv : Value) (k : Nat) (hk : k < 6) (ns : List Int) (hn : ns.length = needN k) : putN k (c.cells tv) 0 ns = (setF c k ns).cells tv := by
  rcases (show k = 0 ∨ k = 1 ∨ k = 2 ∨ k = 3 ∨ k = 4 ∨ k = 5 by omega) with rfl | rfl | rfl | rfl | rfl | rfl
  all_goals (
    unfold needN at hn
    simp only [Nat.reduceLT, if_true, if_false] at hn)
  · match ns, hn with | [x, y, z], _ => rfl
  · match ns, hn with | [x, y, z], _ => rfl
  · match ns, hn with | [x], _ => rfl
  · match ns, hn with | [x], _ => rfl
  · match ns, hn with | [x], _ => rfl
  · match ns, hn with | [x], _ => rfl
theorem numsF_len (r : List FldV) : (numsF r).length = r.length := by unfold numsF; rw [List.length_map]
theorem numsF_next {r : List FldV} {m : Nat} {x : FldV} (h : r[m]? = some x) : numsF (r.take (m + 1)) = numsF (r.take m) ++ [qNum x.text] := by
  unfold numsF
  rw [List.take_add_one, h, List.map_append]; rfl
theorem quant_txt (l : List UInt8) (w : World) (hl : l.length ≤ maxLen) : Calls Tryz.prog 35 #[.string (bA l)] w fun e w' => e = .returned (.tuple #[.int .i64 (qN l), .int .i64 (qE l)]) ∧ Below w.heap.size w w' := by
  have z := quant_Read (bA l) w (by rw [bA_size]; exact hl)
  rw [ByteArray.toList_eq, bA_data] at z
  exact z
theorem putN_len (k : Nat) : ∀ (ns : List Int) (cs : List Value) (i : Nat), (putN k cs i ns).length = cs.length
  | [], cs, i => rfl
  | n :: ns, cs, i => by show (putN k (cs.set _ _) (i + 1) ns).length = _; rw [putN_len k ns, List.length_set]
theorem posK_lt (k i : Nat) (hi : i < needN k) (hk : k < 6) : posK k i < 11 := by
  unfold needN at hi
  rcases (show k = 0 ∨ k = 1 ∨ k = 2 ∨ k = 3 ∨ k = 4 ∨ k = 5 by omega) with rfl | rfl | rfl | rfl | rfl | rfl <;> simp [posK] at hi ⊢ <;> omega
set_option maxRecDepth 100000 in
set_option maxHeartbeats 16000000 in
theorem cf_quant (C g k : Nat) (hk : k < 6) (hgC : g ≠ C) (c : CfM) (tv : Value) (fa : Option Addr) (fc : Nat) (r : List FldV) (w : World) (hF : Row w fa r.length fc 3 (r.flatMap FldV.cells)) (hFC : ∀ y, fa = some y → y.block ≠ C) (htx : ∀ x ∈ r, x.text.length ≤ maxLen) (hC : Blk w C (c.cells tv) 27) (hG : Blk w g (ptrC C k) 70) :
    Calls Tryz.prog 15 #[.slice fa r.length fc, .slice (some ⟨g, 0, none⟩) (needN k) (needN k)] w fun e w' => ∃ b, e = .returned (.bool b) ∧ b = (decide (r.length = needN k) && numsOk r) ∧ Apart [C] w w' ∧ (b = true → Blk w' C ((setF c k (numsF r)).cells tv) 27) := by
  have hbd_a : r.length ≤ fc ∧ fc ≤ 9223372036854775807 := by obtain ⟨_, h1, h2, _⟩ := hF; unfold maxLen at h2; exact ⟨h1, h2⟩
  obtain ⟨hbd1_a, hbd2_a⟩ := hbd_a
  have HF := Lib.hid hF
  have HC := Lib.hid hC
  have HG := Lib.hid hG
  have HFC := Lib.hid hFC
  have hlC := hC.lt
  clear hF hC hG hFC
  by_cases hn : r.length = needN k
  · have HN := Lib.hid hn
    rw [← hn]
    clear hn
    go_enter Tryz.func15, Tryz.ntmps15
    go_wp2
    go_loopw [16] (fun i wr => ∃ m : Nat, m ≤ r.length ∧ i = .int .i64 m ∧ Hid (numsOk (r.take m) = true) ∧ Hid (Blk wr C (putN k (c.cells tv) 0 (numsF (r.take m))) 27) ∧ Hid (Apart [C] w wr)) (fun i _ => r.length - (intOf i).toNat)
    case atStart => exact ⟨0, Nat.zero_le _, rfl, Lib.hid rfl, HC, Lib.hid (Apart.refl _ _)⟩
    case round =>
      obtain ⟨m, hm, rfl, HOK, HB, HA⟩ := hrel
      by_cases hlt : m < r.length
      · have hd : decide ((m : Int) < (r.length : Int)) = true := decide_eq_true (by omega)
        have hki : (m : Int) < (r.length : Int) := by omega
        have hk0 : (0 : Int) ≤ (m : Int) := by omega
        obtain ⟨x, hx⟩ : ∃ x, r[m]? = some x := ⟨r[m], List.getElem?_eq_getElem hlt⟩
        obtain ⟨fb, fo, ef, _, hcc⟩ := (HA.out.row HF.out (fun _ y e => by simp; exact HFC.out y e)).elem FldV.cells_len (by omega) hx
        subst ef
        have c0 := hcc 0 _ rfl
        have c1 := hcc 1 _ rfl
        have c2 := hcc 2 _ rfl
        rw [Nat.add_zero] at c0
        have hg2 : Blk wr g (ptrC C k) 70 := HG.out.apart HA.out (by simp; exact hgC)
        have hptr := hg2.cell (ptr_at C k m (by have := HN.out; omega) hk)
        have HX := Lib.hid hx
        have HCQ := Lib.hid (fun u => quant_txt x.text u (htx x (List.mem_of_getElem? hx)))
        have HG2 := Lib.hid hg2
        clear hcc hx hg2
        have hfz := HB.out.frozen (posK k m)
        have HNX := Lib.hid (numsF_next HX.out)
        have hoN : numsOk (r.take (m + 1)) = qOk x.text := by unfold numsOk; rw [List.take_add_one, HX.out, List.all_append]; have := HOK.out; unfold numsOk at this; rw [this]; simp
        have HON := Lib.hid hoN
        clear hoN
        cases hq : qOk x.text with
        | true =>
          have hqe : qE x.text = 0 := by unfold qE; rw [hq]; rfl
          have hqn : qN x.text = qNum x.text := by unfold qN; rw [hq]; rfl
          rw [hq] at HON
          rw [hqe, hqn] at HCQ
          go_upto_region 7 with (go_at_call 35; (with_reducible refine (HCQ.out _).mono ?_); rintro e w3 ⟨rfl, hb3⟩; have HB3 := Lib.hid hb3; clear hb3)
          have hbw : Below wr.heap.size wr w3 := by first | exact (belSet (belAlloc (Below.refl _ _) _) _ _ (by simp)).trans (HB3.out.mono (by simp)) | exact belStep (belAlloc (Below.refl _ _) _) HB3.out
          have hptr3 := (HG2.out.later hbw).cell (ptr_at C k m (by have := HN.out; omega) hk)
          have HB4 := Lib.hid (HB.out.later hbw)
          have hfz3 := HB4.out.frozen (posK k m)
          obtain ⟨cv, hcv⟩ : ∃ v, (putN k (c.cells tv) 0 (numsF (r.take m)))[posK k m]? = some v := ⟨_, List.getElem?_eq_getElem (by rw [putN_len]; exact posK_lt k m (by have := HN.out; omega) hk)⟩
          have hcell := HB4.out.cell hcv
          go_wp2
          go_roundw
          case rel =>
            refine ⟨m + 1, by omega, by push_cast; rfl, HON, Lib.hid ?_, Lib.hid ((HA.out.trans (Apart.of_below hbw)).set _ _ (by simp))⟩
            rw [HNX.out, putN_snoc, numsF_len, List.length_take, Nat.min_eq_left (by omega), Nat.zero_add]
            exact HB4.out.set _ _
          case measure => simp [intOf] <;> omega
        | false =>
          have hqe : qE x.text = 2 := by unfold qE; rw [hq]; rfl
          rw [hq] at HON
          rw [hqe] at HCQ
          go_upto_region 7 with (go_at_call 35; (with_reducible refine (HCQ.out _).mono ?_); rintro e w3 ⟨rfl, hb3⟩; have HB3 := Lib.hid hb3; clear hb3)
          have hbw : Below wr.heap.size wr w3 := by first | exact (belSet (belAlloc (Below.refl _ _) _) _ _ (by simp)).trans (HB3.out.mono (by simp)) | exact belStep (belAlloc (Below.refl _ _) _) HB3.out
          go_wp2
          go_ret
          refine ⟨false, rfl, ?_, HA.out.trans (Apart.of_below hbw), fun z => by cases z⟩
          rw [show numsOk r = false from by have h1 := HON.out; unfold numsOk at h1 ⊢; rw [← List.take_append_drop (m + 1) r, List.all_append, h1]; rfl, Bool.and_false]
      · obtain rfl : m = r.length := by omega
        have hd : decide ((r.length : Int) < (r.length : Int)) = false := decide_eq_false (by omega)
        rw [List.take_length] at HOK HB
        go_wp2
        go_ret
        refine ⟨true, rfl, by rw [HOK.out]; simp [HN.out], HA.out, fun _ => ?_⟩
        rw [← putN_set c tv k hk (numsF r) (by rw [numsF_len]; exact HN.out)]
        exact HB.out
  · have hne : ((r.length : Int) == (needN k : Int)) = false := by rw [beq_eq_false_iff_ne]; omega
    have hne2 : ¬ (r.length : Int) = (needN k : Int) := by omega
    obtain ⟨nk, hnk⟩ : ∃ z, needN k = z := ⟨_, rfl⟩
    have HNK := Lib.hid hnk
    rw [hnk] at hne hne2 ⊢
    clear hnk
    go_enter Tryz.func15, Tryz.ntmps15
    go_wp2
    go_ret
    refine ⟨false, rfl, ?_, Apart.refl _ _, fun q => by cases q⟩
    rw [HNK.out] at hn
    rw [decide_eq_false hn]; rfl
end Go.Proofs.YtcaenbobfneejaaGreatDoor
namespace Go.Proofs.YtcaenbobfneejaaGreatDoor
open Go.RowKit Go.Sort
set_option linter.unusedVariables false
set_option linter.unusedSimpArgs false
/-- A disk did something: what it has, and all else but its own blocks. -/
theorem own_ne_blk {u : World} {B k n M : Nat} {E T : TypeId} {v : Value} {cs C : List Value} (h : OwnR u B E k v n cs) (hb : Blk u M C T) (hne : E ≠ T) : v.ownBlock ≠ some M := fun e => by
  obtain ⟨_, _, C2, h2⟩ := own_type h e
  exact hne (h2.type hb)
section
variable {P : Program} {w : World} {o : Oper} {a : Act} {K : Act → World → Prop} {Q : Exit → Act → World → Prop} {E : Prop}
/-- 'append(own, row...)' as one operation; what is let alone is told, too. -/
theorem op_appM {ops : Array Oper} {tm : Array Value} (hg : o.guard = none) (s x : Operand) (t : TypeId)
    (ho : o.op = .call { callee := .builtin .append, args := #[s, x], argTypes := #[t, t] })
    (B : Nat) (e : TypeId) (z : Value) (size bytes : Nat) (ht : P.underlying t = some (.slice e)) (hi : (P.info? e).map (fun i => (i.zero, i.size, i.bytes)) = some (some z, size, bytes))
    (hzs : z.cells.size = size) (hsz : 0 < size)
    (v : Value) (n : Nat) (cs : List Value) (hs : a.eval s = v) (hown : OwnR w B e size v n cs)
    (ad : Addr) (len cap : Nat) (ds : List Value) (hx : a.eval x = .slice (some ad) len cap) (hr : Row w (some ad) len cap size ds) (hone : ∀ u ∈ ds, u.oneCell' = true)
    (hm : n + len ≤ maxLen) (hby : (n + len) * bytes ≤ 140737488355328) (hB : B ≤ w.heap.size)
    (h : ∀ v' w', OwnR w' B e size v' (n + len) (cs ++ ds) → w.grownBy w' v.ownBlock → Moved w v v' → K (a.put o.dst v') w') : if Region.wanted o (yielded ops tm) = true then Oper.wp P o a w K Q else E := by
  have hw : Region.wanted o (yielded ops tm) = true := by simp [Region.wanted, hg]
  rw [if_pos hw]
  obtain ⟨i, hi0, hz, hszi, hbs⟩ : ∃ i, P.info? e = some i ∧ i.zero = some z ∧ i.size = size ∧ i.bytes = bytes := by
    cases hp : P.info? e with
    | none => rw [hp] at hi; simp at hi
    | some i => rw [hp] at hi; simp at hi; exact ⟨i, rfl, hi.1, hi.2.1, hi.2.2⟩
  have hnews := row_news hr
  obtain ⟨r1, r2, r3, r4, r5⟩ := hr
  obtain ⟨v', w', hrun, h2, h3, _⟩ := run_append_own (P := P) w B t o.type e i z size bytes ht hi0 hz hszi hbs hzs hsz v n cs hown ad len cap ds r1 hnews hone hm hby hB
  have hmv := run_app_moved w t o.type B e i z size ht hi0 hz hszi hzs hsz v n cs hown ad len cap ds r1 hnews hone hm (by rw [hbs]; exact hby) hrun
  unfold Oper.wp execOp
  simp only [ho, resolve, invoke, builtin, Sem.run_bind, Sem.run_pure, Result.andThen_ok, List.map_toArray, List.map_cons, List.map_nil, hs, hx, hrun]
  exact h v' w' h2 h3 hmv
end
theorem info_thr : (Tryz.prog.info? 54).map (fun i => (i.zero, i.size, i.bytes)) = some (some (.agg #[.int .i64 0, .int .i64 0, .int .i64 0, .bool false, .int .i64 0]), 5, 40) := by kernel_rfl
/-- A threshold's line's fields, but the first. -/
def thrR : List FldV → Option ThrV
  | [g] => thF g.text
  | _ => none
theorem thr_txt (l : List UInt8) (w : World) (hl : l.length ≤ 1000000) (he : Env w) : Calls Tryz.prog 34 #[.string (bA l)] w fun e w' => e = .returned (.tuple #[.agg #[.int .i64 (thV l).sig, .int .i64 (thV l).pct, .int .i64 (thV l).amt, .bool (thV l).soft, .int .i64 (thV l).grace], .int .i64 (thE l)]) ∧ Below w.heap.size w w' := by
  have z := thr_Read (bA l) w (by rw [bA_size]; exact hl) he
  rw [ByteArray.toList_eq, bA_data] at z
  exact z
set_option maxRecDepth 100000 in
set_option maxHeartbeats 16000000 in
theorem cf_thresh (C B : Nat) (c : CfM) (v : Value) (fa : Option Addr) (fc : Nat) (r : List FldV) (w : World) (he : Env w) (hF : Row w fa r.length fc 3 (r.flatMap FldV.cells)) (htx : ∀ x ∈ r, x.text.length ≤ 1000000) (hC : Blk w C (c.cells v) 27) (ho : OwnR w B 54 5 v c.T.length (c.T.flatMap ThrV.cells)) (hB : B ≤ w.heap.size) (hTl : c.T.length ≤ 100000) :
    Calls Tryz.prog 14 #[.slice fa r.length fc, .pointer (some ⟨C, 0, none⟩)] w fun e w' => ∃ b, e = .returned (.bool b) ∧ b = (thrR r).isSome ∧ (∀ t, thrR r = some t → ∃ v', Blk w' C (({ c with T := c.T ++ [t] } : CfM).cells v') 27 ∧ OwnR w' B 54 5 v' (c.T ++ [t]).length ((c.T ++ [t]).flatMap ThrV.cells) ∧ ∀ b, v'.ownBlock = some b → v.ownBlock = some b ∨ w.heap.size ≤ b) ∧ Apart (C :: v.ownBlock.toList) w w' := by
  have hbd_a : r.length ≤ fc ∧ fc ≤ 9223372036854775807 := by obtain ⟨_, h1, h2, _⟩ := hF; unfold maxLen at h2; exact ⟨h1, h2⟩
  obtain ⟨hbd1_a, hbd2_a⟩ := hbd_a
  by_cases hr1 : r.length = 1
  · obtain ⟨g, rfl⟩ := List.length_eq_one_iff.1 hr1
    obtain ⟨fb, fo, ef, _, hcc⟩ := hF.elem FldV.cells_len (i := 0) (x := g) (by omega) rfl
    subst ef
    have c0 := hcc 0 _ rfl
    simp only [Nat.zero_mul, Nat.add_zero] at c0
    clear hcc
    obtain ⟨ta, tc, rfl, hrw⟩ := rowR_of_own ho
    have hbr : c.T.length ≤ tc ∧ tc ≤ 9223372036854775807 := by obtain ⟨_, h1, h2, _⟩ := hrw; unfold maxLen at h2; exact ⟨h1, h2⟩
    obtain ⟨hbr1, hbr2⟩ := hbr
    clear hrw
    have CR := Lib.hid (thr_txt g.text w (htx g List.mem_cons_self) he)
    obtain ⟨t, ht⟩ : ∃ t, thV g.text = t := ⟨_, rfl⟩
    rw [ht] at CR
    have HT := Lib.hid ht
    have HCw := Lib.hid (show Blk w C [.int .i64 c.k0, .int .i64 c.k1, .int .i64 c.k2, .int .i64 c.a0, .int .i64 c.a1, .int .i64 c.a2, .slice ta c.T.length tc, .int .i64 c.per, .int .i64 c.ret, .int .i64 c.age, .int .i64 c.dead] 27 from hC)
    have HOw := Lib.hid ho
    have HBw := Lib.hid hB
    clear ht hC ho hB
    obtain ⟨te, hte⟩ : ∃ z, thE g.text = z := ⟨_, rfl⟩
    rw [hte] at CR
    have HTE := Lib.hid hte
    clear hte
    rw [show ([g] : List FldV).length = 1 from rfl] at hbd1_a ⊢
    go_enter Tryz.func14, Tryz.ntmps14
    go_upto_region 4 with (go_at_call 34; (with_reducible refine (CR.out).mono ?_); rintro e w2 ⟨rfl, hb_⟩; have HB2 := Lib.hid hb_; clear hb_ CR)
    have kQ := belAlloc (Below.refl w2.heap.size w2) (.cells #[.int .i64 t.sig, .int .i64 t.pct, .int .i64 t.amt, .bool t.soft, .int .i64 t.grace] 54)
    have HQB := Lib.hid (Blk.new w2 [.int .i64 t.sig, .int .i64 t.pct, .int .i64 t.amt, .bool t.soft, .int .i64 t.grace] 54)
    have HB3 := Lib.hid (belStep HB2.out kQ)
    clear kQ
    generalize w2.alloc (.cells #[.int .i64 t.sig, .int .i64 t.pct, .int .i64 t.amt, .bool t.soft, .int .i64 t.grace] 54) = W3 at *
    have hxb : w.heap.size ≤ w2.heap.size := HB2.out.size
    generalize w2.heap.size = xb at *
    have HM := Lib.hid (HCw.out.later HB3.out)
    have HO := Lib.hid (OwnR.later HOw.out HB3.out)
    have HWS := Lib.hid (Nat.le_trans HBw.out HB3.out.size)
    have HL := Lib.hid HCw.out.lt
    refine wp_region_upc (S := fun u => Blk u C [.int .i64 c.k0, .int .i64 c.k1, .int .i64 c.k2, .int .i64 c.a0, .int .i64 c.a1, .int .i64 c.a2, .slice ta c.T.length tc, .int .i64 c.per, .int .i64 c.ret, .int .i64 c.age, .int .i64 c.dead] 27 ∧ Blk u xb [.int .i64 t.sig, .int .i64 t.pct, .int .i64 t.amt, .bool t.soft, .int .i64 t.grace] 54) [10] (by kernel_rfl) (by exact ⟨HM.out.later (belDrew (Below.refl _ _)), HQB.out.later (belDrew (Below.refl _ _))⟩) (fun hHeld => ?_)
    refine UpC.take (i := 0) (oi := ?oi_uc1) (v := ?v_uc1) ?hi_uc1 (by kernel_rfl) ?hf_uc1 ?hr_uc1 (by kernel_rfl) ?hQ_uc1 (Or.inl ⟨?hw_uc1, ?hy_uc1⟩) (by assumption) ?rest_uc1
    case hi_uc1 => ((simp only [List.getElem?_toArray, List.getElem?_cons_succ, List.getElem?_cons_zero]); rfl)
    case hf_uc1 => kernel_rfl
    case hr_uc1 => kernel_rfl
    case hQ_uc1 => exact fun _ _ _ h => h
    case hw_uc1 => rfl
    case hy_uc1 => ((intro w hSw; (try dsimp only at hSw); go_simp); all_goals (with_reducible rfl))
    try simp only [Act.put, List.setIfInBounds_toArray, List.set_cons_zero, List.set_cons_succ]
    refine UpC.take (i := 1) (oi := ?oi_uc2) (v := ?v_uc2) ?hi_uc2 (by kernel_rfl) ?hf_uc2 ?hr_uc2 (by kernel_rfl) ?hQ_uc2 (Or.inl ⟨?hw_uc2, ?hy_uc2⟩) (by assumption) ?rest_uc2
    case hi_uc2 => ((simp only [List.getElem?_toArray, List.getElem?_cons_succ, List.getElem?_cons_zero]); rfl)
    case hf_uc2 => kernel_rfl
    case hr_uc2 => kernel_rfl
    case hQ_uc2 => exact fun _ _ _ h => h
    case hw_uc2 => rfl
    case hy_uc2 => ((intro w hSw; (try dsimp only at hSw); go_simp); all_goals (with_reducible rfl))
    try simp only [Act.put, List.setIfInBounds_toArray, List.set_cons_zero, List.set_cons_succ]
    refine UpC.take (i := 2) (oi := ?oi_uc3) (v := ?v_uc3) ?hi_uc3 (by kernel_rfl) ?hf_uc3 ?hr_uc3 (by kernel_rfl) ?hQ_uc3 (Or.inl ⟨?hw_uc3, ?hy_uc3⟩) (by assumption) ?rest_uc3
    case hi_uc3 => ((simp only [List.getElem?_toArray, List.getElem?_cons_succ, List.getElem?_cons_zero]); rfl)
    case hf_uc3 => kernel_rfl
    case hr_uc3 => kernel_rfl
    case hQ_uc3 => exact fun _ _ _ h => h
    case hw_uc3 => rfl
    case hy_uc3 => ((intro w hSw; (try dsimp only at hSw); go_simp); all_goals (with_reducible rfl))
    try simp only [Act.put, List.setIfInBounds_toArray, List.set_cons_zero, List.set_cons_succ]
    refine UpC.take (i := 3) (oi := ?oi_uc4) (v := ?v_uc4) ?hi_uc4 (by kernel_rfl) ?hf_uc4 ?hr_uc4 (by kernel_rfl) ?hQ_uc4 (Or.inl ⟨?hw_uc4, ?hy_uc4⟩) (by assumption) ?rest_uc4
    case hi_uc4 => ((simp only [List.getElem?_toArray, List.getElem?_cons_succ, List.getElem?_cons_zero]); rfl)
    case hf_uc4 => kernel_rfl
    case hr_uc4 => kernel_rfl
    case hQ_uc4 => exact fun _ _ _ h => h
    case hw_uc4 => rfl
    case hy_uc4 => ((intro w hSw; (try dsimp only at hSw); go_simp); all_goals (with_reducible rfl))
    try simp only [Act.put, List.setIfInBounds_toArray, List.set_cons_zero, List.set_cons_succ]
    refine UpC.take (i := 4) (oi := ?oi_uc5) (v := ?v_uc5) ?hi_uc5 (by kernel_rfl) ?hf_uc5 ?hr_uc5 (by kernel_rfl) ?hQ_uc5 (Or.inl ⟨?hw_uc5, ?hy_uc5⟩) (by assumption) ?rest_uc5
    case hi_uc5 => ((simp only [List.getElem?_toArray, List.getElem?_cons_succ, List.getElem?_cons_zero]); rfl)
    case hf_uc5 => kernel_rfl
    case hr_uc5 => kernel_rfl
    case hQ_uc5 => exact fun _ _ _ h => h
    case hw_uc5 => rfl
    case hy_uc5 => ((intro w hSw; (try dsimp only at hSw); (have m6 := hSw.1.cell (j := 6) rfl; have x0 := hSw.2.cell (j := 0) rfl; have x1 := hSw.2.cell (j := 1) rfl; have x2 := hSw.2.cell (j := 2) rfl; have x3 := hSw.2.cell (j := 3) rfl; have x4 := hSw.2.cell (j := 4) rfl); go_simp); all_goals (with_reducible rfl))
    try simp only [Act.put, List.setIfInBounds_toArray, List.set_cons_zero, List.set_cons_succ]
    refine UpC.take (i := 5) (oi := ?oi_uc6) (v := ?v_uc6) ?hi_uc6 (by kernel_rfl) ?hf_uc6 ?hr_uc6 (by kernel_rfl) ?hQ_uc6 (Or.inl ⟨?hw_uc6, ?hy_uc6⟩) (by assumption) ?rest_uc6
    case hi_uc6 => ((simp only [List.getElem?_toArray, List.getElem?_cons_succ, List.getElem?_cons_zero]); rfl)
    case hf_uc6 => kernel_rfl
    case hr_uc6 => kernel_rfl
    case hQ_uc6 => exact fun _ _ _ h => h
    case hw_uc6 => rfl
    case hy_uc6 => ((intro w hSw; (try dsimp only at hSw); (have m6 := hSw.1.cell (j := 6) rfl; have x0 := hSw.2.cell (j := 0) rfl; have x1 := hSw.2.cell (j := 1) rfl; have x2 := hSw.2.cell (j := 2) rfl; have x3 := hSw.2.cell (j := 3) rfl; have x4 := hSw.2.cell (j := 4) rfl); go_simp); all_goals (with_reducible rfl))
    try simp only [Act.put, List.setIfInBounds_toArray, List.set_cons_zero, List.set_cons_succ]
    refine UpC.one (i := 6) (o := ?o_uc7) (by kernel_rfl) ?hi_uc7 (fun K hK => ?rest_uc7)
    case hi_uc7 => ((simp only [List.getElem?_toArray, List.getElem?_cons_succ, List.getElem?_cons_zero]); rfl)
    go_simp
    have k6 : Below W3.heap.size W3 (W3.alloc (.cells #[.int .i64 t.sig, .int .i64 t.pct, .int .i64 t.amt, .bool t.soft, .int .i64 t.grace] 54)).drew := belDrew (belAlloc (Below.refl W3.heap.size W3) (.cells #[.int .i64 t.sig, .int .i64 t.pct, .int .i64 t.amt, .bool t.soft, .int .i64 t.grace] 54))
    have HRW := Lib.hid ((row_new W3 [.int .i64 t.sig, .int .i64 t.pct, .int .i64 t.amt, .bool t.soft, .int .i64 t.grace] 54 1 5 rfl (by unfold maxLen; omega)).later (belDrew (Below.refl _ _)))
    have HK6 := Lib.hid k6
    clear k6
    refine hK.out _ _ (fun _ _ => by exact ⟨HM.out.later HK6.out, HQB.out.later HK6.out⟩) (fun hHeld0 => ?_)
    replace hHeld := hHeld0 (by decide) hHeld
    clear hK K hHeld0
    try simp only [Act.put, List.setIfInBounds_toArray, List.set_cons_zero, List.set_cons_succ]
    have HO6 := Lib.hid (OwnR.later HO.out HK6.out)
    refine UpC.one (i := 7) (o := ?o_uc8) (by kernel_rfl) ?hi_uc8 (fun K hK => ?rest_uc8)
    case hi_uc8 => ((simp only [List.getElem?_toArray, List.getElem?_cons_succ, List.getElem?_cons_zero]); rfl)
    refine op_appM rfl _ _ 25 rfl B 54 _ 5 40 Tryz.underlying25 info_thr rfl (by decide) (.slice ta c.T.length tc) c.T.length (c.T.flatMap ThrV.cells) (by rfl) HO6.out ⟨W3.heap.size, 0, none⟩ 1 1 [.int .i64 t.sig, .int .i64 t.pct, .int .i64 t.amt, .bool t.soft, .int .i64 t.grace] (by rfl) HRW.out (by simp [Value.oneCell']) (by unfold maxLen; omega) (by omega) (by have h1 := HWS.out; have h2 := HK6.out.size; omega) ?_
    intro v7 w7 ho7 hg7 hm7
    obtain ⟨va, vc, rfl, _⟩ := rowR_of_own ho7
    have HM7 := Lib.hid ((HM.out.later HK6.out).grown hg7 (own_ne_blk HO6.out (HM.out.later HK6.out) (by decide)))
    have HQ7 := Lib.hid ((HQB.out.later HK6.out).grown hg7 (fun e9 => by have h1 := (own_type HOw.out e9).2.1; omega))
    refine hK.out _ _ (fun _ _ => by exact ⟨HM7.out, HQ7.out⟩) (fun hHeld0 => ?_)
    replace hHeld := hHeld0 (by decide) hHeld
    clear hK K hHeld0
    try simp only [Act.put, List.setIfInBounds_toArray, List.set_cons_zero, List.set_cons_succ]
    refine UpC.pure (i := 8) (oi := ?oi_uc9) (v := ?v_uc9) ?hi_uc9 (by kernel_rfl) ?hf_uc9 ?hr_uc9 ?hQ_uc9 (Or.inl ⟨?hw_uc9, ?hy_uc9⟩) ?rest_uc9
    case hi_uc9 => ((simp only [List.getElem?_toArray, List.getElem?_cons_succ, List.getElem?_cons_zero]); rfl)
    case hf_uc9 => kernel_rfl
    case hr_uc9 => kernel_rfl
    case hQ_uc9 => exact fun _ _ _ h => h
    case hw_uc9 => rfl
    case hy_uc9 => ((intro w hSw; (try dsimp only at hSw); go_simp); all_goals (with_reducible rfl))
    try simp only [Act.put, List.setIfInBounds_toArray, List.set_cons_zero, List.set_cons_succ]
    refine UpC.pure (i := 9) (oi := ?oi_uc10) (v := ?v_uc10) ?hi_uc10 (by kernel_rfl) ?hf_uc10 ?hr_uc10 ?hQ_uc10 (Or.inl ⟨?hw_uc10, ?hy_uc10⟩) ?rest_uc10
    case hi_uc10 => ((simp only [List.getElem?_toArray, List.getElem?_cons_succ, List.getElem?_cons_zero]); rfl)
    case hf_uc10 => kernel_rfl
    case hr_uc10 => kernel_rfl
    case hQ_uc10 => exact fun _ _ _ h => h
    case hw_uc10 => rfl
    case hy_uc10 => ((intro w hSw; (try dsimp only at hSw); go_simp); all_goals (with_reducible rfl))
    try simp only [Act.put, List.setIfInBounds_toArray, List.set_cons_zero, List.set_cons_succ]
    have m6 := HM7.out.cell (j := 6) rfl
    have mf := HM7.out.frozen 6
    refine UpC.one (i := 10) (o := ?o_uc11) (by kernel_rfl) ?hi_uc11 (fun K hK => ?rest_uc11)
    case hi_uc11 => ((simp only [List.getElem?_toArray, List.getElem?_cons_succ, List.getElem?_cons_zero]); rfl)
    go_simp
    refine hK.out _ _ (fun q => absurd q (by decide)) (fun _ => ?_)
    clear hK K
    try simp only [Act.put, List.setIfInBounds_toArray, List.set_cons_zero, List.set_cons_succ]
    refine UpC.done (by kernel_rfl) ?_ _
    have hx : te = 0 ∧ thF g.text = some t ∨ te = 2 ∧ thF g.text = none := by rw [← HTE.out, ← HT.out]; unfold thE thV; cases thF g.text <;> simp
    have hA7 : Apart (C :: (Value.slice ta c.T.length tc).ownBlock.toList) w w7 := ((Apart.of_below HB3.out).trans (Apart.of_below HK6.out)).trans (Apart.of_grown hg7 (fun b hb => List.mem_cons_of_mem _ (Option.mem_toList.2 hb)))
    have hA8 : Apart (C :: (Value.slice ta c.T.length tc).ownBlock.toList) w (w7.setCell ⟨C, 6, none⟩ (.slice va (c.T.length + 1) vc)) := hA7.set _ _ List.mem_cons_self
    rcases hx with ⟨rfl, hth⟩ | ⟨rfl, hth⟩
    · go_wp2
      go_ret
      refine ⟨true, rfl, by show true = (thF g.text).isSome; rw [hth]; rfl, fun t2 ht2 => ?_, hA8⟩
      have e2 : t = t2 := Option.some.inj (hth.symm.trans ht2)
      subst e2
      refine ⟨.slice va (c.T.length + 1) vc, ?_, ?_, fun b hb => ?_⟩
      · have h9 := HM7.out.set 6 (.slice va (c.T.length + 1) vc)
        exact h9
      · have hne := own_ne_blk ho7 HM7.out (by decide)
        have h8 := own_same ho7 (x := w7.setCell ⟨C, 6, none⟩ (.slice va (c.T.length + 1) vc)) (fun g2 e9 => heap_set_ne _ _ _ _ (fun q => hne (by rw [e9, q])))
        have e9 : (c.T ++ [t]).flatMap ThrV.cells = c.T.flatMap ThrV.cells ++ [.int .i64 t.sig, .int .i64 t.pct, .int .i64 t.amt, .bool t.soft, .int .i64 t.grace] := by rw [List.flatMap_append]; simp [ThrV.cells]
        rw [e9, List.length_append]
        exact h8
      · rcases hm7 b hb with q | q
        · exact .inl q
        · right; have h1 := HB3.out.size; have h2 := HK6.out.size; omega
    · go_wp2
      go_ret
      exact ⟨false, rfl, by show false = (thF g.text).isSome; rw [hth]; rfl, (fun t2 ht2 => by have q : thF g.text = some t2 := ht2; rw [hth] at q; cases q), hA8⟩
  · have hne : ((r.length : Int) == 1) = false := by rw [beq_eq_false_iff_ne]; omega
    have hne2 : ¬ (r.length : Int) = 1 := by omega
    have hno : thrR r = none := by unfold thrR; split <;> first | rfl | simp at hr1
    clear hF hC ho
    obtain ⟨n, hn⟩ : ∃ n, r.length = n := ⟨_, rfl⟩
    rw [hn] at hne hne2 hr1 hbd1_a ⊢
    clear hn
    go_enter Tryz.func14, Tryz.ntmps14
    go_wp2
    go_ret
    exact ⟨false, rfl, by rw [hno]; rfl, (fun t ht => by rw [hno] at ht; cases ht), Apart.refl _ _⟩
end Go.Proofs.YtcaenbobfneejaaGreatDoor
