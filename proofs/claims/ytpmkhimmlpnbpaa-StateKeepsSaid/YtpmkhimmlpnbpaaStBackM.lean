
/- A right state's bytes are its own; no beginning of them is one's, nor are they with more behind. -/
import Derived.Test.YtpmkhimmlpnbpaaStGetM
namespace Go.Proofs.Ytpmkhimmlpnbpaa
open Go.RowKit
set_option linter.unusedVariables false
set_option linter.unusedSimpArgs false
theorem onI_inj {o p : On} (h : onI o = onI p) : o = p := by
  obtain ⟨a, b, c⟩ := o
  obtain ⟨x, y, z⟩ := p
  revert h
  unfold onI
  cases a <;> cases b <;> cases c <;> cases x <;> cases y <;> cases z <;> simp
theorem onI_bd (o : On) : 0 ≤ onI o ∧ onI o ≤ 7 := by
  unfold onI; cases o.a <;> cases o.b <;> cases o.c <;> simp
theorem entB_and {x : EntV} (h : entB x = true) : rightB x.pod = true ∧ 1 ≤ x.phase ∧ x.phase ≤ 3 := by
  unfold entB phB at h
  simp only [Bool.and_eq_true, decide_eq_true_eq] at h
  exact ⟨h.1, h.2.1, h.2.2⟩
theorem entF_put {x : EntV} (hx : x.ok) (h : entB x = true) (m : List Int) : entF (x.bytes ++ m) = some (x, m) := by
  obtain ⟨h1, _⟩ := entB_and h
  unfold EntV.bytes
  rw [List.cons_append]
  simp [entF, cutF_put hx.1 (PodV.fine h1) m, h1]
theorem entsF_put {L : List EntV} (hok : ∀ x ∈ L, x.ok) (h : ∀ x ∈ L, entB x = true) (m : List Int) : ∀ k, k ≤ L.length → entsF (L.flatMap EntV.bytes ++ m) k = some (L.take k, (L.drop k).flatMap EntV.bytes ++ m) := by
  intro k
  induction k with
  | zero => intro _; simp [entsF]
  | succ k ih =>
    intro hk
    have hx : L[k]? = some L[k] := List.getElem?_eq_getElem (by omega)
    have hm : L[k] ∈ L := List.getElem_mem _
    simp only [entsF, ih (by omega)]
    rw [List.drop_eq_getElem_cons (by omega), List.flatMap_cons, List.append_assoc, entF_put (hok _ hm) (h _ hm)]
    simp only
    rw [List.take_add_one, hx]
    rfl
theorem entF_app {l r : List Int} {x : EntV} (h : entF l = some (x, r)) (m : List Int) : entF (l ++ m) = some (x, r ++ m) := by
  cases l with
  | nil => cases h
  | cons ph t =>
    cases hc : cutF t with
    | none => simp [entF, hc] at h
    | some pr =>
      obtain ⟨p, q⟩ := pr
      cases hr : rightB p with
      | false => simp [entF, hc, hr] at h
      | true =>
        simp [entF, hc, hr] at h
        obtain ⟨rfl, rfl⟩ := h
        simp [entF, cutF_app hc m, hr]
theorem entsF_app {l : List Int} (m : List Int) : ∀ {k : Nat} {L : List EntV} {q : List Int}, entsF l k = some (L, q) → entsF (l ++ m) k = some (L, q ++ m) := by
  intro k
  induction k with
  | zero => intro L q h; simp [entsF] at h ⊢; exact ⟨h.1, by rw [h.2]⟩
  | succ k ih =>
    intro L q h
    cases hk : entsF l k with
    | none => simp [entsF, hk] at h
    | some pr =>
      obtain ⟨M, s⟩ := pr
      cases he : entF s with
      | none => simp [entsF, hk, he] at h
      | some xr =>
        obtain ⟨x, r⟩ := xr
        simp [entsF, hk, he] at h
        obtain ⟨rfl, rfl⟩ := h
        simp [entsF, ih hk, entF_app he m]
theorem entsF_len {l : List Int} : ∀ {k : Nat} {L : List EntV} {q : List Int}, entsF l k = some (L, q) → L.length = k := by
  intro k
  induction k with
  | zero => intro L q h; simp [entsF] at h; rw [h.1]; rfl
  | succ k ih =>
    intro L q h
    cases hk : entsF l k with
    | none => simp [entsF, hk] at h
    | some pr =>
      obtain ⟨M, s⟩ := pr
      cases he : entF s with
      | none => simp [entsF, hk, he] at h
      | some xr =>
        obtain ⟨x, r⟩ := xr
        simp [entsF, hk, he] at h
        obtain ⟨rfl, rfl⟩ := h
        simp [ih hk]
theorem entF_inv {l r : List Int} {x : EntV} (hb : Bytes l) (h : entF l = some (x, r)) : l = x.bytes ++ r := by
  cases l with
  | nil => cases h
  | cons ph t =>
    have hbt : Bytes t := fun c hc => hb c (List.mem_cons_of_mem _ hc)
    cases hc : cutF t with
    | none => simp [entF, hc] at h
    | some pr =>
      obtain ⟨p, q⟩ := pr
      cases hr : rightB p with
      | false => simp [entF, hc, hr] at h
      | true =>
        simp [entF, hc, hr] at h
        obtain ⟨rfl, rfl⟩ := h
        unfold EntV.bytes
        rw [cutF_inv hbt hc]
        rfl
theorem entsF_inv {l : List Int} (hb : Bytes l) : ∀ {k : Nat} {L : List EntV} {q : List Int}, entsF l k = some (L, q) → l = L.flatMap EntV.bytes ++ q := by
  intro k
  induction k with
  | zero => intro L q h; simp [entsF] at h; rw [h.1, h.2]; rfl
  | succ k ih =>
    intro L q h
    cases hk : entsF l k with
    | none => simp [entsF, hk] at h
    | some pr =>
      obtain ⟨M, s⟩ := pr
      cases he : entF s with
      | none => simp [entsF, hk, he] at h
      | some xr =>
        obtain ⟨x, r⟩ := xr
        simp [entsF, hk, he] at h
        obtain ⟨rfl, rfl⟩ := h
        have e1 := ih hk
        have hbs : Bytes s := fun c hc => hb c (by rw [e1]; exact List.mem_append_right _ hc)
        rw [e1, entF_inv hbs he]
        simp
theorem stBytes_len (r : Nat) (o : On) (L : List EntV) : (stBytes r o L).length = 10 + (L.flatMap EntV.bytes).length := by
  unfold stBytes; rw [List.length_append, W8_len]; simp; omega
theorem stBytes_take (r : Nat) (o : On) (L : List EntV) : (stBytes r o L).take 8 = W8 r := by
  unfold stBytes; rw [← W8_len r, List.take_left]
theorem stBytes_drop (r : Nat) (o : On) (L : List EntV) : (stBytes r o L).drop 10 = L.flatMap EntV.bytes := by
  unfold stBytes
  rw [show 10 = (W8 r).length + 2 by rw [W8_len], ← List.drop_drop, List.drop_left]
  rfl
theorem stBytes_8 (r : Nat) (o : On) (L : List EntV) : el (stBytes r o L) 8 = onI o := by
  unfold stBytes el
  rw [List.getD_eq_getElem?_getD, List.getElem?_append_right (by rw [W8_len]; omega), W8_len]
  rfl
theorem stBytes_9 (r : Nat) (o : On) (L : List EntV) : el (stBytes r o L) 9 = (L.length : Int) := by
  unfold stBytes el
  rw [List.getD_eq_getElem?_getD, List.getElem?_append_right (by rw [W8_len]; omega), W8_len]
  rfl
theorem get_put {r : Nat} {o : On} {L : List EntV} (hok : ∀ x ∈ L, x.ok) (h : stB (r : Int) L = true) : GetOK (stBytes r o L) (r : Int) o L := by
  obtain ⟨h0, h1, h2⟩ := st_nums h
  refine ⟨by rw [stBytes_len]; omega, ?_, (stBytes_8 r o L).symm, ?_, h⟩
  · rw [stBytes_take, N8_W8 (by omega), IntKind.wrap_i64]; omega
  · rw [stBytes_drop, stBytes_9, Int.toNat_natCast]
    have := entsF_put hok (st_ent h) [] L.length (Nat.le_refl _)
    rw [List.append_nil, List.take_length, List.drop_length] at this
    exact this
theorem GetOK.uniq {l : List Int} {r r' : Int} {o o' : On} {L L' : List EntV} (h : GetOK l r o L) (k : GetOK l r' o' L') : r = r' ∧ o = o' ∧ L = L' := by
  obtain ⟨_, h2, h3, h4, _⟩ := h
  obtain ⟨_, k2, k3, k4, _⟩ := k
  refine ⟨h2.trans k2.symm, onI_inj (h3.trans k3.symm), ?_⟩
  rw [h4] at k4
  simp only [Option.some.injEq, Prod.mk.injEq, and_true] at k4
  exact k4
theorem stBytes_inj {r r' : Nat} {o o' : On} {L L' : List EntV} (hok : ∀ x ∈ L, x.ok) (h : stB (r : Int) L = true) (hok' : ∀ x ∈ L', x.ok) (h' : stB (r' : Int) L' = true) (e : stBytes r o L = stBytes r' o' L') : (r : Int) = (r' : Int) ∧ o = o' ∧ L = L' :=
  (get_put hok h).uniq (e ▸ get_put hok' h')
theorem el_app {l m : List Int} {i : Nat} (h : i < l.length) : el (l ++ m) i = el l i := by
  unfold el; rw [List.getD_eq_getElem?_getD, List.getD_eq_getElem?_getD, List.getElem?_append_left h]
theorem GetOK.more {l : List Int} {r r' : Int} {o o' : On} {L L' : List EntV} (h : GetOK l r o L) {m : List Int} (hm : m ≠ []) : ¬ GetOK (l ++ m) r' o' L' := by
  rintro ⟨_, _, _, k4, _⟩
  obtain ⟨h1, _, _, h4, _⟩ := h
  rw [List.drop_append_of_le_length h1, el_app (by omega)] at k4
  rw [entsF_app m h4] at k4
  simp at k4
  exact hm k4.2
theorem GetOK.pre {l : List Int} {r r' : Int} {o o' : On} {L L' : List EntV} (h : GetOK l r o L) {t : Nat} (ht : t < l.length) : ¬ GetOK (l.take t) r' o' L' := by
  intro k
  refine GetOK.more k (m := l.drop t) (by intro e; have := congrArg List.length e; rw [List.length_drop] at this; simp at this; omega) (r' := r) (o' := o) (L' := L) ?_
  rw [List.take_append_drop]; exact h
theorem N8_lt8 {l : List Int} (hb : Bytes l) (h8 : 8 ≤ l.length) : N8 (l.take 8) < 2 ^ 64 := by
  have h1 := popN_lt hb false 8
  rw [popN_ok l 8 h8] at h1
  exact h1
theorem get_inv {l : List Int} {r : Int} {o : On} {L : List EntV} (hb : Bytes l) (h : GetOK l r o L) : ∃ rn : Nat, r = (rn : Int) ∧ l = stBytes rn o L := by
  obtain ⟨h1, h2, h3, h4, h5⟩ := h
  obtain ⟨n1, n2, n3⟩ := st_nums h5
  have hlt := N8_lt8 hb (by omega)
  obtain ⟨N, hN⟩ : ∃ N, N8 (l.take 8) = N := ⟨_, rfl⟩
  rw [hN] at h2 hlt
  have hrn : r = (N : Int) := by rw [h2, IntKind.wrap_i64]; rw [IntKind.wrap_i64] at h2; omega
  refine ⟨N, hrn, ?_⟩
  have h8 : W8 N = l.take 8 := by rw [← hN]; exact W8_N8 (fun c hc => hb c (List.mem_of_mem_take hc)) (by rw [List.length_take]; omega)
  have hbd : Bytes (l.drop 10) := fun c hc => hb c (List.mem_of_mem_drop hc)
  have h10 := entsF_inv hbd h4
  rw [List.append_nil] at h10
  have hlen := entsF_len h4
  have h9 : el l 9 = (L.length : Int) := by
    have := (hb (el l 9) (el_mem (by omega))).1
    omega
  unfold stBytes
  rw [h8, h3, ← h9, ← h10]
  have e8 : l.drop 8 = el l 8 :: l.drop 9 := by
    rw [List.drop_eq_getElem_cons (by omega)]
    congr 1
    simp [el, List.getD, List.getElem?_eq_getElem (show 8 < l.length by omega)]
  have e9 : l.drop 9 = el l 9 :: l.drop 10 := by
    rw [List.drop_eq_getElem_cons (by omega)]
    congr 1
    simp [el, List.getD, List.getElem?_eq_getElem (show 9 < l.length by omega)]
  rw [← e9, ← e8, List.take_append_drop]
end Go.Proofs.Ytpmkhimmlpnbpaa
