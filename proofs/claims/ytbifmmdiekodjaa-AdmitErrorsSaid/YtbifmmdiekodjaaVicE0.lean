
/- Asking one behind the other; texts of the call's own, sorted. -/
import Derived.Test.YtbifmmdiekodjaaVicD
namespace Go.Proofs.Ytbifmmdiekodjaa
open Go.RowKit
set_option linter.unusedVariables false
set_option linter.unusedSimpArgs false

def stepF (R : Room) (s : List PodV × List PodV) (v : PodV) : List PodV × List PodV := if fitsB R (s.1 ++ [v]) then (s.1 ++ [v], s.2) else (s.1, s.2 ++ [v])
def runF (R : Room) (st m : List PodV) : List PodV × List PodV := m.foldl (stepF R) (st, [])
theorem runF_acc (R : Room) : ∀ (m st g : List PodV), m.foldl (stepF R) (st, g) = (stayF R st m, g ++ goF R st m)
  | [], st, g => by simp [stayF, goF]
  | v :: m, st, g => by
    rw [List.foldl_cons]
    unfold stepF stayF goF
    by_cases h : fitsB R (st ++ [v]) = true
    · rw [if_pos h, if_pos h, if_pos h]
      exact runF_acc R m _ _
    · rw [if_neg h, if_neg h, if_neg h]
      have := runF_acc R m st (g ++ [v])
      rw [List.append_assoc] at this
      exact this
theorem runF_eq (R : Room) (st m : List PodV) : runF R st m = (stayF R st m, goF R st m) := by
  unfold runF; rw [runF_acc]; rfl
theorem runF_next (R : Room) (st : List PodV) {m : List PodV} {k : Nat} {x : PodV} (h : m[k]? = some x) : runF R st (m.take (k + 1)) = stepF R (runF R st (m.take k)) x := by
  unfold runF
  rw [List.take_add_one, h, List.foldl_append]; rfl
theorem runF_len (R : Room) : ∀ (m st : List PodV), (stayF R st m).length ≤ st.length + m.length ∧ (goF R st m).length ≤ m.length
  | [], st => by simp [stayF, goF]
  | v :: m, st => by
    unfold stayF goF
    by_cases h : fitsB R (st ++ [v]) = true
    · rw [if_pos h, if_pos h]
      have := runF_len R m (st ++ [v])
      simp at this ⊢
      omega
    · rw [if_neg h, if_neg h]
      have := runF_len R m st
      simp
      omega
theorem stayF_mem (R : Room) : ∀ (m st : List PodV) (x : PodV), x ∈ stayF R st m → x ∈ st ∨ x ∈ m
  | [], st, x, h => .inl h
  | v :: m, st, x, h => by
    unfold stayF at h
    by_cases hf : fitsB R (st ++ [v]) = true
    · rw [if_pos hf] at h
      rcases stayF_mem R m _ x h with h | h
      · rcases List.mem_append.1 h with h | h
        · exact .inl h
        · exact .inr (by simp at h; simp [h])
      · exact .inr (List.mem_cons_of_mem _ h)
    · rw [if_neg hf] at h
      rcases stayF_mem R m _ x h with h | h
      · exact .inl h
      · exact .inr (List.mem_cons_of_mem _ h)
theorem rowR_of_own {w : World} {B : Nat} {e : TypeId} {k : Nat} {v : Value} {n : Nat} {cs : List Value} (h : OwnR w B e k v n cs) : ∃ a cap, v = .slice a n cap ∧ Row w a n cap k cs := by
  have h' := h
  obtain ⟨h1, h2⟩ := h
  rcases h2 with ⟨rfl, hn⟩ | ⟨g, cap, cur, rfl, hg, hh, hl, hm, hc, ht⟩
  · subst hn
    have : cs = [] := List.eq_nil_of_length_eq_zero (by simpa using h1)
    subst this
    exact ⟨none, 0, rfl, by simp, Nat.le_refl _, by unfold maxLen; omega, fun _ => ⟨rfl, rfl⟩, .inl rfl⟩
  · refine ⟨_, cap, rfl, h1, hl, hm, (fun h => by cases h), .inr ⟨g, 0, rfl, fun i hi => ?_⟩⟩
    rw [List.getElem?_eq_getElem hi]
    have := h'.cells (g := g) rfl i _ (List.getElem?_eq_getElem hi)
    have e : (⟨g, 0, none⟩ : Addr).add i = ⟨g, 0 + i, none⟩ := by cases i <;> simp [Addr.add]
    rw [e] at this
    exact this
/-- A slice of texts of the call's own. -/
def OwnS (w : World) (B : Nat) (v : Value) (G : List ByteArray) : Prop := OwnR w B 9 1 v G.length (G.map Value.string)
theorem OwnS.later {w w' : World} {B : Nat} {v : Value} {G : List ByteArray} (h : OwnS w B v G) (hb : Below w.heap.size w w') : OwnS w' B v G := OwnR.later h hb
theorem OwnS.mono {w : World} {B B' : Nat} {v : Value} {G : List ByteArray} (h : OwnS w B v G) (hB : B' ≤ B) : OwnS w B' v G := OwnR.mono h hB
theorem bA_l (s : ByteArray) : (⟨s.toList.toArray⟩ : ByteArray) = s := by
  rw [ByteArray.toList_eq]
theorem enc_map (G : List ByteArray) : G.map Value.string = (G.map (·.toList)).map encStr := by
  rw [List.map_map]
  refine List.map_congr_left (fun s _ => ?_)
  show Value.string s = Value.string ⟨s.toList.toArray⟩
  rw [bA_l]
theorem sortS_map (G : List ByteArray) : (sortS G).map Value.string = ((G.map (·.toList)).mergeSort (fun x y => decide (x ≤ y))).map encStr := by
  unfold sortS; rw [List.map_map]; rfl
theorem sortS_len (G : List ByteArray) : (sortS G).length = G.length := by
  unfold sortS; rw [List.length_map, List.length_mergeSort, List.length_map]
theorem info_string : (Try.prog.info? 9).map (fun i => (i.zero, i.size, i.bytes)) = some (some (.string ⟨#[]⟩), 1, 16) := by kernel_rfl
theorem sort_goes {w : World} {B : Nat} {v : Value} {G : List ByteArray} (hl : G.length ≤ 200000) (h : OwnS w B v G) :
    Calls Try.prog 23 #[v] w fun e w' => e = .returned (.tuple #[]) ∧ OwnS w' B v (sortS G) ∧ w.grownBy w' v.ownBlock := by
  have hh := h
  unfold OwnS at h
  rcases h.2 with ⟨rfl, h0⟩ | ⟨g, cap, cur, rfl, hbase, hb, h1, h2, h3, h4⟩
  · have hnil : G = [] := List.eq_nil_of_length_eq_zero h0
    subst hnil
    refine (Try.slices_Sort_string_none none 0 w).mono ?_
    rintro e w' ⟨rfl, rfl⟩
    exact ⟨rfl, by rw [show sortS [] = [] by unfold sortS; simp]; exact hh, ⟨rfl, rfl, rfl, Nat.le_refl _, fun _ _ _ => rfl⟩⟩
  · rw [Nat.mul_one, enc_map] at h4
    have hc := Try.slices_Sort_string g 0 cap (G.map (·.toList)) w (holds_of_block hb (by rw [List.length_map]; exact h4)) (Array.getElem?_eq_some_iff.1 hb).1 (by rw [List.length_map]; omega)
    rw [List.length_map] at hc
    refine hc.mono ?_
    rintro e w' ⟨rfl, n, os, rfl⟩
    refine ⟨rfl, ?_, grownBy_sorted _⟩
    unfold OwnS
    rw [sortS_map, sortS_len]
    have := ownsRow_sorted (w := w) (base := B) (g := g) (cap := cap) (n := n) (e := 9) (os := os) (cur := cur) (ss := G.map (·.toList)) (ts := (G.map (·.toList)).mergeSort fun x y => decide (x ≤ y)) (by rw [List.length_mergeSort]) hbase hb (by rw [List.length_map]; exact h1) h2 h3
    rw [List.length_map] at this
    exact this
theorem step_yes {R : Room} {st m : List PodV} {k : Nat} {x : PodV} (h : m[k]? = some x) (hf : fitsB R (stayF R st (m.take k) ++ [x]) = true) : stayF R st (m.take (k + 1)) = stayF R st (m.take k) ++ [x] ∧ goF R st (m.take (k + 1)) = goF R st (m.take k) := by
  have h1 := runF_next R st h
  rw [runF_eq, runF_eq] at h1
  unfold stepF at h1
  rw [if_pos hf] at h1
  simp only [Prod.mk.injEq] at h1
  exact h1
theorem step_no {R : Room} {st m : List PodV} {k : Nat} {x : PodV} (h : m[k]? = some x) (hf : fitsB R (stayF R st (m.take k) ++ [x]) = false) : stayF R st (m.take (k + 1)) = stayF R st (m.take k) ∧ goF R st (m.take (k + 1)) = goF R st (m.take k) ++ [x] := by
  have h1 := runF_next R st h
  rw [runF_eq, runF_eq] at h1
  unfold stepF at h1
  rw [if_neg (by rw [hf]; simp)] at h1
  simp only [Prod.mk.injEq] at h1
  exact h1
theorem Blk.grown {w w' : World} {M : Nat} {C : List Value} {T : TypeId} {v : Value} (h : Blk w M C T) (hg : w.grownBy w' v.ownBlock) (hne : v.ownBlock ≠ some M) : Blk w' M C T := by
  have h1 := h.lt
  unfold Blk at *
  rw [hg.block M h1 (fun e => hne e.symm)]
  exact h
theorem row_new_at (w : World) (cs : List Value) (T : TypeId) (n k N : Nat) (hN : w.heap.size = N) (h1 : cs.length = n * k) (h2 : n ≤ maxLen) : Row (w.alloc (.cells cs.toArray T)) (some ⟨N, 0, none⟩) n n k cs := hN ▸ row_new w cs T n k h1 h2
theorem own_ne_new {w : World} {B : Nat} {e : TypeId} {k : Nat} {v : Value} {n : Nat} {cs : List Value} (h : OwnR w B e k v n cs) {N : Nat} (hN : w.heap.size ≤ N) : v.ownBlock ≠ some N := fun q => absurd (World.ownsRow.lt h _ q).2 (by omega)
theorem owns_snoc {w : World} {B : Nat} {v : Value} {N : List PodV} {x : PodV} (h : OwnR w B 9 1 v (N.length + 1) (N.map (Value.string ∘ PodV.id) ++ [.string x.id])) : OwnS w B v ((N ++ [x]).map PodV.id) := by
  unfold OwnS
  simpa using h
end Go.Proofs.Ytbifmmdiekodjaa
