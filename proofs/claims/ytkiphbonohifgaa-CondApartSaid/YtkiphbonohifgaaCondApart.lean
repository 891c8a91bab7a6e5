
/- CondApart holds for all its arguments. No conditions. -/
import Derived.Test.YtkiphbonohifgaaAwake19
import Derived.Test.YtkiphbonohifgaaReadCond
import Derived.Test.YtkiphbonohifgaaOwn
namespace Go.Proofs.Ytkiphbonohifgaa.condApart
open Go.ChangeShapes Go.WideShapes Go.ChangeAt Go.RowKit
open Go.ChangeMaps (open_string shut_string)
set_option linter.unusedVariables false
set_option linter.unusedSimpArgs false
theorem own_shape {w : World} {B : Nat} {e : TypeId} {size : Nat} {v : Value} {n : Nat} {cs : List Value} (h : OwnR w B e size v n cs) :
    (v = .slice none 0 0 ∧ n = 0) ∨ ∃ g cap, v = .slice (some ⟨g, 0, none⟩) n cap ∧ B ≤ g ∧ g < w.heap.size ∧ n ≤ cap ∧ cap ≤ 9223372036854775807 := by
  obtain ⟨h1, h2⟩ := h
  rcases h2 with ⟨rfl, hn⟩ | ⟨g, cap, cur, rfl, hg, hh, hl, hm, hc, ht⟩
  · exact .inl ⟨rfl, hn⟩
  · exact .inr ⟨g, cap, rfl, hg, (Array.getElem?_eq_some_iff.1 hh).1, hl, by unfold maxLen at hm; omega⟩

@[go_sem] theorem run_store_flt {P : Program} {w : World} {a : Addr} {m : Mode} (k : FloatKind) (n : Nat) : (store a (.float k n) m).run P w = stored P w a (.float k n) m := run_store P w a _ m rfl
theorem own_far {w : World} {B k n : Nat} {E T : TypeId} {v : Value} {cs C : List Value} {M : Nat} (h : OwnR w B E k v n cs) (hb : Blk w M C T) (hne : E ≠ T) (a : Addr) (ha : a.block = M) (x : Value) : OwnR (w.setCell a x) B E k v n cs := by
  obtain ⟨h1, h2⟩ := h
  refine ⟨h1, h2.imp id ?_⟩
  rintro ⟨g, cap, cur, e1, e2, e3, e4⟩
  refine ⟨g, cap, cur, e1, e2, ?_, e4⟩
  have hg : a.block ≠ g := by
    intro e
    unfold Blk at hb
    rw [← ha, e, e3] at hb
    simp at hb
    exact hne hb.2
  rw [Below.heap_setCell _ _ _ _ (by omega)]; exact e3
theorem own_low {w : World} {B k n : Nat} {E : TypeId} {v : Value} {cs : List Value} (h : OwnR w B E k v n cs) (a : Addr) (ha : a.block < B) (x : Value) : OwnR (w.setCell a x) B E k v n cs := by
  obtain ⟨h1, h2⟩ := h
  refine ⟨h1, h2.imp id ?_⟩
  rintro ⟨g, cap, cur, e1, e2, e3, e4⟩
  refine ⟨g, cap, cur, e1, e2, ?_, e4⟩
  rw [Below.heap_setCell _ _ _ _ (by omega)]; exact e3
theorem Blk.ne {w : World} {M M' : Nat} {C C' : List Value} {T T' : TypeId} (h : Blk w M C T) (h' : Blk w M' C' T') (hl : C.length ≠ C'.length) : M ≠ M' := by
  rintro rfl
  unfold Blk at h h'
  have := h.symm.trans h'
  simp at this
  exact hl (by rw [this.1])
theorem right_fits (on : Bool) (c n : Int) (hn : n ≤ 1000) (h : rightC on c n = true) : 0 ≤ c ∧ c < 9223372036854775807 := by
  cases on <;> simp [rightC] at h ⊢ <;> omega
theorem all_at (b0 : Bool) (c0 : Int) (b1 : Bool) (c1 : Int) (b2 : Bool) (c2 : Int) (h0 h1 h2 m0 m1 m2 fresh : Bool) (n : Int) (s0 s1 s2 : Bool) (d0 d1 d2 : Int) (E : List (Int × Int)) (w : World) (hx : (⟨b0, c0, b1, c1, b2, c2, h0, h1, h2, m0, m1, m2, fresh, n⟩ : Three).fits)
    (e0 : stepOn b0 c0 h0 m0 fresh n = s0) (e1 : stepOn b1 c1 h1 m1 fresh n = s1) (e2 : stepOn b2 c2 h2 m2 fresh n = s2) (f0 : stepCalm b0 c0 h0 m0 fresh n = d0) (f1 : stepCalm b1 c1 h1 m1 fresh n = d1) (f2 : stepCalm b2 c2 h2 m2 fresh n = d2)
    (eE : turnEv b0 s0 0 ++ turnEv b1 s1 1 ++ turnEv b2 s2 2 = E) :
    Calls Try.prog 7 #[.agg #[.bool b0, .int .i64 c0, .bool b1, .int .i64 c1, .bool b2, .int .i64 c2], .agg #[.bool h0, .bool h1, .bool h2], .agg #[.bool m0, .bool m1, .bool m2], .bool fresh, .int .i64 n] w fun e w' => (∃ a cap, e = .returned (.tuple #[.agg #[.bool s0, .int .i64 d0, .bool s1, .int .i64 d1, .bool s2, .int .i64 d2], .slice a E.length cap]) ∧ OwnR w' w.heap.size 33 4 (.slice a E.length cap) E.length (evsCells E)) ∧ Below w.heap.size w w' := by
  subst e0 e1 e2 f0 f1 f2 eE
  refine (cond_All_own ⟨b0, c0, b1, c1, b2, c2, h0, h1, h2, m0, m1, m2, fresh, n⟩ w hx).mono ?_
  rintro e w' ⟨⟨a, cap, he, _, ho⟩, hb⟩
  exact ⟨⟨a, cap, he, ho⟩, hb⟩
def one1 (a b : Bool) : Int := if a = b then 0 else 1
theorem turn_len (a b : Bool) (s : Int) : ((turnEv a b s).length : Int) = one1 b a := by cases a <;> cases b <;> rfl
theorem turns_len {b0 b1 b2 s0 s1 s2 : Bool} {E : List (Int × Int)} (h : turnEv b0 s0 0 ++ turnEv b1 s1 1 ++ turnEv b2 s2 2 = E) : (E.length : Int) = 0 + one1 s0 b0 + one1 s1 b1 + one1 s2 b2 := by
  subst h
  have a := turn_len b0 s0 0
  have b := turn_len b1 s1 1
  have c := turn_len b2 s2 2
  simp only [List.length_append]
  omega
theorem turn_kind {a b : Bool} {s : Int} {x : Int × Int} (h : x ∈ turnEv a b s) : x.1 = 6 ∨ x.1 = 7 := by
  cases a <;> cases b <;> simp [turnEv] at h <;> subst h <;> simp
theorem turns_kind {b0 b1 b2 s0 s1 s2 : Bool} {E : List (Int × Int)} (h : turnEv b0 s0 0 ++ turnEv b1 s1 1 ++ turnEv b2 s2 2 = E) : ∀ x ∈ E, x.1 = 6 ∨ x.1 = 7 := by
  subst h
  intro x hx
  simp only [List.mem_append] at hx
  rcases hx with (h | h) | h <;> exact turn_kind h
theorem turns_few {b0 b1 b2 s0 s1 s2 : Bool} {E : List (Int × Int)} (h : turnEv b0 s0 0 ++ turnEv b1 s1 1 ++ turnEv b2 s2 2 = E) : E.length ≤ 3 := by
  subst h
  have a := turnEv_le b0 s0 0
  have b := turnEv_le b1 s1 1
  have c := turnEv_le b2 s2 2
  simp only [List.length_append]
  omega
theorem eq_cond_same (a : Bool) (c : Int) (w : World) : (Op.equalIn 10000 23 (.agg #[.bool a, .int .i64 c]) (.agg #[.bool a, .int .i64 c])).run Try.prog w = .ok true w := by
  have hs : Try.prog.fieldsOf 23 = #[{ name := "On", type := 4, offset := 0, embedded := false, tag := "", pkgPath := "", byteOffset := 0 }, { name := "Calm", type := 3, offset := 1, embedded := false, tag := "", pkgPath := "", byteOffset := 8 }] := by kernel_rfl
  rw [run_equalIn_struct _ _ _ _ _ (by kernel_rfl) (by kernel_rfl), hs]
  simp [go_sem, Try.underlying4, Try.underlying3]
theorem evs_cell {E : List (Int × Int)} {k : Nat} {x : Int × Int} (h : E[k]? = some x) : (evsCells E)[k * 4]? = some (.int .i64 x.1) := by
  obtain ⟨hk, rfl⟩ := List.getElem?_eq_some_iff.1 h
  have e : evsCells E = evsCells (E.take k) ++ (evCells E[k].1 E[k].2 ++ evsCells (E.drop (k + 1))) := by
    have q : E = E.take k ++ (E[k] :: E.drop (k + 1)) := by rw [← List.drop_eq_getElem_cons hk, List.take_append_drop]
    conv => lhs; rw [q]
    rw [evsCells_append]; rfl
  have hl : (evsCells (E.take k)).length = k * 4 := by
    have : ∀ L : List (Int × Int), (evsCells L).length = L.length * 4 := by
      intro L
      induction L with
      | nil => rfl
      | cons y L ih =>
        have e2 : evsCells (y :: L) = evCells y.1 y.2 ++ evsCells L := rfl
        rw [e2, List.length_append, ih, List.length_cons]
        show 4 + L.length * 4 = _
        omega
    rw [this, List.length_take, Nat.min_eq_left (by omega)]
  rw [e, List.getElem?_append_right (by omega), hl, Nat.sub_self]
  rfl
set_option maxRecDepth 100000 in
set_option maxHeartbeats 16000000 in
theorem walk (b0 : Bool) (c0 : Int) (b1 : Bool) (c1 : Int) (b2 : Bool) (c2 : Int) (h0 h1 h2 m0 m1 m2 fresh : Bool) (n which : Int) (w : World) (i0 : InI c0) (i1 : InI c1) (i2 : InI c2) (hn : InI n) (hk : 0 ≤ which ∧ which ≤ 255) :
    Calls Try.prog 3 #[.agg #[.bool b0, .int .i64 c0, .bool b1, .int .i64 c1, .bool b2, .int .i64 c2], .agg #[.bool h0, .bool h1, .bool h2], .agg #[.bool m0, .bool m1, .bool m2], .bool fresh, .int .i64 n, .int .u8 which] w fun e w' => e = .returned (.bool true) ∧ Below w.heap.size w w' := by
  have hw : Below w.heap.size w w := Below.refl _ _
  have hbel := hw
  obtain ⟨hk0, hk1⟩ := hk
  have hne : ¬ ((3 : Int) = 0) := by omega
  obtain ⟨g, hg⟩ : ∃ g : Nat, which % 3 = (g : Int) := ⟨(which % 3).toNat, by omega⟩
  have hg3 : g < 3 := by omega
  go_enter Try.func3, Try.ntmps3
  go_upto_region 1 with (fail)
  have xl0 : (((w.alloc (.cells #[.bool b0, .int .i64 c0, .bool b1, .int .i64 c1, .bool b2, .int .i64 c2] 24)).alloc (.cells #[.bool h0, .bool h1, .bool h2] 25)).alloc (.cells #[.bool m0, .bool m1, .bool m2] 25)).cell? ⟨w.heap.size, 0, none⟩ = some (.bool b0) := by first | (simp; done) | (rw [World.cell?_alloc_at _ _ _ _ (by simp)]; rfl) | (rw [World.cell?_alloc_past _ _ _ (by simp <;> omega), World.cell?_alloc_at _ _ _ _ (by simp)]; rfl) | (rw [World.cell?_alloc_past _ _ _ (by simp <;> omega), World.cell?_alloc_past _ _ _ (by simp <;> omega), World.cell?_alloc_at _ _ _ _ (by simp)]; rfl)
  have xl1 : (((w.alloc (.cells #[.bool b0, .int .i64 c0, .bool b1, .int .i64 c1, .bool b2, .int .i64 c2] 24)).alloc (.cells #[.bool h0, .bool h1, .bool h2] 25)).alloc (.cells #[.bool m0, .bool m1, .bool m2] 25)).cell? ⟨w.heap.size, 1, none⟩ = some (.int .i64 c0) := by first | (simp; done) | (rw [World.cell?_alloc_at _ _ _ _ (by simp)]; rfl) | (rw [World.cell?_alloc_past _ _ _ (by simp <;> omega), World.cell?_alloc_at _ _ _ _ (by simp)]; rfl) | (rw [World.cell?_alloc_past _ _ _ (by simp <;> omega), World.cell?_alloc_past _ _ _ (by simp <;> omega), World.cell?_alloc_at _ _ _ _ (by simp)]; rfl)
  have xl2 : (((w.alloc (.cells #[.bool b0, .int .i64 c0, .bool b1, .int .i64 c1, .bool b2, .int .i64 c2] 24)).alloc (.cells #[.bool h0, .bool h1, .bool h2] 25)).alloc (.cells #[.bool m0, .bool m1, .bool m2] 25)).cell? ⟨w.heap.size, 2, none⟩ = some (.bool b1) := by first | (simp; done) | (rw [World.cell?_alloc_at _ _ _ _ (by simp)]; rfl) | (rw [World.cell?_alloc_past _ _ _ (by simp <;> omega), World.cell?_alloc_at _ _ _ _ (by simp)]; rfl) | (rw [World.cell?_alloc_past _ _ _ (by simp <;> omega), World.cell?_alloc_past _ _ _ (by simp <;> omega), World.cell?_alloc_at _ _ _ _ (by simp)]; rfl)
  have xl3 : (((w.alloc (.cells #[.bool b0, .int .i64 c0, .bool b1, .int .i64 c1, .bool b2, .int .i64 c2] 24)).alloc (.cells #[.bool h0, .bool h1, .bool h2] 25)).alloc (.cells #[.bool m0, .bool m1, .bool m2] 25)).cell? ⟨w.heap.size, 3, none⟩ = some (.int .i64 c1) := by first | (simp; done) | (rw [World.cell?_alloc_at _ _ _ _ (by simp)]; rfl) | (rw [World.cell?_alloc_past _ _ _ (by simp <;> omega), World.cell?_alloc_at _ _ _ _ (by simp)]; rfl) | (rw [World.cell?_alloc_past _ _ _ (by simp <;> omega), World.cell?_alloc_past _ _ _ (by simp <;> omega), World.cell?_alloc_at _ _ _ _ (by simp)]; rfl)
  have xl4 : (((w.alloc (.cells #[.bool b0, .int .i64 c0, .bool b1, .int .i64 c1, .bool b2, .int .i64 c2] 24)).alloc (.cells #[.bool h0, .bool h1, .bool h2] 25)).alloc (.cells #[.bool m0, .bool m1, .bool m2] 25)).cell? ⟨w.heap.size, 4, none⟩ = some (.bool b2) := by first | (simp; done) | (rw [World.cell?_alloc_at _ _ _ _ (by simp)]; rfl) | (rw [World.cell?_alloc_past _ _ _ (by simp <;> omega), World.cell?_alloc_at _ _ _ _ (by simp)]; rfl) | (rw [World.cell?_alloc_past _ _ _ (by simp <;> omega), World.cell?_alloc_past _ _ _ (by simp <;> omega), World.cell?_alloc_at _ _ _ _ (by simp)]; rfl)
  have xl5 : (((w.alloc (.cells #[.bool b0, .int .i64 c0, .bool b1, .int .i64 c1, .bool b2, .int .i64 c2] 24)).alloc (.cells #[.bool h0, .bool h1, .bool h2] 25)).alloc (.cells #[.bool m0, .bool m1, .bool m2] 25)).cell? ⟨w.heap.size, 5, none⟩ = some (.int .i64 c2) := by first | (simp; done) | (rw [World.cell?_alloc_at _ _ _ _ (by simp)]; rfl) | (rw [World.cell?_alloc_past _ _ _ (by simp <;> omega), World.cell?_alloc_at _ _ _ _ (by simp)]; rfl) | (rw [World.cell?_alloc_past _ _ _ (by simp <;> omega), World.cell?_alloc_past _ _ _ (by simp <;> omega), World.cell?_alloc_at _ _ _ _ (by simp)]; rfl)
  have xh0 : (((w.alloc (.cells #[.bool b0, .int .i64 c0, .bool b1, .int .i64 c1, .bool b2, .int .i64 c2] 24)).alloc (.cells #[.bool h0, .bool h1, .bool h2] 25)).alloc (.cells #[.bool m0, .bool m1, .bool m2] 25)).cell? ⟨w.heap.size + 1, 0, none⟩ = some (.bool h0) := by first | (simp; done) | (rw [World.cell?_alloc_at _ _ _ _ (by simp)]; rfl) | (rw [World.cell?_alloc_past _ _ _ (by simp <;> omega), World.cell?_alloc_at _ _ _ _ (by simp)]; rfl) | (rw [World.cell?_alloc_past _ _ _ (by simp <;> omega), World.cell?_alloc_past _ _ _ (by simp <;> omega), World.cell?_alloc_at _ _ _ _ (by simp)]; rfl)
  have xh1 : (((w.alloc (.cells #[.bool b0, .int .i64 c0, .bool b1, .int .i64 c1, .bool b2, .int .i64 c2] 24)).alloc (.cells #[.bool h0, .bool h1, .bool h2] 25)).alloc (.cells #[.bool m0, .bool m1, .bool m2] 25)).cell? ⟨w.heap.size + 1, 1, none⟩ = some (.bool h1) := by first | (simp; done) | (rw [World.cell?_alloc_at _ _ _ _ (by simp)]; rfl) | (rw [World.cell?_alloc_past _ _ _ (by simp <;> omega), World.cell?_alloc_at _ _ _ _ (by simp)]; rfl) | (rw [World.cell?_alloc_past _ _ _ (by simp <;> omega), World.cell?_alloc_past _ _ _ (by simp <;> omega), World.cell?_alloc_at _ _ _ _ (by simp)]; rfl)
  have xh2 : (((w.alloc (.cells #[.bool b0, .int .i64 c0, .bool b1, .int .i64 c1, .bool b2, .int .i64 c2] 24)).alloc (.cells #[.bool h0, .bool h1, .bool h2] 25)).alloc (.cells #[.bool m0, .bool m1, .bool m2] 25)).cell? ⟨w.heap.size + 1, 2, none⟩ = some (.bool h2) := by first | (simp; done) | (rw [World.cell?_alloc_at _ _ _ _ (by simp)]; rfl) | (rw [World.cell?_alloc_past _ _ _ (by simp <;> omega), World.cell?_alloc_at _ _ _ _ (by simp)]; rfl) | (rw [World.cell?_alloc_past _ _ _ (by simp <;> omega), World.cell?_alloc_past _ _ _ (by simp <;> omega), World.cell?_alloc_at _ _ _ _ (by simp)]; rfl)
  have xm0 : (((w.alloc (.cells #[.bool b0, .int .i64 c0, .bool b1, .int .i64 c1, .bool b2, .int .i64 c2] 24)).alloc (.cells #[.bool h0, .bool h1, .bool h2] 25)).alloc (.cells #[.bool m0, .bool m1, .bool m2] 25)).cell? ⟨w.heap.size + 2, 0, none⟩ = some (.bool m0) := by first | (simp; done) | (rw [World.cell?_alloc_at _ _ _ _ (by simp)]; rfl) | (rw [World.cell?_alloc_past _ _ _ (by simp <;> omega), World.cell?_alloc_at _ _ _ _ (by simp)]; rfl) | (rw [World.cell?_alloc_past _ _ _ (by simp <;> omega), World.cell?_alloc_past _ _ _ (by simp <;> omega), World.cell?_alloc_at _ _ _ _ (by simp)]; rfl)
  have xm1 : (((w.alloc (.cells #[.bool b0, .int .i64 c0, .bool b1, .int .i64 c1, .bool b2, .int .i64 c2] 24)).alloc (.cells #[.bool h0, .bool h1, .bool h2] 25)).alloc (.cells #[.bool m0, .bool m1, .bool m2] 25)).cell? ⟨w.heap.size + 2, 1, none⟩ = some (.bool m1) := by first | (simp; done) | (rw [World.cell?_alloc_at _ _ _ _ (by simp)]; rfl) | (rw [World.cell?_alloc_past _ _ _ (by simp <;> omega), World.cell?_alloc_at _ _ _ _ (by simp)]; rfl) | (rw [World.cell?_alloc_past _ _ _ (by simp <;> omega), World.cell?_alloc_past _ _ _ (by simp <;> omega), World.cell?_alloc_at _ _ _ _ (by simp)]; rfl)
  have xm2 : (((w.alloc (.cells #[.bool b0, .int .i64 c0, .bool b1, .int .i64 c1, .bool b2, .int .i64 c2] 24)).alloc (.cells #[.bool h0, .bool h1, .bool h2] 25)).alloc (.cells #[.bool m0, .bool m1, .bool m2] 25)).cell? ⟨w.heap.size + 2, 2, none⟩ = some (.bool m2) := by first | (simp; done) | (rw [World.cell?_alloc_at _ _ _ _ (by simp)]; rfl) | (rw [World.cell?_alloc_past _ _ _ (by simp <;> omega), World.cell?_alloc_at _ _ _ _ (by simp)]; rfl) | (rw [World.cell?_alloc_past _ _ _ (by simp <;> omega), World.cell?_alloc_past _ _ _ (by simp <;> omega), World.cell?_alloc_at _ _ _ _ (by simp)]; rfl)
  have hb2 := (by repeat (first | exact hbel | refine belAlloc ?_ _ | refine belDrew ?_ | refine belSet ?_ _ _ (by simp)) : Below w.heap.size w (((w.alloc (.cells #[.bool b0, .int .i64 c0, .bool b1, .int .i64 c1, .bool b2, .int .i64 c2] 24)).alloc (.cells #[.bool h0, .bool h1, .bool h2] 25)).alloc (.cells #[.bool m0, .bool m1, .bool m2] 25)))
  replace hw := belStep hw hb2
  have xlB : Blk (((w.alloc (.cells #[.bool b0, .int .i64 c0, .bool b1, .int .i64 c1, .bool b2, .int .i64 c2] 24)).alloc (.cells #[.bool h0, .bool h1, .bool h2] 25)).alloc (.cells #[.bool m0, .bool m1, .bool m2] 25)) (w.heap.size) [.bool b0, .int .i64 c0, .bool b1, .int .i64 c1, .bool b2, .int .i64 c2] 24 := (Blk.at (by simp) : Blk (w.alloc (.cells #[.bool b0, .int .i64 c0, .bool b1, .int .i64 c1, .bool b2, .int .i64 c2] 24)) (w.heap.size) [.bool b0, .int .i64 c0, .bool b1, .int .i64 c1, .bool b2, .int .i64 c2] 24).later (by repeat (first | exact Below.refl _ _ | refine belAlloc ?_ _))
  have xlF := Blk.keepF xlB
  replace xlB := Blk.keepB xlB
  have xhB : Blk (((w.alloc (.cells #[.bool b0, .int .i64 c0, .bool b1, .int .i64 c1, .bool b2, .int .i64 c2] 24)).alloc (.cells #[.bool h0, .bool h1, .bool h2] 25)).alloc (.cells #[.bool m0, .bool m1, .bool m2] 25)) (w.heap.size + 1) [.bool h0, .bool h1, .bool h2] 25 := (Blk.at (by simp) : Blk ((w.alloc (.cells #[.bool b0, .int .i64 c0, .bool b1, .int .i64 c1, .bool b2, .int .i64 c2] 24)).alloc (.cells #[.bool h0, .bool h1, .bool h2] 25)) (w.heap.size + 1) [.bool h0, .bool h1, .bool h2] 25).later (by repeat (first | exact Below.refl _ _ | refine belAlloc ?_ _))
  have xhF := Blk.keepF xhB
  replace xhB := Blk.keepB xhB
  have xmB : Blk (((w.alloc (.cells #[.bool b0, .int .i64 c0, .bool b1, .int .i64 c1, .bool b2, .int .i64 c2] 24)).alloc (.cells #[.bool h0, .bool h1, .bool h2] 25)).alloc (.cells #[.bool m0, .bool m1, .bool m2] 25)) (w.heap.size + 2) [.bool m0, .bool m1, .bool m2] 25 := (Blk.at (by simp) : Blk (((w.alloc (.cells #[.bool b0, .int .i64 c0, .bool b1, .int .i64 c1, .bool b2, .int .i64 c2] 24)).alloc (.cells #[.bool h0, .bool h1, .bool h2] 25)).alloc (.cells #[.bool m0, .bool m1, .bool m2] 25)) (w.heap.size + 2) [.bool m0, .bool m1, .bool m2] 25).later (by repeat (first | exact Below.refl _ _ | refine belAlloc ?_ _))
  have xmF := Blk.keepF xmB
  replace xmB := Blk.keepB xmB
  clear hb2 hbel
  generalize ((w.alloc (.cells #[.bool b0, .int .i64 c0, .bool b1, .int .i64 c1, .bool b2, .int .i64 c2] 24)).alloc (.cells #[.bool h0, .bool h1, .bool h2] 25)).alloc (.cells #[.bool m0, .bool m1, .bool m2] 25) = W at *
  replace xl0 := keep xl0
  replace xl1 := keep xl1
  replace xl2 := keep xl2
  replace xl3 := keep xl3
  replace xl4 := keep xl4
  replace xl5 := keep xl5
  replace xh0 := keep xh0
  replace xh1 := keep xh1
  replace xh2 := keep xh2
  replace xm0 := keep xm0
  replace xm1 := keep xm1
  replace xm2 := keep xm2
  have hbel : Below W.heap.size W W := Below.refl _ _
  skip
  by_cases hp : 1 ≤ n ∧ n ≤ 1000
  rotate_left 1
  · go_wp2_with (first | (go_at_call 4; (with_reducible refine (awake19 _).mono ?_); rintro e w1 ⟨rfl, hb1⟩; replace hbel := belStep hbel hb1; clear hb1) | (go_at_call 5; (with_reducible refine (period_any _ _).mono ?_); rintro e w' ⟨rfl, rfl⟩))
    go_ret
    exact ⟨rfl, belStep hw hbel⟩
  go_upto_region 3 with (first | (go_at_call 4; (with_reducible refine (awake19 _).mono ?_); rintro e w1 ⟨rfl, hb1⟩; replace hbel := belStep hbel hb1; clear hb1) | (go_at_call 5; (with_reducible refine (period_any _ _).mono ?_); rintro e w' ⟨rfl, rfl⟩))
  go_wp2
  have HB0 := Lib.hid hbel
  clear hbel
  go_loopw [13] (fun i wr => ∃ (k : Nat) (I : Int), I = k ∧ k ≤ 3 ∧ i = .int .i64 I ∧ Below W.heap.size W wr ∧ Hid (0 < k → rightC b0 c0 n = true) ∧ Hid (1 < k → rightC b1 c1 n = true) ∧ Hid (2 < k → rightC b2 c2 n = true)) (fun i _ => 3 - (intOf i).toNat)
  case atStart => exact ⟨0, 0, rfl, by omega, rfl, HB0.out, Lib.hid (by omega), Lib.hid (by omega), Lib.hid (by omega)⟩
  case round =>
    obtain ⟨k, I, hI, hk, rfl, hbel, G0, G1, G2⟩ := hrel
    clear HB0
    have key : k = 0 ∨ k = 1 ∨ k = 2 ∨ k = 3 := by omega
    rcases key with rfl | rfl | rfl | rfl
    · obtain rfl : I = 0 := hI
      obtain ⟨q, hq⟩ : ∃ q, rightC b0 c0 n = q := ⟨_, rfl⟩
      have CRT := Lib.hid (fun u => hq ▸ cref_Right b0 c0 n u)
      have HQ := Lib.hid hq
      clear hq
      rcases q with _ | _
      · go_wp2_with (go_at_call 6; (with_reducible refine (CRT.out _).mono ?_); rintro e w1 ⟨rfl, hb1⟩; replace hbel := belStep hbel hb1; clear hb1)
        go_ret
        exact ⟨rfl, belStep hw hbel⟩
      · go_wp2_with (go_at_call 6; (with_reducible refine (CRT.out _).mono ?_); rintro e w1 ⟨rfl, hb1⟩; replace hbel := belStep hbel hb1; clear hb1)
        go_roundw
        case rel => exact ⟨1, 1, rfl, by omega, rfl, hbel, Lib.hid (fun _ => HQ.out), Lib.hid (by omega), Lib.hid (by omega)⟩
        case measure => simp [intOf]
    · obtain rfl : I = 1 := hI
      obtain ⟨q, hq⟩ : ∃ q, rightC b1 c1 n = q := ⟨_, rfl⟩
      have CRT := Lib.hid (fun u => hq ▸ cref_Right b1 c1 n u)
      have HQ := Lib.hid hq
      clear hq
      rcases q with _ | _
      · go_wp2_with (go_at_call 6; (with_reducible refine (CRT.out _).mono ?_); rintro e w1 ⟨rfl, hb1⟩; replace hbel := belStep hbel hb1; clear hb1)
        go_ret
        exact ⟨rfl, belStep hw hbel⟩
      · go_wp2_with (go_at_call 6; (with_reducible refine (CRT.out _).mono ?_); rintro e w1 ⟨rfl, hb1⟩; replace hbel := belStep hbel hb1; clear hb1)
        go_roundw
        case rel => exact ⟨2, 2, rfl, by omega, rfl, hbel, Lib.hid (fun _ => G0.out (by omega)), Lib.hid (fun _ => HQ.out), Lib.hid (by omega)⟩
        case measure => simp [intOf]
    · obtain rfl : I = 2 := hI
      obtain ⟨q, hq⟩ : ∃ q, rightC b2 c2 n = q := ⟨_, rfl⟩
      have CRT := Lib.hid (fun u => hq ▸ cref_Right b2 c2 n u)
      have HQ := Lib.hid hq
      clear hq
      rcases q with _ | _
      · go_wp2_with (go_at_call 6; (with_reducible refine (CRT.out _).mono ?_); rintro e w1 ⟨rfl, hb1⟩; replace hbel := belStep hbel hb1; clear hb1)
        go_ret
        exact ⟨rfl, belStep hw hbel⟩
      · go_wp2_with (go_at_call 6; (with_reducible refine (CRT.out _).mono ?_); rintro e w1 ⟨rfl, hb1⟩; replace hbel := belStep hbel hb1; clear hb1)
        go_roundw
        case rel => exact ⟨3, 3, rfl, by omega, rfl, hbel, Lib.hid (fun _ => G0.out (by omega)), Lib.hid (fun _ => G1.out (by omega)), Lib.hid (fun _ => HQ.out)⟩
        case measure => simp [intOf]
    · obtain rfl : I = 3 := hI
      have F0 := right_fits b0 c0 n hp.2 (G0.out (by omega))
      have F1 := right_fits b1 c1 n hp.2 (G1.out (by omega))
      have F2 := right_fits b2 c2 n hp.2 (G2.out (by omega))
      have HF := Lib.hid (show ∀ a b c d e f, (⟨b0, c0, b1, c1, b2, c2, a, b, c, d, e, f, fresh, n⟩ : Three).fits from fun _ _ _ _ _ _ => ⟨F0.1, F0.2, F1.1, F1.2, F2.1, F2.2⟩)
      clear F0 F1 F2 G0 G1 G2 hk hp
      obtain ⟨s0, hs0⟩ : ∃ z, stepOn b0 c0 h0 m0 fresh n = z := ⟨_, rfl⟩
      obtain ⟨d0, hd0⟩ : ∃ z, stepCalm b0 c0 h0 m0 fresh n = z := ⟨_, rfl⟩
      obtain ⟨s1, hs1⟩ : ∃ z, stepOn b1 c1 h1 m1 fresh n = z := ⟨_, rfl⟩
      obtain ⟨d1, hd1⟩ : ∃ z, stepCalm b1 c1 h1 m1 fresh n = z := ⟨_, rfl⟩
      obtain ⟨s2, hs2⟩ : ∃ z, stepOn b2 c2 h2 m2 fresh n = z := ⟨_, rfl⟩
      obtain ⟨d2, hd2⟩ : ∃ z, stepCalm b2 c2 h2 m2 fresh n = z := ⟨_, rfl⟩
      obtain ⟨E, hE⟩ : ∃ z, turnEv b0 s0 0 ++ turnEv b1 s1 1 ++ turnEv b2 s2 2 = z := ⟨_, rfl⟩
      have CA := Lib.hid (fun u => all_at b0 c0 b1 c1 b2 c2 h0 h1 h2 m0 m1 m2 fresh n s0 s1 s2 d0 d1 d2 E u (HF.out _ _ _ _ _ _) hs0 hs1 hs2 hd0 hd1 hd2 hE)
      have hE3 := turns_few hE
      have HS0 := Lib.hid hs0
      have HS1 := Lib.hid hs1
      have HS2 := Lib.hid hs2
      have HD0 := Lib.hid hd0
      have HD1 := Lib.hid hd1
      have HD2 := Lib.hid hd2
      clear hE hs0 hd0 hs1 hd1 hs2 hd2
      obtain ⟨l1, hl1⟩ : ∃ l, E.length = l := ⟨_, rfl⟩
      rw [hl1] at CA hE3
      have HL1 := Lib.hid hl1
      clear hl1
      go_upto_region 9 with fail
      clear hg
      go_upto_region 10 with (go_at_call 7; (with_reducible refine (CA.out _).mono ?_); rintro e u1 ⟨⟨ea, ec, rfl, ho1⟩, hb1⟩; have hz1 := hbel.size; replace hbel := belStep hbel hb1)
      have HO1 := Lib.hid (OwnR.mono (OwnR.alloc ho1 (.cells #[.bool s0, .int .i64 d0, .bool s1, .int .i64 d1, .bool s2, .int .i64 d2] 24)) hz1)
      have HA1 := Lib.hid (Blk.new u1 [.bool s0, .int .i64 d0, .bool s1, .int .i64 d1, .bool s2, .int .i64 d2] 24)
      have HB1 := Lib.hid (belAlloc hbel (.cells #[.bool s0, .int .i64 d0, .bool s1, .int .i64 d1, .bool s2, .int .i64 d2] 24))
      have hzA := hbel.size
      have HLT := Lib.hid (fun q hq => (World.ownsRow.lt ho1 q hq).2)
      clear ho1 hb1 hbel CA hz1
      generalize u1.alloc (.cells #[.bool s0, .int .i64 d0, .bool s1, .int .i64 d1, .bool s2, .int .i64 d2] 24) = W3 at *
      generalize u1.heap.size = A at *
      go_wp2
      go_loopw [17] (fun i wr => ∃ (k : Nat) (cs : List Value), k ≤ l1 ∧ i = .int .i64 k ∧ Hid (OwnR wr W.heap.size 33 4 (.slice ea l1 ec) l1 cs) ∧ Hid (Blk wr A [.bool s0, .int .i64 d0, .bool s1, .int .i64 d1, .bool s2, .int .i64 d2] 24) ∧ Below W.heap.size W wr) (fun i _ => l1 - (intOf i).toNat)
      case atStart => exact ⟨0, _, Nat.zero_le _, rfl, HO1, HA1, HB1.out⟩
      case round =>
        obtain ⟨k, cs, hk, rfl, HQ, HAA, hbel⟩ := hrel
        clear HA1 HB1 HO1
        by_cases hlt : k < l1
        · rcases own_shape HQ.out with ⟨e1, hn⟩ | ⟨ge, cp, e1, hge1, hge2, _, _⟩
          · exfalso; omega
          simp only [Value.slice.injEq] at e1
          obtain ⟨rfl, _, rfl⟩ := e1
          have hgA0 := HLT.out ge rfl
          have HQ1 := HQ
          have hcl : cs.length = l1 * 4 := HQ1.out.1
          have r0 : wr.cell? ⟨ge, k * 4 + 0, none⟩ = some (cs[k * 4 + 0]'(by omega)) := by rw [World.ownsRow.cellAt HQ1.out (k * 4 + 0) (by omega), List.getElem?_eq_getElem]
          have r1 : wr.cell? ⟨ge, k * 4 + 1, none⟩ = some (cs[k * 4 + 1]'(by omega)) := by rw [World.ownsRow.cellAt HQ1.out (k * 4 + 1) (by omega), List.getElem?_eq_getElem]
          have r2 : wr.cell? ⟨ge, k * 4 + 2, none⟩ = some (cs[k * 4 + 2]'(by omega)) := by rw [World.ownsRow.cellAt HQ1.out (k * 4 + 2) (by omega), List.getElem?_eq_getElem]
          have r3 : wr.cell? ⟨ge, k * 4 + 3, none⟩ = some (cs[k * 4 + 3]'(by omega)) := by rw [World.ownsRow.cellAt HQ1.out (k * 4 + 3) (by omega), List.getElem?_eq_getElem]
          simp only [Nat.add_zero] at r0
          generalize cs[k * 4]'_ = q0 at r0
          generalize cs[k * 4 + 1]'_ = q1 at r1
          generalize cs[k * 4 + 2]'_ = q2 at r2
          generalize cs[k * 4 + 3]'_ = q3 at r3
          clear hcl
          have rf := World.ownsRow.frozenAt HQ1.out
          have hd : decide ((k : Int) < (l1 : Int)) = true := decide_eq_true (by omega)
          have hki : (k : Int) < (l1 : Int) := by omega
          have hgA : ge ≠ A := by omega
          have HQ2 := Lib.hid ((World.ownsRow.stored ((World.ownsRow.stored ((World.ownsRow.stored ((World.ownsRow.stored (HQ1.out) (k * 4) (.int .i64 0)).1) (k * 4 + 1) (.string ⟨#[]⟩)).1) (k * 4 + 2) (.int .i64 0)).1) (k * 4 + 3) (.int .i64 0)).1)
          have HQ3 := HQ2
          have HAB := Lib.hid (((((HAA.out).far (a := ⟨ge, k * 4, none⟩) hgA (.int .i64 0)).far (a := ⟨ge, k * 4 + 1, none⟩) hgA (.string ⟨#[]⟩)).far (a := ⟨ge, k * 4 + 2, none⟩) hgA (.int .i64 0)).far (a := ⟨ge, k * 4 + 3, none⟩) hgA (.int .i64 0))
          have HBB := Lib.hid (belSet (belSet (belSet (belSet (hbel) ⟨ge, k * 4, none⟩ (.int .i64 0) hge1) ⟨ge, k * 4 + 1, none⟩ (.string ⟨#[]⟩) hge1) ⟨ge, k * 4 + 2, none⟩ (.int .i64 0) hge1) ⟨ge, k * 4 + 3, none⟩ (.int .i64 0) hge1)
          clear HQ1
          go_wp2
          go_roundw
          case rel => exact ⟨k + 1, _, by omega, by push_cast; rfl, HQ3, HAB, HBB.out⟩
          case measure => simp [intOf] <;> omega
        · obtain rfl : k = l1 := by omega
          have hd : decide ((k : Int) < (k : Int)) = false := decide_eq_false (by omega)
          clear HQ
          go_upto_region 14 with fail
          rcases (show g = 0 ∨ g = 1 ∨ g = 2 by omega) with rfl | rfl | rfl
          · with_reducible rw [show ((0 : Nat) : Int) = 0 from rfl]
            have bl := xlB _ hbel
            have bh := xhB _ hbel
            have bm := xmB _ hbel
            have ba := HAA.out
            have n1 := Blk.ne bh ba (by simp)
            have n2 := Blk.ne bm ba (by simp)
            have ch := bh.cell (j := 0) rfl
            have cm := bm.cell (j := 0) rfl
            have fh := bh.frozen
            have fm := bm.frozen
            have cm2 := (bm.far (a := ⟨w.heap.size + 1, 0, none⟩) (show w.heap.size + 1 ≠ w.heap.size + 1 + 1 by omega) (.bool (!h0))).cell (j := 0) rfl
            have fm2 := (bm.far (a := ⟨w.heap.size + 1, 0, none⟩) (show w.heap.size + 1 ≠ w.heap.size + 1 + 1 by omega) (.bool (!h0))).frozen
            go_upto_region 16 with fail
            have vl := ((bl).far (a := ⟨w.heap.size + 1, 0, none⟩) (show w.heap.size + 1 ≠ w.heap.size by omega) (.bool (!h0))).far (a := ⟨w.heap.size + 1 + 1, 0, none⟩) (show w.heap.size + 1 + 1 ≠ w.heap.size by omega) (.bool (!m0))
            have va := ((ba).far (a := ⟨w.heap.size + 1, 0, none⟩) n1 (.bool (!h0))).far (a := ⟨w.heap.size + 1 + 1, 0, none⟩) n2 (.bool (!m0))
            have vh : Blk _ _ [.bool (!h0), .bool (h1), .bool (h2)] 25 := (bh.set 0 (.bool (!h0))).far (a := ⟨w.heap.size + 1 + 1, 0, none⟩) (show w.heap.size + 1 + 1 ≠ w.heap.size + 1 by omega) (.bool (!m0))
            have vm : Blk _ _ [.bool (!m0), .bool (m1), .bool (m2)] 25 := (bm.far (a := ⟨w.heap.size + 1, 0, none⟩) (show w.heap.size + 1 ≠ w.heap.size + 1 + 1 by omega) (.bool (!h0))).set 0 (.bool (!m0))
            have hw5 := belSet (belSet (belStep hw hbel) ⟨w.heap.size + 1, 0, none⟩ (.bool (!h0)) (by show w.heap.size ≤ w.heap.size + 1; omega)) ⟨w.heap.size + 1 + 1, 0, none⟩ (.bool (!m0)) (by show w.heap.size ≤ w.heap.size + 1 + 1; omega)
            clear bl bh bm ba n1 n2 ch cm fh fm cm2 fm2 hbel hw xlB xlF xhB xhF xmB xmF xl0 xl1 xl2 xl3 xl4 xl5 xh0 xm0 xh1 xm1 xh2 xm2
            generalize (wr.setCell ⟨w.heap.size + 1, 0, none⟩ (.bool (!h0))).setCell ⟨w.heap.size + 1 + 1, 0, none⟩ (.bool (!m0)) = W5 at *
            have hw := hw5
            clear hw5
            have z0 := keep (vl.cell (j := 0) rfl)
            have z1 := keep (vl.cell (j := 1) rfl)
            have z2 := keep (vl.cell (j := 2) rfl)
            have z3 := keep (vl.cell (j := 3) rfl)
            have z4 := keep (vl.cell (j := 4) rfl)
            have z5 := keep (vl.cell (j := 5) rfl)
            have zh0 := keep (vh.cell (j := 0) rfl)
            have zh1 := keep (vh.cell (j := 1) rfl)
            have zh2 := keep (vh.cell (j := 2) rfl)
            have zm0 := keep (vm.cell (j := 0) rfl)
            have zm1 := keep (vm.cell (j := 1) rfl)
            have zm2 := keep (vm.cell (j := 2) rfl)
            have za0 := keep (va.cell (j := 0) rfl)
            have za1 := keep (va.cell (j := 1) rfl)
            have za2 := keep (va.cell (j := 2) rfl)
            have za3 := keep (va.cell (j := 3) rfl)
            have za4 := keep (va.cell (j := 4) rfl)
            have za5 := keep (va.cell (j := 5) rfl)
            clear vl vh vm va
            have hbel : Below W5.heap.size W5 W5 := Below.refl _ _
            obtain ⟨tb, htb⟩ : ∃ z, stepOn b0 c0 (!h0) (!m0) fresh n = z := ⟨_, rfl⟩
            obtain ⟨v, hv⟩ : ∃ z, stepCalm b0 c0 (!h0) (!m0) fresh n = z := ⟨_, rfl⟩
            obtain ⟨E2, hE2⟩ : ∃ z, turnEv b0 tb 0 ++ turnEv b1 s1 1 ++ turnEv b2 s2 2 = z := ⟨_, rfl⟩
            have CA := Lib.hid (fun u => all_at b0 c0 b1 c1 b2 c2 (!h0) (h1) (h2) (!m0) (m1) (m2) fresh n tb s1 s2 v d1 d2 E2 u (HF.out _ _ _ _ _ _) htb HS1.out HS2.out hv HD1.out HD2.out hE2)
            have HTL := Lib.hid (turns_len hE2)
            have HTK := Lib.hid (turns_kind hE2)
            have hl3 := turns_few hE2
            clear hE2 htb hv
            have HV := Lib.hid hl3
            go_upto_region 17 with (go_at_call 7; (with_reducible refine (CA.out _).mono ?_); rintro e u2 ⟨⟨fa, fc, rfl, ho2⟩, hb2⟩; have hz2 := hbel.size; replace hbel := belStep hbel hb2)
            have HO2 := Lib.hid (OwnR.alloc ho2 (.cells #[.bool tb, .int .i64 v, .bool s1, .int .i64 d1, .bool s2, .int .i64 d2] 24))
            clear ho2 hb2 CA hz2 zh0 zm0 zh1 zm1 zh2 zm2
            have y0 : (u2.alloc (.cells #[.bool tb, .int .i64 v, .bool s1, .int .i64 d1, .bool s2, .int .i64 d2] 24)).cell? ⟨u2.heap.size, 0, none⟩ = some (.bool tb) := by first | (simp; done) | (rw [World.cell?_alloc_at _ _ _ _ (by simp)]; rfl) | (rw [World.cell?_alloc_past _ _ _ (by simp <;> omega), World.cell?_alloc_at _ _ _ _ (by simp)]; rfl) | (rw [World.cell?_alloc_past _ _ _ (by simp <;> omega), World.cell?_alloc_past _ _ _ (by simp <;> omega), World.cell?_alloc_at _ _ _ _ (by simp)]; rfl)
            have y1 : (u2.alloc (.cells #[.bool tb, .int .i64 v, .bool s1, .int .i64 d1, .bool s2, .int .i64 d2] 24)).cell? ⟨u2.heap.size, 1, none⟩ = some (.int .i64 v) := by first | (simp; done) | (rw [World.cell?_alloc_at _ _ _ _ (by simp)]; rfl) | (rw [World.cell?_alloc_past _ _ _ (by simp <;> omega), World.cell?_alloc_at _ _ _ _ (by simp)]; rfl) | (rw [World.cell?_alloc_past _ _ _ (by simp <;> omega), World.cell?_alloc_past _ _ _ (by simp <;> omega), World.cell?_alloc_at _ _ _ _ (by simp)]; rfl)
            have y2 : (u2.alloc (.cells #[.bool tb, .int .i64 v, .bool s1, .int .i64 d1, .bool s2, .int .i64 d2] 24)).cell? ⟨u2.heap.size, 2, none⟩ = some (.bool s1) := by first | (simp; done) | (rw [World.cell?_alloc_at _ _ _ _ (by simp)]; rfl) | (rw [World.cell?_alloc_past _ _ _ (by simp <;> omega), World.cell?_alloc_at _ _ _ _ (by simp)]; rfl) | (rw [World.cell?_alloc_past _ _ _ (by simp <;> omega), World.cell?_alloc_past _ _ _ (by simp <;> omega), World.cell?_alloc_at _ _ _ _ (by simp)]; rfl)
            have y3 : (u2.alloc (.cells #[.bool tb, .int .i64 v, .bool s1, .int .i64 d1, .bool s2, .int .i64 d2] 24)).cell? ⟨u2.heap.size, 3, none⟩ = some (.int .i64 d1) := by first | (simp; done) | (rw [World.cell?_alloc_at _ _ _ _ (by simp)]; rfl) | (rw [World.cell?_alloc_past _ _ _ (by simp <;> omega), World.cell?_alloc_at _ _ _ _ (by simp)]; rfl) | (rw [World.cell?_alloc_past _ _ _ (by simp <;> omega), World.cell?_alloc_past _ _ _ (by simp <;> omega), World.cell?_alloc_at _ _ _ _ (by simp)]; rfl)
            have y4 : (u2.alloc (.cells #[.bool tb, .int .i64 v, .bool s1, .int .i64 d1, .bool s2, .int .i64 d2] 24)).cell? ⟨u2.heap.size, 4, none⟩ = some (.bool s2) := by first | (simp; done) | (rw [World.cell?_alloc_at _ _ _ _ (by simp)]; rfl) | (rw [World.cell?_alloc_past _ _ _ (by simp <;> omega), World.cell?_alloc_at _ _ _ _ (by simp)]; rfl) | (rw [World.cell?_alloc_past _ _ _ (by simp <;> omega), World.cell?_alloc_past _ _ _ (by simp <;> omega), World.cell?_alloc_at _ _ _ _ (by simp)]; rfl)
            have y5 : (u2.alloc (.cells #[.bool tb, .int .i64 v, .bool s1, .int .i64 d1, .bool s2, .int .i64 d2] 24)).cell? ⟨u2.heap.size, 5, none⟩ = some (.int .i64 d2) := by first | (simp; done) | (rw [World.cell?_alloc_at _ _ _ _ (by simp)]; rfl) | (rw [World.cell?_alloc_past _ _ _ (by simp <;> omega), World.cell?_alloc_at _ _ _ _ (by simp)]; rfl) | (rw [World.cell?_alloc_past _ _ _ (by simp <;> omega), World.cell?_alloc_past _ _ _ (by simp <;> omega), World.cell?_alloc_at _ _ _ _ (by simp)]; rfl)
            have hb2 := (by repeat (first | exact hbel | refine belAlloc ?_ _ | refine belDrew ?_ | refine belSet ?_ _ _ (by simp)) : Below W5.heap.size W5 (u2.alloc (.cells #[.bool tb, .int .i64 v, .bool s1, .int .i64 d1, .bool s2, .int .i64 d2] 24)))
            replace z0 := keepOnP z0 hb2
            replace z1 := keepOnP z1 hb2
            replace z2 := keepOnP z2 hb2
            replace z3 := keepOnP z3 hb2
            replace z4 := keepOnP z4 hb2
            replace z5 := keepOnP z5 hb2
            replace za0 := keepOnP za0 hb2
            replace za1 := keepOnP za1 hb2
            replace za2 := keepOnP za2 hb2
            replace za3 := keepOnP za3 hb2
            replace za4 := keepOnP za4 hb2
            replace za5 := keepOnP za5 hb2
            replace hw := belStep hw hb2
            clear hb2 hbel
            generalize u2.alloc (.cells #[.bool tb, .int .i64 v, .bool s1, .int .i64 d1, .bool s2, .int .i64 d2] 24) = W6 at *
            replace y0 := keep y0
            replace y1 := keep y1
            replace y2 := keep y2
            replace y3 := keep y3
            replace y4 := keep y4
            replace y5 := keep y5
            generalize u2.heap.size = N6 at *
            have hbel : Below W6.heap.size W6 W6 := Below.refl _ _
            clear u2
            obtain ⟨l2, hl2⟩ : ∃ l, E2.length = l := ⟨_, rfl⟩
            rw [hl2] at HO2 HTL hl3 ⊢
            have HL2 := Lib.hid hl2
            clear hl2
            have heq := fun (a : Bool) (c : Int) (u : World) => eq_cond_same a c u
            go_wp2
            have HB6 := Lib.hid hbel
            clear hbel
            go_loopw [20, 21] (fun tv i wr => ∃ (k : Nat) (I t : Int), I = k ∧ k ≤ 3 ∧ i = .int .i64 I ∧ tv = .int .i64 t ∧ Hid ((k = 0 ∧ t = 0) ∨ (k = 1 ∧ t = 0 + one1 tb b0) ∨ (k = 2 ∧ t = 0 + one1 tb b0 + one1 s1 b1) ∨ (k = 3 ∧ t = 0 + one1 tb b0 + one1 s1 b1 + one1 s2 b2)) ∧ (0 ≤ t ∧ t ≤ k) ∧ Below W6.heap.size W6 wr) (fun _ i _ => 3 - (intOf i).toNat)
            case atStart => exact ⟨0, 0, 0, rfl, by omega, rfl, rfl, Lib.hid (.inl ⟨rfl, rfl⟩), by omega, HB6.out⟩
            case round =>
              obtain ⟨k, I, tt, hI, hk, rfl, rfl, HT, ⟨ht0, ht1⟩, hbel⟩ := hrel
              clear HB6
              rcases (show k = 0 ∨ k = 1 ∨ k = 2 ∨ k = 3 by omega) with rfl | rfl | rfl | rfl
              · obtain rfl : I = 0 := hI
                have hT := Lib.hid (show tt = 0 by have := HT.out; omega)
                clear HT
                rcases tb with _ | _ <;> rcases b0 with _ | _
                · go_upto_region 21 with fail
                  have kk := fun d os => belStep hbel (below_regrown _ d os)
                  refine wp_region_quiet_below (by kernel_rfl) (by kernel_rfl) ?_
                  repeat ((with_reducible refine wpQuiet_step (fun K hK => ?_)); go_simp; (try (rw [if_neg]; rotate_left; · decide)); first | ((with_reducible refine hK _ ?_); clear hK K) | (apply Exists.intro; refine ⟨fun _ => ?_, hK _ ?_⟩; (fail); clear hK K))
                  refine wpQuiet_nil (fun w1 hw1 => ?_)
                  replace hbel := belStep hbel (bel_of_class hw1)
                  clear hw1 kk
                  go_upto_region 23 with fail
                  have kk := fun d os => belStep hbel (below_regrown _ d os)
                  refine wp_region_quiet_below (by kernel_rfl) (by kernel_rfl) ?_
                  repeat ((with_reducible refine wpQuiet_step (fun K hK => ?_)); go_simp; (try (rw [if_neg]; rotate_left; · decide)); first | ((with_reducible refine hK _ ?_); clear hK K) | (apply Exists.intro; refine ⟨fun _ => ?_, hK _ ?_⟩; (fail); clear hK K))
                  refine wpQuiet_nil (fun w1 hw1 => ?_)
                  replace hbel := belStep hbel (bel_of_class hw1)
                  clear hw1 kk
                  go_wp2
                  go_roundw
                  case rel => exact ⟨1, 1, tt, rfl, by omega, rfl, rfl, Lib.hid (.inr (.inl ⟨rfl, by rw [hT.out]; simp [one1]⟩)), by omega, hbel⟩
                  case measure => simp [intOf]
                · go_upto_region 21 with fail
                  have kk := fun d os => belStep hbel (below_regrown _ d os)
                  refine wp_region_quiet_below (by kernel_rfl) (by kernel_rfl) ?_
                  repeat ((with_reducible refine wpQuiet_step (fun K hK => ?_)); go_simp; (try (rw [if_neg]; rotate_left; · decide)); first | ((with_reducible refine hK _ ?_); clear hK K) | (apply Exists.intro; refine ⟨fun _ => ?_, hK _ ?_⟩; (fail); clear hK K))
                  refine wpQuiet_nil (fun w1 hw1 => ?_)
                  replace hbel := belStep hbel (bel_of_class hw1)
                  clear hw1 kk
                  go_upto_region 23 with fail
                  have kk := fun d os => belStep hbel (below_regrown _ d os)
                  refine wp_region_quiet_below (by kernel_rfl) (by kernel_rfl) ?_
                  repeat ((with_reducible refine wpQuiet_step (fun K hK => ?_)); go_simp; (try (rw [if_neg]; rotate_left; · decide)); first | ((with_reducible refine hK _ ?_); clear hK K) | (apply Exists.intro; refine ⟨fun _ => ?_, hK _ ?_⟩; (fail); clear hK K))
                  refine wpQuiet_nil (fun w1 hw1 => ?_)
                  replace hbel := belStep hbel (bel_of_class hw1)
                  clear hw1 kk
                  go_wp2
                  go_roundw
                  case rel => exact ⟨1, 1, tt + 1, rfl, by omega, rfl, rfl, Lib.hid (.inr (.inl ⟨rfl, by rw [hT.out]; rfl⟩)), by omega, hbel⟩
                  case measure => simp [intOf]
                · go_upto_region 21 with fail
                  have kk := fun d os => belStep hbel (below_regrown _ d os)
                  refine wp_region_quiet_below (by kernel_rfl) (by kernel_rfl) ?_
                  repeat ((with_reducible refine wpQuiet_step (fun K hK => ?_)); go_simp; (try (rw [if_neg]; rotate_left; · decide)); first | ((with_reducible refine hK _ ?_); clear hK K) | (apply Exists.intro; refine ⟨fun _ => ?_, hK _ ?_⟩; (fail); clear hK K))
                  refine wpQuiet_nil (fun w1 hw1 => ?_)
                  replace hbel := belStep hbel (bel_of_class hw1)
                  clear hw1 kk
                  go_upto_region 23 with fail
                  have kk := fun d os => belStep hbel (below_regrown _ d os)
                  refine wp_region_quiet_below (by kernel_rfl) (by kernel_rfl) ?_
                  repeat ((with_reducible refine wpQuiet_step (fun K hK => ?_)); go_simp; (try (rw [if_neg]; rotate_left; · decide)); first | ((with_reducible refine hK _ ?_); clear hK K) | (apply Exists.intro; refine ⟨fun _ => ?_, hK _ ?_⟩; (fail); clear hK K))
                  refine wpQuiet_nil (fun w1 hw1 => ?_)
                  replace hbel := belStep hbel (bel_of_class hw1)
                  clear hw1 kk
                  go_wp2
                  go_roundw
                  case rel => exact ⟨1, 1, tt + 1, rfl, by omega, rfl, rfl, Lib.hid (.inr (.inl ⟨rfl, by rw [hT.out]; rfl⟩)), by omega, hbel⟩
                  case measure => simp [intOf]
                · go_upto_region 21 with fail
                  have kk := fun d os => belStep hbel (below_regrown _ d os)
                  refine wp_region_quiet_below (by kernel_rfl) (by kernel_rfl) ?_
                  repeat ((with_reducible refine wpQuiet_step (fun K hK => ?_)); go_simp; (try (rw [if_neg]; rotate_left; · decide)); first | ((with_reducible refine hK _ ?_); clear hK K) | (apply Exists.intro; refine ⟨fun _ => ?_, hK _ ?_⟩; (fail); clear hK K))
                  refine wpQuiet_nil (fun w1 hw1 => ?_)
                  replace hbel := belStep hbel (bel_of_class hw1)
                  clear hw1 kk
                  go_upto_region 23 with fail
                  have kk := fun d os => belStep hbel (below_regrown _ d os)
                  refine wp_region_quiet_below (by kernel_rfl) (by kernel_rfl) ?_
                  repeat ((with_reducible refine wpQuiet_step (fun K hK => ?_)); go_simp; (try (rw [if_neg]; rotate_left; · decide)); first | ((with_reducible refine hK _ ?_); clear hK K) | (apply Exists.intro; refine ⟨fun _ => ?_, hK _ ?_⟩; (fail); clear hK K))
                  refine wpQuiet_nil (fun w1 hw1 => ?_)
                  replace hbel := belStep hbel (bel_of_class hw1)
                  clear hw1 kk
                  go_wp2
                  go_roundw
                  case rel => exact ⟨1, 1, tt, rfl, by omega, rfl, rfl, Lib.hid (.inr (.inl ⟨rfl, by rw [hT.out]; simp [one1]⟩)), by omega, hbel⟩
                  case measure => simp [intOf]
              · obtain rfl : I = 1 := hI
                have hT := Lib.hid (show tt = 0 + one1 tb b0 by have := HT.out; omega)
                clear HT
                rcases s1 with _ | _ <;> rcases b1 with _ | _
                · go_upto_region 21 with fail
                  have kk := fun d os => belStep hbel (below_regrown _ d os)
                  refine wp_region_quiet_below (by kernel_rfl) (by kernel_rfl) ?_
                  repeat ((with_reducible refine wpQuiet_step (fun K hK => ?_)); go_simp; (try (rw [if_neg]; rotate_left; · decide)); first | ((with_reducible refine hK _ ?_); clear hK K) | (apply Exists.intro; refine ⟨fun _ => ?_, hK _ ?_⟩; (fail); clear hK K))
                  refine wpQuiet_nil (fun w1 hw1 => ?_)
                  replace hbel := belStep hbel (bel_of_class hw1)
                  clear hw1 kk
                  go_upto_region 23 with fail
                  have kk := fun d os => belStep hbel (below_regrown _ d os)
                  refine wp_region_quiet_below (by kernel_rfl) (by kernel_rfl) ?_
                  repeat ((with_reducible refine wpQuiet_step (fun K hK => ?_)); go_simp; (try (rw [if_neg]; rotate_left; · decide)); first | ((with_reducible refine hK _ ?_); clear hK K) | (apply Exists.intro; refine ⟨fun _ => ?_, hK _ ?_⟩; (fail); clear hK K))
                  refine wpQuiet_nil (fun w1 hw1 => ?_)
                  replace hbel := belStep hbel (bel_of_class hw1)
                  clear hw1 kk
                  go_wp2
                  go_roundw
                  case rel => exact ⟨2, 2, tt, rfl, by omega, rfl, rfl, Lib.hid (.inr (.inr (.inl ⟨rfl, by rw [hT.out]; simp [one1]⟩))), by omega, hbel⟩
                  case measure => simp [intOf]
                · go_upto_region 21 with fail
                  have kk := fun d os => belStep hbel (below_regrown _ d os)
                  refine wp_region_quiet_below (by kernel_rfl) (by kernel_rfl) ?_
                  repeat ((with_reducible refine wpQuiet_step (fun K hK => ?_)); go_simp; (try (rw [if_neg]; rotate_left; · decide)); first | ((with_reducible refine hK _ ?_); clear hK K) | (apply Exists.intro; refine ⟨fun _ => ?_, hK _ ?_⟩; (fail); clear hK K))
                  refine wpQuiet_nil (fun w1 hw1 => ?_)
                  replace hbel := belStep hbel (bel_of_class hw1)
                  clear hw1 kk
                  go_upto_region 23 with fail
                  have kk := fun d os => belStep hbel (below_regrown _ d os)
                  refine wp_region_quiet_below (by kernel_rfl) (by kernel_rfl) ?_
                  repeat ((with_reducible refine wpQuiet_step (fun K hK => ?_)); go_simp; (try (rw [if_neg]; rotate_left; · decide)); first | ((with_reducible refine hK _ ?_); clear hK K) | (apply Exists.intro; refine ⟨fun _ => ?_, hK _ ?_⟩; (fail); clear hK K))
                  refine wpQuiet_nil (fun w1 hw1 => ?_)
                  replace hbel := belStep hbel (bel_of_class hw1)
                  clear hw1 kk
                  go_wp2
                  go_roundw
                  case rel => exact ⟨2, 2, tt + 1, rfl, by omega, rfl, rfl, Lib.hid (.inr (.inr (.inl ⟨rfl, by rw [hT.out]; rfl⟩))), by omega, hbel⟩
                  case measure => simp [intOf]
                · go_upto_region 21 with fail
                  have kk := fun d os => belStep hbel (below_regrown _ d os)
                  refine wp_region_quiet_below (by kernel_rfl) (by kernel_rfl) ?_
                  repeat ((with_reducible refine wpQuiet_step (fun K hK => ?_)); go_simp; (try (rw [if_neg]; rotate_left; · decide)); first | ((with_reducible refine hK _ ?_); clear hK K) | (apply Exists.intro; refine ⟨fun _ => ?_, hK _ ?_⟩; (fail); clear hK K))
                  refine wpQuiet_nil (fun w1 hw1 => ?_)
                  replace hbel := belStep hbel (bel_of_class hw1)
                  clear hw1 kk
                  go_upto_region 23 with fail
                  have kk := fun d os => belStep hbel (below_regrown _ d os)
                  refine wp_region_quiet_below (by kernel_rfl) (by kernel_rfl) ?_
                  repeat ((with_reducible refine wpQuiet_step (fun K hK => ?_)); go_simp; (try (rw [if_neg]; rotate_left; · decide)); first | ((with_reducible refine hK _ ?_); clear hK K) | (apply Exists.intro; refine ⟨fun _ => ?_, hK _ ?_⟩; (fail); clear hK K))
                  refine wpQuiet_nil (fun w1 hw1 => ?_)
                  replace hbel := belStep hbel (bel_of_class hw1)
                  clear hw1 kk
                  go_wp2
                  go_roundw
                  case rel => exact ⟨2, 2, tt + 1, rfl, by omega, rfl, rfl, Lib.hid (.inr (.inr (.inl ⟨rfl, by rw [hT.out]; rfl⟩))), by omega, hbel⟩
                  case measure => simp [intOf]
                · go_upto_region 21 with fail
                  have kk := fun d os => belStep hbel (below_regrown _ d os)
                  refine wp_region_quiet_below (by kernel_rfl) (by kernel_rfl) ?_
                  repeat ((with_reducible refine wpQuiet_step (fun K hK => ?_)); go_simp; (try (rw [if_neg]; rotate_left; · decide)); first | ((with_reducible refine hK _ ?_); clear hK K) | (apply Exists.intro; refine ⟨fun _ => ?_, hK _ ?_⟩; (fail); clear hK K))
                  refine wpQuiet_nil (fun w1 hw1 => ?_)
                  replace hbel := belStep hbel (bel_of_class hw1)
                  clear hw1 kk
                  go_upto_region 23 with fail
                  have kk := fun d os => belStep hbel (below_regrown _ d os)
                  refine wp_region_quiet_below (by kernel_rfl) (by kernel_rfl) ?_
                  repeat ((with_reducible refine wpQuiet_step (fun K hK => ?_)); go_simp; (try (rw [if_neg]; rotate_left; · decide)); first | ((with_reducible refine hK _ ?_); clear hK K) | (apply Exists.intro; refine ⟨fun _ => ?_, hK _ ?_⟩; (fail); clear hK K))
                  refine wpQuiet_nil (fun w1 hw1 => ?_)
                  replace hbel := belStep hbel (bel_of_class hw1)
                  clear hw1 kk
                  go_wp2
                  go_roundw
                  case rel => exact ⟨2, 2, tt, rfl, by omega, rfl, rfl, Lib.hid (.inr (.inr (.inl ⟨rfl, by rw [hT.out]; simp [one1]⟩))), by omega, hbel⟩
                  case measure => simp [intOf]
              · obtain rfl : I = 2 := hI
                have hT := Lib.hid (show tt = 0 + one1 tb b0 + one1 s1 b1 by have := HT.out; omega)
                clear HT
                rcases s2 with _ | _ <;> rcases b2 with _ | _
                · go_upto_region 21 with fail
                  have kk := fun d os => belStep hbel (below_regrown _ d os)
                  refine wp_region_quiet_below (by kernel_rfl) (by kernel_rfl) ?_
                  repeat ((with_reducible refine wpQuiet_step (fun K hK => ?_)); go_simp; (try (rw [if_neg]; rotate_left; · decide)); first | ((with_reducible refine hK _ ?_); clear hK K) | (apply Exists.intro; refine ⟨fun _ => ?_, hK _ ?_⟩; (fail); clear hK K))
                  refine wpQuiet_nil (fun w1 hw1 => ?_)
                  replace hbel := belStep hbel (bel_of_class hw1)
                  clear hw1 kk
                  go_upto_region 23 with fail
                  have kk := fun d os => belStep hbel (below_regrown _ d os)
                  refine wp_region_quiet_below (by kernel_rfl) (by kernel_rfl) ?_
                  repeat ((with_reducible refine wpQuiet_step (fun K hK => ?_)); go_simp; (try (rw [if_neg]; rotate_left; · decide)); first | ((with_reducible refine hK _ ?_); clear hK K) | (apply Exists.intro; refine ⟨fun _ => ?_, hK _ ?_⟩; (fail); clear hK K))
                  refine wpQuiet_nil (fun w1 hw1 => ?_)
                  replace hbel := belStep hbel (bel_of_class hw1)
                  clear hw1 kk
                  go_wp2
                  go_roundw
                  case rel => exact ⟨3, 3, tt, rfl, by omega, rfl, rfl, Lib.hid (.inr (.inr (.inr ⟨rfl, by rw [hT.out]; simp [one1]⟩))), by omega, hbel⟩
                  case measure => simp [intOf]
                · go_upto_region 21 with fail
                  have kk := fun d os => belStep hbel (below_regrown _ d os)
                  refine wp_region_quiet_below (by kernel_rfl) (by kernel_rfl) ?_
                  repeat ((with_reducible refine wpQuiet_step (fun K hK => ?_)); go_simp; (try (rw [if_neg]; rotate_left; · decide)); first | ((with_reducible refine hK _ ?_); clear hK K) | (apply Exists.intro; refine ⟨fun _ => ?_, hK _ ?_⟩; (fail); clear hK K))
                  refine wpQuiet_nil (fun w1 hw1 => ?_)
                  replace hbel := belStep hbel (bel_of_class hw1)
                  clear hw1 kk
                  go_upto_region 23 with fail
                  have kk := fun d os => belStep hbel (below_regrown _ d os)
                  refine wp_region_quiet_below (by kernel_rfl) (by kernel_rfl) ?_
                  repeat ((with_reducible refine wpQuiet_step (fun K hK => ?_)); go_simp; (try (rw [if_neg]; rotate_left; · decide)); first | ((with_reducible refine hK _ ?_); clear hK K) | (apply Exists.intro; refine ⟨fun _ => ?_, hK _ ?_⟩; (fail); clear hK K))
                  refine wpQuiet_nil (fun w1 hw1 => ?_)
                  replace hbel := belStep hbel (bel_of_class hw1)
                  clear hw1 kk
                  go_wp2
                  go_roundw
                  case rel => exact ⟨3, 3, tt + 1, rfl, by omega, rfl, rfl, Lib.hid (.inr (.inr (.inr ⟨rfl, by rw [hT.out]; rfl⟩))), by omega, hbel⟩
                  case measure => simp [intOf]
                · go_upto_region 21 with fail
                  have kk := fun d os => belStep hbel (below_regrown _ d os)
                  refine wp_region_quiet_below (by kernel_rfl) (by kernel_rfl) ?_
                  repeat ((with_reducible refine wpQuiet_step (fun K hK => ?_)); go_simp; (try (rw [if_neg]; rotate_left; · decide)); first | ((with_reducible refine hK _ ?_); clear hK K) | (apply Exists.intro; refine ⟨fun _ => ?_, hK _ ?_⟩; (fail); clear hK K))
                  refine wpQuiet_nil (fun w1 hw1 => ?_)
                  replace hbel := belStep hbel (bel_of_class hw1)
                  clear hw1 kk
                  go_upto_region 23 with fail
                  have kk := fun d os => belStep hbel (below_regrown _ d os)
                  refine wp_region_quiet_below (by kernel_rfl) (by kernel_rfl) ?_
                  repeat ((with_reducible refine wpQuiet_step (fun K hK => ?_)); go_simp; (try (rw [if_neg]; rotate_left; · decide)); first | ((with_reducible refine hK _ ?_); clear hK K) | (apply Exists.intro; refine ⟨fun _ => ?_, hK _ ?_⟩; (fail); clear hK K))
                  refine wpQuiet_nil (fun w1 hw1 => ?_)
                  replace hbel := belStep hbel (bel_of_class hw1)
                  clear hw1 kk
                  go_wp2
                  go_roundw
                  case rel => exact ⟨3, 3, tt + 1, rfl, by omega, rfl, rfl, Lib.hid (.inr (.inr (.inr ⟨rfl, by rw [hT.out]; rfl⟩))), by omega, hbel⟩
                  case measure => simp [intOf]
                · go_upto_region 21 with fail
                  have kk := fun d os => belStep hbel (below_regrown _ d os)
                  refine wp_region_quiet_below (by kernel_rfl) (by kernel_rfl) ?_
                  repeat ((with_reducible refine wpQuiet_step (fun K hK => ?_)); go_simp; (try (rw [if_neg]; rotate_left; · decide)); first | ((with_reducible refine hK _ ?_); clear hK K) | (apply Exists.intro; refine ⟨fun _ => ?_, hK _ ?_⟩; (fail); clear hK K))
                  refine wpQuiet_nil (fun w1 hw1 => ?_)
                  replace hbel := belStep hbel (bel_of_class hw1)
                  clear hw1 kk
                  go_upto_region 23 with fail
                  have kk := fun d os => belStep hbel (below_regrown _ d os)
                  refine wp_region_quiet_below (by kernel_rfl) (by kernel_rfl) ?_
                  repeat ((with_reducible refine wpQuiet_step (fun K hK => ?_)); go_simp; (try (rw [if_neg]; rotate_left; · decide)); first | ((with_reducible refine hK _ ?_); clear hK K) | (apply Exists.intro; refine ⟨fun _ => ?_, hK _ ?_⟩; (fail); clear hK K))
                  refine wpQuiet_nil (fun w1 hw1 => ?_)
                  replace hbel := belStep hbel (bel_of_class hw1)
                  clear hw1 kk
                  go_wp2
                  go_roundw
                  case rel => exact ⟨3, 3, tt, rfl, by omega, rfl, rfl, Lib.hid (.inr (.inr (.inr ⟨rfl, by rw [hT.out]; simp [one1]⟩))), by omega, hbel⟩
                  case measure => simp [intOf]
              · obtain rfl : I = 3 := hI
                have hT := Lib.hid (show tt = (l2 : Int) by have := HT.out; have := HTL.out; omega)
                clear HT ht0 ht1
                obtain rfl := hT.out
                clear hT HTL z0 z1 z2 z3 z4 z5 za0 za1 za2 za3 za4 za5 y0 y1 y2 y3 y4 y5
                have HO3 := Lib.hid (HO2.out.later hbel)
                clear HO2
                go_wp2
                have HB7 := Lib.hid hbel
                clear hbel
                rcases own_shape HO3.out with ⟨e1, hn⟩ | ⟨gf, cp, e1, hgf1, hgf2, _, _⟩
                · simp only [Value.slice.injEq] at e1
                  obtain ⟨rfl, _, rfl⟩ := e1
                  obtain rfl : l2 = 0 := by have := HL2.out; omega
                  go_loopw [22] (fun i wr => i = .int .i64 0 ∧ Below W6.heap.size W6 wr) (fun i _ => 0)
                  case atStart => exact ⟨rfl, HB7.out⟩
                  case round =>
                    obtain ⟨rfl, hbel⟩ := hrel
                    clear HB7
                    go_wp2
                    go_ret
                    exact ⟨rfl, belStep hw hbel⟩
                · simp only [Value.slice.injEq] at e1
                  obtain ⟨rfl, _, rfl⟩ := e1
                  go_loopw [22] (fun i wr => ∃ k : Nat, k ≤ l2 ∧ i = .int .i64 k ∧ Hid (OwnR wr W5.heap.size 33 4 (.slice (some ⟨gf, 0, none⟩) l2 fc) l2 (evsCells E2)) ∧ Below W6.heap.size W6 wr) (fun i _ => l2 - (intOf i).toNat)
                  case atStart => exact ⟨0, Nat.zero_le _, rfl, HO3, HB7.out⟩
                  case round =>
                    obtain ⟨k, hk, rfl, HO4, hbel⟩ := hrel
                    clear HB7 HO3
                    by_cases hlt : k < l2
                    · obtain ⟨x, hx⟩ : ∃ x, E2[k]? = some x := ⟨E2[k]'(by rw [HL2.out]; exact hlt), List.getElem?_eq_getElem _⟩
                      have hc := (show wr.cell? ⟨gf, k * 4, none⟩ = some (.int .i64 x.1) from by rw [World.ownsRow.cellAt HO4.out (k * 4) (by omega)]; exact evs_cell hx)
                      have hx1 := HTK.out x (List.mem_of_getElem? hx)
                      obtain ⟨x1, hx2⟩ : ∃ z, x.1 = z := ⟨_, rfl⟩
                      rw [hx2] at hc hx1
                      clear hx hx2
                      have hd : decide ((k : Int) < (l2 : Int)) = true := decide_eq_true (by omega)
                      rcases hx1 with rfl | rfl
                      all_goals
                        go_wp2
                        go_roundw
                        case rel => exact ⟨k + 1, by omega, by push_cast; rfl, HO4, hbel⟩
                        case measure => simp [intOf] <;> omega
                    · obtain rfl : k = l2 := by omega
                      have hd : decide ((k : Int) < (k : Int)) = false := decide_eq_false (by omega)
                      go_wp2
                      go_ret
                      exact ⟨rfl, belStep hw hbel⟩
          · with_reducible rw [show ((1 : Nat) : Int) = 1 from rfl]
            have bl := xlB _ hbel
            have bh := xhB _ hbel
            have bm := xmB _ hbel
            have ba := HAA.out
            have n1 := Blk.ne bh ba (by simp)
            have n2 := Blk.ne bm ba (by simp)
            have ch := bh.cell (j := 1) rfl
            have cm := bm.cell (j := 1) rfl
            have fh := bh.frozen
            have fm := bm.frozen
            have cm2 := (bm.far (a := ⟨w.heap.size + 1, 1, none⟩) (show w.heap.size + 1 ≠ w.heap.size + 1 + 1 by omega) (.bool (!h1))).cell (j := 1) rfl
            have fm2 := (bm.far (a := ⟨w.heap.size + 1, 1, none⟩) (show w.heap.size + 1 ≠ w.heap.size + 1 + 1 by omega) (.bool (!h1))).frozen
            go_upto_region 16 with fail
            have vl := ((bl).far (a := ⟨w.heap.size + 1, 1, none⟩) (show w.heap.size + 1 ≠ w.heap.size by omega) (.bool (!h1))).far (a := ⟨w.heap.size + 1 + 1, 1, none⟩) (show w.heap.size + 1 + 1 ≠ w.heap.size by omega) (.bool (!m1))
            have va := ((ba).far (a := ⟨w.heap.size + 1, 1, none⟩) n1 (.bool (!h1))).far (a := ⟨w.heap.size + 1 + 1, 1, none⟩) n2 (.bool (!m1))
            have vh : Blk _ _ [.bool (h0), .bool (!h1), .bool (h2)] 25 := (bh.set 1 (.bool (!h1))).far (a := ⟨w.heap.size + 1 + 1, 1, none⟩) (show w.heap.size + 1 + 1 ≠ w.heap.size + 1 by omega) (.bool (!m1))
            have vm : Blk _ _ [.bool (m0), .bool (!m1), .bool (m2)] 25 := (bm.far (a := ⟨w.heap.size + 1, 1, none⟩) (show w.heap.size + 1 ≠ w.heap.size + 1 + 1 by omega) (.bool (!h1))).set 1 (.bool (!m1))
            have hw5 := belSet (belSet (belStep hw hbel) ⟨w.heap.size + 1, 1, none⟩ (.bool (!h1)) (by show w.heap.size ≤ w.heap.size + 1; omega)) ⟨w.heap.size + 1 + 1, 1, none⟩ (.bool (!m1)) (by show w.heap.size ≤ w.heap.size + 1 + 1; omega)
            clear bl bh bm ba n1 n2 ch cm fh fm cm2 fm2 hbel hw xlB xlF xhB xhF xmB xmF xl0 xl1 xl2 xl3 xl4 xl5 xh0 xm0 xh1 xm1 xh2 xm2
            generalize (wr.setCell ⟨w.heap.size + 1, 1, none⟩ (.bool (!h1))).setCell ⟨w.heap.size + 1 + 1, 1, none⟩ (.bool (!m1)) = W5 at *
            have hw := hw5
            clear hw5
            have z0 := keep (vl.cell (j := 0) rfl)
            have z1 := keep (vl.cell (j := 1) rfl)
            have z2 := keep (vl.cell (j := 2) rfl)
            have z3 := keep (vl.cell (j := 3) rfl)
            have z4 := keep (vl.cell (j := 4) rfl)
            have z5 := keep (vl.cell (j := 5) rfl)
            have zh0 := keep (vh.cell (j := 0) rfl)
            have zh1 := keep (vh.cell (j := 1) rfl)
            have zh2 := keep (vh.cell (j := 2) rfl)
            have zm0 := keep (vm.cell (j := 0) rfl)
            have zm1 := keep (vm.cell (j := 1) rfl)
            have zm2 := keep (vm.cell (j := 2) rfl)
            have za0 := keep (va.cell (j := 0) rfl)
            have za1 := keep (va.cell (j := 1) rfl)
            have za2 := keep (va.cell (j := 2) rfl)
            have za3 := keep (va.cell (j := 3) rfl)
            have za4 := keep (va.cell (j := 4) rfl)
            have za5 := keep (va.cell (j := 5) rfl)
            clear vl vh vm va
            have hbel : Below W5.heap.size W5 W5 := Below.refl _ _
            obtain ⟨tb, htb⟩ : ∃ z, stepOn b1 c1 (!h1) (!m1) fresh n = z := ⟨_, rfl⟩
            obtain ⟨v, hv⟩ : ∃ z, stepCalm b1 c1 (!h1) (!m1) fresh n = z := ⟨_, rfl⟩
            obtain ⟨E2, hE2⟩ : ∃ z, turnEv b0 s0 0 ++ turnEv b1 tb 1 ++ turnEv b2 s2 2 = z := ⟨_, rfl⟩
            have CA := Lib.hid (fun u => all_at b0 c0 b1 c1 b2 c2 (h0) (!h1) (h2) (m0) (!m1) (m2) fresh n s0 tb s2 d0 v d2 E2 u (HF.out _ _ _ _ _ _) HS0.out htb HS2.out HD0.out hv HD2.out hE2)
            have HTL := Lib.hid (turns_len hE2)
            have HTK := Lib.hid (turns_kind hE2)
            have hl3 := turns_few hE2
            clear hE2 htb hv
            have HV := Lib.hid hl3
            go_upto_region 17 with (go_at_call 7; (with_reducible refine (CA.out _).mono ?_); rintro e u2 ⟨⟨fa, fc, rfl, ho2⟩, hb2⟩; have hz2 := hbel.size; replace hbel := belStep hbel hb2)
            have HO2 := Lib.hid (OwnR.alloc ho2 (.cells #[.bool s0, .int .i64 d0, .bool tb, .int .i64 v, .bool s2, .int .i64 d2] 24))
            clear ho2 hb2 CA hz2 zh0 zm0 zh1 zm1 zh2 zm2
            have y0 : (u2.alloc (.cells #[.bool s0, .int .i64 d0, .bool tb, .int .i64 v, .bool s2, .int .i64 d2] 24)).cell? ⟨u2.heap.size, 0, none⟩ = some (.bool s0) := by first | (simp; done) | (rw [World.cell?_alloc_at _ _ _ _ (by simp)]; rfl) | (rw [World.cell?_alloc_past _ _ _ (by simp <;> omega), World.cell?_alloc_at _ _ _ _ (by simp)]; rfl) | (rw [World.cell?_alloc_past _ _ _ (by simp <;> omega), World.cell?_alloc_past _ _ _ (by simp <;> omega), World.cell?_alloc_at _ _ _ _ (by simp)]; rfl)
            have y1 : (u2.alloc (.cells #[.bool s0, .int .i64 d0, .bool tb, .int .i64 v, .bool s2, .int .i64 d2] 24)).cell? ⟨u2.heap.size, 1, none⟩ = some (.int .i64 d0) := by first | (simp; done) | (rw [World.cell?_alloc_at _ _ _ _ (by simp)]; rfl) | (rw [World.cell?_alloc_past _ _ _ (by simp <;> omega), World.cell?_alloc_at _ _ _ _ (by simp)]; rfl) | (rw [World.cell?_alloc_past _ _ _ (by simp <;> omega), World.cell?_alloc_past _ _ _ (by simp <;> omega), World.cell?_alloc_at _ _ _ _ (by simp)]; rfl)
            have y2 : (u2.alloc (.cells #[.bool s0, .int .i64 d0, .bool tb, .int .i64 v, .bool s2, .int .i64 d2] 24)).cell? ⟨u2.heap.size, 2, none⟩ = some (.bool tb) := by first | (simp; done) | (rw [World.cell?_alloc_at _ _ _ _ (by simp)]; rfl) | (rw [World.cell?_alloc_past _ _ _ (by simp <;> omega), World.cell?_alloc_at _ _ _ _ (by simp)]; rfl) | (rw [World.cell?_alloc_past _ _ _ (by simp <;> omega), World.cell?_alloc_past _ _ _ (by simp <;> omega), World.cell?_alloc_at _ _ _ _ (by simp)]; rfl)
            have y3 : (u2.alloc (.cells #[.bool s0, .int .i64 d0, .bool tb, .int .i64 v, .bool s2, .int .i64 d2] 24)).cell? ⟨u2.heap.size, 3, none⟩ = some (.int .i64 v) := by first | (simp; done) | (rw [World.cell?_alloc_at _ _ _ _ (by simp)]; rfl) | (rw [World.cell?_alloc_past _ _ _ (by simp <;> omega), World.cell?_alloc_at _ _ _ _ (by simp)]; rfl) | (rw [World.cell?_alloc_past _ _ _ (by simp <;> omega), World.cell?_alloc_past _ _ _ (by simp <;> omega), World.cell?_alloc_at _ _ _ _ (by simp)]; rfl)
            have y4 : (u2.alloc (.cells #[.bool s0, .int .i64 d0, .bool tb, .int .i64 v, .bool s2, .int .i64 d2] 24)).cell? ⟨u2.heap.size, 4, none⟩ = some (.bool s2) := by first | (simp; done) | (rw [World.cell?_alloc_at _ _ _ _ (by simp)]; rfl) | (rw [World.cell?_alloc_past _ _ _ (by simp <;> omega), World.cell?_alloc_at _ _ _ _ (by simp)]; rfl) | (rw [World.cell?_alloc_past _ _ _ (by simp <;> omega), World.cell?_alloc_past _ _ _ (by simp <;> omega), World.cell?_alloc_at _ _ _ _ (by simp)]; rfl)
            have y5 : (u2.alloc (.cells #[.bool s0, .int .i64 d0, .bool tb, .int .i64 v, .bool s2, .int .i64 d2] 24)).cell? ⟨u2.heap.size, 5, none⟩ = some (.int .i64 d2) := by first | (simp; done) | (rw [World.cell?_alloc_at _ _ _ _ (by simp)]; rfl) | (rw [World.cell?_alloc_past _ _ _ (by simp <;> omega), World.cell?_alloc_at _ _ _ _ (by simp)]; rfl) | (rw [World.cell?_alloc_past _ _ _ (by simp <;> omega), World.cell?_alloc_past _ _ _ (by simp <;> omega), World.cell?_alloc_at _ _ _ _ (by simp)]; rfl)
            have hb2 := (by repeat (first | exact hbel | refine belAlloc ?_ _ | refine belDrew ?_ | refine belSet ?_ _ _ (by simp)) : Below W5.heap.size W5 (u2.alloc (.cells #[.bool s0, .int .i64 d0, .bool tb, .int .i64 v, .bool s2, .int .i64 d2] 24)))
            replace z0 := keepOnP z0 hb2
            replace z1 := keepOnP z1 hb2
            replace z2 := keepOnP z2 hb2
            replace z3 := keepOnP z3 hb2
            replace z4 := keepOnP z4 hb2
            replace z5 := keepOnP z5 hb2
            replace za0 := keepOnP za0 hb2
            replace za1 := keepOnP za1 hb2
            replace za2 := keepOnP za2 hb2
            replace za3 := keepOnP za3 hb2
            replace za4 := keepOnP za4 hb2
            replace za5 := keepOnP za5 hb2
            replace hw := belStep hw hb2
            clear hb2 hbel
            generalize u2.alloc (.cells #[.bool s0, .int .i64 d0, .bool tb, .int .i64 v, .bool s2, .int .i64 d2] 24) = W6 at *
            replace y0 := keep y0
            replace y1 := keep y1
            replace y2 := keep y2
            replace y3 := keep y3
            replace y4 := keep y4
            replace y5 := keep y5
            generalize u2.heap.size = N6 at *
            have hbel : Below W6.heap.size W6 W6 := Below.refl _ _
            clear u2
            obtain ⟨l2, hl2⟩ : ∃ l, E2.length = l := ⟨_, rfl⟩
            rw [hl2] at HO2 HTL hl3 ⊢
            have HL2 := Lib.hid hl2
            clear hl2
            have heq := fun (a : Bool) (c : Int) (u : World) => eq_cond_same a c u
            go_wp2
            have HB6 := Lib.hid hbel
            clear hbel
            go_loopw [20, 21] (fun tv i wr => ∃ (k : Nat) (I t : Int), I = k ∧ k ≤ 3 ∧ i = .int .i64 I ∧ tv = .int .i64 t ∧ Hid ((k = 0 ∧ t = 0) ∨ (k = 1 ∧ t = 0 + one1 s0 b0) ∨ (k = 2 ∧ t = 0 + one1 s0 b0 + one1 tb b1) ∨ (k = 3 ∧ t = 0 + one1 s0 b0 + one1 tb b1 + one1 s2 b2)) ∧ (0 ≤ t ∧ t ≤ k) ∧ Below W6.heap.size W6 wr) (fun _ i _ => 3 - (intOf i).toNat)
            case atStart => exact ⟨0, 0, 0, rfl, by omega, rfl, rfl, Lib.hid (.inl ⟨rfl, rfl⟩), by omega, HB6.out⟩
            case round =>
              obtain ⟨k, I, tt, hI, hk, rfl, rfl, HT, ⟨ht0, ht1⟩, hbel⟩ := hrel
              clear HB6
              rcases (show k = 0 ∨ k = 1 ∨ k = 2 ∨ k = 3 by omega) with rfl | rfl | rfl | rfl
              · obtain rfl : I = 0 := hI
                have hT := Lib.hid (show tt = 0 by have := HT.out; omega)
                clear HT
                rcases s0 with _ | _ <;> rcases b0 with _ | _
                · go_upto_region 21 with fail
                  have kk := fun d os => belStep hbel (below_regrown _ d os)
                  refine wp_region_quiet_below (by kernel_rfl) (by kernel_rfl) ?_
                  repeat ((with_reducible refine wpQuiet_step (fun K hK => ?_)); go_simp; (try (rw [if_neg]; rotate_left; · decide)); first | ((with_reducible refine hK _ ?_); clear hK K) | (apply Exists.intro; refine ⟨fun _ => ?_, hK _ ?_⟩; (fail); clear hK K))
                  refine wpQuiet_nil (fun w1 hw1 => ?_)
                  replace hbel := belStep hbel (bel_of_class hw1)
                  clear hw1 kk
                  go_upto_region 23 with fail
                  have kk := fun d os => belStep hbel (below_regrown _ d os)
                  refine wp_region_quiet_below (by kernel_rfl) (by kernel_rfl) ?_
                  repeat ((with_reducible refine wpQuiet_step (fun K hK => ?_)); go_simp; (try (rw [if_neg]; rotate_left; · decide)); first | ((with_reducible refine hK _ ?_); clear hK K) | (apply Exists.intro; refine ⟨fun _ => ?_, hK _ ?_⟩; (fail); clear hK K))
                  refine wpQuiet_nil (fun w1 hw1 => ?_)
                  replace hbel := belStep hbel (bel_of_class hw1)
                  clear hw1 kk
                  go_wp2
                  go_roundw
                  case rel => exact ⟨1, 1, tt, rfl, by omega, rfl, rfl, Lib.hid (.inr (.inl ⟨rfl, by rw [hT.out]; simp [one1]⟩)), by omega, hbel⟩
                  case measure => simp [intOf]
                · go_upto_region 21 with fail
                  have kk := fun d os => belStep hbel (below_regrown _ d os)
                  refine wp_region_quiet_below (by kernel_rfl) (by kernel_rfl) ?_
                  repeat ((with_reducible refine wpQuiet_step (fun K hK => ?_)); go_simp; (try (rw [if_neg]; rotate_left; · decide)); first | ((with_reducible refine hK _ ?_); clear hK K) | (apply Exists.intro; refine ⟨fun _ => ?_, hK _ ?_⟩; (fail); clear hK K))
                  refine wpQuiet_nil (fun w1 hw1 => ?_)
                  replace hbel := belStep hbel (bel_of_class hw1)
                  clear hw1 kk
                  go_upto_region 23 with fail
                  have kk := fun d os => belStep hbel (below_regrown _ d os)
                  refine wp_region_quiet_below (by kernel_rfl) (by kernel_rfl) ?_
                  repeat ((with_reducible refine wpQuiet_step (fun K hK => ?_)); go_simp; (try (rw [if_neg]; rotate_left; · decide)); first | ((with_reducible refine hK _ ?_); clear hK K) | (apply Exists.intro; refine ⟨fun _ => ?_, hK _ ?_⟩; (fail); clear hK K))
                  refine wpQuiet_nil (fun w1 hw1 => ?_)
                  replace hbel := belStep hbel (bel_of_class hw1)
                  clear hw1 kk
                  go_wp2
                  go_roundw
                  case rel => exact ⟨1, 1, tt + 1, rfl, by omega, rfl, rfl, Lib.hid (.inr (.inl ⟨rfl, by rw [hT.out]; rfl⟩)), by omega, hbel⟩
                  case measure => simp [intOf]
                · go_upto_region 21 with fail
                  have kk := fun d os => belStep hbel (below_regrown _ d os)
                  refine wp_region_quiet_below (by kernel_rfl) (by kernel_rfl) ?_
                  repeat ((with_reducible refine wpQuiet_step (fun K hK => ?_)); go_simp; (try (rw [if_neg]; rotate_left; · decide)); first | ((with_reducible refine hK _ ?_); clear hK K) | (apply Exists.intro; refine ⟨fun _ => ?_, hK _ ?_⟩; (fail); clear hK K))
                  refine wpQuiet_nil (fun w1 hw1 => ?_)
                  replace hbel := belStep hbel (bel_of_class hw1)
                  clear hw1 kk
                  go_upto_region 23 with fail
                  have kk := fun d os => belStep hbel (below_regrown _ d os)
                  refine wp_region_quiet_below (by kernel_rfl) (by kernel_rfl) ?_
                  repeat ((with_reducible refine wpQuiet_step (fun K hK => ?_)); go_simp; (try (rw [if_neg]; rotate_left; · decide)); first | ((with_reducible refine hK _ ?_); clear hK K) | (apply Exists.intro; refine ⟨fun _ => ?_, hK _ ?_⟩; (fail); clear hK K))
                  refine wpQuiet_nil (fun w1 hw1 => ?_)
                  replace hbel := belStep hbel (bel_of_class hw1)
                  clear hw1 kk
                  go_wp2
                  go_roundw
                  case rel => exact ⟨1, 1, tt + 1, rfl, by omega, rfl, rfl, Lib.hid (.inr (.inl ⟨rfl, by rw [hT.out]; rfl⟩)), by omega, hbel⟩
                  case measure => simp [intOf]
                · go_upto_region 21 with fail
                  have kk := fun d os => belStep hbel (below_regrown _ d os)
                  refine wp_region_quiet_below (by kernel_rfl) (by kernel_rfl) ?_
                  repeat ((with_reducible refine wpQuiet_step (fun K hK => ?_)); go_simp; (try (rw [if_neg]; rotate_left; · decide)); first | ((with_reducible refine hK _ ?_); clear hK K) | (apply Exists.intro; refine ⟨fun _ => ?_, hK _ ?_⟩; (fail); clear hK K))
                  refine wpQuiet_nil (fun w1 hw1 => ?_)
                  replace hbel := belStep hbel (bel_of_class hw1)
                  clear hw1 kk
                  go_upto_region 23 with fail
                  have kk := fun d os => belStep hbel (below_regrown _ d os)
                  refine wp_region_quiet_below (by kernel_rfl) (by kernel_rfl) ?_
                  repeat ((with_reducible refine wpQuiet_step (fun K hK => ?_)); go_simp; (try (rw [if_neg]; rotate_left; · decide)); first | ((with_reducible refine hK _ ?_); clear hK K) | (apply Exists.intro; refine ⟨fun _ => ?_, hK _ ?_⟩; (fail); clear hK K))
                  refine wpQuiet_nil (fun w1 hw1 => ?_)
                  replace hbel := belStep hbel (bel_of_class hw1)
                  clear hw1 kk
                  go_wp2
                  go_roundw
                  case rel => exact ⟨1, 1, tt, rfl, by omega, rfl, rfl, Lib.hid (.inr (.inl ⟨rfl, by rw [hT.out]; simp [one1]⟩)), by omega, hbel⟩
                  case measure => simp [intOf]
              · obtain rfl : I = 1 := hI
                have hT := Lib.hid (show tt = 0 + one1 s0 b0 by have := HT.out; omega)
                clear HT
                rcases tb with _ | _ <;> rcases b1 with _ | _
                · go_upto_region 21 with fail
                  have kk := fun d os => belStep hbel (below_regrown _ d os)
                  refine wp_region_quiet_below (by kernel_rfl) (by kernel_rfl) ?_
                  repeat ((with_reducible refine wpQuiet_step (fun K hK => ?_)); go_simp; (try (rw [if_neg]; rotate_left; · decide)); first | ((with_reducible refine hK _ ?_); clear hK K) | (apply Exists.intro; refine ⟨fun _ => ?_, hK _ ?_⟩; (fail); clear hK K))
                  refine wpQuiet_nil (fun w1 hw1 => ?_)
                  replace hbel := belStep hbel (bel_of_class hw1)
                  clear hw1 kk
                  go_upto_region 23 with fail
                  have kk := fun d os => belStep hbel (below_regrown _ d os)
                  refine wp_region_quiet_below (by kernel_rfl) (by kernel_rfl) ?_
                  repeat ((with_reducible refine wpQuiet_step (fun K hK => ?_)); go_simp; (try (rw [if_neg]; rotate_left; · decide)); first | ((with_reducible refine hK _ ?_); clear hK K) | (apply Exists.intro; refine ⟨fun _ => ?_, hK _ ?_⟩; (fail); clear hK K))
                  refine wpQuiet_nil (fun w1 hw1 => ?_)
                  replace hbel := belStep hbel (bel_of_class hw1)
                  clear hw1 kk
                  go_wp2
                  go_roundw
                  case rel => exact ⟨2, 2, tt, rfl, by omega, rfl, rfl, Lib.hid (.inr (.inr (.inl ⟨rfl, by rw [hT.out]; simp [one1]⟩))), by omega, hbel⟩
                  case measure => simp [intOf]
                · go_upto_region 21 with fail
                  have kk := fun d os => belStep hbel (below_regrown _ d os)
                  refine wp_region_quiet_below (by kernel_rfl) (by kernel_rfl) ?_
                  repeat ((with_reducible refine wpQuiet_step (fun K hK => ?_)); go_simp; (try (rw [if_neg]; rotate_left; · decide)); first | ((with_reducible refine hK _ ?_); clear hK K) | (apply Exists.intro; refine ⟨fun _ => ?_, hK _ ?_⟩; (fail); clear hK K))
                  refine wpQuiet_nil (fun w1 hw1 => ?_)
                  replace hbel := belStep hbel (bel_of_class hw1)
                  clear hw1 kk
                  go_upto_region 23 with fail
                  have kk := fun d os => belStep hbel (below_regrown _ d os)
                  refine wp_region_quiet_below (by kernel_rfl) (by kernel_rfl) ?_
                  repeat ((with_reducible refine wpQuiet_step (fun K hK => ?_)); go_simp; (try (rw [if_neg]; rotate_left; · decide)); first | ((with_reducible refine hK _ ?_); clear hK K) | (apply Exists.intro; refine ⟨fun _ => ?_, hK _ ?_⟩; (fail); clear hK K))
                  refine wpQuiet_nil (fun w1 hw1 => ?_)
                  replace hbel := belStep hbel (bel_of_class hw1)
                  clear hw1 kk
                  go_wp2
                  go_roundw
                  case rel => exact ⟨2, 2, tt + 1, rfl, by omega, rfl, rfl, Lib.hid (.inr (.inr (.inl ⟨rfl, by rw [hT.out]; rfl⟩))), by omega, hbel⟩
                  case measure => simp [intOf]
                · go_upto_region 21 with fail
                  have kk := fun d os => belStep hbel (below_regrown _ d os)
                  refine wp_region_quiet_below (by kernel_rfl) (by kernel_rfl) ?_
                  repeat ((with_reducible refine wpQuiet_step (fun K hK => ?_)); go_simp; (try (rw [if_neg]; rotate_left; · decide)); first | ((with_reducible refine hK _ ?_); clear hK K) | (apply Exists.intro; refine ⟨fun _ => ?_, hK _ ?_⟩; (fail); clear hK K))
                  refine wpQuiet_nil (fun w1 hw1 => ?_)
                  replace hbel := belStep hbel (bel_of_class hw1)
                  clear hw1 kk
                  go_upto_region 23 with fail
                  have kk := fun d os => belStep hbel (below_regrown _ d os)
                  refine wp_region_quiet_below (by kernel_rfl) (by kernel_rfl) ?_
                  repeat ((with_reducible refine wpQuiet_step (fun K hK => ?_)); go_simp; (try (rw [if_neg]; rotate_left; · decide)); first | ((with_reducible refine hK _ ?_); clear hK K) | (apply Exists.intro; refine ⟨fun _ => ?_, hK _ ?_⟩; (fail); clear hK K))
                  refine wpQuiet_nil (fun w1 hw1 => ?_)
                  replace hbel := belStep hbel (bel_of_class hw1)
                  clear hw1 kk
                  go_wp2
                  go_roundw
                  case rel => exact ⟨2, 2, tt + 1, rfl, by omega, rfl, rfl, Lib.hid (.inr (.inr (.inl ⟨rfl, by rw [hT.out]; rfl⟩))), by omega, hbel⟩
                  case measure => simp [intOf]
                · go_upto_region 21 with fail
                  have kk := fun d os => belStep hbel (below_regrown _ d os)
                  refine wp_region_quiet_below (by kernel_rfl) (by kernel_rfl) ?_
                  repeat ((with_reducible refine wpQuiet_step (fun K hK => ?_)); go_simp; (try (rw [if_neg]; rotate_left; · decide)); first | ((with_reducible refine hK _ ?_); clear hK K) | (apply Exists.intro; refine ⟨fun _ => ?_, hK _ ?_⟩; (fail); clear hK K))
                  refine wpQuiet_nil (fun w1 hw1 => ?_)
                  replace hbel := belStep hbel (bel_of_class hw1)
                  clear hw1 kk
                  go_upto_region 23 with fail
                  have kk := fun d os => belStep hbel (below_regrown _ d os)
                  refine wp_region_quiet_below (by kernel_rfl) (by kernel_rfl) ?_
                  repeat ((with_reducible refine wpQuiet_step (fun K hK => ?_)); go_simp; (try (rw [if_neg]; rotate_left; · decide)); first | ((with_reducible refine hK _ ?_); clear hK K) | (apply Exists.intro; refine ⟨fun _ => ?_, hK _ ?_⟩; (fail); clear hK K))
                  refine wpQuiet_nil (fun w1 hw1 => ?_)
                  replace hbel := belStep hbel (bel_of_class hw1)
                  clear hw1 kk
                  go_wp2
                  go_roundw
                  case rel => exact ⟨2, 2, tt, rfl, by omega, rfl, rfl, Lib.hid (.inr (.inr (.inl ⟨rfl, by rw [hT.out]; simp [one1]⟩))), by omega, hbel⟩
                  case measure => simp [intOf]
              · obtain rfl : I = 2 := hI
                have hT := Lib.hid (show tt = 0 + one1 s0 b0 + one1 tb b1 by have := HT.out; omega)
                clear HT
                rcases s2 with _ | _ <;> rcases b2 with _ | _
                · go_upto_region 21 with fail
                  have kk := fun d os => belStep hbel (below_regrown _ d os)
                  refine wp_region_quiet_below (by kernel_rfl) (by kernel_rfl) ?_
                  repeat ((with_reducible refine wpQuiet_step (fun K hK => ?_)); go_simp; (try (rw [if_neg]; rotate_left; · decide)); first | ((with_reducible refine hK _ ?_); clear hK K) | (apply Exists.intro; refine ⟨fun _ => ?_, hK _ ?_⟩; (fail); clear hK K))
                  refine wpQuiet_nil (fun w1 hw1 => ?_)
                  replace hbel := belStep hbel (bel_of_class hw1)
                  clear hw1 kk
                  go_upto_region 23 with fail
                  have kk := fun d os => belStep hbel (below_regrown _ d os)
                  refine wp_region_quiet_below (by kernel_rfl) (by kernel_rfl) ?_
                  repeat ((with_reducible refine wpQuiet_step (fun K hK => ?_)); go_simp; (try (rw [if_neg]; rotate_left; · decide)); first | ((with_reducible refine hK _ ?_); clear hK K) | (apply Exists.intro; refine ⟨fun _ => ?_, hK _ ?_⟩; (fail); clear hK K))
                  refine wpQuiet_nil (fun w1 hw1 => ?_)
                  replace hbel := belStep hbel (bel_of_class hw1)
                  clear hw1 kk
                  go_wp2
                  go_roundw
                  case rel => exact ⟨3, 3, tt, rfl, by omega, rfl, rfl, Lib.hid (.inr (.inr (.inr ⟨rfl, by rw [hT.out]; simp [one1]⟩))), by omega, hbel⟩
                  case measure => simp [intOf]
                · go_upto_region 21 with fail
                  have kk := fun d os => belStep hbel (below_regrown _ d os)
                  refine wp_region_quiet_below (by kernel_rfl) (by kernel_rfl) ?_
                  repeat ((with_reducible refine wpQuiet_step (fun K hK => ?_)); go_simp; (try (rw [if_neg]; rotate_left; · decide)); first | ((with_reducible refine hK _ ?_); clear hK K) | (apply Exists.intro; refine ⟨fun _ => ?_, hK _ ?_⟩; (fail); clear hK K))
                  refine wpQuiet_nil (fun w1 hw1 => ?_)
                  replace hbel := belStep hbel (bel_of_class hw1)
                  clear hw1 kk
                  go_upto_region 23 with fail
                  have kk := fun d os => belStep hbel (below_regrown _ d os)
                  refine wp_region_quiet_below (by kernel_rfl) (by kernel_rfl) ?_
                  repeat ((with_reducible refine wpQuiet_step (fun K hK => ?_)); go_simp; (try (rw [if_neg]; rotate_left; · decide)); first | ((with_reducible refine hK _ ?_); clear hK K) | (apply Exists.intro; refine ⟨fun _ => ?_, hK _ ?_⟩; (fail); clear hK K))
                  refine wpQuiet_nil (fun w1 hw1 => ?_)
                  replace hbel := belStep hbel (bel_of_class hw1)
                  clear hw1 kk
                  go_wp2
                  go_roundw
                  case rel => exact ⟨3, 3, tt + 1, rfl, by omega, rfl, rfl, Lib.hid (.inr (.inr (.inr ⟨rfl, by rw [hT.out]; rfl⟩))), by omega, hbel⟩
                  case measure => simp [intOf]
                · go_upto_region 21 with fail
                  have kk := fun d os => belStep hbel (below_regrown _ d os)
                  refine wp_region_quiet_below (by kernel_rfl) (by kernel_rfl) ?_
                  repeat ((with_reducible refine wpQuiet_step (fun K hK => ?_)); go_simp; (try (rw [if_neg]; rotate_left; · decide)); first | ((with_reducible refine hK _ ?_); clear hK K) | (apply Exists.intro; refine ⟨fun _ => ?_, hK _ ?_⟩; (fail); clear hK K))
                  refine wpQuiet_nil (fun w1 hw1 => ?_)
                  replace hbel := belStep hbel (bel_of_class hw1)
                  clear hw1 kk
                  go_upto_region 23 with fail
                  have kk := fun d os => belStep hbel (below_regrown _ d os)
                  refine wp_region_quiet_below (by kernel_rfl) (by kernel_rfl) ?_
                  repeat ((with_reducible refine wpQuiet_step (fun K hK => ?_)); go_simp; (try (rw [if_neg]; rotate_left; · decide)); first | ((with_reducible refine hK _ ?_); clear hK K) | (apply Exists.intro; refine ⟨fun _ => ?_, hK _ ?_⟩; (fail); clear hK K))
                  refine wpQuiet_nil (fun w1 hw1 => ?_)
                  replace hbel := belStep hbel (bel_of_class hw1)
                  clear hw1 kk
                  go_wp2
                  go_roundw
                  case rel => exact ⟨3, 3, tt + 1, rfl, by omega, rfl, rfl, Lib.hid (.inr (.inr (.inr ⟨rfl, by rw [hT.out]; rfl⟩))), by omega, hbel⟩
                  case measure => simp [intOf]
                · go_upto_region 21 with fail
                  have kk := fun d os => belStep hbel (below_regrown _ d os)
                  refine wp_region_quiet_below (by kernel_rfl) (by kernel_rfl) ?_
                  repeat ((with_reducible refine wpQuiet_step (fun K hK => ?_)); go_simp; (try (rw [if_neg]; rotate_left; · decide)); first | ((with_reducible refine hK _ ?_); clear hK K) | (apply Exists.intro; refine ⟨fun _ => ?_, hK _ ?_⟩; (fail); clear hK K))
                  refine wpQuiet_nil (fun w1 hw1 => ?_)
                  replace hbel := belStep hbel (bel_of_class hw1)
                  clear hw1 kk
                  go_upto_region 23 with fail
                  have kk := fun d os => belStep hbel (below_regrown _ d os)
                  refine wp_region_quiet_below (by kernel_rfl) (by kernel_rfl) ?_
                  repeat ((with_reducible refine wpQuiet_step (fun K hK => ?_)); go_simp; (try (rw [if_neg]; rotate_left; · decide)); first | ((with_reducible refine hK _ ?_); clear hK K) | (apply Exists.intro; refine ⟨fun _ => ?_, hK _ ?_⟩; (fail); clear hK K))
                  refine wpQuiet_nil (fun w1 hw1 => ?_)
                  replace hbel := belStep hbel (bel_of_class hw1)
                  clear hw1 kk
                  go_wp2
                  go_roundw
                  case rel => exact ⟨3, 3, tt, rfl, by omega, rfl, rfl, Lib.hid (.inr (.inr (.inr ⟨rfl, by rw [hT.out]; simp [one1]⟩))), by omega, hbel⟩
                  case measure => simp [intOf]
              · obtain rfl : I = 3 := hI
                have hT := Lib.hid (show tt = (l2 : Int) by have := HT.out; have := HTL.out; omega)
                clear HT ht0 ht1
                obtain rfl := hT.out
                clear hT HTL z0 z1 z2 z3 z4 z5 za0 za1 za2 za3 za4 za5 y0 y1 y2 y3 y4 y5
                have HO3 := Lib.hid (HO2.out.later hbel)
                clear HO2
                go_wp2
                have HB7 := Lib.hid hbel
                clear hbel
                rcases own_shape HO3.out with ⟨e1, hn⟩ | ⟨gf, cp, e1, hgf1, hgf2, _, _⟩
                · simp only [Value.slice.injEq] at e1
                  obtain ⟨rfl, _, rfl⟩ := e1
                  obtain rfl : l2 = 0 := by have := HL2.out; omega
                  go_loopw [22] (fun i wr => i = .int .i64 0 ∧ Below W6.heap.size W6 wr) (fun i _ => 0)
                  case atStart => exact ⟨rfl, HB7.out⟩
                  case round =>
                    obtain ⟨rfl, hbel⟩ := hrel
                    clear HB7
                    go_wp2
                    go_ret
                    exact ⟨rfl, belStep hw hbel⟩
                · simp only [Value.slice.injEq] at e1
                  obtain ⟨rfl, _, rfl⟩ := e1
                  go_loopw [22] (fun i wr => ∃ k : Nat, k ≤ l2 ∧ i = .int .i64 k ∧ Hid (OwnR wr W5.heap.size 33 4 (.slice (some ⟨gf, 0, none⟩) l2 fc) l2 (evsCells E2)) ∧ Below W6.heap.size W6 wr) (fun i _ => l2 - (intOf i).toNat)
                  case atStart => exact ⟨0, Nat.zero_le _, rfl, HO3, HB7.out⟩
                  case round =>
                    obtain ⟨k, hk, rfl, HO4, hbel⟩ := hrel
                    clear HB7 HO3
                    by_cases hlt : k < l2
                    · obtain ⟨x, hx⟩ : ∃ x, E2[k]? = some x := ⟨E2[k]'(by rw [HL2.out]; exact hlt), List.getElem?_eq_getElem _⟩
                      have hc := (show wr.cell? ⟨gf, k * 4, none⟩ = some (.int .i64 x.1) from by rw [World.ownsRow.cellAt HO4.out (k * 4) (by omega)]; exact evs_cell hx)
                      have hx1 := HTK.out x (List.mem_of_getElem? hx)
                      obtain ⟨x1, hx2⟩ : ∃ z, x.1 = z := ⟨_, rfl⟩
                      rw [hx2] at hc hx1
                      clear hx hx2
                      have hd : decide ((k : Int) < (l2 : Int)) = true := decide_eq_true (by omega)
                      rcases hx1 with rfl | rfl
                      all_goals
                        go_wp2
                        go_roundw
                        case rel => exact ⟨k + 1, by omega, by push_cast; rfl, HO4, hbel⟩
                        case measure => simp [intOf] <;> omega
                    · obtain rfl : k = l2 := by omega
                      have hd : decide ((k : Int) < (k : Int)) = false := decide_eq_false (by omega)
                      go_wp2
                      go_ret
                      exact ⟨rfl, belStep hw hbel⟩
          · with_reducible rw [show ((2 : Nat) : Int) = 2 from rfl]
            have bl := xlB _ hbel
            have bh := xhB _ hbel
            have bm := xmB _ hbel
            have ba := HAA.out
            have n1 := Blk.ne bh ba (by simp)
            have n2 := Blk.ne bm ba (by simp)
            have ch := bh.cell (j := 2) rfl
            have cm := bm.cell (j := 2) rfl
            have fh := bh.frozen
            have fm := bm.frozen
            have cm2 := (bm.far (a := ⟨w.heap.size + 1, 2, none⟩) (show w.heap.size + 1 ≠ w.heap.size + 1 + 1 by omega) (.bool (!h2))).cell (j := 2) rfl
            have fm2 := (bm.far (a := ⟨w.heap.size + 1, 2, none⟩) (show w.heap.size + 1 ≠ w.heap.size + 1 + 1 by omega) (.bool (!h2))).frozen
            go_upto_region 16 with fail
            have vl := ((bl).far (a := ⟨w.heap.size + 1, 2, none⟩) (show w.heap.size + 1 ≠ w.heap.size by omega) (.bool (!h2))).far (a := ⟨w.heap.size + 1 + 1, 2, none⟩) (show w.heap.size + 1 + 1 ≠ w.heap.size by omega) (.bool (!m2))
            have va := ((ba).far (a := ⟨w.heap.size + 1, 2, none⟩) n1 (.bool (!h2))).far (a := ⟨w.heap.size + 1 + 1, 2, none⟩) n2 (.bool (!m2))
            have vh : Blk _ _ [.bool (h0), .bool (h1), .bool (!h2)] 25 := (bh.set 2 (.bool (!h2))).far (a := ⟨w.heap.size + 1 + 1, 2, none⟩) (show w.heap.size + 1 + 1 ≠ w.heap.size + 1 by omega) (.bool (!m2))
            have vm : Blk _ _ [.bool (m0), .bool (m1), .bool (!m2)] 25 := (bm.far (a := ⟨w.heap.size + 1, 2, none⟩) (show w.heap.size + 1 ≠ w.heap.size + 1 + 1 by omega) (.bool (!h2))).set 2 (.bool (!m2))
            have hw5 := belSet (belSet (belStep hw hbel) ⟨w.heap.size + 1, 2, none⟩ (.bool (!h2)) (by show w.heap.size ≤ w.heap.size + 1; omega)) ⟨w.heap.size + 1 + 1, 2, none⟩ (.bool (!m2)) (by show w.heap.size ≤ w.heap.size + 1 + 1; omega)
            clear bl bh bm ba n1 n2 ch cm fh fm cm2 fm2 hbel hw xlB xlF xhB xhF xmB xmF xl0 xl1 xl2 xl3 xl4 xl5 xh0 xm0 xh1 xm1 xh2 xm2
            generalize (wr.setCell ⟨w.heap.size + 1, 2, none⟩ (.bool (!h2))).setCell ⟨w.heap.size + 1 + 1, 2, none⟩ (.bool (!m2)) = W5 at *
            have hw := hw5
            clear hw5
            have z0 := keep (vl.cell (j := 0) rfl)
            have z1 := keep (vl.cell (j := 1) rfl)
            have z2 := keep (vl.cell (j := 2) rfl)
            have z3 := keep (vl.cell (j := 3) rfl)
            have z4 := keep (vl.cell (j := 4) rfl)
            have z5 := keep (vl.cell (j := 5) rfl)
            have zh0 := keep (vh.cell (j := 0) rfl)
            have zh1 := keep (vh.cell (j := 1) rfl)
            have zh2 := keep (vh.cell (j := 2) rfl)
            have zm0 := keep (vm.cell (j := 0) rfl)
            have zm1 := keep (vm.cell (j := 1) rfl)
            have zm2 := keep (vm.cell (j := 2) rfl)
            have za0 := keep (va.cell (j := 0) rfl)
            have za1 := keep (va.cell (j := 1) rfl)
            have za2 := keep (va.cell (j := 2) rfl)
            have za3 := keep (va.cell (j := 3) rfl)
            have za4 := keep (va.cell (j := 4) rfl)
            have za5 := keep (va.cell (j := 5) rfl)
            clear vl vh vm va
            have hbel : Below W5.heap.size W5 W5 := Below.refl _ _
            obtain ⟨tb, htb⟩ : ∃ z, stepOn b2 c2 (!h2) (!m2) fresh n = z := ⟨_, rfl⟩
            obtain ⟨v, hv⟩ : ∃ z, stepCalm b2 c2 (!h2) (!m2) fresh n = z := ⟨_, rfl⟩
            obtain ⟨E2, hE2⟩ : ∃ z, turnEv b0 s0 0 ++ turnEv b1 s1 1 ++ turnEv b2 tb 2 = z := ⟨_, rfl⟩
            have CA := Lib.hid (fun u => all_at b0 c0 b1 c1 b2 c2 (h0) (h1) (!h2) (m0) (m1) (!m2) fresh n s0 s1 tb d0 d1 v E2 u (HF.out _ _ _ _ _ _) HS0.out HS1.out htb HD0.out HD1.out hv hE2)
            have HTL := Lib.hid (turns_len hE2)
            have HTK := Lib.hid (turns_kind hE2)
            have hl3 := turns_few hE2
            clear hE2 htb hv
            have HV := Lib.hid hl3
            go_upto_region 17 with (go_at_call 7; (with_reducible refine (CA.out _).mono ?_); rintro e u2 ⟨⟨fa, fc, rfl, ho2⟩, hb2⟩; have hz2 := hbel.size; replace hbel := belStep hbel hb2)
            have HO2 := Lib.hid (OwnR.alloc ho2 (.cells #[.bool s0, .int .i64 d0, .bool s1, .int .i64 d1, .bool tb, .int .i64 v] 24))
            clear ho2 hb2 CA hz2 zh0 zm0 zh1 zm1 zh2 zm2
            have y0 : (u2.alloc (.cells #[.bool s0, .int .i64 d0, .bool s1, .int .i64 d1, .bool tb, .int .i64 v] 24)).cell? ⟨u2.heap.size, 0, none⟩ = some (.bool s0) := by first | (simp; done) | (rw [World.cell?_alloc_at _ _ _ _ (by simp)]; rfl) | (rw [World.cell?_alloc_past _ _ _ (by simp <;> omega), World.cell?_alloc_at _ _ _ _ (by simp)]; rfl) | (rw [World.cell?_alloc_past _ _ _ (by simp <;> omega), World.cell?_alloc_past _ _ _ (by simp <;> omega), World.cell?_alloc_at _ _ _ _ (by simp)]; rfl)
            have y1 : (u2.alloc (.cells #[.bool s0, .int .i64 d0, .bool s1, .int .i64 d1, .bool tb, .int .i64 v] 24)).cell? ⟨u2.heap.size, 1, none⟩ = some (.int .i64 d0) := by first | (simp; done) | (rw [World.cell?_alloc_at _ _ _ _ (by simp)]; rfl) | (rw [World.cell?_alloc_past _ _ _ (by simp <;> omega), World.cell?_alloc_at _ _ _ _ (by simp)]; rfl) | (rw [World.cell?_alloc_past _ _ _ (by simp <;> omega), World.cell?_alloc_past _ _ _ (by simp <;> omega), World.cell?_alloc_at _ _ _ _ (by simp)]; rfl)
            have y2 : (u2.alloc (.cells #[.bool s0, .int .i64 d0, .bool s1, .int .i64 d1, .bool tb, .int .i64 v] 24)).cell? ⟨u2.heap.size, 2, none⟩ = some (.bool s1) := by first | (simp; done) | (rw [World.cell?_alloc_at _ _ _ _ (by simp)]; rfl) | (rw [World.cell?_alloc_past _ _ _ (by simp <;> omega), World.cell?_alloc_at _ _ _ _ (by simp)]; rfl) | (rw [World.cell?_alloc_past _ _ _ (by simp <;> omega), World.cell?_alloc_past _ _ _ (by simp <;> omega), World.cell?_alloc_at _ _ _ _ (by simp)]; rfl)
            have y3 : (u2.alloc (.cells #[.bool s0, .int .i64 d0, .bool s1, .int .i64 d1, .bool tb, .int .i64 v] 24)).cell? ⟨u2.heap.size, 3, none⟩ = some (.int .i64 d1) := by first | (simp; done) | (rw [World.cell?_alloc_at _ _ _ _ (by simp)]; rfl) | (rw [World.cell?_alloc_past _ _ _ (by simp <;> omega), World.cell?_alloc_at _ _ _ _ (by simp)]; rfl) | (rw [World.cell?_alloc_past _ _ _ (by simp <;> omega), World.cell?_alloc_past _ _ _ (by simp <;> omega), World.cell?_alloc_at _ _ _ _ (by simp)]; rfl)
            have y4 : (u2.alloc (.cells #[.bool s0, .int .i64 d0, .bool s1, .int .i64 d1, .bool tb, .int .i64 v] 24)).cell? ⟨u2.heap.size, 4, none⟩ = some (.bool tb) := by first | (simp; done) | (rw [World.cell?_alloc_at _ _ _ _ (by simp)]; rfl) | (rw [World.cell?_alloc_past _ _ _ (by simp <;> omega), World.cell?_alloc_at _ _ _ _ (by simp)]; rfl) | (rw [World.cell?_alloc_past _ _ _ (by simp <;> omega), World.cell?_alloc_past _ _ _ (by simp <;> omega), World.cell?_alloc_at _ _ _ _ (by simp)]; rfl)
            have y5 : (u2.alloc (.cells #[.bool s0, .int .i64 d0, .bool s1, .int .i64 d1, .bool tb, .int .i64 v] 24)).cell? ⟨u2.heap.size, 5, none⟩ = some (.int .i64 v) := by first | (simp; done) | (rw [World.cell?_alloc_at _ _ _ _ (by simp)]; rfl) | (rw [World.cell?_alloc_past _ _ _ (by simp <;> omega), World.cell?_alloc_at _ _ _ _ (by simp)]; rfl) | (rw [World.cell?_alloc_past _ _ _ (by simp <;> omega), World.cell?_alloc_past _ _ _ (by simp <;> omega), World.cell?_alloc_at _ _ _ _ (by simp)]; rfl)
            have hb2 := (by repeat (first | exact hbel | refine belAlloc ?_ _ | refine belDrew ?_ | refine belSet ?_ _ _ (by simp)) : Below W5.heap.size W5 (u2.alloc (.cells #[.bool s0, .int .i64 d0, .bool s1, .int .i64 d1, .bool tb, .int .i64 v] 24)))
            replace z0 := keepOnP z0 hb2
            replace z1 := keepOnP z1 hb2
            replace z2 := keepOnP z2 hb2
            replace z3 := keepOnP z3 hb2
            replace z4 := keepOnP z4 hb2
            replace z5 := keepOnP z5 hb2
            replace za0 := keepOnP za0 hb2
            replace za1 := keepOnP za1 hb2
            replace za2 := keepOnP za2 hb2
            replace za3 := keepOnP za3 hb2
            replace za4 := keepOnP za4 hb2
            replace za5 := keepOnP za5 hb2
            replace hw := belStep hw hb2
            clear hb2 hbel
            generalize u2.alloc (.cells #[.bool s0, .int .i64 d0, .bool s1, .int .i64 d1, .bool tb, .int .i64 v] 24) = W6 at *
            replace y0 := keep y0
            replace y1 := keep y1
            replace y2 := keep y2
            replace y3 := keep y3
            replace y4 := keep y4
            replace y5 := keep y5
            generalize u2.heap.size = N6 at *
            have hbel : Below W6.heap.size W6 W6 := Below.refl _ _
            clear u2
            obtain ⟨l2, hl2⟩ : ∃ l, E2.length = l := ⟨_, rfl⟩
            rw [hl2] at HO2 HTL hl3 ⊢
            have HL2 := Lib.hid hl2
            clear hl2
            have heq := fun (a : Bool) (c : Int) (u : World) => eq_cond_same a c u
            go_wp2
            have HB6 := Lib.hid hbel
            clear hbel
            go_loopw [20, 21] (fun tv i wr => ∃ (k : Nat) (I t : Int), I = k ∧ k ≤ 3 ∧ i = .int .i64 I ∧ tv = .int .i64 t ∧ Hid ((k = 0 ∧ t = 0) ∨ (k = 1 ∧ t = 0 + one1 s0 b0) ∨ (k = 2 ∧ t = 0 + one1 s0 b0 + one1 s1 b1) ∨ (k = 3 ∧ t = 0 + one1 s0 b0 + one1 s1 b1 + one1 tb b2)) ∧ (0 ≤ t ∧ t ≤ k) ∧ Below W6.heap.size W6 wr) (fun _ i _ => 3 - (intOf i).toNat)
            case atStart => exact ⟨0, 0, 0, rfl, by omega, rfl, rfl, Lib.hid (.inl ⟨rfl, rfl⟩), by omega, HB6.out⟩
            case round =>
              obtain ⟨k, I, tt, hI, hk, rfl, rfl, HT, ⟨ht0, ht1⟩, hbel⟩ := hrel
              clear HB6
              rcases (show k = 0 ∨ k = 1 ∨ k = 2 ∨ k = 3 by omega) with rfl | rfl | rfl | rfl
              · obtain rfl : I = 0 := hI
                have hT := Lib.hid (show tt = 0 by have := HT.out; omega)
                clear HT
                rcases s0 with _ | _ <;> rcases b0 with _ | _
                · go_upto_region 21 with fail
                  have kk := fun d os => belStep hbel (below_regrown _ d os)
                  refine wp_region_quiet_below (by kernel_rfl) (by kernel_rfl) ?_
                  repeat ((with_reducible refine wpQuiet_step (fun K hK => ?_)); go_simp; (try (rw [if_neg]; rotate_left; · decide)); first | ((with_reducible refine hK _ ?_); clear hK K) | (apply Exists.intro; refine ⟨fun _ => ?_, hK _ ?_⟩; (fail); clear hK K))
                  refine wpQuiet_nil (fun w1 hw1 => ?_)
                  replace hbel := belStep hbel (bel_of_class hw1)
                  clear hw1 kk
                  go_upto_region 23 with fail
                  have kk := fun d os => belStep hbel (below_regrown _ d os)
                  refine wp_region_quiet_below (by kernel_rfl) (by kernel_rfl) ?_
                  repeat ((with_reducible refine wpQuiet_step (fun K hK => ?_)); go_simp; (try (rw [if_neg]; rotate_left; · decide)); first | ((with_reducible refine hK _ ?_); clear hK K) | (apply Exists.intro; refine ⟨fun _ => ?_, hK _ ?_⟩; (fail); clear hK K))
                  refine wpQuiet_nil (fun w1 hw1 => ?_)
                  replace hbel := belStep hbel (bel_of_class hw1)
                  clear hw1 kk
                  go_wp2
                  go_roundw
                  case rel => exact ⟨1, 1, tt, rfl, by omega, rfl, rfl, Lib.hid (.inr (.inl ⟨rfl, by rw [hT.out]; simp [one1]⟩)), by omega, hbel⟩
                  case measure => simp [intOf]
                · go_upto_region 21 with fail
                  have kk := fun d os => belStep hbel (below_regrown _ d os)
                  refine wp_region_quiet_below (by kernel_rfl) (by kernel_rfl) ?_
                  repeat ((with_reducible refine wpQuiet_step (fun K hK => ?_)); go_simp; (try (rw [if_neg]; rotate_left; · decide)); first | ((with_reducible refine hK _ ?_); clear hK K) | (apply Exists.intro; refine ⟨fun _ => ?_, hK _ ?_⟩; (fail); clear hK K))
                  refine wpQuiet_nil (fun w1 hw1 => ?_)
                  replace hbel := belStep hbel (bel_of_class hw1)
                  clear hw1 kk
                  go_upto_region 23 with fail
                  have kk := fun d os => belStep hbel (below_regrown _ d os)
                  refine wp_region_quiet_below (by kernel_rfl) (by kernel_rfl) ?_
                  repeat ((with_reducible refine wpQuiet_step (fun K hK => ?_)); go_simp; (try (rw [if_neg]; rotate_left; · decide)); first | ((with_reducible refine hK _ ?_); clear hK K) | (apply Exists.intro; refine ⟨fun _ => ?_, hK _ ?_⟩; (fail); clear hK K))
                  refine wpQuiet_nil (fun w1 hw1 => ?_)
                  replace hbel := belStep hbel (bel_of_class hw1)
                  clear hw1 kk
                  go_wp2
                  go_roundw
                  case rel => exact ⟨1, 1, tt + 1, rfl, by omega, rfl, rfl, Lib.hid (.inr (.inl ⟨rfl, by rw [hT.out]; rfl⟩)), by omega, hbel⟩
                  case measure => simp [intOf]
                · go_upto_region 21 with fail
                  have kk := fun d os => belStep hbel (below_regrown _ d os)
                  refine wp_region_quiet_below (by kernel_rfl) (by kernel_rfl) ?_
                  repeat ((with_reducible refine wpQuiet_step (fun K hK => ?_)); go_simp; (try (rw [if_neg]; rotate_left; · decide)); first | ((with_reducible refine hK _ ?_); clear hK K) | (apply Exists.intro; refine ⟨fun _ => ?_, hK _ ?_⟩; (fail); clear hK K))
                  refine wpQuiet_nil (fun w1 hw1 => ?_)
                  replace hbel := belStep hbel (bel_of_class hw1)
                  clear hw1 kk
                  go_upto_region 23 with fail
                  have kk := fun d os => belStep hbel (below_regrown _ d os)
                  refine wp_region_quiet_below (by kernel_rfl) (by kernel_rfl) ?_
                  repeat ((with_reducible refine wpQuiet_step (fun K hK => ?_)); go_simp; (try (rw [if_neg]; rotate_left; · decide)); first | ((with_reducible refine hK _ ?_); clear hK K) | (apply Exists.intro; refine ⟨fun _ => ?_, hK _ ?_⟩; (fail); clear hK K))
                  refine wpQuiet_nil (fun w1 hw1 => ?_)
                  replace hbel := belStep hbel (bel_of_class hw1)
                  clear hw1 kk
                  go_wp2
                  go_roundw
                  case rel => exact ⟨1, 1, tt + 1, rfl, by omega, rfl, rfl, Lib.hid (.inr (.inl ⟨rfl, by rw [hT.out]; rfl⟩)), by omega, hbel⟩
                  case measure => simp [intOf]
                · go_upto_region 21 with fail
                  have kk := fun d os => belStep hbel (below_regrown _ d os)
                  refine wp_region_quiet_below (by kernel_rfl) (by kernel_rfl) ?_
                  repeat ((with_reducible refine wpQuiet_step (fun K hK => ?_)); go_simp; (try (rw [if_neg]; rotate_left; · decide)); first | ((with_reducible refine hK _ ?_); clear hK K) | (apply Exists.intro; refine ⟨fun _ => ?_, hK _ ?_⟩; (fail); clear hK K))
                  refine wpQuiet_nil (fun w1 hw1 => ?_)
                  replace hbel := belStep hbel (bel_of_class hw1)
                  clear hw1 kk
                  go_upto_region 23 with fail
                  have kk := fun d os => belStep hbel (below_regrown _ d os)
                  refine wp_region_quiet_below (by kernel_rfl) (by kernel_rfl) ?_
                  repeat ((with_reducible refine wpQuiet_step (fun K hK => ?_)); go_simp; (try (rw [if_neg]; rotate_left; · decide)); first | ((with_reducible refine hK _ ?_); clear hK K) | (apply Exists.intro; refine ⟨fun _ => ?_, hK _ ?_⟩; (fail); clear hK K))
                  refine wpQuiet_nil (fun w1 hw1 => ?_)
                  replace hbel := belStep hbel (bel_of_class hw1)
                  clear hw1 kk
                  go_wp2
                  go_roundw
                  case rel => exact ⟨1, 1, tt, rfl, by omega, rfl, rfl, Lib.hid (.inr (.inl ⟨rfl, by rw [hT.out]; simp [one1]⟩)), by omega, hbel⟩
                  case measure => simp [intOf]
              · obtain rfl : I = 1 := hI
                have hT := Lib.hid (show tt = 0 + one1 s0 b0 by have := HT.out; omega)
                clear HT
                rcases s1 with _ | _ <;> rcases b1 with _ | _
                · go_upto_region 21 with fail
                  have kk := fun d os => belStep hbel (below_regrown _ d os)
                  refine wp_region_quiet_below (by kernel_rfl) (by kernel_rfl) ?_
                  repeat ((with_reducible refine wpQuiet_step (fun K hK => ?_)); go_simp; (try (rw [if_neg]; rotate_left; · decide)); first | ((with_reducible refine hK _ ?_); clear hK K) | (apply Exists.intro; refine ⟨fun _ => ?_, hK _ ?_⟩; (fail); clear hK K))
                  refine wpQuiet_nil (fun w1 hw1 => ?_)
                  replace hbel := belStep hbel (bel_of_class hw1)
                  clear hw1 kk
                  go_upto_region 23 with fail
                  have kk := fun d os => belStep hbel (below_regrown _ d os)
                  refine wp_region_quiet_below (by kernel_rfl) (by kernel_rfl) ?_
                  repeat ((with_reducible refine wpQuiet_step (fun K hK => ?_)); go_simp; (try (rw [if_neg]; rotate_left; · decide)); first | ((with_reducible refine hK _ ?_); clear hK K) | (apply Exists.intro; refine ⟨fun _ => ?_, hK _ ?_⟩; (fail); clear hK K))
                  refine wpQuiet_nil (fun w1 hw1 => ?_)
                  replace hbel := belStep hbel (bel_of_class hw1)
                  clear hw1 kk
                  go_wp2
                  go_roundw
                  case rel => exact ⟨2, 2, tt, rfl, by omega, rfl, rfl, Lib.hid (.inr (.inr (.inl ⟨rfl, by rw [hT.out]; simp [one1]⟩))), by omega, hbel⟩
                  case measure => simp [intOf]
                · go_upto_region 21 with fail
                  have kk := fun d os => belStep hbel (below_regrown _ d os)
                  refine wp_region_quiet_below (by kernel_rfl) (by kernel_rfl) ?_
                  repeat ((with_reducible refine wpQuiet_step (fun K hK => ?_)); go_simp; (try (rw [if_neg]; rotate_left; · decide)); first | ((with_reducible refine hK _ ?_); clear hK K) | (apply Exists.intro; refine ⟨fun _ => ?_, hK _ ?_⟩; (fail); clear hK K))
                  refine wpQuiet_nil (fun w1 hw1 => ?_)
                  replace hbel := belStep hbel (bel_of_class hw1)
                  clear hw1 kk
                  go_upto_region 23 with fail
                  have kk := fun d os => belStep hbel (below_regrown _ d os)
                  refine wp_region_quiet_below (by kernel_rfl) (by kernel_rfl) ?_
                  repeat ((with_reducible refine wpQuiet_step (fun K hK => ?_)); go_simp; (try (rw [if_neg]; rotate_left; · decide)); first | ((with_reducible refine hK _ ?_); clear hK K) | (apply Exists.intro; refine ⟨fun _ => ?_, hK _ ?_⟩; (fail); clear hK K))
                  refine wpQuiet_nil (fun w1 hw1 => ?_)
                  replace hbel := belStep hbel (bel_of_class hw1)
                  clear hw1 kk
                  go_wp2
                  go_roundw
                  case rel => exact ⟨2, 2, tt + 1, rfl, by omega, rfl, rfl, Lib.hid (.inr (.inr (.inl ⟨rfl, by rw [hT.out]; rfl⟩))), by omega, hbel⟩
                  case measure => simp [intOf]
                · go_upto_region 21 with fail
                  have kk := fun d os => belStep hbel (below_regrown _ d os)
                  refine wp_region_quiet_below (by kernel_rfl) (by kernel_rfl) ?_
                  repeat ((with_reducible refine wpQuiet_step (fun K hK => ?_)); go_simp; (try (rw [if_neg]; rotate_left; · decide)); first | ((with_reducible refine hK _ ?_); clear hK K) | (apply Exists.intro; refine ⟨fun _ => ?_, hK _ ?_⟩; (fail); clear hK K))
                  refine wpQuiet_nil (fun w1 hw1 => ?_)
                  replace hbel := belStep hbel (bel_of_class hw1)
                  clear hw1 kk
                  go_upto_region 23 with fail
                  have kk := fun d os => belStep hbel (below_regrown _ d os)
                  refine wp_region_quiet_below (by kernel_rfl) (by kernel_rfl) ?_
                  repeat ((with_reducible refine wpQuiet_step (fun K hK => ?_)); go_simp; (try (rw [if_neg]; rotate_left; · decide)); first | ((with_reducible refine hK _ ?_); clear hK K) | (apply Exists.intro; refine ⟨fun _ => ?_, hK _ ?_⟩; (fail); clear hK K))
                  refine wpQuiet_nil (fun w1 hw1 => ?_)
                  replace hbel := belStep hbel (bel_of_class hw1)
                  clear hw1 kk
                  go_wp2
                  go_roundw
                  case rel => exact ⟨2, 2, tt + 1, rfl, by omega, rfl, rfl, Lib.hid (.inr (.inr (.inl ⟨rfl, by rw [hT.out]; rfl⟩))), by omega, hbel⟩
                  case measure => simp [intOf]
                · go_upto_region 21 with fail
                  have kk := fun d os => belStep hbel (below_regrown _ d os)
                  refine wp_region_quiet_below (by kernel_rfl) (by kernel_rfl) ?_
                  repeat ((with_reducible refine wpQuiet_step (fun K hK => ?_)); go_simp; (try (rw [if_neg]; rotate_left; · decide)); first | ((with_reducible refine hK _ ?_); clear hK K) | (apply Exists.intro; refine ⟨fun _ => ?_, hK _ ?_⟩; (fail); clear hK K))
                  refine wpQuiet_nil (fun w1 hw1 => ?_)
                  replace hbel := belStep hbel (bel_of_class hw1)
                  clear hw1 kk
                  go_upto_region 23 with fail
                  have kk := fun d os => belStep hbel (below_regrown _ d os)
                  refine wp_region_quiet_below (by kernel_rfl) (by kernel_rfl) ?_
                  repeat ((with_reducible refine wpQuiet_step (fun K hK => ?_)); go_simp; (try (rw [if_neg]; rotate_left; · decide)); first | ((with_reducible refine hK _ ?_); clear hK K) | (apply Exists.intro; refine ⟨fun _ => ?_, hK _ ?_⟩; (fail); clear hK K))
                  refine wpQuiet_nil (fun w1 hw1 => ?_)
                  replace hbel := belStep hbel (bel_of_class hw1)
                  clear hw1 kk
                  go_wp2
                  go_roundw
                  case rel => exact ⟨2, 2, tt, rfl, by omega, rfl, rfl, Lib.hid (.inr (.inr (.inl ⟨rfl, by rw [hT.out]; simp [one1]⟩))), by omega, hbel⟩
                  case measure => simp [intOf]
              · obtain rfl : I = 2 := hI
                have hT := Lib.hid (show tt = 0 + one1 s0 b0 + one1 s1 b1 by have := HT.out; omega)
                clear HT
                rcases tb with _ | _ <;> rcases b2 with _ | _
                · go_upto_region 21 with fail
                  have kk := fun d os => belStep hbel (below_regrown _ d os)
                  refine wp_region_quiet_below (by kernel_rfl) (by kernel_rfl) ?_
                  repeat ((with_reducible refine wpQuiet_step (fun K hK => ?_)); go_simp; (try (rw [if_neg]; rotate_left; · decide)); first | ((with_reducible refine hK _ ?_); clear hK K) | (apply Exists.intro; refine ⟨fun _ => ?_, hK _ ?_⟩; (fail); clear hK K))
                  refine wpQuiet_nil (fun w1 hw1 => ?_)
                  replace hbel := belStep hbel (bel_of_class hw1)
                  clear hw1 kk
                  go_upto_region 23 with fail
                  have kk := fun d os => belStep hbel (below_regrown _ d os)
                  refine wp_region_quiet_below (by kernel_rfl) (by kernel_rfl) ?_
                  repeat ((with_reducible refine wpQuiet_step (fun K hK => ?_)); go_simp; (try (rw [if_neg]; rotate_left; · decide)); first | ((with_reducible refine hK _ ?_); clear hK K) | (apply Exists.intro; refine ⟨fun _ => ?_, hK _ ?_⟩; (fail); clear hK K))
                  refine wpQuiet_nil (fun w1 hw1 => ?_)
                  replace hbel := belStep hbel (bel_of_class hw1)
                  clear hw1 kk
                  go_wp2
                  go_roundw
                  case rel => exact ⟨3, 3, tt, rfl, by omega, rfl, rfl, Lib.hid (.inr (.inr (.inr ⟨rfl, by rw [hT.out]; simp [one1]⟩))), by omega, hbel⟩
                  case measure => simp [intOf]
                · go_upto_region 21 with fail
                  have kk := fun d os => belStep hbel (below_regrown _ d os)
                  refine wp_region_quiet_below (by kernel_rfl) (by kernel_rfl) ?_
                  repeat ((with_reducible refine wpQuiet_step (fun K hK => ?_)); go_simp; (try (rw [if_neg]; rotate_left; · decide)); first | ((with_reducible refine hK _ ?_); clear hK K) | (apply Exists.intro; refine ⟨fun _ => ?_, hK _ ?_⟩; (fail); clear hK K))
                  refine wpQuiet_nil (fun w1 hw1 => ?_)
                  replace hbel := belStep hbel (bel_of_class hw1)
                  clear hw1 kk
                  go_upto_region 23 with fail
                  have kk := fun d os => belStep hbel (below_regrown _ d os)
                  refine wp_region_quiet_below (by kernel_rfl) (by kernel_rfl) ?_
                  repeat ((with_reducible refine wpQuiet_step (fun K hK => ?_)); go_simp; (try (rw [if_neg]; rotate_left; · decide)); first | ((with_reducible refine hK _ ?_); clear hK K) | (apply Exists.intro; refine ⟨fun _ => ?_, hK _ ?_⟩; (fail); clear hK K))
                  refine wpQuiet_nil (fun w1 hw1 => ?_)
                  replace hbel := belStep hbel (bel_of_class hw1)
                  clear hw1 kk
                  go_wp2
                  go_roundw
                  case rel => exact ⟨3, 3, tt + 1, rfl, by omega, rfl, rfl, Lib.hid (.inr (.inr (.inr ⟨rfl, by rw [hT.out]; rfl⟩))), by omega, hbel⟩
                  case measure => simp [intOf]
                · go_upto_region 21 with fail
                  have kk := fun d os => belStep hbel (below_regrown _ d os)
                  refine wp_region_quiet_below (by kernel_rfl) (by kernel_rfl) ?_
                  repeat ((with_reducible refine wpQuiet_step (fun K hK => ?_)); go_simp; (try (rw [if_neg]; rotate_left; · decide)); first | ((with_reducible refine hK _ ?_); clear hK K) | (apply Exists.intro; refine ⟨fun _ => ?_, hK _ ?_⟩; (fail); clear hK K))
                  refine wpQuiet_nil (fun w1 hw1 => ?_)
                  replace hbel := belStep hbel (bel_of_class hw1)
                  clear hw1 kk
                  go_upto_region 23 with fail
                  have kk := fun d os => belStep hbel (below_regrown _ d os)
                  refine wp_region_quiet_below (by kernel_rfl) (by kernel_rfl) ?_
                  repeat ((with_reducible refine wpQuiet_step (fun K hK => ?_)); go_simp; (try (rw [if_neg]; rotate_left; · decide)); first | ((with_reducible refine hK _ ?_); clear hK K) | (apply Exists.intro; refine ⟨fun _ => ?_, hK _ ?_⟩; (fail); clear hK K))
                  refine wpQuiet_nil (fun w1 hw1 => ?_)
                  replace hbel := belStep hbel (bel_of_class hw1)
                  clear hw1 kk
                  go_wp2
                  go_roundw
                  case rel => exact ⟨3, 3, tt + 1, rfl, by omega, rfl, rfl, Lib.hid (.inr (.inr (.inr ⟨rfl, by rw [hT.out]; rfl⟩))), by omega, hbel⟩
                  case measure => simp [intOf]
                · go_upto_region 21 with fail
                  have kk := fun d os => belStep hbel (below_regrown _ d os)
                  refine wp_region_quiet_below (by kernel_rfl) (by kernel_rfl) ?_
                  repeat ((with_reducible refine wpQuiet_step (fun K hK => ?_)); go_simp; (try (rw [if_neg]; rotate_left; · decide)); first | ((with_reducible refine hK _ ?_); clear hK K) | (apply Exists.intro; refine ⟨fun _ => ?_, hK _ ?_⟩; (fail); clear hK K))
                  refine wpQuiet_nil (fun w1 hw1 => ?_)
                  replace hbel := belStep hbel (bel_of_class hw1)
                  clear hw1 kk
                  go_upto_region 23 with fail
                  have kk := fun d os => belStep hbel (below_regrown _ d os)
                  refine wp_region_quiet_below (by kernel_rfl) (by kernel_rfl) ?_
                  repeat ((with_reducible refine wpQuiet_step (fun K hK => ?_)); go_simp; (try (rw [if_neg]; rotate_left; · decide)); first | ((with_reducible refine hK _ ?_); clear hK K) | (apply Exists.intro; refine ⟨fun _ => ?_, hK _ ?_⟩; (fail); clear hK K))
                  refine wpQuiet_nil (fun w1 hw1 => ?_)
                  replace hbel := belStep hbel (bel_of_class hw1)
                  clear hw1 kk
                  go_wp2
                  go_roundw
                  case rel => exact ⟨3, 3, tt, rfl, by omega, rfl, rfl, Lib.hid (.inr (.inr (.inr ⟨rfl, by rw [hT.out]; simp [one1]⟩))), by omega, hbel⟩
                  case measure => simp [intOf]
              · obtain rfl : I = 3 := hI
                have hT := Lib.hid (show tt = (l2 : Int) by have := HT.out; have := HTL.out; omega)
                clear HT ht0 ht1
                obtain rfl := hT.out
                clear hT HTL z0 z1 z2 z3 z4 z5 za0 za1 za2 za3 za4 za5 y0 y1 y2 y3 y4 y5
                have HO3 := Lib.hid (HO2.out.later hbel)
                clear HO2
                go_wp2
                have HB7 := Lib.hid hbel
                clear hbel
                rcases own_shape HO3.out with ⟨e1, hn⟩ | ⟨gf, cp, e1, hgf1, hgf2, _, _⟩
                · simp only [Value.slice.injEq] at e1
                  obtain ⟨rfl, _, rfl⟩ := e1
                  obtain rfl : l2 = 0 := by have := HL2.out; omega
                  go_loopw [22] (fun i wr => i = .int .i64 0 ∧ Below W6.heap.size W6 wr) (fun i _ => 0)
                  case atStart => exact ⟨rfl, HB7.out⟩
                  case round =>
                    obtain ⟨rfl, hbel⟩ := hrel
                    clear HB7
                    go_wp2
                    go_ret
                    exact ⟨rfl, belStep hw hbel⟩
                · simp only [Value.slice.injEq] at e1
                  obtain ⟨rfl, _, rfl⟩ := e1
                  go_loopw [22] (fun i wr => ∃ k : Nat, k ≤ l2 ∧ i = .int .i64 k ∧ Hid (OwnR wr W5.heap.size 33 4 (.slice (some ⟨gf, 0, none⟩) l2 fc) l2 (evsCells E2)) ∧ Below W6.heap.size W6 wr) (fun i _ => l2 - (intOf i).toNat)
                  case atStart => exact ⟨0, Nat.zero_le _, rfl, HO3, HB7.out⟩
                  case round =>
                    obtain ⟨k, hk, rfl, HO4, hbel⟩ := hrel
                    clear HB7 HO3
                    by_cases hlt : k < l2
                    · obtain ⟨x, hx⟩ : ∃ x, E2[k]? = some x := ⟨E2[k]'(by rw [HL2.out]; exact hlt), List.getElem?_eq_getElem _⟩
                      have hc := (show wr.cell? ⟨gf, k * 4, none⟩ = some (.int .i64 x.1) from by rw [World.ownsRow.cellAt HO4.out (k * 4) (by omega)]; exact evs_cell hx)
                      have hx1 := HTK.out x (List.mem_of_getElem? hx)
                      obtain ⟨x1, hx2⟩ : ∃ z, x.1 = z := ⟨_, rfl⟩
                      rw [hx2] at hc hx1
                      clear hx hx2
                      have hd : decide ((k : Int) < (l2 : Int)) = true := decide_eq_true (by omega)
                      rcases hx1 with rfl | rfl
                      all_goals
                        go_wp2
                        go_roundw
                        case rel => exact ⟨k + 1, by omega, by push_cast; rfl, HO4, hbel⟩
                        case measure => simp [intOf] <;> omega
                    · obtain rfl : k = l2 := by omega
                      have hd : decide ((k : Int) < (k : Int)) = false := decide_eq_false (by omega)
                      go_wp2
                      go_ret
                      exact ⟨rfl, belStep hw hbel⟩

set_option maxRecDepth 100000 in
theorem lifted (os : Os) (started : os.Started) (H : Type) (enc : TypeId × Value → H) :
    ReturnsInHanded {} Try.checked os 3 .any (Rows.condApartSpec.pre6 enc Try.prog Try.f3 Rows.condApartRow.domain false) (Rows.condApartSpec.post enc Try.prog Try.f3 false true false false) := by
  refine returnsInHanded_of_change (C := Try.checked) own started (by kernel_rfl) Try.func3
    (ChangeSpec.witness6 (enc := enc) (C := Try.checked) false ⟨#[], #[.agg #[.bool false, .int .i64 0, .bool false, .int .i64 0, .bool false, .int .i64 0], .agg #[.bool false, .bool false, .bool false], .agg #[.bool false, .bool false, .bool false], .bool false, .int .i64 0, .int .u8 0], []⟩ 8 (by kernel_rfl) (by kernel_rfl) (by kernel_rfl) (by kernel_rfl)) ?_
  intro W base args ds gs before hval0 hW hcnd _
  have hval : ∀ (j : Nat) t v, Try.f3.params[j]? = some t → args[j]? = some v → Value.okWide Try.prog W .any base t v := hval0
  have hW' := hW
  obtain ⟨p, q, hA0, hV, rfl, hfz, hnd⟩ := hW
  have hA : DataW.TrodAll enc Try.prog W 0 (fun _ => true) true Try.f3.params.toList args.toList ds p := hA0
  rw [Try.params3] at hA hval
  obtain ⟨v0, vs0, d0, ds0, p0, q0, hargs, rfl, rfl, h0, r0⟩ := trodAll_cons hA
  obtain ⟨v1, vs1, d1, ds1, p1, q1, rfl, rfl, rfl, h1, r1⟩ := trodAll_cons r0
  obtain ⟨v2, vs2, d2, ds2, p2, q2, rfl, rfl, rfl, h2, r2⟩ := trodAll_cons r1
  obtain ⟨v3, vs3, d3, ds3, p3, q3, rfl, rfl, rfl, h3, r3⟩ := trodAll_cons r2
  obtain ⟨v4, vs4, d4, ds4, p4, q4, rfl, rfl, rfl, h4, r4⟩ := trodAll_cons r3
  obtain ⟨v5, vs5, d5, ds5, p5, q5, rfl, rfl, rfl, h5, r5⟩ := trodAll_cons r4
  obtain ⟨rfl, rfl, rfl⟩ := trodAll_nil r5
  obtain rfl : args = #[v0, v1, v2, v3, v4, v5] := by cases args; simp_all
  obtain ⟨rfl, rfl⟩ := trodVars_none hV
  have k0 := h0
  have lt0 : ∀ x ∈ p0, x.block < W.heap.size := by obtain ⟨m, hm⟩ := k0; exact DataW.trod_lt m _ _ _ hm
  have o0 : Value.okWide Try.prog W .any base 24 v0 := hval 0 24 v0 rfl rfl
  obtain ⟨b0, c0, bb0, cc0, bbb0, ccc0, rfl, f0, g0, h0⟩ := open_conds o0 h0
  have k1 := h1
  have lt1 : ∀ x ∈ p1, x.block < W.heap.size := by obtain ⟨m, hm⟩ := k1; exact DataW.trod_lt m _ _ _ hm
  have o1 : Value.okWide Try.prog W .any base 25 v1 := hval 1 25 v1 rfl rfl
  obtain ⟨x1, xx1, xxx1, rfl⟩ := open_bools o1 h1
  have k2 := h2
  have lt2 : ∀ x ∈ p2, x.block < W.heap.size := by obtain ⟨m, hm⟩ := k2; exact DataW.trod_lt m _ _ _ hm
  have o2 : Value.okWide Try.prog W .any base 25 v2 := hval 2 25 v2 rfl rfl
  obtain ⟨y2, yy2, yyy2, rfl⟩ := open_bools o2 h2
  have k3 := h3
  have lt3 : ∀ x ∈ p3, x.block < W.heap.size := by obtain ⟨m, hm⟩ := k3; exact DataW.trod_lt m _ _ _ hm
  have o3 : Value.okWide Try.prog W .any base 4 v3 := hval 3 4 v3 rfl rfl
  obtain ⟨a3, rfl, rfl, rfl⟩ := open_bool Try.underlying4 o3 h3
  have k4 := h4
  have lt4 : ∀ x ∈ p4, x.block < W.heap.size := by obtain ⟨m, hm⟩ := k4; exact DataW.trod_lt m _ _ _ hm
  have o4 : Value.okWide Try.prog W .any base 3 v4 := hval 4 3 v4 rfl rfl
  obtain ⟨a4, rfl, rfl, rfl, w4⟩ := open_int Try.underlying3 o4 h4
  have k5 := h5
  have lt5 : ∀ x ∈ p5, x.block < W.heap.size := by obtain ⟨m, hm⟩ := k5; exact DataW.trod_lt m _ _ _ hm
  have o5 : Value.okWide Try.prog W .any base 5 v5 := hval 5 5 v5 rfl rfl
  obtain ⟨a5, rfl, rfl, rfl, w5⟩ := open_int Try.underlying5 o5 h5
  clear hA0 hval0
  refine (walk b0 c0 bb0 cc0 bbb0 ccc0 x1 xx1 xxx1 y2 yy2 yyy2 a3 a4 a5 W f0 g0 h0   (inI_of_wf w4) (in8_of_wf w5)).mono fun e W' ⟨he, bel⟩ => ?_
  subst he
  exact ⟨_, rfl, _, _, _, [], _, [], hW', trodAll_mk1 (shut_bool Try.underlying4 _), (trodAll_cons_mk (Below.trod laidOut (by kernel_rfl) (of_decide_eq_true (by kernel_rfl)) k0 bel lt0) (trodAll_cons_mk (Below.trod laidOut (by kernel_rfl) (of_decide_eq_true (by kernel_rfl)) k1 bel lt1) (trodAll_cons_mk (Below.trod laidOut (by kernel_rfl) (of_decide_eq_true (by kernel_rfl)) k2 bel lt2) (trodAll_cons_mk (Below.trod laidOut (by kernel_rfl) (of_decide_eq_true (by kernel_rfl)) k3 bel lt3) (trodAll_cons_mk (Below.trod laidOut (by kernel_rfl) (of_decide_eq_true (by kernel_rfl)) k4 bel lt4) (trodAll_cons_mk (Below.trod laidOut (by kernel_rfl) (of_decide_eq_true (by kernel_rfl)) k5 bel lt5) trodAll_mk0)))))), rfl, bel.frame _, fun h => by cases h⟩

theorem over : Rows.condApartRow.holds Try.pinned (OpenSpec.ofChange Rows.condApartSpec) :=
  OpenClaim.holds_of_wide 3 Try.f3 rfl rfl rfl rfl rfl rfl rfl ⟨rfl, rfl, rfl, rfl, rfl⟩ rfl rfl rfl rfl rfl (by kernel_rfl) Try.func3 (by kernel_rfl)
    (of_decide_eq_true (by kernel_rfl)) (by unfold Func.isWrapper; first | (rw [if_pos (by decide +kernel)]; kernel_rfl) | (rw [if_neg (by decide +kernel)]; exact ⟨rfl, rfl⟩))
    (fun os started H enc _ => lifted os started H enc)

/-- The statement. -/
theorem proved : Rows.CondApartSaid := over
#print axioms proved

end Go.Proofs.Ytkiphbonohifgaa.condApart
