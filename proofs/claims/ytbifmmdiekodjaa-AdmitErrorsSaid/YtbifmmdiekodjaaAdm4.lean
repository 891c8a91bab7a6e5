
/- bilgeref23.Same, bilgeref23.Within, bilgeref20.Fit: contracts. -/
import Derived.Test.YtbifmmdiekodjaaAdm3
import Derived.Test.YtbifmmdiekodjaaVicX
namespace Go.Proofs.Ytbifmmdiekodjaa
open Go.RowKit
set_option linter.unusedVariables false
set_option linter.unusedSimpArgs false
def sameV (V W : VerdV) : Bool := V.kind == W.kind && (V.sig == W.sig && sameB V.go W.go)
theorem sameV_refl (V : VerdV) : sameV V V = true := by unfold sameV; rw [same_refl]; simp
set_option maxRecDepth 100000 in
set_option maxHeartbeats 16000000 in
theorem rref_Same (V W : VerdV) (a1 a2 : Option Addr) (c1 c2 : Nat) (w : World) (h1 : Row w a1 V.go.length c1 1 (V.go.map Value.string)) (h2 : Row w a2 W.go.length c2 1 (W.go.map Value.string)) :
    Calls Try.prog 9 #[.agg #[.int .i64 V.kind, .int .i64 V.sig, .slice a1 V.go.length c1], .agg #[.int .i64 W.kind, .int .i64 W.sig, .slice a2 W.go.length c2]] w fun e w' => e = .returned (.bool (sameV V W)) ∧ Below w.heap.size w w' := by
  have hw : Below w.heap.size w w := Below.refl _ _
  have hbel := hw
  have CS := Lib.hid (fun u (hu : Below w.heap.size w u) => sames_any a1 a2 V.go.length W.go.length c1 c2 V.go W.go u rfl rfl (h1.later hu) (h2.later hu))
  clear h1 h2
  obtain ⟨k1, g1, G⟩ := V
  obtain ⟨k2, g2, H⟩ := W
  simp only at CS ⊢
  go_enter Try.func9, Try.ntmps9
  go_upto_region 1 with fail
  have vv0 : ((w.alloc (.cells #[.int .i64 k1, .int .i64 g1, .slice a1 G.length c1] 34)).alloc (.cells #[.int .i64 k2, .int .i64 g2, .slice a2 H.length c2] 34)).cell? ⟨w.heap.size, 0, none⟩ = some (.int .i64 k1) := by first | (simp; done) | (rw [World.cell?_alloc_at _ _ _ _ (by simp)]; rfl) | (rw [World.cell?_alloc_past _ _ _ (by simp <;> omega), World.cell?_alloc_at _ _ _ _ (by simp)]; rfl) | (rw [World.cell?_alloc_past _ _ _ (by simp <;> omega), World.cell?_alloc_past _ _ _ (by simp <;> omega), World.cell?_alloc_at _ _ _ _ (by simp)]; rfl)
  have vv1 : ((w.alloc (.cells #[.int .i64 k1, .int .i64 g1, .slice a1 G.length c1] 34)).alloc (.cells #[.int .i64 k2, .int .i64 g2, .slice a2 H.length c2] 34)).cell? ⟨w.heap.size, 1, none⟩ = some (.int .i64 g1) := by first | (simp; done) | (rw [World.cell?_alloc_at _ _ _ _ (by simp)]; rfl) | (rw [World.cell?_alloc_past _ _ _ (by simp <;> omega), World.cell?_alloc_at _ _ _ _ (by simp)]; rfl) | (rw [World.cell?_alloc_past _ _ _ (by simp <;> omega), World.cell?_alloc_past _ _ _ (by simp <;> omega), World.cell?_alloc_at _ _ _ _ (by simp)]; rfl)
  have vv2 : ((w.alloc (.cells #[.int .i64 k1, .int .i64 g1, .slice a1 G.length c1] 34)).alloc (.cells #[.int .i64 k2, .int .i64 g2, .slice a2 H.length c2] 34)).cell? ⟨w.heap.size, 2, none⟩ = some (.slice a1 G.length c1) := by first | (simp; done) | (rw [World.cell?_alloc_at _ _ _ _ (by simp)]; rfl) | (rw [World.cell?_alloc_past _ _ _ (by simp <;> omega), World.cell?_alloc_at _ _ _ _ (by simp)]; rfl) | (rw [World.cell?_alloc_past _ _ _ (by simp <;> omega), World.cell?_alloc_past _ _ _ (by simp <;> omega), World.cell?_alloc_at _ _ _ _ (by simp)]; rfl)
  have ww0 : ((w.alloc (.cells #[.int .i64 k1, .int .i64 g1, .slice a1 G.length c1] 34)).alloc (.cells #[.int .i64 k2, .int .i64 g2, .slice a2 H.length c2] 34)).cell? ⟨w.heap.size + 1, 0, none⟩ = some (.int .i64 k2) := by first | (simp; done) | (rw [World.cell?_alloc_at _ _ _ _ (by simp)]; rfl) | (rw [World.cell?_alloc_past _ _ _ (by simp <;> omega), World.cell?_alloc_at _ _ _ _ (by simp)]; rfl) | (rw [World.cell?_alloc_past _ _ _ (by simp <;> omega), World.cell?_alloc_past _ _ _ (by simp <;> omega), World.cell?_alloc_at _ _ _ _ (by simp)]; rfl)
  have ww1 : ((w.alloc (.cells #[.int .i64 k1, .int .i64 g1, .slice a1 G.length c1] 34)).alloc (.cells #[.int .i64 k2, .int .i64 g2, .slice a2 H.length c2] 34)).cell? ⟨w.heap.size + 1, 1, none⟩ = some (.int .i64 g2) := by first | (simp; done) | (rw [World.cell?_alloc_at _ _ _ _ (by simp)]; rfl) | (rw [World.cell?_alloc_past _ _ _ (by simp <;> omega), World.cell?_alloc_at _ _ _ _ (by simp)]; rfl) | (rw [World.cell?_alloc_past _ _ _ (by simp <;> omega), World.cell?_alloc_past _ _ _ (by simp <;> omega), World.cell?_alloc_at _ _ _ _ (by simp)]; rfl)
  have ww2 : ((w.alloc (.cells #[.int .i64 k1, .int .i64 g1, .slice a1 G.length c1] 34)).alloc (.cells #[.int .i64 k2, .int .i64 g2, .slice a2 H.length c2] 34)).cell? ⟨w.heap.size + 1, 2, none⟩ = some (.slice a2 H.length c2) := by first | (simp; done) | (rw [World.cell?_alloc_at _ _ _ _ (by simp)]; rfl) | (rw [World.cell?_alloc_past _ _ _ (by simp <;> omega), World.cell?_alloc_at _ _ _ _ (by simp)]; rfl) | (rw [World.cell?_alloc_past _ _ _ (by simp <;> omega), World.cell?_alloc_past _ _ _ (by simp <;> omega), World.cell?_alloc_at _ _ _ _ (by simp)]; rfl)
  have hb2 := (by repeat (first | exact hbel | refine belAlloc ?_ _ | refine belDrew ?_ | refine belSet ?_ _ _ (by simp)) : Below w.heap.size w ((w.alloc (.cells #[.int .i64 k1, .int .i64 g1, .slice a1 G.length c1] 34)).alloc (.cells #[.int .i64 k2, .int .i64 g2, .slice a2 H.length c2] 34)))
  replace hw := belStep hw hb2
  clear hb2 hbel
  generalize (w.alloc (.cells #[.int .i64 k1, .int .i64 g1, .slice a1 G.length c1] 34)).alloc (.cells #[.int .i64 k2, .int .i64 g2, .slice a2 H.length c2] 34) = W1 at *
  replace vv0 := keep vv0
  replace vv1 := keep vv1
  replace vv2 := keep vv2
  replace ww0 := keep ww0
  replace ww1 := keep ww1
  replace ww2 := keep ww2
  have hbel : Below W1.heap.size W1 W1 := Below.refl _ _
  skip
  by_cases hk : k1 = k2
  · have hq : (k1 == k2) = true := by simp [hk]
    by_cases hg : g1 = g2
    · have hr : (g1 == g2) = true := by simp [hg]
      have HV := Lib.hid (show sameV ⟨k1, g1, G⟩ ⟨k2, g2, H⟩ = sameB G H by unfold sameV; rw [hq, hr]; simp)
      clear hk hg
      go_wp2_with (go_at_call 14; (with_reducible refine (CS.out _ (belStep hw hbel)).mono ?_); rintro e w1 ⟨rfl, hb1⟩; replace hbel := belStep hbel hb1; clear hb1)
      go_ret
      exact ⟨by rw [HV.out]; rfl, belStep hw hbel⟩
    · have hr : (g1 == g2) = false := by simp [hg]
      have HV := Lib.hid (show sameV ⟨k1, g1, G⟩ ⟨k2, g2, H⟩ = false by unfold sameV; rw [hq, hr]; simp)
      clear hk hg
      go_wp2_with (go_at_call 14; (with_reducible refine (CS.out _ (belStep hw hbel)).mono ?_); rintro e w1 ⟨rfl, hb1⟩; replace hbel := belStep hbel hb1; clear hb1)
      go_ret
      exact ⟨by rw [HV.out]; rfl, belStep hw hbel⟩
  · have hq : (k1 == k2) = false := by simp [hk]
    have HV := Lib.hid (show sameV ⟨k1, g1, G⟩ ⟨k2, g2, H⟩ = false by unfold sameV; rw [hq]; simp)
    clear hk
    go_wp2_with (go_at_call 14; (with_reducible refine (CS.out _ (belStep hw hbel)).mono ?_); rintro e w1 ⟨rfl, hb1⟩; replace hbel := belStep hbel hb1; clear hb1)
    go_ret
    exact ⟨by rw [HV.out]; rfl, belStep hw hbel⟩
def TabP (T : List EntV) (w : World) (e : Ending) (w' : World) : Prop := (∃ b, e = .returned (.bool b) ∧ (b = true → TabOK T)) ∧ Below w.heap.size w w'
theorem TabP.no {T : List EntV} {w w' : World} {e : Ending} (he : e = .returned (.bool false)) (hb : Below w.heap.size w w') : TabP T w e w' := ⟨⟨false, he, fun h => by cases h⟩, hb⟩
theorem TabP.yes {T : List EntV} {w w' : World} {e : Ending} (he : e = .returned (.bool true)) (h : TabOK T) (hb : Below w.heap.size w w') : TabP T w e w' := ⟨⟨true, he, fun _ => h⟩, hb⟩
theorem ents_next {T : List EntV} {P : EntV → Prop} {k : Nat} {x : EntV} (h : T[k]? = some x) (ha : ∀ y ∈ T.take k, P y) (hx : P x) : ∀ y ∈ T.take (k + 1), P y := by
  rw [List.take_add_one, h]
  intro y hy
  rcases List.mem_append.1 hy with q | q
  · exact ha y q
  · simp at q; subst q; exact hx
theorem entd_next {T : List EntV} {k : Nat} {x : EntV} (h : T[k]? = some x) (hd : Dist (podsOf (T.take k))) (hn : ∀ y ∈ T.take k, y.pod.id ≠ x.pod.id) : Dist (podsOf (T.take (k + 1))) := by
  rw [podsOf_next h]
  refine dist_all hd (fun y hy => ?_)
  unfold podsOf at hy
  obtain ⟨z, hz, rfl⟩ := List.mem_map.1 hy
  exact hn z hz
end Go.Proofs.Ytbifmmdiekodjaa
