
/- The reference of stage 16: Same. -/
import Derived.Test.YtcnjcldfbidkmaaWr2
namespace Go.Proofs.Ytcnjcldfbidkmaa
open Go.RowKit Go.Sort
set_option linter.unusedVariables false
set_option linter.unusedSimpArgs false
set_option maxRecDepth 100000 in
set_option maxHeartbeats 32000000 in
theorem r16_Same (F G : List Nat) (v v2 : Value) (m k : WorldV) (w : World) (hv : RIs F w v m) (hv2 : RIs G w v2 k) :
    Calls Try.prog 66 #[v, v2] w fun e w' => e = .returned (.bool (sameC m.boxes k.boxes && sameV m.outs k.outs && sameI m.images k.images)) ∧ Below w.heap.size w w' := by
  obtain ⟨oa, oc, ba, bc, ia, ic, rfl, hO, hL, hI, _⟩ := hv
  obtain ⟨oa2, oc2, ba2, bc2, ia2, ic2, rfl, hO2, hL2, hI2, _⟩ := hv2
  have C1 := Lib.hid (fun u (hu : Below w.heap.size w u) => r16_SameBoxes ba m.boxes.length bc m.boxes ba2 k.boxes.length bc2 k.boxes u rfl (hL.later hu) rfl (hL2.later hu))
  have C2 := Lib.hid (fun u (hu : Below w.heap.size w u) => outs_any oa oa2 m.outs.length k.outs.length oc oc2 m.outs k.outs u rfl rfl (hO.later hu) (hO2.later hu))
  have C3 := Lib.hid (fun u (hu : Below w.heap.size w u) => iref_Same ia m.images.length ic m.images ia2 k.images.length ic2 k.images u rfl (hI.later hu) rfl (hI2.later hu))
  obtain ⟨x, hx⟩ : ∃ x, sameC m.boxes k.boxes = x := ⟨_, rfl⟩
  obtain ⟨y, hy⟩ : ∃ x, sameV m.outs k.outs = x := ⟨_, rfl⟩
  obtain ⟨z, hz⟩ : ∃ x, sameI m.images k.images = x := ⟨_, rfl⟩
  rw [hx] at C1
  rw [hy] at C2
  rw [hz] at C3
  rw [hx, hy, hz]
  clear hO hL hI hO2 hL2 hI2 hx hy hz
  have hw : Below w.heap.size w w := Below.refl _ _
  have hbel := hw
  go_enter Try.func66, Try.ntmps66
  go_upto_region 1 with fail
  have pp0 : ((w.alloc (.cells #[.int .i64 m.retries, .slice oa m.outs.length oc, .slice ba m.boxes.length bc, .slice ia m.images.length ic] 31)).alloc (.cells #[.int .i64 k.retries, .slice oa2 k.outs.length oc2, .slice ba2 k.boxes.length bc2, .slice ia2 k.images.length ic2] 31)).cell? ⟨w.heap.size, 0, none⟩ = some (.int .i64 m.retries) := by first | (simp; done) | (rw [World.cell?_alloc_at _ _ _ _ (by simp)]; rfl) | (rw [World.cell?_alloc_past _ _ _ (by simp <;> omega), World.cell?_alloc_at _ _ _ _ (by simp)]; rfl) | (rw [World.cell?_alloc_past _ _ _ (by simp <;> omega), World.cell?_alloc_past _ _ _ (by simp <;> omega), World.cell?_alloc_at _ _ _ _ (by simp)]; rfl)
  have pp1 : ((w.alloc (.cells #[.int .i64 m.retries, .slice oa m.outs.length oc, .slice ba m.boxes.length bc, .slice ia m.images.length ic] 31)).alloc (.cells #[.int .i64 k.retries, .slice oa2 k.outs.length oc2, .slice ba2 k.boxes.length bc2, .slice ia2 k.images.length ic2] 31)).cell? ⟨w.heap.size, 1, none⟩ = some (.slice oa m.outs.length oc) := by first | (simp; done) | (rw [World.cell?_alloc_at _ _ _ _ (by simp)]; rfl) | (rw [World.cell?_alloc_past _ _ _ (by simp <;> omega), World.cell?_alloc_at _ _ _ _ (by simp)]; rfl) | (rw [World.cell?_alloc_past _ _ _ (by simp <;> omega), World.cell?_alloc_past _ _ _ (by simp <;> omega), World.cell?_alloc_at _ _ _ _ (by simp)]; rfl)
  have pp2 : ((w.alloc (.cells #[.int .i64 m.retries, .slice oa m.outs.length oc, .slice ba m.boxes.length bc, .slice ia m.images.length ic] 31)).alloc (.cells #[.int .i64 k.retries, .slice oa2 k.outs.length oc2, .slice ba2 k.boxes.length bc2, .slice ia2 k.images.length ic2] 31)).cell? ⟨w.heap.size, 2, none⟩ = some (.slice ba m.boxes.length bc) := by first | (simp; done) | (rw [World.cell?_alloc_at _ _ _ _ (by simp)]; rfl) | (rw [World.cell?_alloc_past _ _ _ (by simp <;> omega), World.cell?_alloc_at _ _ _ _ (by simp)]; rfl) | (rw [World.cell?_alloc_past _ _ _ (by simp <;> omega), World.cell?_alloc_past _ _ _ (by simp <;> omega), World.cell?_alloc_at _ _ _ _ (by simp)]; rfl)
  have pp3 : ((w.alloc (.cells #[.int .i64 m.retries, .slice oa m.outs.length oc, .slice ba m.boxes.length bc, .slice ia m.images.length ic] 31)).alloc (.cells #[.int .i64 k.retries, .slice oa2 k.outs.length oc2, .slice ba2 k.boxes.length bc2, .slice ia2 k.images.length ic2] 31)).cell? ⟨w.heap.size, 3, none⟩ = some (.slice ia m.images.length ic) := by first | (simp; done) | (rw [World.cell?_alloc_at _ _ _ _ (by simp)]; rfl) | (rw [World.cell?_alloc_past _ _ _ (by simp <;> omega), World.cell?_alloc_at _ _ _ _ (by simp)]; rfl) | (rw [World.cell?_alloc_past _ _ _ (by simp <;> omega), World.cell?_alloc_past _ _ _ (by simp <;> omega), World.cell?_alloc_at _ _ _ _ (by simp)]; rfl)
  have qq0 : ((w.alloc (.cells #[.int .i64 m.retries, .slice oa m.outs.length oc, .slice ba m.boxes.length bc, .slice ia m.images.length ic] 31)).alloc (.cells #[.int .i64 k.retries, .slice oa2 k.outs.length oc2, .slice ba2 k.boxes.length bc2, .slice ia2 k.images.length ic2] 31)).cell? ⟨w.heap.size + 1, 0, none⟩ = some (.int .i64 k.retries) := by first | (simp; done) | (rw [World.cell?_alloc_at _ _ _ _ (by simp)]; rfl) | (rw [World.cell?_alloc_past _ _ _ (by simp <;> omega), World.cell?_alloc_at _ _ _ _ (by simp)]; rfl) | (rw [World.cell?_alloc_past _ _ _ (by simp <;> omega), World.cell?_alloc_past _ _ _ (by simp <;> omega), World.cell?_alloc_at _ _ _ _ (by simp)]; rfl)
  have qq1 : ((w.alloc (.cells #[.int .i64 m.retries, .slice oa m.outs.length oc, .slice ba m.boxes.length bc, .slice ia m.images.length ic] 31)).alloc (.cells #[.int .i64 k.retries, .slice oa2 k.outs.length oc2, .slice ba2 k.boxes.length bc2, .slice ia2 k.images.length ic2] 31)).cell? ⟨w.heap.size + 1, 1, none⟩ = some (.slice oa2 k.outs.length oc2) := by first | (simp; done) | (rw [World.cell?_alloc_at _ _ _ _ (by simp)]; rfl) | (rw [World.cell?_alloc_past _ _ _ (by simp <;> omega), World.cell?_alloc_at _ _ _ _ (by simp)]; rfl) | (rw [World.cell?_alloc_past _ _ _ (by simp <;> omega), World.cell?_alloc_past _ _ _ (by simp <;> omega), World.cell?_alloc_at _ _ _ _ (by simp)]; rfl)
  have qq2 : ((w.alloc (.cells #[.int .i64 m.retries, .slice oa m.outs.length oc, .slice ba m.boxes.length bc, .slice ia m.images.length ic] 31)).alloc (.cells #[.int .i64 k.retries, .slice oa2 k.outs.length oc2, .slice ba2 k.boxes.length bc2, .slice ia2 k.images.length ic2] 31)).cell? ⟨w.heap.size + 1, 2, none⟩ = some (.slice ba2 k.boxes.length bc2) := by first | (simp; done) | (rw [World.cell?_alloc_at _ _ _ _ (by simp)]; rfl) | (rw [World.cell?_alloc_past _ _ _ (by simp <;> omega), World.cell?_alloc_at _ _ _ _ (by simp)]; rfl) | (rw [World.cell?_alloc_past _ _ _ (by simp <;> omega), World.cell?_alloc_past _ _ _ (by simp <;> omega), World.cell?_alloc_at _ _ _ _ (by simp)]; rfl)
  have qq3 : ((w.alloc (.cells #[.int .i64 m.retries, .slice oa m.outs.length oc, .slice ba m.boxes.length bc, .slice ia m.images.length ic] 31)).alloc (.cells #[.int .i64 k.retries, .slice oa2 k.outs.length oc2, .slice ba2 k.boxes.length bc2, .slice ia2 k.images.length ic2] 31)).cell? ⟨w.heap.size + 1, 3, none⟩ = some (.slice ia2 k.images.length ic2) := by first | (simp; done) | (rw [World.cell?_alloc_at _ _ _ _ (by simp)]; rfl) | (rw [World.cell?_alloc_past _ _ _ (by simp <;> omega), World.cell?_alloc_at _ _ _ _ (by simp)]; rfl) | (rw [World.cell?_alloc_past _ _ _ (by simp <;> omega), World.cell?_alloc_past _ _ _ (by simp <;> omega), World.cell?_alloc_at _ _ _ _ (by simp)]; rfl)
  have hb2 := (by repeat (first | exact hbel | refine belAlloc ?_ _ | refine belDrew ?_ | refine belSet ?_ _ _ (by simp)) : Below w.heap.size w ((w.alloc (.cells #[.int .i64 m.retries, .slice oa m.outs.length oc, .slice ba m.boxes.length bc, .slice ia m.images.length ic] 31)).alloc (.cells #[.int .i64 k.retries, .slice oa2 k.outs.length oc2, .slice ba2 k.boxes.length bc2, .slice ia2 k.images.length ic2] 31)))
  replace hw := belStep hw hb2
  clear hb2 hbel
  generalize (w.alloc (.cells #[.int .i64 m.retries, .slice oa m.outs.length oc, .slice ba m.boxes.length bc, .slice ia m.images.length ic] 31)).alloc (.cells #[.int .i64 k.retries, .slice oa2 k.outs.length oc2, .slice ba2 k.boxes.length bc2, .slice ia2 k.images.length ic2] 31) = W1 at *
  replace pp0 := keep pp0
  replace pp1 := keep pp1
  replace pp2 := keep pp2
  replace pp3 := keep pp3
  replace qq0 := keep qq0
  replace qq1 := keep qq1
  replace qq2 := keep qq2
  replace qq3 := keep qq3
  have hbel : Below W1.heap.size W1 W1 := Below.refl _ _
  skip
  have HB := Lib.hid hw
  clear hw
  cases x <;> cases y <;> cases z <;> (go_wp2_with (first | (go_at_call 105; (with_reducible refine (C1.out _ (belStep HB.out hbel)).mono ?_); rintro e w2 ⟨rfl, hb_⟩; have hbz := belStep hbel hb_; clear hbel; have hbel := hbz; clear hbz hb_) | (go_at_call 28; (with_reducible refine (C2.out _ (belStep HB.out hbel)).mono ?_); rintro e w2 ⟨rfl, hb_⟩; have hbz := belStep hbel hb_; clear hbel; have hbel := hbz; clear hbz hb_) | (go_at_call 106; (with_reducible refine (C3.out _ (belStep HB.out hbel)).mono ?_); rintro e w2 ⟨rfl, hb_⟩; have hbz := belStep hbel hb_; clear hbel; have hbel := hbz; clear hbz hb_)); go_ret; exact ⟨rfl, belStep HB.out hbel⟩)
end Go.Proofs.Ytcnjcldfbidkmaa
