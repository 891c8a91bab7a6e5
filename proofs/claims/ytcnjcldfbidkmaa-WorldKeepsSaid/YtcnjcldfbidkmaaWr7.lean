
/- The reference of stage 16: Touch. -/
import Derived.Test.YtcnjcldfbidkmaaWr6
namespace Go.Proofs.Ytcnjcldfbidkmaa
open Go.RowKit Go.Sort
set_option linter.unusedVariables false
set_option linter.unusedSimpArgs false
theorem r16touch_ret (W : World) (R : Nat) (tm : Array Value) (r : Int) (oa : Option Addr) (on oc : Nat) (ba : Option Addr) (bn bc : Nat) (ia : Option Addr) (inn ic : Nat) (Q : Ending → World → Prop) (h0 : tm.getD 6 undef = .pointer (some ⟨R, 0, none⟩)) (hb : Blk W R [.int .i64 r, .slice oa on oc, .slice ba bn bc, .slice ia inn ic] 31) (hR : Q (.returned (.agg #[.int .i64 r, .slice oa on oc, .slice ba bn bc, .slice ia inn ic])) W) :
    bodyPost Try.prog Try.f64 Q Exit.ret { tmps := tm, defers := [] } W := by
  have z0 := hb.cell (j := 0) rfl
  have z1 := hb.cell (j := 1) rfl
  have z2 := hb.cell (j := 2) rfl
  have z3 := hb.cell (j := 3) rfl
  refine bodyPost_ret (v := .agg #[.int .i64 r, .slice oa on oc, .slice ba bn bc, .slice ia inn ic]) ?_ rfl hR
  simp only [Array.getD_eq_getD_getElem?] at h0
  simp [results, Try.results64, go_sem, h0, z0, z1, z2, z3]
set_option maxRecDepth 100000 in
set_option maxHeartbeats 32000000 in
theorem r16_Touch (d : Option Addr) (ul uc : Nat) (U : List ByteArray) (round : Int) (F : List Nat) (v : Value) (m : WorldV) (w : World) (hv : RIs F w v m) (hF : ∀ b ∈ F, b < w.heap.size) (hu9 : U.length = ul) (hRU : Row w d ul uc 1 (U.map Value.string)) (hn : m.images.length ≤ 100000) :
    Calls Try.prog 64 #[v, .slice d ul uc, .int .i64 round] w fun e w' => ∃ v', e = .returned v' ∧ RIs F w' v' (touchW m U round) ∧ Below w.heap.size w w' := by
  have HRU := Lib.hid hRU
  have HU9 := Lib.hid hu9
  have hn9 := hn
  clear hRU hu9 hn
  have HFF := Lib.hid hF
  have HV := Lib.hid hv
  clear hF
  obtain ⟨oa, oc, ba, bc, ia, ic, rfl, hO, hL, hI, hN⟩ := hv
  have hbo : m.outs.length ≤ oc ∧ oc ≤ 9223372036854775807 := by obtain ⟨_, h1, h2, _⟩ := hO; unfold maxLen at h2; exact ⟨h1, h2⟩
  obtain ⟨hbo1, hbo2⟩ := hbo
  have hbb : m.boxes.length ≤ bc ∧ bc ≤ 9223372036854775807 := by obtain ⟨_, h1, h2, _⟩ := hL; unfold maxLen at h2; exact ⟨h1, h2⟩
  obtain ⟨hbb1, hbb2⟩ := hbb
  have hbi : m.images.length ≤ ic ∧ ic ≤ 9223372036854775807 := by obtain ⟨_, h1, h2, _⟩ := hI; unfold maxLen at h2; exact ⟨h1, h2⟩
  obtain ⟨hbi1, hbi2⟩ := hbi
  have HRO := Lib.hid hO
  have HRL := Lib.hid hL
  have HRI := Lib.hid hI
  clear hO hL hI hN
  have hw : Below w.heap.size w w := Below.refl _ _
  have hbel := hw
  go_enter Try.func64, Try.ntmps64
  go_upto_region 1 with fail
  have pp0 : ((w.alloc (.cells #[.int .i64 m.retries, .slice oa m.outs.length oc, .slice ba m.boxes.length bc, .slice ia m.images.length ic] 31)).alloc (.cells #[.int .i64 0, .slice none 0 0, .slice none 0 0, .slice none 0 0] 31)).cell? ⟨w.heap.size, 0, none⟩ = some (.int .i64 m.retries) := by first | (simp; done) | (rw [World.cell?_alloc_at _ _ _ _ (by simp)]; rfl) | (rw [World.cell?_alloc_past _ _ _ (by simp <;> omega), World.cell?_alloc_at _ _ _ _ (by simp)]; rfl) | (rw [World.cell?_alloc_past _ _ _ (by simp <;> omega), World.cell?_alloc_past _ _ _ (by simp <;> omega), World.cell?_alloc_at _ _ _ _ (by simp)]; rfl)
  have pp1 : ((w.alloc (.cells #[.int .i64 m.retries, .slice oa m.outs.length oc, .slice ba m.boxes.length bc, .slice ia m.images.length ic] 31)).alloc (.cells #[.int .i64 0, .slice none 0 0, .slice none 0 0, .slice none 0 0] 31)).cell? ⟨w.heap.size, 1, none⟩ = some (.slice oa m.outs.length oc) := by first | (simp; done) | (rw [World.cell?_alloc_at _ _ _ _ (by simp)]; rfl) | (rw [World.cell?_alloc_past _ _ _ (by simp <;> omega), World.cell?_alloc_at _ _ _ _ (by simp)]; rfl) | (rw [World.cell?_alloc_past _ _ _ (by simp <;> omega), World.cell?_alloc_past _ _ _ (by simp <;> omega), World.cell?_alloc_at _ _ _ _ (by simp)]; rfl)
  have pp2 : ((w.alloc (.cells #[.int .i64 m.retries, .slice oa m.outs.length oc, .slice ba m.boxes.length bc, .slice ia m.images.length ic] 31)).alloc (.cells #[.int .i64 0, .slice none 0 0, .slice none 0 0, .slice none 0 0] 31)).cell? ⟨w.heap.size, 2, none⟩ = some (.slice ba m.boxes.length bc) := by first | (simp; done) | (rw [World.cell?_alloc_at _ _ _ _ (by simp)]; rfl) | (rw [World.cell?_alloc_past _ _ _ (by simp <;> omega), World.cell?_alloc_at _ _ _ _ (by simp)]; rfl) | (rw [World.cell?_alloc_past _ _ _ (by simp <;> omega), World.cell?_alloc_past _ _ _ (by simp <;> omega), World.cell?_alloc_at _ _ _ _ (by simp)]; rfl)
  have pp3 : ((w.alloc (.cells #[.int .i64 m.retries, .slice oa m.outs.length oc, .slice ba m.boxes.length bc, .slice ia m.images.length ic] 31)).alloc (.cells #[.int .i64 0, .slice none 0 0, .slice none 0 0, .slice none 0 0] 31)).cell? ⟨w.heap.size, 3, none⟩ = some (.slice ia m.images.length ic) := by first | (simp; done) | (rw [World.cell?_alloc_at _ _ _ _ (by simp)]; rfl) | (rw [World.cell?_alloc_past _ _ _ (by simp <;> omega), World.cell?_alloc_at _ _ _ _ (by simp)]; rfl) | (rw [World.cell?_alloc_past _ _ _ (by simp <;> omega), World.cell?_alloc_past _ _ _ (by simp <;> omega), World.cell?_alloc_at _ _ _ _ (by simp)]; rfl)
  have zz0 : ((w.alloc (.cells #[.int .i64 m.retries, .slice oa m.outs.length oc, .slice ba m.boxes.length bc, .slice ia m.images.length ic] 31)).alloc (.cells #[.int .i64 0, .slice none 0 0, .slice none 0 0, .slice none 0 0] 31)).cell? ⟨w.heap.size + 1, 0, none⟩ = some (.int .i64 0) := by first | (simp; done) | (rw [World.cell?_alloc_at _ _ _ _ (by simp)]; rfl) | (rw [World.cell?_alloc_past _ _ _ (by simp <;> omega), World.cell?_alloc_at _ _ _ _ (by simp)]; rfl) | (rw [World.cell?_alloc_past _ _ _ (by simp <;> omega), World.cell?_alloc_past _ _ _ (by simp <;> omega), World.cell?_alloc_at _ _ _ _ (by simp)]; rfl)
  have zz1 : ((w.alloc (.cells #[.int .i64 m.retries, .slice oa m.outs.length oc, .slice ba m.boxes.length bc, .slice ia m.images.length ic] 31)).alloc (.cells #[.int .i64 0, .slice none 0 0, .slice none 0 0, .slice none 0 0] 31)).cell? ⟨w.heap.size + 1, 1, none⟩ = some (.slice none 0 0) := by first | (simp; done) | (rw [World.cell?_alloc_at _ _ _ _ (by simp)]; rfl) | (rw [World.cell?_alloc_past _ _ _ (by simp <;> omega), World.cell?_alloc_at _ _ _ _ (by simp)]; rfl) | (rw [World.cell?_alloc_past _ _ _ (by simp <;> omega), World.cell?_alloc_past _ _ _ (by simp <;> omega), World.cell?_alloc_at _ _ _ _ (by simp)]; rfl)
  have zz2 : ((w.alloc (.cells #[.int .i64 m.retries, .slice oa m.outs.length oc, .slice ba m.boxes.length bc, .slice ia m.images.length ic] 31)).alloc (.cells #[.int .i64 0, .slice none 0 0, .slice none 0 0, .slice none 0 0] 31)).cell? ⟨w.heap.size + 1, 2, none⟩ = some (.slice none 0 0) := by first | (simp; done) | (rw [World.cell?_alloc_at _ _ _ _ (by simp)]; rfl) | (rw [World.cell?_alloc_past _ _ _ (by simp <;> omega), World.cell?_alloc_at _ _ _ _ (by simp)]; rfl) | (rw [World.cell?_alloc_past _ _ _ (by simp <;> omega), World.cell?_alloc_past _ _ _ (by simp <;> omega), World.cell?_alloc_at _ _ _ _ (by simp)]; rfl)
  have zz3 : ((w.alloc (.cells #[.int .i64 m.retries, .slice oa m.outs.length oc, .slice ba m.boxes.length bc, .slice ia m.images.length ic] 31)).alloc (.cells #[.int .i64 0, .slice none 0 0, .slice none 0 0, .slice none 0 0] 31)).cell? ⟨w.heap.size + 1, 3, none⟩ = some (.slice none 0 0) := by first | (simp; done) | (rw [World.cell?_alloc_at _ _ _ _ (by simp)]; rfl) | (rw [World.cell?_alloc_past _ _ _ (by simp <;> omega), World.cell?_alloc_at _ _ _ _ (by simp)]; rfl) | (rw [World.cell?_alloc_past _ _ _ (by simp <;> omega), World.cell?_alloc_past _ _ _ (by simp <;> omega), World.cell?_alloc_at _ _ _ _ (by simp)]; rfl)
  have hb2 := (by repeat (first | exact hbel | refine belAlloc ?_ _ | refine belDrew ?_ | refine belSet ?_ _ _ (by simp)) : Below w.heap.size w ((w.alloc (.cells #[.int .i64 m.retries, .slice oa m.outs.length oc, .slice ba m.boxes.length bc, .slice ia m.images.length ic] 31)).alloc (.cells #[.int .i64 0, .slice none 0 0, .slice none 0 0, .slice none 0 0] 31)))
  replace hw := belStep hw hb2
  have ppB : Blk ((w.alloc (.cells #[.int .i64 m.retries, .slice oa m.outs.length oc, .slice ba m.boxes.length bc, .slice ia m.images.length ic] 31)).alloc (.cells #[.int .i64 0, .slice none 0 0, .slice none 0 0, .slice none 0 0] 31)) (w.heap.size) [.int .i64 m.retries, .slice oa m.outs.length oc, .slice ba m.boxes.length bc, .slice ia m.images.length ic] 31 := (Blk.at (by simp) : Blk (w.alloc (.cells #[.int .i64 m.retries, .slice oa m.outs.length oc, .slice ba m.boxes.length bc, .slice ia m.images.length ic] 31)) (w.heap.size) [.int .i64 m.retries, .slice oa m.outs.length oc, .slice ba m.boxes.length bc, .slice ia m.images.length ic] 31).later (by repeat (first | exact Below.refl _ _ | refine belAlloc ?_ _))
  have ppF := Blk.keepF ppB
  replace ppB := Blk.keepB ppB
  have zzB : Blk ((w.alloc (.cells #[.int .i64 m.retries, .slice oa m.outs.length oc, .slice ba m.boxes.length bc, .slice ia m.images.length ic] 31)).alloc (.cells #[.int .i64 0, .slice none 0 0, .slice none 0 0, .slice none 0 0] 31)) (w.heap.size + 1) [.int .i64 0, .slice none 0 0, .slice none 0 0, .slice none 0 0] 31 := (Blk.at (by simp) : Blk ((w.alloc (.cells #[.int .i64 m.retries, .slice oa m.outs.length oc, .slice ba m.boxes.length bc, .slice ia m.images.length ic] 31)).alloc (.cells #[.int .i64 0, .slice none 0 0, .slice none 0 0, .slice none 0 0] 31)) (w.heap.size + 1) [.int .i64 0, .slice none 0 0, .slice none 0 0, .slice none 0 0] 31).later (by repeat (first | exact Below.refl _ _ | refine belAlloc ?_ _))
  have zzF := Blk.keepF zzB
  replace zzB := Blk.keepB zzB
  clear hb2 hbel
  generalize (w.alloc (.cells #[.int .i64 m.retries, .slice oa m.outs.length oc, .slice ba m.boxes.length bc, .slice ia m.images.length ic] 31)).alloc (.cells #[.int .i64 0, .slice none 0 0, .slice none 0 0, .slice none 0 0] 31) = W1 at *
  replace pp0 := keep pp0
  replace pp1 := keep pp1
  replace pp2 := keep pp2
  replace pp3 := keep pp3
  replace zz0 := keep zz0
  replace zz1 := keep zz1
  replace zz2 := keep zz2
  replace zz3 := keep zz3
  have hbel : Below W1.heap.size W1 W1 := Below.refl _ _
  skip
  have HP := Lib.hid (ppB W1 (Below.refl _ _))
  have HZ := Lib.hid (zzB W1 (Below.refl _ _))
  have HB := Lib.hid hw
  clear hw ppB zzB
  clear pp0 pp1 pp2 pp3 zz0 zz1 zz2 zz3 ppF zzF
  have pp0 := keep (HP.out.cell (j := 0) rfl)
  have pp1 := keep (HP.out.cell (j := 1) rfl)
  have pp2 := keep (HP.out.cell (j := 2) rfl)
  have pp3 := keep (HP.out.cell (j := 3) rfl)
  have HFW := Lib.hid (fun u (hu : Below w.heap.size w u) b (hb : b ∈ F) => Nat.lt_of_lt_of_le (HFF.out b hb) hu.size)
  have CT := Lib.hid (fun u (hu : Below w.heap.size w u) => iref_Touch ia m.images.length ic m.images d ul uc U round u rfl (HRI.out.later hu) HU9.out (HRU.out.later hu) hn9)
  obtain ⟨M, hM⟩ : ∃ M, touchI m.images U round = M := ⟨_, rfl⟩
  rw [hM] at CT
  have HM := Lib.hid (show touchW m U round = { m with images := M } by unfold touchW; rw [hM])
  obtain ⟨n, hn⟩ : ∃ n, M.length = n := ⟨_, rfl⟩
  rw [hn] at CT
  have HNL := Lib.hid hn
  clear hM hn
  have hlt1 := HP.out.lt
  have hlt2 := HZ.out.lt
  have HLW := Lib.hid HB.out.size
  go_upto_region 2 with (go_at_call 101; (with_reducible refine (CT.out _ (belStep HB.out hbel)).mono ?_); rintro e w5 ⟨v5, rfl, ho5, hb5⟩; obtain ⟨na, nc, e9, hr9⟩ := rowR_of_own ho5; subst e9; have HO2 := Lib.hid ho5; have HB5 := Lib.hid (belStep hbel hb5); have p3 := (HP.out.later HB5.out).cell (j := 3) rfl; have pf := (HP.out.later HB5.out).frozen; clear ho5 hb5 hr9)
  clear p3 pf pp0 pp1 pp2 pp3 hbel
  have HP6 := Lib.hid ((HP.out.later HB5.out).set 3 (.slice na n nc))
  have HA6 := Lib.hid ((Apart.refl [w.heap.size, w.heap.size + 1] w5).set ⟨w.heap.size, 3, none⟩ (.slice na n nc) (by simp))
  have HB6 := Lib.hid (belSet (belStep HB.out HB5.out) ⟨w.heap.size, 3, none⟩ (.slice na n nc) (Nat.le_refl _))
  have HZ6 := Lib.hid ((HZ.out.later HB5.out).apart ((Apart.refl [w.heap.size] w5).set ⟨w.heap.size, 3, none⟩ (.slice na n nc) (by simp)) (by simp))
  generalize w5.setCell ⟨w.heap.size, 3, none⟩ (.slice na n nc) = W6 at *
  have p0 := HP6.out.cell (j := 0) rfl
  have p1 := HP6.out.cell (j := 1) rfl
  have p2 := HP6.out.cell (j := 2) rfl
  have p3 := HP6.out.cell (j := 3) rfl
  have z0 := HZ6.out.cell (j := 0) rfl
  have z1 := HZ6.out.cell (j := 1) rfl
  have z2 := HZ6.out.cell (j := 2) rfl
  have z3 := HZ6.out.cell (j := 3) rfl
  have zf := HZ6.out.frozen
  go_wp2
  have hfb := Lib.hid (belSet (belSet (belSet (belSet HB6.out ⟨w.heap.size + 1, 0, none⟩ (.int .i64 m.retries) (Nat.le_succ _)) ⟨w.heap.size + 1, 1, none⟩ (.slice oa m.outs.length oc) (Nat.le_succ _)) ⟨w.heap.size + 1, 2, none⟩ (.slice ba m.boxes.length bc) (Nat.le_succ _)) ⟨w.heap.size + 1, 3, none⟩ (.slice na n nc) (Nat.le_succ _))
  have hfa := Lib.hid ((((HA6.out.set ⟨w.heap.size + 1, 0, none⟩ (.int .i64 m.retries) (by simp)).set ⟨w.heap.size + 1, 1, none⟩ (.slice oa m.outs.length oc) (by simp)).set ⟨w.heap.size + 1, 2, none⟩ (.slice ba m.boxes.length bc) (by simp)).set ⟨w.heap.size + 1, 3, none⟩ (.slice na n nc) (by simp))
  refine r16touch_ret _ (w.heap.size + 1) _ _ oa _ oc ba _ bc na n nc _ rfl ((((HZ6.out.set 0 (.int .i64 m.retries)).set 1 (.slice oa m.outs.length oc)).set 2 (.slice ba m.boxes.length bc)).set 3 (.slice na n nc)) ⟨_, rfl, ?_, hfb.out⟩
  rw [HM.out]
  obtain ⟨_, _, _, _, _, _, e8, _, _, _, n1, n2, _⟩ := HV.out
  simp only [Value.agg.injEq, Array.mk.injEq, List.cons.injEq, Value.slice.injEq, true_and, and_true] at e8
  obtain ⟨⟨rfl, rfl⟩, ⟨rfl, rfl⟩, rfl, rfl⟩ := e8
  refine ⟨oa, oc, ba, bc, na, nc, by rw [show ({ m with images := M } : WorldV).images.length = n from HNL.out], HRO.out.later hfb.out, HRL.out.later hfb.out, ?_, n1, n2, notin_own HO2.out (fun b hb => Nat.lt_of_lt_of_le (HFF.out b hb) HLW.out)⟩
  have h9 := own_row (own_apartF HO2.out hfa.out (fun b hb => by simp only [List.mem_cons, List.not_mem_nil, or_false] at hb; omega))
  rw [show ({ m with images := M } : WorldV).images.length = n from HNL.out]; exact h9
end Go.Proofs.Ytcnjcldfbidkmaa
