
/- RankMore holds for all its arguments. No conditions. -/
import Derived.Test.YtcgpmihjodolmaaAwake20
import Derived.Test.YtcgpmihjodolmaaRkLM
import Derived.Test.YtcgpmihjodolmaaPodFew
namespace Go.Proofs.Ytcgpmihjodolmaa.rankMore
open Go.ChangeShapes Go.WideShapes Go.ChangeAt Go.RowKit
open Go.ChangeMaps (open_string shut_string)
set_option linter.unusedVariables false
set_option linter.unusedSimpArgs false
theorem ofF_two (p q : ByteArray) (x y : UseV) (hx : x.id = p) (hy : y.id = q) (h : p ≠ q) : ofF [x, y] p = x ∧ ofF [x, y] q = y := by
  subst hx hy
  have h1 : (x.id.toList == x.id.toList) = true := beq_self_eq_true _
  have h2 : (y.id.toList == y.id.toList) = true := beq_self_eq_true _
  have h3 : (x.id.toList == y.id.toList) = false := by
    cases hq : (x.id.toList == y.id.toList) with
    | false => rfl
    | true => exact absurd (str_extG (beq_iff_eq.1 hq)) h
  unfold ofF
  exact ⟨by simp [List.find?_cons, h1], by simp [List.find?_cons, h2, h3]⟩
theorem use_ok {i : ByteArray} {x : Int} (h0 : 0 ≤ x) (h1 : x ≤ 4294967295) : UseOK ⟨i, x, 0, 0⟩ := by unfold UseOK; dsimp only; omega
theorem less_ne {p q : ByteArray} (h : Op.bytesLess p.toList q.toList = true) : p ≠ q := by
  rintro rfl
  rw [bytesLess_iff] at h
  exact absurd h (by simp)
theorem use_ok3 {i : ByteArray} {x y z : Int} (h0 : 0 ≤ x) (h1 : x ≤ 9000000000) (h2 : 0 ≤ y) (h3 : y ≤ 9000000000) (h4 : 0 ≤ z) (h5 : z ≤ 9000000000) : UseOK ⟨i, x, y, z⟩ := by unfold UseOK; dsimp only; omega
theorem Blk.ne {w : World} {M M' : Nat} {C C' : List Value} {T T' : TypeId} (h : Blk w M C T) (h' : Blk w M' C' T') (hl : C.length ≠ C'.length) : M ≠ M' := by
  rintro rfl
  unfold Blk at h h'
  have := h.symm.trans h'
  simp at this
  exact hl (by rw [this.1])
theorem rd_v3 {w : World} {a b c : Value} (h : Rd Try.prog w 83 [a, b, c]) : ∃ x y z : Int, a = .int .u32 x ∧ b = .int .u32 y ∧ c = .int .u32 z ∧ (0 ≤ x ∧ x ≤ 4294967295) ∧ (0 ≤ y ∧ y ≤ 4294967295) ∧ (0 ≤ z ∧ z ≤ 4294967295) := by
  obtain ⟨_, hf⟩ := Rd.array Try.underlying83 h
  have h0 := hf 0 (by omega)
  have h1 := hf 1 (by omega)
  have h2 := hf 2 (by omega)
  simp [show Try.prog.cellsOf 53 = 1 by kernel_rfl] at h0 h1 h2
  obtain ⟨x, e0, w0⟩ := Rd.int Try.underlying53 h0
  obtain ⟨y, e1, w1⟩ := Rd.int Try.underlying53 h1
  obtain ⟨z, e2, w2⟩ := Rd.int Try.underlying53 h2
  exact ⟨x, y, z, one_int e0, one_int e1, one_int e2, in32_of_wf w0, in32_of_wf w1, in32_of_wf w2⟩
set_option maxRecDepth 100000 in
theorem open_v3 {H : Type} {enc : TypeId × Value → H} {W : World} {v : Value} {b : Nat} {d : DataW H} {p : List MemPlace} (o : Value.okWide Try.prog W .any b 83 v) (h : DataW.Trod enc Try.prog W 0 (fun _ => true) true 83 v d p) :
    ∃ x y z : Int, v = .agg #[.int .u32 x, .int .u32 y, .int .u32 z] ∧ ((0 ≤ x ∧ x ≤ 4294967295) ∧ (0 ≤ y ∧ y ≤ 4294967295) ∧ (0 ≤ z ∧ z ≤ 4294967295)) := by
  obtain ⟨cs, rfl⟩ := agg_of_array Try.underlying83 o
  have hr := Rd.of h
  rw [agg_cells] at hr
  obtain ⟨hl, hf⟩ := Rd.array Try.underlying83 hr
  rw [show Try.prog.cellsOf 83 = 3 by kernel_rfl] at hl
  obtain ⟨a, b, c, e⟩ := list3 hl
  rw [e] at hr
  obtain ⟨x, y, z, rfl, rfl, rfl, hx, hy, hz⟩ := rd_v3 hr
  refine ⟨x, y, z, ?_, hx, hy, hz⟩
  rw [show cs = cs.toList.toArray by simp, e]
theorem ahead_more {g : Nat} {p q : PodV} {U U' : List UseV} {X Y X' : Int} (hX : exF g p U = X) (hY : exF g q U = Y) (hX' : exF g p U' = X') (hY' : exF g q U' = Y) (hle : X ≤ X') (h : aheadB g p q U = true) : aheadB g p q U' = true := by
  have c1 := ahead_cases g p q U X Y hX hY
  have c2 := ahead_cases g p q U' X' Y hX' hY'
  rw [h] at c1
  clear hX hY hX' hY' h
  rcases c2 with ⟨_, _, e⟩ | ⟨a1, a2, e⟩ | ⟨s2, ⟨n2, e⟩ | ⟨n2, ⟨d2, e⟩ | ⟨d2, e⟩⟩⟩
  · exact e
  · exfalso
    rcases c1 with ⟨b1, b2, _⟩ | ⟨_, _, f⟩ | ⟨s1, _⟩
    · omega
    · cases f
    · omega
  all_goals
    rw [e]
    rcases c1 with ⟨b1, b2, _⟩ | ⟨_, _, f⟩ | ⟨s1, ⟨n1, f⟩ | ⟨n1, ⟨d1, f⟩ | ⟨d1, f⟩⟩⟩
  all_goals first | (exfalso; omega) | (cases f; done) | exact f.symm | exact absurd n1 n2 | exact absurd n2 n1 | exact decide_eq_true (by have := of_decide_eq_true f.symm; omega) | exact decide_eq_true (by omega) | skip
  all_goals (have := of_decide_eq_true f.symm; exfalso; omega)
theorem sig_any (n : Int) (w : World) (hn : 0 ≤ n ∧ n ≤ 255) : Calls Try.prog 38 #[.int .u8 n] w fun e w' => (∃ g : Nat, g < 3 ∧ e = .returned (.int .i64 (g : Int))) ∧ w = w' := by
  obtain ⟨h0, h1⟩ := hn
  have hne : ¬ ((3 : Int) = 0) := by omega
  obtain ⟨g, hg⟩ : ∃ g : Nat, n % 3 = (g : Int) := ⟨(n % 3).toNat, by omega⟩
  have hg3 : g < 3 := by omega
  go_enter Try.func38, Try.ntmps38
  go_wp2
  go_ret
  exact ⟨⟨g, hg3, rfl⟩, rfl⟩
theorem readF_bd (n : Nat) : 0 ≤ readF n ∧ readF n ≤ 9223372036854775807 := by
  unfold readF
  split
  · omega
  · split
    · omega
    · rename_i h
      have := whole_lt (frung n) (by omega)
      omega
theorem readL_ok (L : List UsgV) : ∀ u ∈ readL L, UseOK u := by
  intro u hu
  unfold readL sortU at hu
  obtain ⟨v, _, rfl⟩ := List.mem_map.1 (sortBy_mem.1 hu)
  exact ⟨readF_bd _, readF_bd _, readF_bd _⟩
theorem rread2 {r : RawV} {a : Option Addr} {len cap : Nat} {L : List UsgV} {w : World} {S : SmpV} (hl : L.length = len) (hr : r.ok) (hok : ∀ x ∈ L, x.ok) (hR : Row w a len cap 4 (L.flatMap UsgV.cells)) (hq : rightR r L = true) (hS : readOK r L = S) :
    Calls Try.prog 24 #[.agg #[.int .i64 r.t, .float .f64 r.x, .float .f64 r.y, .float .f64 r.z, .slice a len cap]] w fun e w' => (∃ b n, e = .returned (.agg #[.int .i64 S.t, .int .i64 S.a, .int .i64 S.b, .int .i64 S.c, .slice b S.use.length n]) ∧ OwnR w' w.heap.size 51 4 (.slice b S.use.length n) S.use.length (S.use.flatMap UseV.cells)) ∧ Below w.heap.size w w' := hS ▸ sref_Read r a len cap L w hl hr hok hR hq
theorem few_lit (p q : PodV) (u : World) (hp : p.ok) (hq : q.ok) : Calls Try.prog 51 #[.slice (some ⟨u.heap.size, 0, none⟩) 2 2] (u.alloc (.cells #[.string p.id, .int .i64 p.prio, .bool p.crit, .int .i64 p.r0, .int .i64 p.r1, .int .i64 p.r2, .int .i64 p.l0, .int .i64 p.l1, .int .i64 p.l2, .string p.img, .int .i64 p.size, .string q.id, .int .i64 q.prio, .bool q.crit, .int .i64 q.r0, .int .i64 q.r1, .int .i64 q.r2, .int .i64 q.l0, .int .i64 q.l1, .int .i64 q.l2, .string q.img, .int .i64 q.size] 62)) fun e w' => e = .returned (.bool (fewB [p, q])) ∧ Below u.heap.size u w' := by
  refine (pref_Few (some ⟨u.heap.size, 0, none⟩) 2 2 [p, q] _ rfl ?_ (row_new u [.string p.id, .int .i64 p.prio, .bool p.crit, .int .i64 p.r0, .int .i64 p.r1, .int .i64 p.r2, .int .i64 p.l0, .int .i64 p.l1, .int .i64 p.l2, .string p.img, .int .i64 p.size, .string q.id, .int .i64 q.prio, .bool q.crit, .int .i64 q.r0, .int .i64 q.r1, .int .i64 q.r2, .int .i64 q.l0, .int .i64 q.l1, .int .i64 q.l2, .string q.img, .int .i64 q.size] 62 2 11 rfl (by unfold maxLen; omega))).mono ?_
  · intro x hx
    simp only [List.mem_cons, List.not_mem_nil, or_false] at hx
    rcases hx with rfl | rfl <;> assumption
  · rintro e w' ⟨he, hb⟩
    exact ⟨he, (belAlloc (Below.refl _ _) _).trans (hb.mono (by simp))⟩
set_option maxRecDepth 100000 in
set_option maxHeartbeats 16000000 in
theorem walk (n : Int) (p q : PodV) (x0 x1 x2 y0 y1 y2 m : Int) (w : World) (hn : 0 ≤ n ∧ n ≤ 255) (hp : p.ok) (hq : q.ok) (hx : (0 ≤ x0 ∧ x0 ≤ 4294967295) ∧ (0 ≤ x1 ∧ x1 ≤ 4294967295) ∧ (0 ≤ x2 ∧ x2 ≤ 4294967295)) (hy : (0 ≤ y0 ∧ y0 ≤ 4294967295) ∧ (0 ≤ y1 ∧ y1 ≤ 4294967295) ∧ (0 ≤ y2 ∧ y2 ≤ 4294967295)) (hm : 0 ≤ m ∧ m ≤ 4294967295) :
    Calls Try.prog 15 #[.int .u8 n, p.v, q.v, .agg #[.int .u32 x0, .int .u32 x1, .int .u32 x2], .agg #[.int .u32 y0, .int .u32 y1, .int .u32 y2], .int .u32 m] w fun e w' => e = .returned (.bool true) ∧ Below w.heap.size w w' := by
  have hw : Below w.heap.size w w := Below.refl _ _
  have hbel := hw
  obtain ⟨⟨hx0, hx1⟩, ⟨hx2, hx3⟩, hx4, hx5⟩ := hx
  obtain ⟨⟨hy0, hy1⟩, ⟨hy2, hy3⟩, hy4, hy5⟩ := hy
  obtain ⟨hm0, hm1⟩ := hm
  have HN := Lib.hid hn
  clear hn
  have HP := Lib.hid hp
  have HQ := Lib.hid hq
  obtain ⟨fw, hfw⟩ : ∃ b, fewB [p, q] = b := ⟨_, rfl⟩
  have CFP := Lib.hid (fun u => hfw ▸ few_lit p q u hp hq)
  obtain ⟨r0, hr0⟩ : ∃ b, rightB p = b := ⟨_, rfl⟩
  have CP0 := Lib.hid (fun v => hr0 ▸ pref_Right p v hp)
  have HR0 := Lib.hid hr0
  obtain ⟨r1, hr1⟩ : ∃ b, rightB q = b := ⟨_, rfl⟩
  have CP1 := Lib.hid (fun v => hr1 ▸ pref_Right q v hq)
  have HR1 := Lib.hid hr1
  clear hfw hr0 hp hr1 hq
  have CSG := Lib.hid (fun u => sig_any n u HN.out)
  obtain ⟨sa, hsa⟩ : ∃ b, (p.id.toList == q.id.toList) = b := ⟨_, rfl⟩
  obtain ⟨sn, hsn⟩ : ∃ b, (!sa) = b := ⟨_, rfl⟩
  have KEY := Lib.hid (show ((fw = false) ∨ (fw = true ∧ r0 = false) ∨ (fw = true ∧ r0 = true ∧ r1 = false) ∨ (fw = true ∧ r0 = true ∧ r1 = true ∧ sn = false)) ∨ (fw = true ∧ r0 = true ∧ r1 = true ∧ sn = true) from by
    cases fw <;> cases r0 <;> cases r1 <;> cases sn <;> simp)
  unfold PodV.v
  go_enter Try.func15, Try.ntmps15
  go_upto_region 1 with fail
  have pp0 : ((((w.alloc (.cells #[.string p.id, .int .i64 p.prio, .bool p.crit, .int .i64 p.r0, .int .i64 p.r1, .int .i64 p.r2, .int .i64 p.l0, .int .i64 p.l1, .int .i64 p.l2, .string p.img, .int .i64 p.size] 62)).alloc (.cells #[.string q.id, .int .i64 q.prio, .bool q.crit, .int .i64 q.r0, .int .i64 q.r1, .int .i64 q.r2, .int .i64 q.l0, .int .i64 q.l1, .int .i64 q.l2, .string q.img, .int .i64 q.size] 62)).alloc (.cells #[.int .u32 x0, .int .u32 x1, .int .u32 x2] 83)).alloc (.cells #[.int .u32 y0, .int .u32 y1, .int .u32 y2] 83)).cell? ⟨w.heap.size, 0, none⟩ = some (.string p.id) := by first | (simp; done) | (rw [World.cell?_alloc_at _ _ _ _ (by simp)]; rfl) | (rw [World.cell?_alloc_past _ _ _ (by simp <;> omega), World.cell?_alloc_at _ _ _ _ (by simp)]; rfl) | (rw [World.cell?_alloc_past _ _ _ (by simp <;> omega), World.cell?_alloc_past _ _ _ (by simp <;> omega), World.cell?_alloc_at _ _ _ _ (by simp)]; rfl) | (rw [World.cell?_alloc_past _ _ _ (by simp <;> omega), World.cell?_alloc_past _ _ _ (by simp <;> omega), World.cell?_alloc_past _ _ _ (by simp <;> omega), World.cell?_alloc_at _ _ _ _ (by simp)]; rfl)
  have pp1 : ((((w.alloc (.cells #[.string p.id, .int .i64 p.prio, .bool p.crit, .int .i64 p.r0, .int .i64 p.r1, .int .i64 p.r2, .int .i64 p.l0, .int .i64 p.l1, .int .i64 p.l2, .string p.img, .int .i64 p.size] 62)).alloc (.cells #[.string q.id, .int .i64 q.prio, .bool q.crit, .int .i64 q.r0, .int .i64 q.r1, .int .i64 q.r2, .int .i64 q.l0, .int .i64 q.l1, .int .i64 q.l2, .string q.img, .int .i64 q.size] 62)).alloc (.cells #[.int .u32 x0, .int .u32 x1, .int .u32 x2] 83)).alloc (.cells #[.int .u32 y0, .int .u32 y1, .int .u32 y2] 83)).cell? ⟨w.heap.size, 1, none⟩ = some (.int .i64 p.prio) := by first | (simp; done) | (rw [World.cell?_alloc_at _ _ _ _ (by simp)]; rfl) | (rw [World.cell?_alloc_past _ _ _ (by simp <;> omega), World.cell?_alloc_at _ _ _ _ (by simp)]; rfl) | (rw [World.cell?_alloc_past _ _ _ (by simp <;> omega), World.cell?_alloc_past _ _ _ (by simp <;> omega), World.cell?_alloc_at _ _ _ _ (by simp)]; rfl) | (rw [World.cell?_alloc_past _ _ _ (by simp <;> omega), World.cell?_alloc_past _ _ _ (by simp <;> omega), World.cell?_alloc_past _ _ _ (by simp <;> omega), World.cell?_alloc_at _ _ _ _ (by simp)]; rfl)
  have pp2 : ((((w.alloc (.cells #[.string p.id, .int .i64 p.prio, .bool p.crit, .int .i64 p.r0, .int .i64 p.r1, .int .i64 p.r2, .int .i64 p.l0, .int .i64 p.l1, .int .i64 p.l2, .string p.img, .int .i64 p.size] 62)).alloc (.cells #[.string q.id, .int .i64 q.prio, .bool q.crit, .int .i64 q.r0, .int .i64 q.r1, .int .i64 q.r2, .int .i64 q.l0, .int .i64 q.l1, .int .i64 q.l2, .string q.img, .int .i64 q.size] 62)).alloc (.cells #[.int .u32 x0, .int .u32 x1, .int .u32 x2] 83)).alloc (.cells #[.int .u32 y0, .int .u32 y1, .int .u32 y2] 83)).cell? ⟨w.heap.size, 2, none⟩ = some (.bool p.crit) := by first | (simp; done) | (rw [World.cell?_alloc_at _ _ _ _ (by simp)]; rfl) | (rw [World.cell?_alloc_past _ _ _ (by simp <;> omega), World.cell?_alloc_at _ _ _ _ (by simp)]; rfl) | (rw [World.cell?_alloc_past _ _ _ (by simp <;> omega), World.cell?_alloc_past _ _ _ (by simp <;> omega), World.cell?_alloc_at _ _ _ _ (by simp)]; rfl) | (rw [World.cell?_alloc_past _ _ _ (by simp <;> omega), World.cell?_alloc_past _ _ _ (by simp <;> omega), World.cell?_alloc_past _ _ _ (by simp <;> omega), World.cell?_alloc_at _ _ _ _ (by simp)]; rfl)
  have pp3 : ((((w.alloc (.cells #[.string p.id, .int .i64 p.prio, .bool p.crit, .int .i64 p.r0, .int .i64 p.r1, .int .i64 p.r2, .int .i64 p.l0, .int .i64 p.l1, .int .i64 p.l2, .string p.img, .int .i64 p.size] 62)).alloc (.cells #[.string q.id, .int .i64 q.prio, .bool q.crit, .int .i64 q.r0, .int .i64 q.r1, .int .i64 q.r2, .int .i64 q.l0, .int .i64 q.l1, .int .i64 q.l2, .string q.img, .int .i64 q.size] 62)).alloc (.cells #[.int .u32 x0, .int .u32 x1, .int .u32 x2] 83)).alloc (.cells #[.int .u32 y0, .int .u32 y1, .int .u32 y2] 83)).cell? ⟨w.heap.size, 3, none⟩ = some (.int .i64 p.r0) := by first | (simp; done) | (rw [World.cell?_alloc_at _ _ _ _ (by simp)]; rfl) | (rw [World.cell?_alloc_past _ _ _ (by simp <;> omega), World.cell?_alloc_at _ _ _ _ (by simp)]; rfl) | (rw [World.cell?_alloc_past _ _ _ (by simp <;> omega), World.cell?_alloc_past _ _ _ (by simp <;> omega), World.cell?_alloc_at _ _ _ _ (by simp)]; rfl) | (rw [World.cell?_alloc_past _ _ _ (by simp <;> omega), World.cell?_alloc_past _ _ _ (by simp <;> omega), World.cell?_alloc_past _ _ _ (by simp <;> omega), World.cell?_alloc_at _ _ _ _ (by simp)]; rfl)
  have pp4 : ((((w.alloc (.cells #[.string p.id, .int .i64 p.prio, .bool p.crit, .int .i64 p.r0, .int .i64 p.r1, .int .i64 p.r2, .int .i64 p.l0, .int .i64 p.l1, .int .i64 p.l2, .string p.img, .int .i64 p.size] 62)).alloc (.cells #[.string q.id, .int .i64 q.prio, .bool q.crit, .int .i64 q.r0, .int .i64 q.r1, .int .i64 q.r2, .int .i64 q.l0, .int .i64 q.l1, .int .i64 q.l2, .string q.img, .int .i64 q.size] 62)).alloc (.cells #[.int .u32 x0, .int .u32 x1, .int .u32 x2] 83)).alloc (.cells #[.int .u32 y0, .int .u32 y1, .int .u32 y2] 83)).cell? ⟨w.heap.size, 4, none⟩ = some (.int .i64 p.r1) := by first | (simp; done) | (rw [World.cell?_alloc_at _ _ _ _ (by simp)]; rfl) | (rw [World.cell?_alloc_past _ _ _ (by simp <;> omega), World.cell?_alloc_at _ _ _ _ (by simp)]; rfl) | (rw [World.cell?_alloc_past _ _ _ (by simp <;> omega), World.cell?_alloc_past _ _ _ (by simp <;> omega), World.cell?_alloc_at _ _ _ _ (by simp)]; rfl) | (rw [World.cell?_alloc_past _ _ _ (by simp <;> omega), World.cell?_alloc_past _ _ _ (by simp <;> omega), World.cell?_alloc_past _ _ _ (by simp <;> omega), World.cell?_alloc_at _ _ _ _ (by simp)]; rfl)
  have pp5 : ((((w.alloc (.cells #[.string p.id, .int .i64 p.prio, .bool p.crit, .int .i64 p.r0, .int .i64 p.r1, .int .i64 p.r2, .int .i64 p.l0, .int .i64 p.l1, .int .i64 p.l2, .string p.img, .int .i64 p.size] 62)).alloc (.cells #[.string q.id, .int .i64 q.prio, .bool q.crit, .int .i64 q.r0, .int .i64 q.r1, .int .i64 q.r2, .int .i64 q.l0, .int .i64 q.l1, .int .i64 q.l2, .string q.img, .int .i64 q.size] 62)).alloc (.cells #[.int .u32 x0, .int .u32 x1, .int .u32 x2] 83)).alloc (.cells #[.int .u32 y0, .int .u32 y1, .int .u32 y2] 83)).cell? ⟨w.heap.size, 5, none⟩ = some (.int .i64 p.r2) := by first | (simp; done) | (rw [World.cell?_alloc_at _ _ _ _ (by simp)]; rfl) | (rw [World.cell?_alloc_past _ _ _ (by simp <;> omega), World.cell?_alloc_at _ _ _ _ (by simp)]; rfl) | (rw [World.cell?_alloc_past _ _ _ (by simp <;> omega), World.cell?_alloc_past _ _ _ (by simp <;> omega), World.cell?_alloc_at _ _ _ _ (by simp)]; rfl) | (rw [World.cell?_alloc_past _ _ _ (by simp <;> omega), World.cell?_alloc_past _ _ _ (by simp <;> omega), World.cell?_alloc_past _ _ _ (by simp <;> omega), World.cell?_alloc_at _ _ _ _ (by simp)]; rfl)
  have pp6 : ((((w.alloc (.cells #[.string p.id, .int .i64 p.prio, .bool p.crit, .int .i64 p.r0, .int .i64 p.r1, .int .i64 p.r2, .int .i64 p.l0, .int .i64 p.l1, .int .i64 p.l2, .string p.img, .int .i64 p.size] 62)).alloc (.cells #[.string q.id, .int .i64 q.prio, .bool q.crit, .int .i64 q.r0, .int .i64 q.r1, .int .i64 q.r2, .int .i64 q.l0, .int .i64 q.l1, .int .i64 q.l2, .string q.img, .int .i64 q.size] 62)).alloc (.cells #[.int .u32 x0, .int .u32 x1, .int .u32 x2] 83)).alloc (.cells #[.int .u32 y0, .int .u32 y1, .int .u32 y2] 83)).cell? ⟨w.heap.size, 6, none⟩ = some (.int .i64 p.l0) := by first | (simp; done) | (rw [World.cell?_alloc_at _ _ _ _ (by simp)]; rfl) | (rw [World.cell?_alloc_past _ _ _ (by simp <;> omega), World.cell?_alloc_at _ _ _ _ (by simp)]; rfl) | (rw [World.cell?_alloc_past _ _ _ (by simp <;> omega), World.cell?_alloc_past _ _ _ (by simp <;> omega), World.cell?_alloc_at _ _ _ _ (by simp)]; rfl) | (rw [World.cell?_alloc_past _ _ _ (by simp <;> omega), World.cell?_alloc_past _ _ _ (by simp <;> omega), World.cell?_alloc_past _ _ _ (by simp <;> omega), World.cell?_alloc_at _ _ _ _ (by simp)]; rfl)
  have pp7 : ((((w.alloc (.cells #[.string p.id, .int .i64 p.prio, .bool p.crit, .int .i64 p.r0, .int .i64 p.r1, .int .i64 p.r2, .int .i64 p.l0, .int .i64 p.l1, .int .i64 p.l2, .string p.img, .int .i64 p.size] 62)).alloc (.cells #[.string q.id, .int .i64 q.prio, .bool q.crit, .int .i64 q.r0, .int .i64 q.r1, .int .i64 q.r2, .int .i64 q.l0, .int .i64 q.l1, .int .i64 q.l2, .string q.img, .int .i64 q.size] 62)).alloc (.cells #[.int .u32 x0, .int .u32 x1, .int .u32 x2] 83)).alloc (.cells #[.int .u32 y0, .int .u32 y1, .int .u32 y2] 83)).cell? ⟨w.heap.size, 7, none⟩ = some (.int .i64 p.l1) := by first | (simp; done) | (rw [World.cell?_alloc_at _ _ _ _ (by simp)]; rfl) | (rw [World.cell?_alloc_past _ _ _ (by simp <;> omega), World.cell?_alloc_at _ _ _ _ (by simp)]; rfl) | (rw [World.cell?_alloc_past _ _ _ (by simp <;> omega), World.cell?_alloc_past _ _ _ (by simp <;> omega), World.cell?_alloc_at _ _ _ _ (by simp)]; rfl) | (rw [World.cell?_alloc_past _ _ _ (by simp <;> omega), World.cell?_alloc_past _ _ _ (by simp <;> omega), World.cell?_alloc_past _ _ _ (by simp <;> omega), World.cell?_alloc_at _ _ _ _ (by simp)]; rfl)
  have pp8 : ((((w.alloc (.cells #[.string p.id, .int .i64 p.prio, .bool p.crit, .int .i64 p.r0, .int .i64 p.r1, .int .i64 p.r2, .int .i64 p.l0, .int .i64 p.l1, .int .i64 p.l2, .string p.img, .int .i64 p.size] 62)).alloc (.cells #[.string q.id, .int .i64 q.prio, .bool q.crit, .int .i64 q.r0, .int .i64 q.r1, .int .i64 q.r2, .int .i64 q.l0, .int .i64 q.l1, .int .i64 q.l2, .string q.img, .int .i64 q.size] 62)).alloc (.cells #[.int .u32 x0, .int .u32 x1, .int .u32 x2] 83)).alloc (.cells #[.int .u32 y0, .int .u32 y1, .int .u32 y2] 83)).cell? ⟨w.heap.size, 8, none⟩ = some (.int .i64 p.l2) := by first | (simp; done) | (rw [World.cell?_alloc_at _ _ _ _ (by simp)]; rfl) | (rw [World.cell?_alloc_past _ _ _ (by simp <;> omega), World.cell?_alloc_at _ _ _ _ (by simp)]; rfl) | (rw [World.cell?_alloc_past _ _ _ (by simp <;> omega), World.cell?_alloc_past _ _ _ (by simp <;> omega), World.cell?_alloc_at _ _ _ _ (by simp)]; rfl) | (rw [World.cell?_alloc_past _ _ _ (by simp <;> omega), World.cell?_alloc_past _ _ _ (by simp <;> omega), World.cell?_alloc_past _ _ _ (by simp <;> omega), World.cell?_alloc_at _ _ _ _ (by simp)]; rfl)
  have pp9 : ((((w.alloc (.cells #[.string p.id, .int .i64 p.prio, .bool p.crit, .int .i64 p.r0, .int .i64 p.r1, .int .i64 p.r2, .int .i64 p.l0, .int .i64 p.l1, .int .i64 p.l2, .string p.img, .int .i64 p.size] 62)).alloc (.cells #[.string q.id, .int .i64 q.prio, .bool q.crit, .int .i64 q.r0, .int .i64 q.r1, .int .i64 q.r2, .int .i64 q.l0, .int .i64 q.l1, .int .i64 q.l2, .string q.img, .int .i64 q.size] 62)).alloc (.cells #[.int .u32 x0, .int .u32 x1, .int .u32 x2] 83)).alloc (.cells #[.int .u32 y0, .int .u32 y1, .int .u32 y2] 83)).cell? ⟨w.heap.size, 9, none⟩ = some (.string p.img) := by first | (simp; done) | (rw [World.cell?_alloc_at _ _ _ _ (by simp)]; rfl) | (rw [World.cell?_alloc_past _ _ _ (by simp <;> omega), World.cell?_alloc_at _ _ _ _ (by simp)]; rfl) | (rw [World.cell?_alloc_past _ _ _ (by simp <;> omega), World.cell?_alloc_past _ _ _ (by simp <;> omega), World.cell?_alloc_at _ _ _ _ (by simp)]; rfl) | (rw [World.cell?_alloc_past _ _ _ (by simp <;> omega), World.cell?_alloc_past _ _ _ (by simp <;> omega), World.cell?_alloc_past _ _ _ (by simp <;> omega), World.cell?_alloc_at _ _ _ _ (by simp)]; rfl)
  have pp10 : ((((w.alloc (.cells #[.string p.id, .int .i64 p.prio, .bool p.crit, .int .i64 p.r0, .int .i64 p.r1, .int .i64 p.r2, .int .i64 p.l0, .int .i64 p.l1, .int .i64 p.l2, .string p.img, .int .i64 p.size] 62)).alloc (.cells #[.string q.id, .int .i64 q.prio, .bool q.crit, .int .i64 q.r0, .int .i64 q.r1, .int .i64 q.r2, .int .i64 q.l0, .int .i64 q.l1, .int .i64 q.l2, .string q.img, .int .i64 q.size] 62)).alloc (.cells #[.int .u32 x0, .int .u32 x1, .int .u32 x2] 83)).alloc (.cells #[.int .u32 y0, .int .u32 y1, .int .u32 y2] 83)).cell? ⟨w.heap.size, 10, none⟩ = some (.int .i64 p.size) := by first | (simp; done) | (rw [World.cell?_alloc_at _ _ _ _ (by simp)]; rfl) | (rw [World.cell?_alloc_past _ _ _ (by simp <;> omega), World.cell?_alloc_at _ _ _ _ (by simp)]; rfl) | (rw [World.cell?_alloc_past _ _ _ (by simp <;> omega), World.cell?_alloc_past _ _ _ (by simp <;> omega), World.cell?_alloc_at _ _ _ _ (by simp)]; rfl) | (rw [World.cell?_alloc_past _ _ _ (by simp <;> omega), World.cell?_alloc_past _ _ _ (by simp <;> omega), World.cell?_alloc_past _ _ _ (by simp <;> omega), World.cell?_alloc_at _ _ _ _ (by simp)]; rfl)
  have qq0 : ((((w.alloc (.cells #[.string p.id, .int .i64 p.prio, .bool p.crit, .int .i64 p.r0, .int .i64 p.r1, .int .i64 p.r2, .int .i64 p.l0, .int .i64 p.l1, .int .i64 p.l2, .string p.img, .int .i64 p.size] 62)).alloc (.cells #[.string q.id, .int .i64 q.prio, .bool q.crit, .int .i64 q.r0, .int .i64 q.r1, .int .i64 q.r2, .int .i64 q.l0, .int .i64 q.l1, .int .i64 q.l2, .string q.img, .int .i64 q.size] 62)).alloc (.cells #[.int .u32 x0, .int .u32 x1, .int .u32 x2] 83)).alloc (.cells #[.int .u32 y0, .int .u32 y1, .int .u32 y2] 83)).cell? ⟨w.heap.size + 1, 0, none⟩ = some (.string q.id) := by first | (simp; done) | (rw [World.cell?_alloc_at _ _ _ _ (by simp)]; rfl) | (rw [World.cell?_alloc_past _ _ _ (by simp <;> omega), World.cell?_alloc_at _ _ _ _ (by simp)]; rfl) | (rw [World.cell?_alloc_past _ _ _ (by simp <;> omega), World.cell?_alloc_past _ _ _ (by simp <;> omega), World.cell?_alloc_at _ _ _ _ (by simp)]; rfl) | (rw [World.cell?_alloc_past _ _ _ (by simp <;> omega), World.cell?_alloc_past _ _ _ (by simp <;> omega), World.cell?_alloc_past _ _ _ (by simp <;> omega), World.cell?_alloc_at _ _ _ _ (by simp)]; rfl)
  have qq1 : ((((w.alloc (.cells #[.string p.id, .int .i64 p.prio, .bool p.crit, .int .i64 p.r0, .int .i64 p.r1, .int .i64 p.r2, .int .i64 p.l0, .int .i64 p.l1, .int .i64 p.l2, .string p.img, .int .i64 p.size] 62)).alloc (.cells #[.string q.id, .int .i64 q.prio, .bool q.crit, .int .i64 q.r0, .int .i64 q.r1, .int .i64 q.r2, .int .i64 q.l0, .int .i64 q.l1, .int .i64 q.l2, .string q.img, .int .i64 q.size] 62)).alloc (.cells #[.int .u32 x0, .int .u32 x1, .int .u32 x2] 83)).alloc (.cells #[.int .u32 y0, .int .u32 y1, .int .u32 y2] 83)).cell? ⟨w.heap.size + 1, 1, none⟩ = some (.int .i64 q.prio) := by first | (simp; done) | (rw [World.cell?_alloc_at _ _ _ _ (by simp)]; rfl) | (rw [World.cell?_alloc_past _ _ _ (by simp <;> omega), World.cell?_alloc_at _ _ _ _ (by simp)]; rfl) | (rw [World.cell?_alloc_past _ _ _ (by simp <;> omega), World.cell?_alloc_past _ _ _ (by simp <;> omega), World.cell?_alloc_at _ _ _ _ (by simp)]; rfl) | (rw [World.cell?_alloc_past _ _ _ (by simp <;> omega), World.cell?_alloc_past _ _ _ (by simp <;> omega), World.cell?_alloc_past _ _ _ (by simp <;> omega), World.cell?_alloc_at _ _ _ _ (by simp)]; rfl)
  have qq2 : ((((w.alloc (.cells #[.string p.id, .int .i64 p.prio, .bool p.crit, .int .i64 p.r0, .int .i64 p.r1, .int .i64 p.r2, .int .i64 p.l0, .int .i64 p.l1, .int .i64 p.l2, .string p.img, .int .i64 p.size] 62)).alloc (.cells #[.string q.id, .int .i64 q.prio, .bool q.crit, .int .i64 q.r0, .int .i64 q.r1, .int .i64 q.r2, .int .i64 q.l0, .int .i64 q.l1, .int .i64 q.l2, .string q.img, .int .i64 q.size] 62)).alloc (.cells #[.int .u32 x0, .int .u32 x1, .int .u32 x2] 83)).alloc (.cells #[.int .u32 y0, .int .u32 y1, .int .u32 y2] 83)).cell? ⟨w.heap.size + 1, 2, none⟩ = some (.bool q.crit) := by first | (simp; done) | (rw [World.cell?_alloc_at _ _ _ _ (by simp)]; rfl) | (rw [World.cell?_alloc_past _ _ _ (by simp <;> omega), World.cell?_alloc_at _ _ _ _ (by simp)]; rfl) | (rw [World.cell?_alloc_past _ _ _ (by simp <;> omega), World.cell?_alloc_past _ _ _ (by simp <;> omega), World.cell?_alloc_at _ _ _ _ (by simp)]; rfl) | (rw [World.cell?_alloc_past _ _ _ (by simp <;> omega), World.cell?_alloc_past _ _ _ (by simp <;> omega), World.cell?_alloc_past _ _ _ (by simp <;> omega), World.cell?_alloc_at _ _ _ _ (by simp)]; rfl)
  have qq3 : ((((w.alloc (.cells #[.string p.id, .int .i64 p.prio, .bool p.crit, .int .i64 p.r0, .int .i64 p.r1, .int .i64 p.r2, .int .i64 p.l0, .int .i64 p.l1, .int .i64 p.l2, .string p.img, .int .i64 p.size] 62)).alloc (.cells #[.string q.id, .int .i64 q.prio, .bool q.crit, .int .i64 q.r0, .int .i64 q.r1, .int .i64 q.r2, .int .i64 q.l0, .int .i64 q.l1, .int .i64 q.l2, .string q.img, .int .i64 q.size] 62)).alloc (.cells #[.int .u32 x0, .int .u32 x1, .int .u32 x2] 83)).alloc (.cells #[.int .u32 y0, .int .u32 y1, .int .u32 y2] 83)).cell? ⟨w.heap.size + 1, 3, none⟩ = some (.int .i64 q.r0) := by first | (simp; done) | (rw [World.cell?_alloc_at _ _ _ _ (by simp)]; rfl) | (rw [World.cell?_alloc_past _ _ _ (by simp <;> omega), World.cell?_alloc_at _ _ _ _ (by simp)]; rfl) | (rw [World.cell?_alloc_past _ _ _ (by simp <;> omega), World.cell?_alloc_past _ _ _ (by simp <;> omega), World.cell?_alloc_at _ _ _ _ (by simp)]; rfl) | (rw [World.cell?_alloc_past _ _ _ (by simp <;> omega), World.cell?_alloc_past _ _ _ (by simp <;> omega), World.cell?_alloc_past _ _ _ (by simp <;> omega), World.cell?_alloc_at _ _ _ _ (by simp)]; rfl)
  have qq4 : ((((w.alloc (.cells #[.string p.id, .int .i64 p.prio, .bool p.crit, .int .i64 p.r0, .int .i64 p.r1, .int .i64 p.r2, .int .i64 p.l0, .int .i64 p.l1, .int .i64 p.l2, .string p.img, .int .i64 p.size] 62)).alloc (.cells #[.string q.id, .int .i64 q.prio, .bool q.crit, .int .i64 q.r0, .int .i64 q.r1, .int .i64 q.r2, .int .i64 q.l0, .int .i64 q.l1, .int .i64 q.l2, .string q.img, .int .i64 q.size] 62)).alloc (.cells #[.int .u32 x0, .int .u32 x1, .int .u32 x2] 83)).alloc (.cells #[.int .u32 y0, .int .u32 y1, .int .u32 y2] 83)).cell? ⟨w.heap.size + 1, 4, none⟩ = some (.int .i64 q.r1) := by first | (simp; done) | (rw [World.cell?_alloc_at _ _ _ _ (by simp)]; rfl) | (rw [World.cell?_alloc_past _ _ _ (by simp <;> omega), World.cell?_alloc_at _ _ _ _ (by simp)]; rfl) | (rw [World.cell?_alloc_past _ _ _ (by simp <;> omega), World.cell?_alloc_past _ _ _ (by simp <;> omega), World.cell?_alloc_at _ _ _ _ (by simp)]; rfl) | (rw [World.cell?_alloc_past _ _ _ (by simp <;> omega), World.cell?_alloc_past _ _ _ (by simp <;> omega), World.cell?_alloc_past _ _ _ (by simp <;> omega), World.cell?_alloc_at _ _ _ _ (by simp)]; rfl)
  have qq5 : ((((w.alloc (.cells #[.string p.id, .int .i64 p.prio, .bool p.crit, .int .i64 p.r0, .int .i64 p.r1, .int .i64 p.r2, .int .i64 p.l0, .int .i64 p.l1, .int .i64 p.l2, .string p.img, .int .i64 p.size] 62)).alloc (.cells #[.string q.id, .int .i64 q.prio, .bool q.crit, .int .i64 q.r0, .int .i64 q.r1, .int .i64 q.r2, .int .i64 q.l0, .int .i64 q.l1, .int .i64 q.l2, .string q.img, .int .i64 q.size] 62)).alloc (.cells #[.int .u32 x0, .int .u32 x1, .int .u32 x2] 83)).alloc (.cells #[.int .u32 y0, .int .u32 y1, .int .u32 y2] 83)).cell? ⟨w.heap.size + 1, 5, none⟩ = some (.int .i64 q.r2) := by first | (simp; done) | (rw [World.cell?_alloc_at _ _ _ _ (by simp)]; rfl) | (rw [World.cell?_alloc_past _ _ _ (by simp <;> omega), World.cell?_alloc_at _ _ _ _ (by simp)]; rfl) | (rw [World.cell?_alloc_past _ _ _ (by simp <;> omega), World.cell?_alloc_past _ _ _ (by simp <;> omega), World.cell?_alloc_at _ _ _ _ (by simp)]; rfl) | (rw [World.cell?_alloc_past _ _ _ (by simp <;> omega), World.cell?_alloc_past _ _ _ (by simp <;> omega), World.cell?_alloc_past _ _ _ (by simp <;> omega), World.cell?_alloc_at _ _ _ _ (by simp)]; rfl)
  have qq6 : ((((w.alloc (.cells #[.string p.id, .int .i64 p.prio, .bool p.crit, .int .i64 p.r0, .int .i64 p.r1, .int .i64 p.r2, .int .i64 p.l0, .int .i64 p.l1, .int .i64 p.l2, .string p.img, .int .i64 p.size] 62)).alloc (.cells #[.string q.id, .int .i64 q.prio, .bool q.crit, .int .i64 q.r0, .int .i64 q.r1, .int .i64 q.r2, .int .i64 q.l0, .int .i64 q.l1, .int .i64 q.l2, .string q.img, .int .i64 q.size] 62)).alloc (.cells #[.int .u32 x0, .int .u32 x1, .int .u32 x2] 83)).alloc (.cells #[.int .u32 y0, .int .u32 y1, .int .u32 y2] 83)).cell? ⟨w.heap.size + 1, 6, none⟩ = some (.int .i64 q.l0) := by first | (simp; done) | (rw [World.cell?_alloc_at _ _ _ _ (by simp)]; rfl) | (rw [World.cell?_alloc_past _ _ _ (by simp <;> omega), World.cell?_alloc_at _ _ _ _ (by simp)]; rfl) | (rw [World.cell?_alloc_past _ _ _ (by simp <;> omega), World.cell?_alloc_past _ _ _ (by simp <;> omega), World.cell?_alloc_at _ _ _ _ (by simp)]; rfl) | (rw [World.cell?_alloc_past _ _ _ (by simp <;> omega), World.cell?_alloc_past _ _ _ (by simp <;> omega), World.cell?_alloc_past _ _ _ (by simp <;> omega), World.cell?_alloc_at _ _ _ _ (by simp)]; rfl)
  have qq7 : ((((w.alloc (.cells #[.string p.id, .int .i64 p.prio, .bool p.crit, .int .i64 p.r0, .int .i64 p.r1, .int .i64 p.r2, .int .i64 p.l0, .int .i64 p.l1, .int .i64 p.l2, .string p.img, .int .i64 p.size] 62)).alloc (.cells #[.string q.id, .int .i64 q.prio, .bool q.crit, .int .i64 q.r0, .int .i64 q.r1, .int .i64 q.r2, .int .i64 q.l0, .int .i64 q.l1, .int .i64 q.l2, .string q.img, .int .i64 q.size] 62)).alloc (.cells #[.int .u32 x0, .int .u32 x1, .int .u32 x2] 83)).alloc (.cells #[.int .u32 y0, .int .u32 y1, .int .u32 y2] 83)).cell? ⟨w.heap.size + 1, 7, none⟩ = some (.int .i64 q.l1) := by first | (simp; done) | (rw [World.cell?_alloc_at _ _ _ _ (by simp)]; rfl) | (rw [World.cell?_alloc_past _ _ _ (by simp <;> omega), World.cell?_alloc_at _ _ _ _ (by simp)]; rfl) | (rw [World.cell?_alloc_past _ _ _ (by simp <;> omega), World.cell?_alloc_past _ _ _ (by simp <;> omega), World.cell?_alloc_at _ _ _ _ (by simp)]; rfl) | (rw [World.cell?_alloc_past _ _ _ (by simp <;> omega), World.cell?_alloc_past _ _ _ (by simp <;> omega), World.cell?_alloc_past _ _ _ (by simp <;> omega), World.cell?_alloc_at _ _ _ _ (by simp)]; rfl)
  have qq8 : ((((w.alloc (.cells #[.string p.id, .int .i64 p.prio, .bool p.crit, .int .i64 p.r0, .int .i64 p.r1, .int .i64 p.r2, .int .i64 p.l0, .int .i64 p.l1, .int .i64 p.l2, .string p.img, .int .i64 p.size] 62)).alloc (.cells #[.string q.id, .int .i64 q.prio, .bool q.crit, .int .i64 q.r0, .int .i64 q.r1, .int .i64 q.r2, .int .i64 q.l0, .int .i64 q.l1, .int .i64 q.l2, .string q.img, .int .i64 q.size] 62)).alloc (.cells #[.int .u32 x0, .int .u32 x1, .int .u32 x2] 83)).alloc (.cells #[.int .u32 y0, .int .u32 y1, .int .u32 y2] 83)).cell? ⟨w.heap.size + 1, 8, none⟩ = some (.int .i64 q.l2) := by first | (simp; done) | (rw [World.cell?_alloc_at _ _ _ _ (by simp)]; rfl) | (rw [World.cell?_alloc_past _ _ _ (by simp <;> omega), World.cell?_alloc_at _ _ _ _ (by simp)]; rfl) | (rw [World.cell?_alloc_past _ _ _ (by simp <;> omega), World.cell?_alloc_past _ _ _ (by simp <;> omega), World.cell?_alloc_at _ _ _ _ (by simp)]; rfl) | (rw [World.cell?_alloc_past _ _ _ (by simp <;> omega), World.cell?_alloc_past _ _ _ (by simp <;> omega), World.cell?_alloc_past _ _ _ (by simp <;> omega), World.cell?_alloc_at _ _ _ _ (by simp)]; rfl)
  have qq9 : ((((w.alloc (.cells #[.string p.id, .int .i64 p.prio, .bool p.crit, .int .i64 p.r0, .int .i64 p.r1, .int .i64 p.r2, .int .i64 p.l0, .int .i64 p.l1, .int .i64 p.l2, .string p.img, .int .i64 p.size] 62)).alloc (.cells #[.string q.id, .int .i64 q.prio, .bool q.crit, .int .i64 q.r0, .int .i64 q.r1, .int .i64 q.r2, .int .i64 q.l0, .int .i64 q.l1, .int .i64 q.l2, .string q.img, .int .i64 q.size] 62)).alloc (.cells #[.int .u32 x0, .int .u32 x1, .int .u32 x2] 83)).alloc (.cells #[.int .u32 y0, .int .u32 y1, .int .u32 y2] 83)).cell? ⟨w.heap.size + 1, 9, none⟩ = some (.string q.img) := by first | (simp; done) | (rw [World.cell?_alloc_at _ _ _ _ (by simp)]; rfl) | (rw [World.cell?_alloc_past _ _ _ (by simp <;> omega), World.cell?_alloc_at _ _ _ _ (by simp)]; rfl) | (rw [World.cell?_alloc_past _ _ _ (by simp <;> omega), World.cell?_alloc_past _ _ _ (by simp <;> omega), World.cell?_alloc_at _ _ _ _ (by simp)]; rfl) | (rw [World.cell?_alloc_past _ _ _ (by simp <;> omega), World.cell?_alloc_past _ _ _ (by simp <;> omega), World.cell?_alloc_past _ _ _ (by simp <;> omega), World.cell?_alloc_at _ _ _ _ (by simp)]; rfl)
  have qq10 : ((((w.alloc (.cells #[.string p.id, .int .i64 p.prio, .bool p.crit, .int .i64 p.r0, .int .i64 p.r1, .int .i64 p.r2, .int .i64 p.l0, .int .i64 p.l1, .int .i64 p.l2, .string p.img, .int .i64 p.size] 62)).alloc (.cells #[.string q.id, .int .i64 q.prio, .bool q.crit, .int .i64 q.r0, .int .i64 q.r1, .int .i64 q.r2, .int .i64 q.l0, .int .i64 q.l1, .int .i64 q.l2, .string q.img, .int .i64 q.size] 62)).alloc (.cells #[.int .u32 x0, .int .u32 x1, .int .u32 x2] 83)).alloc (.cells #[.int .u32 y0, .int .u32 y1, .int .u32 y2] 83)).cell? ⟨w.heap.size + 1, 10, none⟩ = some (.int .i64 q.size) := by first | (simp; done) | (rw [World.cell?_alloc_at _ _ _ _ (by simp)]; rfl) | (rw [World.cell?_alloc_past _ _ _ (by simp <;> omega), World.cell?_alloc_at _ _ _ _ (by simp)]; rfl) | (rw [World.cell?_alloc_past _ _ _ (by simp <;> omega), World.cell?_alloc_past _ _ _ (by simp <;> omega), World.cell?_alloc_at _ _ _ _ (by simp)]; rfl) | (rw [World.cell?_alloc_past _ _ _ (by simp <;> omega), World.cell?_alloc_past _ _ _ (by simp <;> omega), World.cell?_alloc_past _ _ _ (by simp <;> omega), World.cell?_alloc_at _ _ _ _ (by simp)]; rfl)
  have aa0 : ((((w.alloc (.cells #[.string p.id, .int .i64 p.prio, .bool p.crit, .int .i64 p.r0, .int .i64 p.r1, .int .i64 p.r2, .int .i64 p.l0, .int .i64 p.l1, .int .i64 p.l2, .string p.img, .int .i64 p.size] 62)).alloc (.cells #[.string q.id, .int .i64 q.prio, .bool q.crit, .int .i64 q.r0, .int .i64 q.r1, .int .i64 q.r2, .int .i64 q.l0, .int .i64 q.l1, .int .i64 q.l2, .string q.img, .int .i64 q.size] 62)).alloc (.cells #[.int .u32 x0, .int .u32 x1, .int .u32 x2] 83)).alloc (.cells #[.int .u32 y0, .int .u32 y1, .int .u32 y2] 83)).cell? ⟨w.heap.size + 2, 0, none⟩ = some (.int .u32 x0) := by first | (simp; done) | (rw [World.cell?_alloc_at _ _ _ _ (by simp)]; rfl) | (rw [World.cell?_alloc_past _ _ _ (by simp <;> omega), World.cell?_alloc_at _ _ _ _ (by simp)]; rfl) | (rw [World.cell?_alloc_past _ _ _ (by simp <;> omega), World.cell?_alloc_past _ _ _ (by simp <;> omega), World.cell?_alloc_at _ _ _ _ (by simp)]; rfl) | (rw [World.cell?_alloc_past _ _ _ (by simp <;> omega), World.cell?_alloc_past _ _ _ (by simp <;> omega), World.cell?_alloc_past _ _ _ (by simp <;> omega), World.cell?_alloc_at _ _ _ _ (by simp)]; rfl)
  have aa1 : ((((w.alloc (.cells #[.string p.id, .int .i64 p.prio, .bool p.crit, .int .i64 p.r0, .int .i64 p.r1, .int .i64 p.r2, .int .i64 p.l0, .int .i64 p.l1, .int .i64 p.l2, .string p.img, .int .i64 p.size] 62)).alloc (.cells #[.string q.id, .int .i64 q.prio, .bool q.crit, .int .i64 q.r0, .int .i64 q.r1, .int .i64 q.r2, .int .i64 q.l0, .int .i64 q.l1, .int .i64 q.l2, .string q.img, .int .i64 q.size] 62)).alloc (.cells #[.int .u32 x0, .int .u32 x1, .int .u32 x2] 83)).alloc (.cells #[.int .u32 y0, .int .u32 y1, .int .u32 y2] 83)).cell? ⟨w.heap.size + 2, 1, none⟩ = some (.int .u32 x1) := by first | (simp; done) | (rw [World.cell?_alloc_at _ _ _ _ (by simp)]; rfl) | (rw [World.cell?_alloc_past _ _ _ (by simp <;> omega), World.cell?_alloc_at _ _ _ _ (by simp)]; rfl) | (rw [World.cell?_alloc_past _ _ _ (by simp <;> omega), World.cell?_alloc_past _ _ _ (by simp <;> omega), World.cell?_alloc_at _ _ _ _ (by simp)]; rfl) | (rw [World.cell?_alloc_past _ _ _ (by simp <;> omega), World.cell?_alloc_past _ _ _ (by simp <;> omega), World.cell?_alloc_past _ _ _ (by simp <;> omega), World.cell?_alloc_at _ _ _ _ (by simp)]; rfl)
  have aa2 : ((((w.alloc (.cells #[.string p.id, .int .i64 p.prio, .bool p.crit, .int .i64 p.r0, .int .i64 p.r1, .int .i64 p.r2, .int .i64 p.l0, .int .i64 p.l1, .int .i64 p.l2, .string p.img, .int .i64 p.size] 62)).alloc (.cells #[.string q.id, .int .i64 q.prio, .bool q.crit, .int .i64 q.r0, .int .i64 q.r1, .int .i64 q.r2, .int .i64 q.l0, .int .i64 q.l1, .int .i64 q.l2, .string q.img, .int .i64 q.size] 62)).alloc (.cells #[.int .u32 x0, .int .u32 x1, .int .u32 x2] 83)).alloc (.cells #[.int .u32 y0, .int .u32 y1, .int .u32 y2] 83)).cell? ⟨w.heap.size + 2, 2, none⟩ = some (.int .u32 x2) := by first | (simp; done) | (rw [World.cell?_alloc_at _ _ _ _ (by simp)]; rfl) | (rw [World.cell?_alloc_past _ _ _ (by simp <;> omega), World.cell?_alloc_at _ _ _ _ (by simp)]; rfl) | (rw [World.cell?_alloc_past _ _ _ (by simp <;> omega), World.cell?_alloc_past _ _ _ (by simp <;> omega), World.cell?_alloc_at _ _ _ _ (by simp)]; rfl) | (rw [World.cell?_alloc_past _ _ _ (by simp <;> omega), World.cell?_alloc_past _ _ _ (by simp <;> omega), World.cell?_alloc_past _ _ _ (by simp <;> omega), World.cell?_alloc_at _ _ _ _ (by simp)]; rfl)
  have bb0 : ((((w.alloc (.cells #[.string p.id, .int .i64 p.prio, .bool p.crit, .int .i64 p.r0, .int .i64 p.r1, .int .i64 p.r2, .int .i64 p.l0, .int .i64 p.l1, .int .i64 p.l2, .string p.img, .int .i64 p.size] 62)).alloc (.cells #[.string q.id, .int .i64 q.prio, .bool q.crit, .int .i64 q.r0, .int .i64 q.r1, .int .i64 q.r2, .int .i64 q.l0, .int .i64 q.l1, .int .i64 q.l2, .string q.img, .int .i64 q.size] 62)).alloc (.cells #[.int .u32 x0, .int .u32 x1, .int .u32 x2] 83)).alloc (.cells #[.int .u32 y0, .int .u32 y1, .int .u32 y2] 83)).cell? ⟨w.heap.size + 3, 0, none⟩ = some (.int .u32 y0) := by first | (simp; done) | (rw [World.cell?_alloc_at _ _ _ _ (by simp)]; rfl) | (rw [World.cell?_alloc_past _ _ _ (by simp <;> omega), World.cell?_alloc_at _ _ _ _ (by simp)]; rfl) | (rw [World.cell?_alloc_past _ _ _ (by simp <;> omega), World.cell?_alloc_past _ _ _ (by simp <;> omega), World.cell?_alloc_at _ _ _ _ (by simp)]; rfl) | (rw [World.cell?_alloc_past _ _ _ (by simp <;> omega), World.cell?_alloc_past _ _ _ (by simp <;> omega), World.cell?_alloc_past _ _ _ (by simp <;> omega), World.cell?_alloc_at _ _ _ _ (by simp)]; rfl)
  have bb1 : ((((w.alloc (.cells #[.string p.id, .int .i64 p.prio, .bool p.crit, .int .i64 p.r0, .int .i64 p.r1, .int .i64 p.r2, .int .i64 p.l0, .int .i64 p.l1, .int .i64 p.l2, .string p.img, .int .i64 p.size] 62)).alloc (.cells #[.string q.id, .int .i64 q.prio, .bool q.crit, .int .i64 q.r0, .int .i64 q.r1, .int .i64 q.r2, .int .i64 q.l0, .int .i64 q.l1, .int .i64 q.l2, .string q.img, .int .i64 q.size] 62)).alloc (.cells #[.int .u32 x0, .int .u32 x1, .int .u32 x2] 83)).alloc (.cells #[.int .u32 y0, .int .u32 y1, .int .u32 y2] 83)).cell? ⟨w.heap.size + 3, 1, none⟩ = some (.int .u32 y1) := by first | (simp; done) | (rw [World.cell?_alloc_at _ _ _ _ (by simp)]; rfl) | (rw [World.cell?_alloc_past _ _ _ (by simp <;> omega), World.cell?_alloc_at _ _ _ _ (by simp)]; rfl) | (rw [World.cell?_alloc_past _ _ _ (by simp <;> omega), World.cell?_alloc_past _ _ _ (by simp <;> omega), World.cell?_alloc_at _ _ _ _ (by simp)]; rfl) | (rw [World.cell?_alloc_past _ _ _ (by simp <;> omega), World.cell?_alloc_past _ _ _ (by simp <;> omega), World.cell?_alloc_past _ _ _ (by simp <;> omega), World.cell?_alloc_at _ _ _ _ (by simp)]; rfl)
  have bb2 : ((((w.alloc (.cells #[.string p.id, .int .i64 p.prio, .bool p.crit, .int .i64 p.r0, .int .i64 p.r1, .int .i64 p.r2, .int .i64 p.l0, .int .i64 p.l1, .int .i64 p.l2, .string p.img, .int .i64 p.size] 62)).alloc (.cells #[.string q.id, .int .i64 q.prio, .bool q.crit, .int .i64 q.r0, .int .i64 q.r1, .int .i64 q.r2, .int .i64 q.l0, .int .i64 q.l1, .int .i64 q.l2, .string q.img, .int .i64 q.size] 62)).alloc (.cells #[.int .u32 x0, .int .u32 x1, .int .u32 x2] 83)).alloc (.cells #[.int .u32 y0, .int .u32 y1, .int .u32 y2] 83)).cell? ⟨w.heap.size + 3, 2, none⟩ = some (.int .u32 y2) := by first | (simp; done) | (rw [World.cell?_alloc_at _ _ _ _ (by simp)]; rfl) | (rw [World.cell?_alloc_past _ _ _ (by simp <;> omega), World.cell?_alloc_at _ _ _ _ (by simp)]; rfl) | (rw [World.cell?_alloc_past _ _ _ (by simp <;> omega), World.cell?_alloc_past _ _ _ (by simp <;> omega), World.cell?_alloc_at _ _ _ _ (by simp)]; rfl) | (rw [World.cell?_alloc_past _ _ _ (by simp <;> omega), World.cell?_alloc_past _ _ _ (by simp <;> omega), World.cell?_alloc_past _ _ _ (by simp <;> omega), World.cell?_alloc_at _ _ _ _ (by simp)]; rfl)
  have hb2 := (by repeat (first | exact hbel | refine belAlloc ?_ _ | refine belDrew ?_ | refine belSet ?_ _ _ (by simp)) : Below w.heap.size w ((((w.alloc (.cells #[.string p.id, .int .i64 p.prio, .bool p.crit, .int .i64 p.r0, .int .i64 p.r1, .int .i64 p.r2, .int .i64 p.l0, .int .i64 p.l1, .int .i64 p.l2, .string p.img, .int .i64 p.size] 62)).alloc (.cells #[.string q.id, .int .i64 q.prio, .bool q.crit, .int .i64 q.r0, .int .i64 q.r1, .int .i64 q.r2, .int .i64 q.l0, .int .i64 q.l1, .int .i64 q.l2, .string q.img, .int .i64 q.size] 62)).alloc (.cells #[.int .u32 x0, .int .u32 x1, .int .u32 x2] 83)).alloc (.cells #[.int .u32 y0, .int .u32 y1, .int .u32 y2] 83)))
  replace hw := belStep hw hb2
  have ppB : Blk ((((w.alloc (.cells #[.string p.id, .int .i64 p.prio, .bool p.crit, .int .i64 p.r0, .int .i64 p.r1, .int .i64 p.r2, .int .i64 p.l0, .int .i64 p.l1, .int .i64 p.l2, .string p.img, .int .i64 p.size] 62)).alloc (.cells #[.string q.id, .int .i64 q.prio, .bool q.crit, .int .i64 q.r0, .int .i64 q.r1, .int .i64 q.r2, .int .i64 q.l0, .int .i64 q.l1, .int .i64 q.l2, .string q.img, .int .i64 q.size] 62)).alloc (.cells #[.int .u32 x0, .int .u32 x1, .int .u32 x2] 83)).alloc (.cells #[.int .u32 y0, .int .u32 y1, .int .u32 y2] 83)) (w.heap.size) [.string p.id, .int .i64 p.prio, .bool p.crit, .int .i64 p.r0, .int .i64 p.r1, .int .i64 p.r2, .int .i64 p.l0, .int .i64 p.l1, .int .i64 p.l2, .string p.img, .int .i64 p.size] 62 := (Blk.at (by simp) : Blk (w.alloc (.cells #[.string p.id, .int .i64 p.prio, .bool p.crit, .int .i64 p.r0, .int .i64 p.r1, .int .i64 p.r2, .int .i64 p.l0, .int .i64 p.l1, .int .i64 p.l2, .string p.img, .int .i64 p.size] 62)) (w.heap.size) [.string p.id, .int .i64 p.prio, .bool p.crit, .int .i64 p.r0, .int .i64 p.r1, .int .i64 p.r2, .int .i64 p.l0, .int .i64 p.l1, .int .i64 p.l2, .string p.img, .int .i64 p.size] 62).later (by repeat (first | exact Below.refl _ _ | refine belAlloc ?_ _))
  have ppF := Blk.keepF ppB
  replace ppB := Blk.keepB ppB
  have qqB : Blk ((((w.alloc (.cells #[.string p.id, .int .i64 p.prio, .bool p.crit, .int .i64 p.r0, .int .i64 p.r1, .int .i64 p.r2, .int .i64 p.l0, .int .i64 p.l1, .int .i64 p.l2, .string p.img, .int .i64 p.size] 62)).alloc (.cells #[.string q.id, .int .i64 q.prio, .bool q.crit, .int .i64 q.r0, .int .i64 q.r1, .int .i64 q.r2, .int .i64 q.l0, .int .i64 q.l1, .int .i64 q.l2, .string q.img, .int .i64 q.size] 62)).alloc (.cells #[.int .u32 x0, .int .u32 x1, .int .u32 x2] 83)).alloc (.cells #[.int .u32 y0, .int .u32 y1, .int .u32 y2] 83)) (w.heap.size + 1) [.string q.id, .int .i64 q.prio, .bool q.crit, .int .i64 q.r0, .int .i64 q.r1, .int .i64 q.r2, .int .i64 q.l0, .int .i64 q.l1, .int .i64 q.l2, .string q.img, .int .i64 q.size] 62 := (Blk.at (by simp) : Blk ((w.alloc (.cells #[.string p.id, .int .i64 p.prio, .bool p.crit, .int .i64 p.r0, .int .i64 p.r1, .int .i64 p.r2, .int .i64 p.l0, .int .i64 p.l1, .int .i64 p.l2, .string p.img, .int .i64 p.size] 62)).alloc (.cells #[.string q.id, .int .i64 q.prio, .bool q.crit, .int .i64 q.r0, .int .i64 q.r1, .int .i64 q.r2, .int .i64 q.l0, .int .i64 q.l1, .int .i64 q.l2, .string q.img, .int .i64 q.size] 62)) (w.heap.size + 1) [.string q.id, .int .i64 q.prio, .bool q.crit, .int .i64 q.r0, .int .i64 q.r1, .int .i64 q.r2, .int .i64 q.l0, .int .i64 q.l1, .int .i64 q.l2, .string q.img, .int .i64 q.size] 62).later (by repeat (first | exact Below.refl _ _ | refine belAlloc ?_ _))
  have qqF := Blk.keepF qqB
  replace qqB := Blk.keepB qqB
  clear hb2 hbel
  generalize (((w.alloc (.cells #[.string p.id, .int .i64 p.prio, .bool p.crit, .int .i64 p.r0, .int .i64 p.r1, .int .i64 p.r2, .int .i64 p.l0, .int .i64 p.l1, .int .i64 p.l2, .string p.img, .int .i64 p.size] 62)).alloc (.cells #[.string q.id, .int .i64 q.prio, .bool q.crit, .int .i64 q.r0, .int .i64 q.r1, .int .i64 q.r2, .int .i64 q.l0, .int .i64 q.l1, .int .i64 q.l2, .string q.img, .int .i64 q.size] 62)).alloc (.cells #[.int .u32 x0, .int .u32 x1, .int .u32 x2] 83)).alloc (.cells #[.int .u32 y0, .int .u32 y1, .int .u32 y2] 83) = W1 at *
  replace pp0 := keep pp0
  replace pp1 := keep pp1
  replace pp2 := keep pp2
  replace pp3 := keep pp3
  replace pp4 := keep pp4
  replace pp5 := keep pp5
  replace pp6 := keep pp6
  replace pp7 := keep pp7
  replace pp8 := keep pp8
  replace pp9 := keep pp9
  replace pp10 := keep pp10
  replace qq0 := keep qq0
  replace qq1 := keep qq1
  replace qq2 := keep qq2
  replace qq3 := keep qq3
  replace qq4 := keep qq4
  replace qq5 := keep qq5
  replace qq6 := keep qq6
  replace qq7 := keep qq7
  replace qq8 := keep qq8
  replace qq9 := keep qq9
  replace qq10 := keep qq10
  replace aa0 := keep aa0
  replace aa1 := keep aa1
  replace aa2 := keep aa2
  replace bb0 := keep bb0
  replace bb1 := keep bb1
  replace bb2 := keep bb2
  have hbel : Below W1.heap.size W1 W1 := Below.refl _ _
  skip
  rcases KEY.out with hbad | ⟨rfl, rfl, rfl, rfl⟩
  · clear KEY
    rcases hbad with rfl | ⟨rfl, rfl⟩ | ⟨rfl, rfl, rfl⟩ | ⟨rfl, rfl, rfl, rfl⟩
    rotate_left 3
    · obtain rfl : sa = true := by cases sa; cases hsn; rfl
      go_wp2_with (first | (go_at_call 35; (with_reducible refine (awake20 _).mono ?_); rintro e w1 ⟨rfl, hb1⟩; replace hbel := belStep hbel hb1; clear hb1) | (go_at_call 51; (with_reducible refine (CFP.out _).mono ?_); rintro e w1 ⟨rfl, hb1⟩; replace hbel := belStep hbel hb1; clear hb1) | (go_at_call 37; (with_reducible refine (CP0.out _).mono ?_); rintro e w1 ⟨rfl, hb1⟩; replace hbel := belStep hbel hb1; clear hb1) | (go_at_call 37; (with_reducible refine (CP1.out _).mono ?_); rintro e w1 ⟨rfl, hb1⟩; replace hbel := belStep hbel hb1; clear hb1))
      all_goals
        go_ret
        exact ⟨rfl, belStep hw hbel⟩
    all_goals
      go_wp2_with (first | (go_at_call 35; (with_reducible refine (awake20 _).mono ?_); rintro e w1 ⟨rfl, hb1⟩; replace hbel := belStep hbel hb1; clear hb1) | (go_at_call 51; (with_reducible refine (CFP.out _).mono ?_); rintro e w1 ⟨rfl, hb1⟩; replace hbel := belStep hbel hb1; clear hb1) | (go_at_call 37; (with_reducible refine (CP0.out _).mono ?_); rintro e w1 ⟨rfl, hb1⟩; replace hbel := belStep hbel hb1; clear hb1) | (go_at_call 37; (with_reducible refine (CP1.out _).mono ?_); rintro e w1 ⟨rfl, hb1⟩; replace hbel := belStep hbel hb1; clear hb1))
    all_goals
      go_ret
      exact ⟨rfl, belStep hw hbel⟩
  clear KEY
  obtain rfl : sa = false := by cases sa; rfl; cases hsn
  have hne : p.id ≠ q.id := fun e => by rw [e, beq_self_eq_true] at hsa; cases hsa
  have HNE := Lib.hid hne
  clear hne
  go_upto_region 3 with (first | (go_at_call 35; (with_reducible refine (awake20 _).mono ?_); rintro e w1 ⟨rfl, hb1⟩; replace hbel := belStep hbel hb1; clear hb1) | (go_at_call 51; (with_reducible refine (CFP.out _).mono ?_); rintro e w1 ⟨rfl, hb1⟩; replace hbel := belStep hbel hb1; clear hb1) | (go_at_call 37; (with_reducible refine (CP0.out _).mono ?_); rintro e w1 ⟨rfl, hb1⟩; replace hbel := belStep hbel hb1; clear hb1) | (go_at_call 37; (with_reducible refine (CP1.out _).mono ?_); rintro e w1 ⟨rfl, hb1⟩; replace hbel := belStep hbel hb1; clear hb1))
  go_upto_region 4 with (go_at_call 38; (with_reducible refine (CSG.out _).mono ?_); rintro e wg ⟨⟨g, hg, rfl⟩, rfl⟩)
  clear CSG CFP CP0 CP1
  go_upto_region 6 with fail
  have hzw1 : w.heap.size ≤ w1.heap.size := (belStep hw hbel).size
  have xx0 : ((w1.alloc (.cells #[.string p.id, .int .i64 x0, .int .i64 x1, .int .i64 x2] 51)).alloc (.cells #[.string q.id, .int .i64 y0, .int .i64 y1, .int .i64 y2] 51)).cell? ⟨w1.heap.size, 0, none⟩ = some (.string p.id) := by first | (simp; done) | (rw [World.cell?_alloc_at _ _ _ _ (by simp)]; rfl) | (rw [World.cell?_alloc_past _ _ _ (by simp <;> omega), World.cell?_alloc_at _ _ _ _ (by simp)]; rfl) | (rw [World.cell?_alloc_past _ _ _ (by simp <;> omega), World.cell?_alloc_past _ _ _ (by simp <;> omega), World.cell?_alloc_at _ _ _ _ (by simp)]; rfl)
  have xx1 : ((w1.alloc (.cells #[.string p.id, .int .i64 x0, .int .i64 x1, .int .i64 x2] 51)).alloc (.cells #[.string q.id, .int .i64 y0, .int .i64 y1, .int .i64 y2] 51)).cell? ⟨w1.heap.size, 1, none⟩ = some (.int .i64 x0) := by first | (simp; done) | (rw [World.cell?_alloc_at _ _ _ _ (by simp)]; rfl) | (rw [World.cell?_alloc_past _ _ _ (by simp <;> omega), World.cell?_alloc_at _ _ _ _ (by simp)]; rfl) | (rw [World.cell?_alloc_past _ _ _ (by simp <;> omega), World.cell?_alloc_past _ _ _ (by simp <;> omega), World.cell?_alloc_at _ _ _ _ (by simp)]; rfl)
  have xx2 : ((w1.alloc (.cells #[.string p.id, .int .i64 x0, .int .i64 x1, .int .i64 x2] 51)).alloc (.cells #[.string q.id, .int .i64 y0, .int .i64 y1, .int .i64 y2] 51)).cell? ⟨w1.heap.size, 2, none⟩ = some (.int .i64 x1) := by first | (simp; done) | (rw [World.cell?_alloc_at _ _ _ _ (by simp)]; rfl) | (rw [World.cell?_alloc_past _ _ _ (by simp <;> omega), World.cell?_alloc_at _ _ _ _ (by simp)]; rfl) | (rw [World.cell?_alloc_past _ _ _ (by simp <;> omega), World.cell?_alloc_past _ _ _ (by simp <;> omega), World.cell?_alloc_at _ _ _ _ (by simp)]; rfl)
  have xx3 : ((w1.alloc (.cells #[.string p.id, .int .i64 x0, .int .i64 x1, .int .i64 x2] 51)).alloc (.cells #[.string q.id, .int .i64 y0, .int .i64 y1, .int .i64 y2] 51)).cell? ⟨w1.heap.size, 3, none⟩ = some (.int .i64 x2) := by first | (simp; done) | (rw [World.cell?_alloc_at _ _ _ _ (by simp)]; rfl) | (rw [World.cell?_alloc_past _ _ _ (by simp <;> omega), World.cell?_alloc_at _ _ _ _ (by simp)]; rfl) | (rw [World.cell?_alloc_past _ _ _ (by simp <;> omega), World.cell?_alloc_past _ _ _ (by simp <;> omega), World.cell?_alloc_at _ _ _ _ (by simp)]; rfl)
  have yy0 : ((w1.alloc (.cells #[.string p.id, .int .i64 x0, .int .i64 x1, .int .i64 x2] 51)).alloc (.cells #[.string q.id, .int .i64 y0, .int .i64 y1, .int .i64 y2] 51)).cell? ⟨w1.heap.size + 1, 0, none⟩ = some (.string q.id) := by first | (simp; done) | (rw [World.cell?_alloc_at _ _ _ _ (by simp)]; rfl) | (rw [World.cell?_alloc_past _ _ _ (by simp <;> omega), World.cell?_alloc_at _ _ _ _ (by simp)]; rfl) | (rw [World.cell?_alloc_past _ _ _ (by simp <;> omega), World.cell?_alloc_past _ _ _ (by simp <;> omega), World.cell?_alloc_at _ _ _ _ (by simp)]; rfl)
  have yy1 : ((w1.alloc (.cells #[.string p.id, .int .i64 x0, .int .i64 x1, .int .i64 x2] 51)).alloc (.cells #[.string q.id, .int .i64 y0, .int .i64 y1, .int .i64 y2] 51)).cell? ⟨w1.heap.size + 1, 1, none⟩ = some (.int .i64 y0) := by first | (simp; done) | (rw [World.cell?_alloc_at _ _ _ _ (by simp)]; rfl) | (rw [World.cell?_alloc_past _ _ _ (by simp <;> omega), World.cell?_alloc_at _ _ _ _ (by simp)]; rfl) | (rw [World.cell?_alloc_past _ _ _ (by simp <;> omega), World.cell?_alloc_past _ _ _ (by simp <;> omega), World.cell?_alloc_at _ _ _ _ (by simp)]; rfl)
  have yy2 : ((w1.alloc (.cells #[.string p.id, .int .i64 x0, .int .i64 x1, .int .i64 x2] 51)).alloc (.cells #[.string q.id, .int .i64 y0, .int .i64 y1, .int .i64 y2] 51)).cell? ⟨w1.heap.size + 1, 2, none⟩ = some (.int .i64 y1) := by first | (simp; done) | (rw [World.cell?_alloc_at _ _ _ _ (by simp)]; rfl) | (rw [World.cell?_alloc_past _ _ _ (by simp <;> omega), World.cell?_alloc_at _ _ _ _ (by simp)]; rfl) | (rw [World.cell?_alloc_past _ _ _ (by simp <;> omega), World.cell?_alloc_past _ _ _ (by simp <;> omega), World.cell?_alloc_at _ _ _ _ (by simp)]; rfl)
  have yy3 : ((w1.alloc (.cells #[.string p.id, .int .i64 x0, .int .i64 x1, .int .i64 x2] 51)).alloc (.cells #[.string q.id, .int .i64 y0, .int .i64 y1, .int .i64 y2] 51)).cell? ⟨w1.heap.size + 1, 3, none⟩ = some (.int .i64 y2) := by first | (simp; done) | (rw [World.cell?_alloc_at _ _ _ _ (by simp)]; rfl) | (rw [World.cell?_alloc_past _ _ _ (by simp <;> omega), World.cell?_alloc_at _ _ _ _ (by simp)]; rfl) | (rw [World.cell?_alloc_past _ _ _ (by simp <;> omega), World.cell?_alloc_past _ _ _ (by simp <;> omega), World.cell?_alloc_at _ _ _ _ (by simp)]; rfl)
  have hb2 := (by repeat (first | exact hbel | refine belAlloc ?_ _ | refine belDrew ?_ | refine belSet ?_ _ _ (by simp)) : Below W1.heap.size W1 ((w1.alloc (.cells #[.string p.id, .int .i64 x0, .int .i64 x1, .int .i64 x2] 51)).alloc (.cells #[.string q.id, .int .i64 y0, .int .i64 y1, .int .i64 y2] 51)))
  replace pp0 := keepOnP pp0 hb2
  replace pp1 := keepOnP pp1 hb2
  replace pp2 := keepOnP pp2 hb2
  replace pp3 := keepOnP pp3 hb2
  replace pp4 := keepOnP pp4 hb2
  replace pp5 := keepOnP pp5 hb2
  replace pp6 := keepOnP pp6 hb2
  replace pp7 := keepOnP pp7 hb2
  replace pp8 := keepOnP pp8 hb2
  replace pp9 := keepOnP pp9 hb2
  replace pp10 := keepOnP pp10 hb2
  replace qq0 := keepOnP qq0 hb2
  replace qq1 := keepOnP qq1 hb2
  replace qq2 := keepOnP qq2 hb2
  replace qq3 := keepOnP qq3 hb2
  replace qq4 := keepOnP qq4 hb2
  replace qq5 := keepOnP qq5 hb2
  replace qq6 := keepOnP qq6 hb2
  replace qq7 := keepOnP qq7 hb2
  replace qq8 := keepOnP qq8 hb2
  replace qq9 := keepOnP qq9 hb2
  replace qq10 := keepOnP qq10 hb2
  replace aa0 := keepOnP aa0 hb2
  replace aa1 := keepOnP aa1 hb2
  replace aa2 := keepOnP aa2 hb2
  replace bb0 := keepOnP bb0 hb2
  replace bb1 := keepOnP bb1 hb2
  replace bb2 := keepOnP bb2 hb2
  replace ppF := keepOnP ppF hb2
  replace ppB := keepOnP ppB hb2
  replace qqF := keepOnP qqF hb2
  replace qqB := keepOnP qqB hb2
  replace hw := belStep hw hb2
  have xxB : Blk ((w1.alloc (.cells #[.string p.id, .int .i64 x0, .int .i64 x1, .int .i64 x2] 51)).alloc (.cells #[.string q.id, .int .i64 y0, .int .i64 y1, .int .i64 y2] 51)) (w1.heap.size) [.string p.id, .int .i64 x0, .int .i64 x1, .int .i64 x2] 51 := (Blk.at (by simp) : Blk (w1.alloc (.cells #[.string p.id, .int .i64 x0, .int .i64 x1, .int .i64 x2] 51)) (w1.heap.size) [.string p.id, .int .i64 x0, .int .i64 x1, .int .i64 x2] 51).later (by repeat (first | exact Below.refl _ _ | refine belAlloc ?_ _))
  have xxF := Blk.keepF xxB
  replace xxB := Blk.keepB xxB
  have yyB : Blk ((w1.alloc (.cells #[.string p.id, .int .i64 x0, .int .i64 x1, .int .i64 x2] 51)).alloc (.cells #[.string q.id, .int .i64 y0, .int .i64 y1, .int .i64 y2] 51)) (w1.heap.size + 1) [.string q.id, .int .i64 y0, .int .i64 y1, .int .i64 y2] 51 := (Blk.at (by simp) : Blk ((w1.alloc (.cells #[.string p.id, .int .i64 x0, .int .i64 x1, .int .i64 x2] 51)).alloc (.cells #[.string q.id, .int .i64 y0, .int .i64 y1, .int .i64 y2] 51)) (w1.heap.size + 1) [.string q.id, .int .i64 y0, .int .i64 y1, .int .i64 y2] 51).later (by repeat (first | exact Below.refl _ _ | refine belAlloc ?_ _))
  have yyF := Blk.keepF yyB
  replace yyB := Blk.keepB yyB
  clear hb2 hbel
  generalize (w1.alloc (.cells #[.string p.id, .int .i64 x0, .int .i64 x1, .int .i64 x2] 51)).alloc (.cells #[.string q.id, .int .i64 y0, .int .i64 y1, .int .i64 y2] 51) = W2 at *
  replace xx0 := keep xx0
  replace xx1 := keep xx1
  replace xx2 := keep xx2
  replace xx3 := keep xx3
  replace yy0 := keep yy0
  replace yy1 := keep yy1
  replace yy2 := keep yy2
  replace yy3 := keep yy3
  generalize w1.heap.size = M1 at *
  have hbel : Below W2.heap.size W2 W2 := Below.refl _ _
  clear w1
  have hzw := hw.size
  go_upto_region 7 with fail
  have Bus : Blk ((W2.alloc (.cells #[.string p.id, .int .i64 x0, .int .i64 x1, .int .i64 x2, .string q.id, .int .i64 y0, .int .i64 y1, .int .i64 y2] 51)).alloc (.cells #[.int .i64 0, .int .i64 0, .int .i64 0, .int .i64 0, .slice (some ⟨W2.heap.size, 0, none⟩) 2 2] 32)) W2.heap.size [.string p.id, .int .i64 x0, .int .i64 x1, .int .i64 x2, .string q.id, .int .i64 y0, .int .i64 y1, .int .i64 y2] 51 := (Blk.new W2 [.string p.id, .int .i64 x0, .int .i64 x1, .int .i64 x2, .string q.id, .int .i64 y0, .int .i64 y1, .int .i64 y2] 51).later (belAlloc (Below.refl _ _) _)
  have Bsp : Blk ((W2.alloc (.cells #[.string p.id, .int .i64 x0, .int .i64 x1, .int .i64 x2, .string q.id, .int .i64 y0, .int .i64 y1, .int .i64 y2] 51)).alloc (.cells #[.int .i64 0, .int .i64 0, .int .i64 0, .int .i64 0, .slice (some ⟨W2.heap.size, 0, none⟩) 2 2] 32)) (W2.heap.size + 1) [.int .i64 0, .int .i64 0, .int .i64 0, .int .i64 0, .slice (some ⟨W2.heap.size, 0, none⟩) 2 2] 32 := Blk.at (w := W2.alloc (.cells #[.string p.id, .int .i64 x0, .int .i64 x1, .int .i64 x2, .string q.id, .int .i64 y0, .int .i64 y1, .int .i64 y2] 51)) (by simp)
  have hb2 : Below W2.heap.size W2 ((W2.alloc (.cells #[.string p.id, .int .i64 x0, .int .i64 x1, .int .i64 x2, .string q.id, .int .i64 y0, .int .i64 y1, .int .i64 y2] 51)).alloc (.cells #[.int .i64 0, .int .i64 0, .int .i64 0, .int .i64 0, .slice (some ⟨W2.heap.size, 0, none⟩) 2 2] 32)) := belAlloc (belAlloc (Below.refl _ _) _) _
  replace pp0 := keepOnP pp0 hb2
  replace pp1 := keepOnP pp1 hb2
  replace pp2 := keepOnP pp2 hb2
  replace pp3 := keepOnP pp3 hb2
  replace pp4 := keepOnP pp4 hb2
  replace pp5 := keepOnP pp5 hb2
  replace pp6 := keepOnP pp6 hb2
  replace pp7 := keepOnP pp7 hb2
  replace pp8 := keepOnP pp8 hb2
  replace pp9 := keepOnP pp9 hb2
  replace pp10 := keepOnP pp10 hb2
  replace qq0 := keepOnP qq0 hb2
  replace qq1 := keepOnP qq1 hb2
  replace qq2 := keepOnP qq2 hb2
  replace qq3 := keepOnP qq3 hb2
  replace qq4 := keepOnP qq4 hb2
  replace qq5 := keepOnP qq5 hb2
  replace qq6 := keepOnP qq6 hb2
  replace qq7 := keepOnP qq7 hb2
  replace qq8 := keepOnP qq8 hb2
  replace qq9 := keepOnP qq9 hb2
  replace qq10 := keepOnP qq10 hb2
  replace xx0 := keepOnP xx0 hb2
  replace xx1 := keepOnP xx1 hb2
  replace xx2 := keepOnP xx2 hb2
  replace xx3 := keepOnP xx3 hb2
  replace yy0 := keepOnP yy0 hb2
  replace yy1 := keepOnP yy1 hb2
  replace yy2 := keepOnP yy2 hb2
  replace yy3 := keepOnP yy3 hb2
  replace ppB := keepOnP ppB hb2
  replace ppF := keepOnP ppF hb2
  replace qqB := keepOnP qqB hb2
  replace qqF := keepOnP qqF hb2
  replace xxB := keepOnP xxB hb2
  replace xxF := keepOnP xxF hb2
  replace yyB := keepOnP yyB hb2
  replace yyF := keepOnP yyF hb2
  replace hw := belStep hw hb2
  clear hb2 hbel
  generalize (W2.alloc (.cells #[.string p.id, .int .i64 x0, .int .i64 x1, .int .i64 x2, .string q.id, .int .i64 y0, .int .i64 y1, .int .i64 y2] 51)).alloc (.cells #[.int .i64 0, .int .i64 0, .int .i64 0, .int .i64 0, .slice (some ⟨W2.heap.size, 0, none⟩) 2 2] 32) = W3 at *
  generalize W2.heap.size = M2 at *
  have usB := Blk.keepB Bus
  have spB := Blk.keepB Bsp
  have spF := Blk.keepF Bsp
  have sp0 := keep (Bsp.cell (j := 0) rfl)
  have sp1 := keep (Bsp.cell (j := 1) rfl)
  have sp2 := keep (Bsp.cell (j := 2) rfl)
  have sp3 := keep (Bsp.cell (j := 3) rfl)
  have sp4 := keep (Bsp.cell (j := 4) rfl)
  clear Bus Bsp
  have hbel : Below W3.heap.size W3 W3 := Below.refl _ _
  obtain ⟨lt, hlt⟩ : ∃ b, Op.bytesLess q.id.toList p.id.toList = b := ⟨_, rfl⟩
  rcases lt with _ | _
  · skip
    have hgc : g = 0 ∨ g = 1 ∨ g = 2 := by omega
    clear hg
    rcases hgc with rfl | rfl | rfl
    · with_reducible rw [show ((0 : Nat) : Int) = 0 from rfl]
      have hof := ofF_two p.id q.id ⟨p.id, x0, x1, x2⟩ ⟨q.id, y0, y1, y2⟩ rfl rfl HNE.out
      have hX1 : exF 0 p [⟨p.id, x0, x1, x2⟩, ⟨q.id, y0, y1, y2⟩] = x0 - askF 0 p := by unfold exF; rw [hof.1]; rfl
      have hY1 : exF 0 q [⟨p.id, x0, x1, x2⟩, ⟨q.id, y0, y1, y2⟩] = y0 - askF 0 q := by unfold exF; rw [hof.2]; rfl
      clear hof
      have hof := ofF_two p.id q.id ⟨p.id, x0 + m, x1, x2⟩ ⟨q.id, y0, y1, y2⟩ rfl rfl HNE.out
      have hX2 : exF 0 p [⟨p.id, x0 + m, x1, x2⟩, ⟨q.id, y0, y1, y2⟩] = x0 + m - askF 0 p := by unfold exF; rw [hof.1]; rfl
      have hY2 : exF 0 q [⟨p.id, x0 + m, x1, x2⟩, ⟨q.id, y0, y1, y2⟩] = y0 - askF 0 q := by unfold exF; rw [hof.2]; rfl
      clear hof
      have HMO := Lib.hid (fun h => ahead_more hX1 hY1 hX2 hY2 (by omega) h)
      clear hX1 hY1 hX2 hY2
      have hTU := @ahead_turn 0 p q [⟨p.id, x0, x1, x2⟩, ⟨q.id, y0, y1, y2⟩] HNE.out
      obtain ⟨x, hA1⟩ : ∃ x, aheadB 0 p q [⟨p.id, x0, x1, x2⟩, ⟨q.id, y0, y1, y2⟩] = x := ⟨_, rfl⟩
      have hA2 := hTU
      rw [hA1] at hA2 HMO
      clear hTU
      have hUO : ∀ u ∈ ([⟨p.id, x0, x1, x2⟩, ⟨q.id, y0, y1, y2⟩] : List UseV), UseOK u := by
        intro u hu
        simp only [List.mem_cons, List.not_mem_nil, or_false] at hu
        rcases hu with rfl | rfl <;> exact use_ok3 (by omega) (by omega) (by omega) (by omega) (by omega) (by omega)
      have A1 := Lib.hid (show ∀ u : World, Below W3.heap.size W3 u → Calls Try.prog 41 #[.int .i64 0, .agg #[.string p.id, .int .i64 p.prio, .bool p.crit, .int .i64 p.r0, .int .i64 p.r1, .int .i64 p.r2, .int .i64 p.l0, .int .i64 p.l1, .int .i64 p.l2, .string p.img, .int .i64 p.size], .agg #[.string q.id, .int .i64 q.prio, .bool q.crit, .int .i64 q.r0, .int .i64 q.r1, .int .i64 q.r2, .int .i64 q.l0, .int .i64 q.l1, .int .i64 q.l2, .string q.img, .int .i64 q.size], .agg #[.int .i64 0, .int .i64 0, .int .i64 0, .int .i64 0, .slice (some ⟨M2, 0, none⟩) 2 2]] u fun e w' => e = .returned (.bool x) ∧ Below u.heap.size u w' from fun u hu => by have h := rk_Ahead 0 0 p q 0 0 0 0 (some ⟨M2, 0, none⟩) 2 2 [⟨p.id, x0, x1, x2⟩, ⟨q.id, y0, y1, y2⟩] u (by omega) rfl HP.out HR0.out HQ.out HR1.out hUO rfl (row_of_blkN (n := 2) (k := 4) (usB u hu) rfl (by unfold maxLen; omega)); rw [hA1] at h; exact h)
      have A2 := Lib.hid (show ∀ u : World, Below W3.heap.size W3 u → Calls Try.prog 41 #[.int .i64 0, .agg #[.string q.id, .int .i64 q.prio, .bool q.crit, .int .i64 q.r0, .int .i64 q.r1, .int .i64 q.r2, .int .i64 q.l0, .int .i64 q.l1, .int .i64 q.l2, .string q.img, .int .i64 q.size], .agg #[.string p.id, .int .i64 p.prio, .bool p.crit, .int .i64 p.r0, .int .i64 p.r1, .int .i64 p.r2, .int .i64 p.l0, .int .i64 p.l1, .int .i64 p.l2, .string p.img, .int .i64 p.size], .agg #[.int .i64 0, .int .i64 0, .int .i64 0, .int .i64 0, .slice (some ⟨M2, 0, none⟩) 2 2]] u fun e w' => e = .returned (.bool !x) ∧ Below u.heap.size u w' from fun u hu => by have h := rk_Ahead 0 0 q p 0 0 0 0 (some ⟨M2, 0, none⟩) 2 2 [⟨p.id, x0, x1, x2⟩, ⟨q.id, y0, y1, y2⟩] u (by omega) rfl HQ.out HR1.out HP.out HR0.out hUO rfl (row_of_blkN (n := 2) (k := 4) (usB u hu) rfl (by unfold maxLen; omega)); rw [hA2] at h; exact h)
      clear hA1 hA2 hUO
      rcases x with _ | _
      · go_wp2_with (first | (go_at_call 41; (with_reducible refine (A1.out _ hbel).mono ?_); rintro e w1 ⟨rfl, hb1⟩; replace hbel := belStep hbel hb1; clear hb1) | (go_at_call 41; (with_reducible refine (A2.out _ hbel).mono ?_); rintro e w1 ⟨rfl, hb1⟩; replace hbel := belStep hbel hb1; clear hb1))
        go_ret
        exact ⟨rfl, belStep hw hbel⟩
      · go_upto_region 11 with (go_at_call 41; (with_reducible refine (A1.out _ hbel).mono ?_); rintro e w1 ⟨rfl, hb1⟩; replace hbel := belStep hbel hb1; clear hb1)
        have hA3 := HMO.out (by trivial)
        clear A1 A2 HMO usB sp0 sp1 sp2 sp3 sp4 spB spF
        replace pp0 := keepOnP pp0 hbel
        replace pp1 := keepOnP pp1 hbel
        replace pp2 := keepOnP pp2 hbel
        replace pp3 := keepOnP pp3 hbel
        replace pp4 := keepOnP pp4 hbel
        replace pp5 := keepOnP pp5 hbel
        replace pp6 := keepOnP pp6 hbel
        replace pp7 := keepOnP pp7 hbel
        replace pp8 := keepOnP pp8 hbel
        replace pp9 := keepOnP pp9 hbel
        replace pp10 := keepOnP pp10 hbel
        replace qq0 := keepOnP qq0 hbel
        replace qq1 := keepOnP qq1 hbel
        replace qq2 := keepOnP qq2 hbel
        replace qq3 := keepOnP qq3 hbel
        replace qq4 := keepOnP qq4 hbel
        replace qq5 := keepOnP qq5 hbel
        replace qq6 := keepOnP qq6 hbel
        replace qq7 := keepOnP qq7 hbel
        replace qq8 := keepOnP qq8 hbel
        replace qq9 := keepOnP qq9 hbel
        replace qq10 := keepOnP qq10 hbel
        replace xx0 := keepOnP xx0 hbel
        replace xx1 := keepOnP xx1 hbel
        replace xx2 := keepOnP xx2 hbel
        replace xx3 := keepOnP xx3 hbel
        replace yy0 := keepOnP yy0 hbel
        replace yy1 := keepOnP yy1 hbel
        replace yy2 := keepOnP yy2 hbel
        replace yy3 := keepOnP yy3 hbel
        replace ppB := keepOnP ppB hbel
        replace ppF := keepOnP ppF hbel
        replace qqB := keepOnP qqB hbel
        replace qqF := keepOnP qqF hbel
        replace xxB := keepOnP xxB hbel
        replace xxF := keepOnP xxF hbel
        replace yyB := keepOnP yyB hbel
        replace yyF := keepOnP yyF hbel
        replace hw := belStep hw hbel
        clear hbel
        generalize w1 = V5 at *
        have hbel : Below V5.heap.size V5 V5 := Below.refl _ _
        go_upto_region 12 with fail
        have hob := xxB _ ((by repeat (first | exact Below.refl _ _ | refine belAlloc ?_ _)) : Below V5.heap.size V5 (V5))
        have hf_pp := ppB _ ((by repeat (first | exact Below.refl _ _ | refine belAlloc ?_ _)) : Below V5.heap.size V5 (V5))
        have hn_pp := Blk.ne hob hf_pp (by simp)
        have hf_qq := qqB _ ((by repeat (first | exact Below.refl _ _ | refine belAlloc ?_ _)) : Below V5.heap.size V5 (V5))
        have hn_qq := Blk.ne hob hf_qq (by simp)
        have hf_yy := yyB _ ((by repeat (first | exact Below.refl _ _ | refine belAlloc ?_ _)) : Below V5.heap.size V5 (V5))
        have hn_yy : M1 ≠ M1 + 1 := by omega
        clear hbel
        have hg_pp := (hf_pp).far (a := ⟨M1, 1, none⟩) hn_pp (.int .i64 (x0 + m))
        have hg_qq := (hf_qq).far (a := ⟨M1, 1, none⟩) hn_qq (.int .i64 (x0 + m))
        have hg_yy := (hf_yy).far (a := ⟨M1, 1, none⟩) hn_yy (.int .i64 (x0 + m))
        have hog : Blk _ (M1) [.string p.id, .int .i64 (x0 + m), .int .i64 x1, .int .i64 x2] 51 := (hob).set (1) (.int .i64 (x0 + m))
        have hwn := belSet ((by repeat (first | exact hw | refine belAlloc ?_ _) : Below w.heap.size w (V5))) ⟨M1, 1, none⟩ (.int .i64 (x0 + m)) (by show w.heap.size ≤ M1; omega)
        clear hw hob hf_pp hn_pp hf_qq hn_qq hf_yy hn_yy
        generalize V5.setCell ⟨M1, 1, none⟩ (.int .i64 (x0 + m)) = W6 at *
        have hw := hwn
        clear hwn
        clear ppB ppF pp0 pp1 pp2 pp3 pp4 pp5 pp6 pp7 pp8 pp9 pp10 qqB qqF qq0 qq1 qq2 qq3 qq4 qq5 qq6 qq7 qq8 qq9 qq10 xxB xxF xx0 xx1 xx2 xx3 yyB yyF yy0 yy1 yy2 yy3
        have ppB := Blk.keepB hg_pp
        have ppF := Blk.keepF hg_pp
        have pp0 := keep (hg_pp.cell (j := 0) rfl)
        have pp1 := keep (hg_pp.cell (j := 1) rfl)
        have pp2 := keep (hg_pp.cell (j := 2) rfl)
        have pp3 := keep (hg_pp.cell (j := 3) rfl)
        have pp4 := keep (hg_pp.cell (j := 4) rfl)
        have pp5 := keep (hg_pp.cell (j := 5) rfl)
        have pp6 := keep (hg_pp.cell (j := 6) rfl)
        have pp7 := keep (hg_pp.cell (j := 7) rfl)
        have pp8 := keep (hg_pp.cell (j := 8) rfl)
        have pp9 := keep (hg_pp.cell (j := 9) rfl)
        have pp10 := keep (hg_pp.cell (j := 10) rfl)
        have qqB := Blk.keepB hg_qq
        have qqF := Blk.keepF hg_qq
        have qq0 := keep (hg_qq.cell (j := 0) rfl)
        have qq1 := keep (hg_qq.cell (j := 1) rfl)
        have qq2 := keep (hg_qq.cell (j := 2) rfl)
        have qq3 := keep (hg_qq.cell (j := 3) rfl)
        have qq4 := keep (hg_qq.cell (j := 4) rfl)
        have qq5 := keep (hg_qq.cell (j := 5) rfl)
        have qq6 := keep (hg_qq.cell (j := 6) rfl)
        have qq7 := keep (hg_qq.cell (j := 7) rfl)
        have qq8 := keep (hg_qq.cell (j := 8) rfl)
        have qq9 := keep (hg_qq.cell (j := 9) rfl)
        have qq10 := keep (hg_qq.cell (j := 10) rfl)
        have yyB := Blk.keepB hg_yy
        have yyF := Blk.keepF hg_yy
        have yy0 := keep (hg_yy.cell (j := 0) rfl)
        have yy1 := keep (hg_yy.cell (j := 1) rfl)
        have yy2 := keep (hg_yy.cell (j := 2) rfl)
        have yy3 := keep (hg_yy.cell (j := 3) rfl)
        have xxB := Blk.keepB hog
        have xxF := Blk.keepF hog
        have xx0 := keep (hog.cell (j := 0) rfl)
        have xx1 := keep (hog.cell (j := 1) rfl)
        have xx2 := keep (hog.cell (j := 2) rfl)
        have xx3 := keep (hog.cell (j := 3) rfl)
        clear hog hg_pp hg_qq hg_yy
        have hbel : Below W6.heap.size W6 W6 := Below.refl _ _
        have hzw7 := hw.size
        go_upto_region 13 with fail
        have Bus : Blk ((W6.alloc (.cells #[.string p.id, .int .i64 (x0 + m), .int .i64 x1, .int .i64 x2, .string q.id, .int .i64 y0, .int .i64 y1, .int .i64 y2] 51)).alloc (.cells #[.int .i64 0, .int .i64 0, .int .i64 0, .int .i64 0, .slice (some ⟨W6.heap.size, 0, none⟩) 2 2] 32)) W6.heap.size [.string p.id, .int .i64 (x0 + m), .int .i64 x1, .int .i64 x2, .string q.id, .int .i64 y0, .int .i64 y1, .int .i64 y2] 51 := (Blk.new W6 [.string p.id, .int .i64 (x0 + m), .int .i64 x1, .int .i64 x2, .string q.id, .int .i64 y0, .int .i64 y1, .int .i64 y2] 51).later (belAlloc (Below.refl _ _) _)
        have Bsp : Blk ((W6.alloc (.cells #[.string p.id, .int .i64 (x0 + m), .int .i64 x1, .int .i64 x2, .string q.id, .int .i64 y0, .int .i64 y1, .int .i64 y2] 51)).alloc (.cells #[.int .i64 0, .int .i64 0, .int .i64 0, .int .i64 0, .slice (some ⟨W6.heap.size, 0, none⟩) 2 2] 32)) (W6.heap.size + 1) [.int .i64 0, .int .i64 0, .int .i64 0, .int .i64 0, .slice (some ⟨W6.heap.size, 0, none⟩) 2 2] 32 := Blk.at (w := W6.alloc (.cells #[.string p.id, .int .i64 (x0 + m), .int .i64 x1, .int .i64 x2, .string q.id, .int .i64 y0, .int .i64 y1, .int .i64 y2] 51)) (by simp)
        have hb2 : Below W6.heap.size W6 ((W6.alloc (.cells #[.string p.id, .int .i64 (x0 + m), .int .i64 x1, .int .i64 x2, .string q.id, .int .i64 y0, .int .i64 y1, .int .i64 y2] 51)).alloc (.cells #[.int .i64 0, .int .i64 0, .int .i64 0, .int .i64 0, .slice (some ⟨W6.heap.size, 0, none⟩) 2 2] 32)) := belAlloc (belAlloc (Below.refl _ _) _) _
        replace pp0 := keepOnP pp0 hb2
        replace pp1 := keepOnP pp1 hb2
        replace pp2 := keepOnP pp2 hb2
        replace pp3 := keepOnP pp3 hb2
        replace pp4 := keepOnP pp4 hb2
        replace pp5 := keepOnP pp5 hb2
        replace pp6 := keepOnP pp6 hb2
        replace pp7 := keepOnP pp7 hb2
        replace pp8 := keepOnP pp8 hb2
        replace pp9 := keepOnP pp9 hb2
        replace pp10 := keepOnP pp10 hb2
        replace qq0 := keepOnP qq0 hb2
        replace qq1 := keepOnP qq1 hb2
        replace qq2 := keepOnP qq2 hb2
        replace qq3 := keepOnP qq3 hb2
        replace qq4 := keepOnP qq4 hb2
        replace qq5 := keepOnP qq5 hb2
        replace qq6 := keepOnP qq6 hb2
        replace qq7 := keepOnP qq7 hb2
        replace qq8 := keepOnP qq8 hb2
        replace qq9 := keepOnP qq9 hb2
        replace qq10 := keepOnP qq10 hb2
        replace xx0 := keepOnP xx0 hb2
        replace xx1 := keepOnP xx1 hb2
        replace xx2 := keepOnP xx2 hb2
        replace xx3 := keepOnP xx3 hb2
        replace yy0 := keepOnP yy0 hb2
        replace yy1 := keepOnP yy1 hb2
        replace yy2 := keepOnP yy2 hb2
        replace yy3 := keepOnP yy3 hb2
        replace ppB := keepOnP ppB hb2
        replace ppF := keepOnP ppF hb2
        replace qqB := keepOnP qqB hb2
        replace qqF := keepOnP qqF hb2
        replace xxB := keepOnP xxB hb2
        replace xxF := keepOnP xxF hb2
        replace yyB := keepOnP yyB hb2
        replace yyF := keepOnP yyF hb2
        replace hw := belStep hw hb2
        clear hb2 hbel
        generalize (W6.alloc (.cells #[.string p.id, .int .i64 (x0 + m), .int .i64 x1, .int .i64 x2, .string q.id, .int .i64 y0, .int .i64 y1, .int .i64 y2] 51)).alloc (.cells #[.int .i64 0, .int .i64 0, .int .i64 0, .int .i64 0, .slice (some ⟨W6.heap.size, 0, none⟩) 2 2] 32) = W7 at *
        generalize W6.heap.size = M7 at *
        have usB := Blk.keepB Bus
        have spB := Blk.keepB Bsp
        have spF := Blk.keepF Bsp
        have sp0 := keep (Bsp.cell (j := 0) rfl)
        have sp1 := keep (Bsp.cell (j := 1) rfl)
        have sp2 := keep (Bsp.cell (j := 2) rfl)
        have sp3 := keep (Bsp.cell (j := 3) rfl)
        have sp4 := keep (Bsp.cell (j := 4) rfl)
        clear Bus Bsp
        have hbel : Below W7.heap.size W7 W7 := Below.refl _ _
        have hUO : ∀ u ∈ ([⟨p.id, x0 + m, x1, x2⟩, ⟨q.id, y0, y1, y2⟩] : List UseV), UseOK u := by
          intro u hu
          simp only [List.mem_cons, List.not_mem_nil, or_false] at hu
          rcases hu with rfl | rfl <;> exact use_ok3 (by omega) (by omega) (by omega) (by omega) (by omega) (by omega)
        have A3 := Lib.hid (show ∀ u : World, Below W7.heap.size W7 u → Calls Try.prog 41 #[.int .i64 0, .agg #[.string p.id, .int .i64 p.prio, .bool p.crit, .int .i64 p.r0, .int .i64 p.r1, .int .i64 p.r2, .int .i64 p.l0, .int .i64 p.l1, .int .i64 p.l2, .string p.img, .int .i64 p.size], .agg #[.string q.id, .int .i64 q.prio, .bool q.crit, .int .i64 q.r0, .int .i64 q.r1, .int .i64 q.r2, .int .i64 q.l0, .int .i64 q.l1, .int .i64 q.l2, .string q.img, .int .i64 q.size], .agg #[.int .i64 0, .int .i64 0, .int .i64 0, .int .i64 0, .slice (some ⟨M7, 0, none⟩) 2 2]] u fun e w' => e = .returned (.bool true) ∧ Below u.heap.size u w' from fun u hu => by have h := rk_Ahead 0 0 p q 0 0 0 0 (some ⟨M7, 0, none⟩) 2 2 [⟨p.id, x0 + m, x1, x2⟩, ⟨q.id, y0, y1, y2⟩] u (by omega) rfl HP.out HR0.out HQ.out HR1.out hUO rfl (row_of_blkN (n := 2) (k := 4) (usB u hu) rfl (by unfold maxLen; omega)); rw [hA3] at h; exact h)
        clear hA3 hUO
        go_wp2_with (go_at_call 41; (with_reducible refine (A3.out _ hbel).mono ?_); rintro e w1 ⟨rfl, hb1⟩; replace hbel := belStep hbel hb1; clear hb1)
        go_ret
        exact ⟨rfl, belStep hw hbel⟩
    · with_reducible rw [show ((1 : Nat) : Int) = 1 from rfl]
      have hof := ofF_two p.id q.id ⟨p.id, x0, x1, x2⟩ ⟨q.id, y0, y1, y2⟩ rfl rfl HNE.out
      have hX1 : exF 1 p [⟨p.id, x0, x1, x2⟩, ⟨q.id, y0, y1, y2⟩] = x1 - askF 1 p := by unfold exF; rw [hof.1]; rfl
      have hY1 : exF 1 q [⟨p.id, x0, x1, x2⟩, ⟨q.id, y0, y1, y2⟩] = y1 - askF 1 q := by unfold exF; rw [hof.2]; rfl
      clear hof
      have hof := ofF_two p.id q.id ⟨p.id, x0, x1 + m, x2⟩ ⟨q.id, y0, y1, y2⟩ rfl rfl HNE.out
      have hX2 : exF 1 p [⟨p.id, x0, x1 + m, x2⟩, ⟨q.id, y0, y1, y2⟩] = x1 + m - askF 1 p := by unfold exF; rw [hof.1]; rfl
      have hY2 : exF 1 q [⟨p.id, x0, x1 + m, x2⟩, ⟨q.id, y0, y1, y2⟩] = y1 - askF 1 q := by unfold exF; rw [hof.2]; rfl
      clear hof
      have HMO := Lib.hid (fun h => ahead_more hX1 hY1 hX2 hY2 (by omega) h)
      clear hX1 hY1 hX2 hY2
      have hTU := @ahead_turn 1 p q [⟨p.id, x0, x1, x2⟩, ⟨q.id, y0, y1, y2⟩] HNE.out
      obtain ⟨x, hA1⟩ : ∃ x, aheadB 1 p q [⟨p.id, x0, x1, x2⟩, ⟨q.id, y0, y1, y2⟩] = x := ⟨_, rfl⟩
      have hA2 := hTU
      rw [hA1] at hA2 HMO
      clear hTU
      have hUO : ∀ u ∈ ([⟨p.id, x0, x1, x2⟩, ⟨q.id, y0, y1, y2⟩] : List UseV), UseOK u := by
        intro u hu
        simp only [List.mem_cons, List.not_mem_nil, or_false] at hu
        rcases hu with rfl | rfl <;> exact use_ok3 (by omega) (by omega) (by omega) (by omega) (by omega) (by omega)
      have A1 := Lib.hid (show ∀ u : World, Below W3.heap.size W3 u → Calls Try.prog 41 #[.int .i64 1, .agg #[.string p.id, .int .i64 p.prio, .bool p.crit, .int .i64 p.r0, .int .i64 p.r1, .int .i64 p.r2, .int .i64 p.l0, .int .i64 p.l1, .int .i64 p.l2, .string p.img, .int .i64 p.size], .agg #[.string q.id, .int .i64 q.prio, .bool q.crit, .int .i64 q.r0, .int .i64 q.r1, .int .i64 q.r2, .int .i64 q.l0, .int .i64 q.l1, .int .i64 q.l2, .string q.img, .int .i64 q.size], .agg #[.int .i64 0, .int .i64 0, .int .i64 0, .int .i64 0, .slice (some ⟨M2, 0, none⟩) 2 2]] u fun e w' => e = .returned (.bool x) ∧ Below u.heap.size u w' from fun u hu => by have h := rk_Ahead 1 1 p q 0 0 0 0 (some ⟨M2, 0, none⟩) 2 2 [⟨p.id, x0, x1, x2⟩, ⟨q.id, y0, y1, y2⟩] u (by omega) rfl HP.out HR0.out HQ.out HR1.out hUO rfl (row_of_blkN (n := 2) (k := 4) (usB u hu) rfl (by unfold maxLen; omega)); rw [hA1] at h; exact h)
      have A2 := Lib.hid (show ∀ u : World, Below W3.heap.size W3 u → Calls Try.prog 41 #[.int .i64 1, .agg #[.string q.id, .int .i64 q.prio, .bool q.crit, .int .i64 q.r0, .int .i64 q.r1, .int .i64 q.r2, .int .i64 q.l0, .int .i64 q.l1, .int .i64 q.l2, .string q.img, .int .i64 q.size], .agg #[.string p.id, .int .i64 p.prio, .bool p.crit, .int .i64 p.r0, .int .i64 p.r1, .int .i64 p.r2, .int .i64 p.l0, .int .i64 p.l1, .int .i64 p.l2, .string p.img, .int .i64 p.size], .agg #[.int .i64 0, .int .i64 0, .int .i64 0, .int .i64 0, .slice (some ⟨M2, 0, none⟩) 2 2]] u fun e w' => e = .returned (.bool !x) ∧ Below u.heap.size u w' from fun u hu => by have h := rk_Ahead 1 1 q p 0 0 0 0 (some ⟨M2, 0, none⟩) 2 2 [⟨p.id, x0, x1, x2⟩, ⟨q.id, y0, y1, y2⟩] u (by omega) rfl HQ.out HR1.out HP.out HR0.out hUO rfl (row_of_blkN (n := 2) (k := 4) (usB u hu) rfl (by unfold maxLen; omega)); rw [hA2] at h; exact h)
      clear hA1 hA2 hUO
      rcases x with _ | _
      · go_wp2_with (first | (go_at_call 41; (with_reducible refine (A1.out _ hbel).mono ?_); rintro e w1 ⟨rfl, hb1⟩; replace hbel := belStep hbel hb1; clear hb1) | (go_at_call 41; (with_reducible refine (A2.out _ hbel).mono ?_); rintro e w1 ⟨rfl, hb1⟩; replace hbel := belStep hbel hb1; clear hb1))
        go_ret
        exact ⟨rfl, belStep hw hbel⟩
      · go_upto_region 11 with (go_at_call 41; (with_reducible refine (A1.out _ hbel).mono ?_); rintro e w1 ⟨rfl, hb1⟩; replace hbel := belStep hbel hb1; clear hb1)
        have hA3 := HMO.out (by trivial)
        clear A1 A2 HMO usB sp0 sp1 sp2 sp3 sp4 spB spF
        replace pp0 := keepOnP pp0 hbel
        replace pp1 := keepOnP pp1 hbel
        replace pp2 := keepOnP pp2 hbel
        replace pp3 := keepOnP pp3 hbel
        replace pp4 := keepOnP pp4 hbel
        replace pp5 := keepOnP pp5 hbel
        replace pp6 := keepOnP pp6 hbel
        replace pp7 := keepOnP pp7 hbel
        replace pp8 := keepOnP pp8 hbel
        replace pp9 := keepOnP pp9 hbel
        replace pp10 := keepOnP pp10 hbel
        replace qq0 := keepOnP qq0 hbel
        replace qq1 := keepOnP qq1 hbel
        replace qq2 := keepOnP qq2 hbel
        replace qq3 := keepOnP qq3 hbel
        replace qq4 := keepOnP qq4 hbel
        replace qq5 := keepOnP qq5 hbel
        replace qq6 := keepOnP qq6 hbel
        replace qq7 := keepOnP qq7 hbel
        replace qq8 := keepOnP qq8 hbel
        replace qq9 := keepOnP qq9 hbel
        replace qq10 := keepOnP qq10 hbel
        replace xx0 := keepOnP xx0 hbel
        replace xx1 := keepOnP xx1 hbel
        replace xx2 := keepOnP xx2 hbel
        replace xx3 := keepOnP xx3 hbel
        replace yy0 := keepOnP yy0 hbel
        replace yy1 := keepOnP yy1 hbel
        replace yy2 := keepOnP yy2 hbel
        replace yy3 := keepOnP yy3 hbel
        replace ppB := keepOnP ppB hbel
        replace ppF := keepOnP ppF hbel
        replace qqB := keepOnP qqB hbel
        replace qqF := keepOnP qqF hbel
        replace xxB := keepOnP xxB hbel
        replace xxF := keepOnP xxF hbel
        replace yyB := keepOnP yyB hbel
        replace yyF := keepOnP yyF hbel
        replace hw := belStep hw hbel
        clear hbel
        generalize w1 = V5 at *
        have hbel : Below V5.heap.size V5 V5 := Below.refl _ _
        go_upto_region 12 with fail
        have hob := xxB _ ((by repeat (first | exact Below.refl _ _ | refine belAlloc ?_ _)) : Below V5.heap.size V5 (V5))
        have hf_pp := ppB _ ((by repeat (first | exact Below.refl _ _ | refine belAlloc ?_ _)) : Below V5.heap.size V5 (V5))
        have hn_pp := Blk.ne hob hf_pp (by simp)
        have hf_qq := qqB _ ((by repeat (first | exact Below.refl _ _ | refine belAlloc ?_ _)) : Below V5.heap.size V5 (V5))
        have hn_qq := Blk.ne hob hf_qq (by simp)
        have hf_yy := yyB _ ((by repeat (first | exact Below.refl _ _ | refine belAlloc ?_ _)) : Below V5.heap.size V5 (V5))
        have hn_yy : M1 ≠ M1 + 1 := by omega
        clear hbel
        have hg_pp := (hf_pp).far (a := ⟨M1, 2, none⟩) hn_pp (.int .i64 (x1 + m))
        have hg_qq := (hf_qq).far (a := ⟨M1, 2, none⟩) hn_qq (.int .i64 (x1 + m))
        have hg_yy := (hf_yy).far (a := ⟨M1, 2, none⟩) hn_yy (.int .i64 (x1 + m))
        have hog : Blk _ (M1) [.string p.id, .int .i64 x0, .int .i64 (x1 + m), .int .i64 x2] 51 := (hob).set (2) (.int .i64 (x1 + m))
        have hwn := belSet ((by repeat (first | exact hw | refine belAlloc ?_ _) : Below w.heap.size w (V5))) ⟨M1, 2, none⟩ (.int .i64 (x1 + m)) (by show w.heap.size ≤ M1; omega)
        clear hw hob hf_pp hn_pp hf_qq hn_qq hf_yy hn_yy
        generalize V5.setCell ⟨M1, 2, none⟩ (.int .i64 (x1 + m)) = W6 at *
        have hw := hwn
        clear hwn
        clear ppB ppF pp0 pp1 pp2 pp3 pp4 pp5 pp6 pp7 pp8 pp9 pp10 qqB qqF qq0 qq1 qq2 qq3 qq4 qq5 qq6 qq7 qq8 qq9 qq10 xxB xxF xx0 xx1 xx2 xx3 yyB yyF yy0 yy1 yy2 yy3
        have ppB := Blk.keepB hg_pp
        have ppF := Blk.keepF hg_pp
        have pp0 := keep (hg_pp.cell (j := 0) rfl)
        have pp1 := keep (hg_pp.cell (j := 1) rfl)
        have pp2 := keep (hg_pp.cell (j := 2) rfl)
        have pp3 := keep (hg_pp.cell (j := 3) rfl)
        have pp4 := keep (hg_pp.cell (j := 4) rfl)
        have pp5 := keep (hg_pp.cell (j := 5) rfl)
        have pp6 := keep (hg_pp.cell (j := 6) rfl)
        have pp7 := keep (hg_pp.cell (j := 7) rfl)
        have pp8 := keep (hg_pp.cell (j := 8) rfl)
        have pp9 := keep (hg_pp.cell (j := 9) rfl)
        have pp10 := keep (hg_pp.cell (j := 10) rfl)
        have qqB := Blk.keepB hg_qq
        have qqF := Blk.keepF hg_qq
        have qq0 := keep (hg_qq.cell (j := 0) rfl)
        have qq1 := keep (hg_qq.cell (j := 1) rfl)
        have qq2 := keep (hg_qq.cell (j := 2) rfl)
        have qq3 := keep (hg_qq.cell (j := 3) rfl)
        have qq4 := keep (hg_qq.cell (j := 4) rfl)
        have qq5 := keep (hg_qq.cell (j := 5) rfl)
        have qq6 := keep (hg_qq.cell (j := 6) rfl)
        have qq7 := keep (hg_qq.cell (j := 7) rfl)
        have qq8 := keep (hg_qq.cell (j := 8) rfl)
        have qq9 := keep (hg_qq.cell (j := 9) rfl)
        have qq10 := keep (hg_qq.cell (j := 10) rfl)
        have yyB := Blk.keepB hg_yy
        have yyF := Blk.keepF hg_yy
        have yy0 := keep (hg_yy.cell (j := 0) rfl)
        have yy1 := keep (hg_yy.cell (j := 1) rfl)
        have yy2 := keep (hg_yy.cell (j := 2) rfl)
        have yy3 := keep (hg_yy.cell (j := 3) rfl)
        have xxB := Blk.keepB hog
        have xxF := Blk.keepF hog
        have xx0 := keep (hog.cell (j := 0) rfl)
        have xx1 := keep (hog.cell (j := 1) rfl)
        have xx2 := keep (hog.cell (j := 2) rfl)
        have xx3 := keep (hog.cell (j := 3) rfl)
        clear hog hg_pp hg_qq hg_yy
        have hbel : Below W6.heap.size W6 W6 := Below.refl _ _
        have hzw7 := hw.size
        go_upto_region 13 with fail
        have Bus : Blk ((W6.alloc (.cells #[.string p.id, .int .i64 x0, .int .i64 (x1 + m), .int .i64 x2, .string q.id, .int .i64 y0, .int .i64 y1, .int .i64 y2] 51)).alloc (.cells #[.int .i64 0, .int .i64 0, .int .i64 0, .int .i64 0, .slice (some ⟨W6.heap.size, 0, none⟩) 2 2] 32)) W6.heap.size [.string p.id, .int .i64 x0, .int .i64 (x1 + m), .int .i64 x2, .string q.id, .int .i64 y0, .int .i64 y1, .int .i64 y2] 51 := (Blk.new W6 [.string p.id, .int .i64 x0, .int .i64 (x1 + m), .int .i64 x2, .string q.id, .int .i64 y0, .int .i64 y1, .int .i64 y2] 51).later (belAlloc (Below.refl _ _) _)
        have Bsp : Blk ((W6.alloc (.cells #[.string p.id, .int .i64 x0, .int .i64 (x1 + m), .int .i64 x2, .string q.id, .int .i64 y0, .int .i64 y1, .int .i64 y2] 51)).alloc (.cells #[.int .i64 0, .int .i64 0, .int .i64 0, .int .i64 0, .slice (some ⟨W6.heap.size, 0, none⟩) 2 2] 32)) (W6.heap.size + 1) [.int .i64 0, .int .i64 0, .int .i64 0, .int .i64 0, .slice (some ⟨W6.heap.size, 0, none⟩) 2 2] 32 := Blk.at (w := W6.alloc (.cells #[.string p.id, .int .i64 x0, .int .i64 (x1 + m), .int .i64 x2, .string q.id, .int .i64 y0, .int .i64 y1, .int .i64 y2] 51)) (by simp)
        have hb2 : Below W6.heap.size W6 ((W6.alloc (.cells #[.string p.id, .int .i64 x0, .int .i64 (x1 + m), .int .i64 x2, .string q.id, .int .i64 y0, .int .i64 y1, .int .i64 y2] 51)).alloc (.cells #[.int .i64 0, .int .i64 0, .int .i64 0, .int .i64 0, .slice (some ⟨W6.heap.size, 0, none⟩) 2 2] 32)) := belAlloc (belAlloc (Below.refl _ _) _) _
        replace pp0 := keepOnP pp0 hb2
        replace pp1 := keepOnP pp1 hb2
        replace pp2 := keepOnP pp2 hb2
        replace pp3 := keepOnP pp3 hb2
        replace pp4 := keepOnP pp4 hb2
        replace pp5 := keepOnP pp5 hb2
        replace pp6 := keepOnP pp6 hb2
        replace pp7 := keepOnP pp7 hb2
        replace pp8 := keepOnP pp8 hb2
        replace pp9 := keepOnP pp9 hb2
        replace pp10 := keepOnP pp10 hb2
        replace qq0 := keepOnP qq0 hb2
        replace qq1 := keepOnP qq1 hb2
        replace qq2 := keepOnP qq2 hb2
        replace qq3 := keepOnP qq3 hb2
        replace qq4 := keepOnP qq4 hb2
        replace qq5 := keepOnP qq5 hb2
        replace qq6 := keepOnP qq6 hb2
        replace qq7 := keepOnP qq7 hb2
        replace qq8 := keepOnP qq8 hb2
        replace qq9 := keepOnP qq9 hb2
        replace qq10 := keepOnP qq10 hb2
        replace xx0 := keepOnP xx0 hb2
        replace xx1 := keepOnP xx1 hb2
        replace xx2 := keepOnP xx2 hb2
        replace xx3 := keepOnP xx3 hb2
        replace yy0 := keepOnP yy0 hb2
        replace yy1 := keepOnP yy1 hb2
        replace yy2 := keepOnP yy2 hb2
        replace yy3 := keepOnP yy3 hb2
        replace ppB := keepOnP ppB hb2
        replace ppF := keepOnP ppF hb2
        replace qqB := keepOnP qqB hb2
        replace qqF := keepOnP qqF hb2
        replace xxB := keepOnP xxB hb2
        replace xxF := keepOnP xxF hb2
        replace yyB := keepOnP yyB hb2
        replace yyF := keepOnP yyF hb2
        replace hw := belStep hw hb2
        clear hb2 hbel
        generalize (W6.alloc (.cells #[.string p.id, .int .i64 x0, .int .i64 (x1 + m), .int .i64 x2, .string q.id, .int .i64 y0, .int .i64 y1, .int .i64 y2] 51)).alloc (.cells #[.int .i64 0, .int .i64 0, .int .i64 0, .int .i64 0, .slice (some ⟨W6.heap.size, 0, none⟩) 2 2] 32) = W7 at *
        generalize W6.heap.size = M7 at *
        have usB := Blk.keepB Bus
        have spB := Blk.keepB Bsp
        have spF := Blk.keepF Bsp
        have sp0 := keep (Bsp.cell (j := 0) rfl)
        have sp1 := keep (Bsp.cell (j := 1) rfl)
        have sp2 := keep (Bsp.cell (j := 2) rfl)
        have sp3 := keep (Bsp.cell (j := 3) rfl)
        have sp4 := keep (Bsp.cell (j := 4) rfl)
        clear Bus Bsp
        have hbel : Below W7.heap.size W7 W7 := Below.refl _ _
        have hUO : ∀ u ∈ ([⟨p.id, x0, x1 + m, x2⟩, ⟨q.id, y0, y1, y2⟩] : List UseV), UseOK u := by
          intro u hu
          simp only [List.mem_cons, List.not_mem_nil, or_false] at hu
          rcases hu with rfl | rfl <;> exact use_ok3 (by omega) (by omega) (by omega) (by omega) (by omega) (by omega)
        have A3 := Lib.hid (show ∀ u : World, Below W7.heap.size W7 u → Calls Try.prog 41 #[.int .i64 1, .agg #[.string p.id, .int .i64 p.prio, .bool p.crit, .int .i64 p.r0, .int .i64 p.r1, .int .i64 p.r2, .int .i64 p.l0, .int .i64 p.l1, .int .i64 p.l2, .string p.img, .int .i64 p.size], .agg #[.string q.id, .int .i64 q.prio, .bool q.crit, .int .i64 q.r0, .int .i64 q.r1, .int .i64 q.r2, .int .i64 q.l0, .int .i64 q.l1, .int .i64 q.l2, .string q.img, .int .i64 q.size], .agg #[.int .i64 0, .int .i64 0, .int .i64 0, .int .i64 0, .slice (some ⟨M7, 0, none⟩) 2 2]] u fun e w' => e = .returned (.bool true) ∧ Below u.heap.size u w' from fun u hu => by have h := rk_Ahead 1 1 p q 0 0 0 0 (some ⟨M7, 0, none⟩) 2 2 [⟨p.id, x0, x1 + m, x2⟩, ⟨q.id, y0, y1, y2⟩] u (by omega) rfl HP.out HR0.out HQ.out HR1.out hUO rfl (row_of_blkN (n := 2) (k := 4) (usB u hu) rfl (by unfold maxLen; omega)); rw [hA3] at h; exact h)
        clear hA3 hUO
        go_wp2_with (go_at_call 41; (with_reducible refine (A3.out _ hbel).mono ?_); rintro e w1 ⟨rfl, hb1⟩; replace hbel := belStep hbel hb1; clear hb1)
        go_ret
        exact ⟨rfl, belStep hw hbel⟩
    · with_reducible rw [show ((2 : Nat) : Int) = 2 from rfl]
      have hof := ofF_two p.id q.id ⟨p.id, x0, x1, x2⟩ ⟨q.id, y0, y1, y2⟩ rfl rfl HNE.out
      have hX1 : exF 2 p [⟨p.id, x0, x1, x2⟩, ⟨q.id, y0, y1, y2⟩] = x2 - askF 2 p := by unfold exF; rw [hof.1]; rfl
      have hY1 : exF 2 q [⟨p.id, x0, x1, x2⟩, ⟨q.id, y0, y1, y2⟩] = y2 - askF 2 q := by unfold exF; rw [hof.2]; rfl
      clear hof
      have hof := ofF_two p.id q.id ⟨p.id, x0, x1, x2 + m⟩ ⟨q.id, y0, y1, y2⟩ rfl rfl HNE.out
      have hX2 : exF 2 p [⟨p.id, x0, x1, x2 + m⟩, ⟨q.id, y0, y1, y2⟩] = x2 + m - askF 2 p := by unfold exF; rw [hof.1]; rfl
      have hY2 : exF 2 q [⟨p.id, x0, x1, x2 + m⟩, ⟨q.id, y0, y1, y2⟩] = y2 - askF 2 q := by unfold exF; rw [hof.2]; rfl
      clear hof
      have HMO := Lib.hid (fun h => ahead_more hX1 hY1 hX2 hY2 (by omega) h)
      clear hX1 hY1 hX2 hY2
      have hTU := @ahead_turn 2 p q [⟨p.id, x0, x1, x2⟩, ⟨q.id, y0, y1, y2⟩] HNE.out
      obtain ⟨x, hA1⟩ : ∃ x, aheadB 2 p q [⟨p.id, x0, x1, x2⟩, ⟨q.id, y0, y1, y2⟩] = x := ⟨_, rfl⟩
      have hA2 := hTU
      rw [hA1] at hA2 HMO
      clear hTU
      have hUO : ∀ u ∈ ([⟨p.id, x0, x1, x2⟩, ⟨q.id, y0, y1, y2⟩] : List UseV), UseOK u := by
        intro u hu
        simp only [List.mem_cons, List.not_mem_nil, or_false] at hu
        rcases hu with rfl | rfl <;> exact use_ok3 (by omega) (by omega) (by omega) (by omega) (by omega) (by omega)
      have A1 := Lib.hid (show ∀ u : World, Below W3.heap.size W3 u → Calls Try.prog 41 #[.int .i64 2, .agg #[.string p.id, .int .i64 p.prio, .bool p.crit, .int .i64 p.r0, .int .i64 p.r1, .int .i64 p.r2, .int .i64 p.l0, .int .i64 p.l1, .int .i64 p.l2, .string p.img, .int .i64 p.size], .agg #[.string q.id, .int .i64 q.prio, .bool q.crit, .int .i64 q.r0, .int .i64 q.r1, .int .i64 q.r2, .int .i64 q.l0, .int .i64 q.l1, .int .i64 q.l2, .string q.img, .int .i64 q.size], .agg #[.int .i64 0, .int .i64 0, .int .i64 0, .int .i64 0, .slice (some ⟨M2, 0, none⟩) 2 2]] u fun e w' => e = .returned (.bool x) ∧ Below u.heap.size u w' from fun u hu => by have h := rk_Ahead 2 2 p q 0 0 0 0 (some ⟨M2, 0, none⟩) 2 2 [⟨p.id, x0, x1, x2⟩, ⟨q.id, y0, y1, y2⟩] u (by omega) rfl HP.out HR0.out HQ.out HR1.out hUO rfl (row_of_blkN (n := 2) (k := 4) (usB u hu) rfl (by unfold maxLen; omega)); rw [hA1] at h; exact h)
      have A2 := Lib.hid (show ∀ u : World, Below W3.heap.size W3 u → Calls Try.prog 41 #[.int .i64 2, .agg #[.string q.id, .int .i64 q.prio, .bool q.crit, .int .i64 q.r0, .int .i64 q.r1, .int .i64 q.r2, .int .i64 q.l0, .int .i64 q.l1, .int .i64 q.l2, .string q.img, .int .i64 q.size], .agg #[.string p.id, .int .i64 p.prio, .bool p.crit, .int .i64 p.r0, .int .i64 p.r1, .int .i64 p.r2, .int .i64 p.l0, .int .i64 p.l1, .int .i64 p.l2, .string p.img, .int .i64 p.size], .agg #[.int .i64 0, .int .i64 0, .int .i64 0, .int .i64 0, .slice (some ⟨M2, 0, none⟩) 2 2]] u fun e w' => e = .returned (.bool !x) ∧ Below u.heap.size u w' from fun u hu => by have h := rk_Ahead 2 2 q p 0 0 0 0 (some ⟨M2, 0, none⟩) 2 2 [⟨p.id, x0, x1, x2⟩, ⟨q.id, y0, y1, y2⟩] u (by omega) rfl HQ.out HR1.out HP.out HR0.out hUO rfl (row_of_blkN (n := 2) (k := 4) (usB u hu) rfl (by unfold maxLen; omega)); rw [hA2] at h; exact h)
      clear hA1 hA2 hUO
      rcases x with _ | _
      · go_wp2_with (first | (go_at_call 41; (with_reducible refine (A1.out _ hbel).mono ?_); rintro e w1 ⟨rfl, hb1⟩; replace hbel := belStep hbel hb1; clear hb1) | (go_at_call 41; (with_reducible refine (A2.out _ hbel).mono ?_); rintro e w1 ⟨rfl, hb1⟩; replace hbel := belStep hbel hb1; clear hb1))
        go_ret
        exact ⟨rfl, belStep hw hbel⟩
      · go_upto_region 11 with (go_at_call 41; (with_reducible refine (A1.out _ hbel).mono ?_); rintro e w1 ⟨rfl, hb1⟩; replace hbel := belStep hbel hb1; clear hb1)
        have hA3 := HMO.out (by trivial)
        clear A1 A2 HMO usB sp0 sp1 sp2 sp3 sp4 spB spF
        replace pp0 := keepOnP pp0 hbel
        replace pp1 := keepOnP pp1 hbel
        replace pp2 := keepOnP pp2 hbel
        replace pp3 := keepOnP pp3 hbel
        replace pp4 := keepOnP pp4 hbel
        replace pp5 := keepOnP pp5 hbel
        replace pp6 := keepOnP pp6 hbel
        replace pp7 := keepOnP pp7 hbel
        replace pp8 := keepOnP pp8 hbel
        replace pp9 := keepOnP pp9 hbel
        replace pp10 := keepOnP pp10 hbel
        replace qq0 := keepOnP qq0 hbel
        replace qq1 := keepOnP qq1 hbel
        replace qq2 := keepOnP qq2 hbel
        replace qq3 := keepOnP qq3 hbel
        replace qq4 := keepOnP qq4 hbel
        replace qq5 := keepOnP qq5 hbel
        replace qq6 := keepOnP qq6 hbel
        replace qq7 := keepOnP qq7 hbel
        replace qq8 := keepOnP qq8 hbel
        replace qq9 := keepOnP qq9 hbel
        replace qq10 := keepOnP qq10 hbel
        replace xx0 := keepOnP xx0 hbel
        replace xx1 := keepOnP xx1 hbel
        replace xx2 := keepOnP xx2 hbel
        replace xx3 := keepOnP xx3 hbel
        replace yy0 := keepOnP yy0 hbel
        replace yy1 := keepOnP yy1 hbel
        replace yy2 := keepOnP yy2 hbel
        replace yy3 := keepOnP yy3 hbel
        replace ppB := keepOnP ppB hbel
        replace ppF := keepOnP ppF hbel
        replace qqB := keepOnP qqB hbel
        replace qqF := keepOnP qqF hbel
        replace xxB := keepOnP xxB hbel
        replace xxF := keepOnP xxF hbel
        replace yyB := keepOnP yyB hbel
        replace yyF := keepOnP yyF hbel
        replace hw := belStep hw hbel
        clear hbel
        generalize w1 = V5 at *
        have hbel : Below V5.heap.size V5 V5 := Below.refl _ _
        go_upto_region 12 with fail
        have hob := xxB _ ((by repeat (first | exact Below.refl _ _ | refine belAlloc ?_ _)) : Below V5.heap.size V5 (V5))
        have hf_pp := ppB _ ((by repeat (first | exact Below.refl _ _ | refine belAlloc ?_ _)) : Below V5.heap.size V5 (V5))
        have hn_pp := Blk.ne hob hf_pp (by simp)
        have hf_qq := qqB _ ((by repeat (first | exact Below.refl _ _ | refine belAlloc ?_ _)) : Below V5.heap.size V5 (V5))
        have hn_qq := Blk.ne hob hf_qq (by simp)
        have hf_yy := yyB _ ((by repeat (first | exact Below.refl _ _ | refine belAlloc ?_ _)) : Below V5.heap.size V5 (V5))
        have hn_yy : M1 ≠ M1 + 1 := by omega
        clear hbel
        have hg_pp := (hf_pp).far (a := ⟨M1, 3, none⟩) hn_pp (.int .i64 (x2 + m))
        have hg_qq := (hf_qq).far (a := ⟨M1, 3, none⟩) hn_qq (.int .i64 (x2 + m))
        have hg_yy := (hf_yy).far (a := ⟨M1, 3, none⟩) hn_yy (.int .i64 (x2 + m))
        have hog : Blk _ (M1) [.string p.id, .int .i64 x0, .int .i64 x1, .int .i64 (x2 + m)] 51 := (hob).set (3) (.int .i64 (x2 + m))
        have hwn := belSet ((by repeat (first | exact hw | refine belAlloc ?_ _) : Below w.heap.size w (V5))) ⟨M1, 3, none⟩ (.int .i64 (x2 + m)) (by show w.heap.size ≤ M1; omega)
        clear hw hob hf_pp hn_pp hf_qq hn_qq hf_yy hn_yy
        generalize V5.setCell ⟨M1, 3, none⟩ (.int .i64 (x2 + m)) = W6 at *
        have hw := hwn
        clear hwn
        clear ppB ppF pp0 pp1 pp2 pp3 pp4 pp5 pp6 pp7 pp8 pp9 pp10 qqB qqF qq0 qq1 qq2 qq3 qq4 qq5 qq6 qq7 qq8 qq9 qq10 xxB xxF xx0 xx1 xx2 xx3 yyB yyF yy0 yy1 yy2 yy3
        have ppB := Blk.keepB hg_pp
        have ppF := Blk.keepF hg_pp
        have pp0 := keep (hg_pp.cell (j := 0) rfl)
        have pp1 := keep (hg_pp.cell (j := 1) rfl)
        have pp2 := keep (hg_pp.cell (j := 2) rfl)
        have pp3 := keep (hg_pp.cell (j := 3) rfl)
        have pp4 := keep (hg_pp.cell (j := 4) rfl)
        have pp5 := keep (hg_pp.cell (j := 5) rfl)
        have pp6 := keep (hg_pp.cell (j := 6) rfl)
        have pp7 := keep (hg_pp.cell (j := 7) rfl)
        have pp8 := keep (hg_pp.cell (j := 8) rfl)
        have pp9 := keep (hg_pp.cell (j := 9) rfl)
        have pp10 := keep (hg_pp.cell (j := 10) rfl)
        have qqB := Blk.keepB hg_qq
        have qqF := Blk.keepF hg_qq
        have qq0 := keep (hg_qq.cell (j := 0) rfl)
        have qq1 := keep (hg_qq.cell (j := 1) rfl)
        have qq2 := keep (hg_qq.cell (j := 2) rfl)
        have qq3 := keep (hg_qq.cell (j := 3) rfl)
        have qq4 := keep (hg_qq.cell (j := 4) rfl)
        have qq5 := keep (hg_qq.cell (j := 5) rfl)
        have qq6 := keep (hg_qq.cell (j := 6) rfl)
        have qq7 := keep (hg_qq.cell (j := 7) rfl)
        have qq8 := keep (hg_qq.cell (j := 8) rfl)
        have qq9 := keep (hg_qq.cell (j := 9) rfl)
        have qq10 := keep (hg_qq.cell (j := 10) rfl)
        have yyB := Blk.keepB hg_yy
        have yyF := Blk.keepF hg_yy
        have yy0 := keep (hg_yy.cell (j := 0) rfl)
        have yy1 := keep (hg_yy.cell (j := 1) rfl)
        have yy2 := keep (hg_yy.cell (j := 2) rfl)
        have yy3 := keep (hg_yy.cell (j := 3) rfl)
        have xxB := Blk.keepB hog
        have xxF := Blk.keepF hog
        have xx0 := keep (hog.cell (j := 0) rfl)
        have xx1 := keep (hog.cell (j := 1) rfl)
        have xx2 := keep (hog.cell (j := 2) rfl)
        have xx3 := keep (hog.cell (j := 3) rfl)
        clear hog hg_pp hg_qq hg_yy
        have hbel : Below W6.heap.size W6 W6 := Below.refl _ _
        have hzw7 := hw.size
        go_upto_region 13 with fail
        have Bus : Blk ((W6.alloc (.cells #[.string p.id, .int .i64 x0, .int .i64 x1, .int .i64 (x2 + m), .string q.id, .int .i64 y0, .int .i64 y1, .int .i64 y2] 51)).alloc (.cells #[.int .i64 0, .int .i64 0, .int .i64 0, .int .i64 0, .slice (some ⟨W6.heap.size, 0, none⟩) 2 2] 32)) W6.heap.size [.string p.id, .int .i64 x0, .int .i64 x1, .int .i64 (x2 + m), .string q.id, .int .i64 y0, .int .i64 y1, .int .i64 y2] 51 := (Blk.new W6 [.string p.id, .int .i64 x0, .int .i64 x1, .int .i64 (x2 + m), .string q.id, .int .i64 y0, .int .i64 y1, .int .i64 y2] 51).later (belAlloc (Below.refl _ _) _)
        have Bsp : Blk ((W6.alloc (.cells #[.string p.id, .int .i64 x0, .int .i64 x1, .int .i64 (x2 + m), .string q.id, .int .i64 y0, .int .i64 y1, .int .i64 y2] 51)).alloc (.cells #[.int .i64 0, .int .i64 0, .int .i64 0, .int .i64 0, .slice (some ⟨W6.heap.size, 0, none⟩) 2 2] 32)) (W6.heap.size + 1) [.int .i64 0, .int .i64 0, .int .i64 0, .int .i64 0, .slice (some ⟨W6.heap.size, 0, none⟩) 2 2] 32 := Blk.at (w := W6.alloc (.cells #[.string p.id, .int .i64 x0, .int .i64 x1, .int .i64 (x2 + m), .string q.id, .int .i64 y0, .int .i64 y1, .int .i64 y2] 51)) (by simp)
        have hb2 : Below W6.heap.size W6 ((W6.alloc (.cells #[.string p.id, .int .i64 x0, .int .i64 x1, .int .i64 (x2 + m), .string q.id, .int .i64 y0, .int .i64 y1, .int .i64 y2] 51)).alloc (.cells #[.int .i64 0, .int .i64 0, .int .i64 0, .int .i64 0, .slice (some ⟨W6.heap.size, 0, none⟩) 2 2] 32)) := belAlloc (belAlloc (Below.refl _ _) _) _
        replace pp0 := keepOnP pp0 hb2
        replace pp1 := keepOnP pp1 hb2
        replace pp2 := keepOnP pp2 hb2
        replace pp3 := keepOnP pp3 hb2
        replace pp4 := keepOnP pp4 hb2
        replace pp5 := keepOnP pp5 hb2
        replace pp6 := keepOnP pp6 hb2
        replace pp7 := keepOnP pp7 hb2
        replace pp8 := keepOnP pp8 hb2
        replace pp9 := keepOnP pp9 hb2
        replace pp10 := keepOnP pp10 hb2
        replace qq0 := keepOnP qq0 hb2
        replace qq1 := keepOnP qq1 hb2
        replace qq2 := keepOnP qq2 hb2
        replace qq3 := keepOnP qq3 hb2
        replace qq4 := keepOnP qq4 hb2
        replace qq5 := keepOnP qq5 hb2
        replace qq6 := keepOnP qq6 hb2
        replace qq7 := keepOnP qq7 hb2
        replace qq8 := keepOnP qq8 hb2
        replace qq9 := keepOnP qq9 hb2
        replace qq10 := keepOnP qq10 hb2
        replace xx0 := keepOnP xx0 hb2
        replace xx1 := keepOnP xx1 hb2
        replace xx2 := keepOnP xx2 hb2
        replace xx3 := keepOnP xx3 hb2
        replace yy0 := keepOnP yy0 hb2
        replace yy1 := keepOnP yy1 hb2
        replace yy2 := keepOnP yy2 hb2
        replace yy3 := keepOnP yy3 hb2
        replace ppB := keepOnP ppB hb2
        replace ppF := keepOnP ppF hb2
        replace qqB := keepOnP qqB hb2
        replace qqF := keepOnP qqF hb2
        replace xxB := keepOnP xxB hb2
        replace xxF := keepOnP xxF hb2
        replace yyB := keepOnP yyB hb2
        replace yyF := keepOnP yyF hb2
        replace hw := belStep hw hb2
        clear hb2 hbel
        generalize (W6.alloc (.cells #[.string p.id, .int .i64 x0, .int .i64 x1, .int .i64 (x2 + m), .string q.id, .int .i64 y0, .int .i64 y1, .int .i64 y2] 51)).alloc (.cells #[.int .i64 0, .int .i64 0, .int .i64 0, .int .i64 0, .slice (some ⟨W6.heap.size, 0, none⟩) 2 2] 32) = W7 at *
        generalize W6.heap.size = M7 at *
        have usB := Blk.keepB Bus
        have spB := Blk.keepB Bsp
        have spF := Blk.keepF Bsp
        have sp0 := keep (Bsp.cell (j := 0) rfl)
        have sp1 := keep (Bsp.cell (j := 1) rfl)
        have sp2 := keep (Bsp.cell (j := 2) rfl)
        have sp3 := keep (Bsp.cell (j := 3) rfl)
        have sp4 := keep (Bsp.cell (j := 4) rfl)
        clear Bus Bsp
        have hbel : Below W7.heap.size W7 W7 := Below.refl _ _
        have hUO : ∀ u ∈ ([⟨p.id, x0, x1, x2 + m⟩, ⟨q.id, y0, y1, y2⟩] : List UseV), UseOK u := by
          intro u hu
          simp only [List.mem_cons, List.not_mem_nil, or_false] at hu
          rcases hu with rfl | rfl <;> exact use_ok3 (by omega) (by omega) (by omega) (by omega) (by omega) (by omega)
        have A3 := Lib.hid (show ∀ u : World, Below W7.heap.size W7 u → Calls Try.prog 41 #[.int .i64 2, .agg #[.string p.id, .int .i64 p.prio, .bool p.crit, .int .i64 p.r0, .int .i64 p.r1, .int .i64 p.r2, .int .i64 p.l0, .int .i64 p.l1, .int .i64 p.l2, .string p.img, .int .i64 p.size], .agg #[.string q.id, .int .i64 q.prio, .bool q.crit, .int .i64 q.r0, .int .i64 q.r1, .int .i64 q.r2, .int .i64 q.l0, .int .i64 q.l1, .int .i64 q.l2, .string q.img, .int .i64 q.size], .agg #[.int .i64 0, .int .i64 0, .int .i64 0, .int .i64 0, .slice (some ⟨M7, 0, none⟩) 2 2]] u fun e w' => e = .returned (.bool true) ∧ Below u.heap.size u w' from fun u hu => by have h := rk_Ahead 2 2 p q 0 0 0 0 (some ⟨M7, 0, none⟩) 2 2 [⟨p.id, x0, x1, x2 + m⟩, ⟨q.id, y0, y1, y2⟩] u (by omega) rfl HP.out HR0.out HQ.out HR1.out hUO rfl (row_of_blkN (n := 2) (k := 4) (usB u hu) rfl (by unfold maxLen; omega)); rw [hA3] at h; exact h)
        clear hA3 hUO
        go_wp2_with (go_at_call 41; (with_reducible refine (A3.out _ hbel).mono ?_); rintro e w1 ⟨rfl, hb1⟩; replace hbel := belStep hbel hb1; clear hb1)
        go_ret
        exact ⟨rfl, belStep hw hbel⟩
  · go_upto_region 9 with fail
    have hub := Blk.new W3 [.string q.id, .int .i64 y0, .int .i64 y1, .int .i64 y2, .string p.id, .int .i64 x0, .int .i64 x1, .int .i64 x2] 51
    have hsb := spB _ (belAlloc (Below.refl _ _) _ : Below W3.heap.size W3 (W3.alloc (.cells #[.string q.id, .int .i64 y0, .int .i64 y1, .int .i64 y2, .string p.id, .int .i64 x0, .int .i64 x1, .int .i64 x2] 51)))
    have hun := Blk.ne hsb hub (by simp)
    clear hsb
    have hub2 := (((((hub).far (a := ⟨M2 + 1, 0, none⟩) hun (.int .i64 0)).far (a := ⟨M2 + 1, 1, none⟩) hun (.int .i64 0)).far (a := ⟨M2 + 1, 2, none⟩) hun (.int .i64 0)).far (a := ⟨M2 + 1, 3, none⟩) hun (.int .i64 0)).far (a := ⟨M2 + 1, 4, none⟩) hun (.slice (some ⟨W3.heap.size, 0, none⟩) 2 2)
    clear hub hun
    have hob := spB _ ((by repeat (first | exact Below.refl _ _ | refine belAlloc ?_ _)) : Below W3.heap.size W3 (W3.alloc (.cells #[.string q.id, .int .i64 y0, .int .i64 y1, .int .i64 y2, .string p.id, .int .i64 x0, .int .i64 x1, .int .i64 x2] 51)))
    have hf_pp := ppB _ ((by repeat (first | exact Below.refl _ _ | refine belAlloc ?_ _)) : Below W3.heap.size W3 (W3.alloc (.cells #[.string q.id, .int .i64 y0, .int .i64 y1, .int .i64 y2, .string p.id, .int .i64 x0, .int .i64 x1, .int .i64 x2] 51)))
    have hn_pp := Blk.ne hob hf_pp (by simp)
    have hf_qq := qqB _ ((by repeat (first | exact Below.refl _ _ | refine belAlloc ?_ _)) : Below W3.heap.size W3 (W3.alloc (.cells #[.string q.id, .int .i64 y0, .int .i64 y1, .int .i64 y2, .string p.id, .int .i64 x0, .int .i64 x1, .int .i64 x2] 51)))
    have hn_qq := Blk.ne hob hf_qq (by simp)
    have hf_xx := xxB _ ((by repeat (first | exact Below.refl _ _ | refine belAlloc ?_ _)) : Below W3.heap.size W3 (W3.alloc (.cells #[.string q.id, .int .i64 y0, .int .i64 y1, .int .i64 y2, .string p.id, .int .i64 x0, .int .i64 x1, .int .i64 x2] 51)))
    have hn_xx := Blk.ne hob hf_xx (by simp)
    have hf_yy := yyB _ ((by repeat (first | exact Below.refl _ _ | refine belAlloc ?_ _)) : Below W3.heap.size W3 (W3.alloc (.cells #[.string q.id, .int .i64 y0, .int .i64 y1, .int .i64 y2, .string p.id, .int .i64 x0, .int .i64 x1, .int .i64 x2] 51)))
    have hn_yy := Blk.ne hob hf_yy (by simp)
    clear hbel
    have hg_pp := (((((hf_pp).far (a := ⟨M2 + 1, 0, none⟩) hn_pp (.int .i64 0)).far (a := ⟨M2 + 1, 1, none⟩) hn_pp (.int .i64 0)).far (a := ⟨M2 + 1, 2, none⟩) hn_pp (.int .i64 0)).far (a := ⟨M2 + 1, 3, none⟩) hn_pp (.int .i64 0)).far (a := ⟨M2 + 1, 4, none⟩) hn_pp (.slice (some ⟨W3.heap.size, 0, none⟩) 2 2)
    have hg_qq := (((((hf_qq).far (a := ⟨M2 + 1, 0, none⟩) hn_qq (.int .i64 0)).far (a := ⟨M2 + 1, 1, none⟩) hn_qq (.int .i64 0)).far (a := ⟨M2 + 1, 2, none⟩) hn_qq (.int .i64 0)).far (a := ⟨M2 + 1, 3, none⟩) hn_qq (.int .i64 0)).far (a := ⟨M2 + 1, 4, none⟩) hn_qq (.slice (some ⟨W3.heap.size, 0, none⟩) 2 2)
    have hg_xx := (((((hf_xx).far (a := ⟨M2 + 1, 0, none⟩) hn_xx (.int .i64 0)).far (a := ⟨M2 + 1, 1, none⟩) hn_xx (.int .i64 0)).far (a := ⟨M2 + 1, 2, none⟩) hn_xx (.int .i64 0)).far (a := ⟨M2 + 1, 3, none⟩) hn_xx (.int .i64 0)).far (a := ⟨M2 + 1, 4, none⟩) hn_xx (.slice (some ⟨W3.heap.size, 0, none⟩) 2 2)
    have hg_yy := (((((hf_yy).far (a := ⟨M2 + 1, 0, none⟩) hn_yy (.int .i64 0)).far (a := ⟨M2 + 1, 1, none⟩) hn_yy (.int .i64 0)).far (a := ⟨M2 + 1, 2, none⟩) hn_yy (.int .i64 0)).far (a := ⟨M2 + 1, 3, none⟩) hn_yy (.int .i64 0)).far (a := ⟨M2 + 1, 4, none⟩) hn_yy (.slice (some ⟨W3.heap.size, 0, none⟩) 2 2)
    have hog : Blk _ (M2 + 1) [.int .i64 0, .int .i64 0, .int .i64 0, .int .i64 0, .slice (some ⟨W3.heap.size, 0, none⟩) 2 2] 32 := (((((hob).set (0) (.int .i64 0)).set (1) (.int .i64 0)).set (2) (.int .i64 0)).set (3) (.int .i64 0)).set (4) (.slice (some ⟨W3.heap.size, 0, none⟩) 2 2)
    have hwn := belSet (belSet (belSet (belSet (belSet ((by repeat (first | exact hw | refine belAlloc ?_ _) : Below w.heap.size w (W3.alloc (.cells #[.string q.id, .int .i64 y0, .int .i64 y1, .int .i64 y2, .string p.id, .int .i64 x0, .int .i64 x1, .int .i64 x2] 51)))) ⟨M2 + 1, 0, none⟩ (.int .i64 0) (by show w.heap.size ≤ M2 + 1; omega)) ⟨M2 + 1, 1, none⟩ (.int .i64 0) (by show w.heap.size ≤ M2 + 1; omega)) ⟨M2 + 1, 2, none⟩ (.int .i64 0) (by show w.heap.size ≤ M2 + 1; omega)) ⟨M2 + 1, 3, none⟩ (.int .i64 0) (by show w.heap.size ≤ M2 + 1; omega)) ⟨M2 + 1, 4, none⟩ (.slice (some ⟨W3.heap.size, 0, none⟩) 2 2) (by show w.heap.size ≤ M2 + 1; omega)
    clear hw hob hf_pp hn_pp hf_qq hn_qq hf_xx hn_xx hf_yy hn_yy
    generalize (((((W3.alloc (.cells #[.string q.id, .int .i64 y0, .int .i64 y1, .int .i64 y2, .string p.id, .int .i64 x0, .int .i64 x1, .int .i64 x2] 51)).setCell ⟨M2 + 1, 0, none⟩ (.int .i64 0)).setCell ⟨M2 + 1, 1, none⟩ (.int .i64 0)).setCell ⟨M2 + 1, 2, none⟩ (.int .i64 0)).setCell ⟨M2 + 1, 3, none⟩ (.int .i64 0)).setCell ⟨M2 + 1, 4, none⟩ (.slice (some ⟨W3.heap.size, 0, none⟩) 2 2) = W4 at *
    have hw := hwn
    clear hwn
    clear ppB ppF pp0 pp1 pp2 pp3 pp4 pp5 pp6 pp7 pp8 pp9 pp10 qqB qqF qq0 qq1 qq2 qq3 qq4 qq5 qq6 qq7 qq8 qq9 qq10 xxB xxF xx0 xx1 xx2 xx3 yyB yyF yy0 yy1 yy2 yy3 sp0 sp1 sp2 sp3 sp4 spB spF
    have ppB := Blk.keepB hg_pp
    have ppF := Blk.keepF hg_pp
    have pp0 := keep (hg_pp.cell (j := 0) rfl)
    have pp1 := keep (hg_pp.cell (j := 1) rfl)
    have pp2 := keep (hg_pp.cell (j := 2) rfl)
    have pp3 := keep (hg_pp.cell (j := 3) rfl)
    have pp4 := keep (hg_pp.cell (j := 4) rfl)
    have pp5 := keep (hg_pp.cell (j := 5) rfl)
    have pp6 := keep (hg_pp.cell (j := 6) rfl)
    have pp7 := keep (hg_pp.cell (j := 7) rfl)
    have pp8 := keep (hg_pp.cell (j := 8) rfl)
    have pp9 := keep (hg_pp.cell (j := 9) rfl)
    have pp10 := keep (hg_pp.cell (j := 10) rfl)
    have qqB := Blk.keepB hg_qq
    have qqF := Blk.keepF hg_qq
    have qq0 := keep (hg_qq.cell (j := 0) rfl)
    have qq1 := keep (hg_qq.cell (j := 1) rfl)
    have qq2 := keep (hg_qq.cell (j := 2) rfl)
    have qq3 := keep (hg_qq.cell (j := 3) rfl)
    have qq4 := keep (hg_qq.cell (j := 4) rfl)
    have qq5 := keep (hg_qq.cell (j := 5) rfl)
    have qq6 := keep (hg_qq.cell (j := 6) rfl)
    have qq7 := keep (hg_qq.cell (j := 7) rfl)
    have qq8 := keep (hg_qq.cell (j := 8) rfl)
    have qq9 := keep (hg_qq.cell (j := 9) rfl)
    have qq10 := keep (hg_qq.cell (j := 10) rfl)
    have xxB := Blk.keepB hg_xx
    have xxF := Blk.keepF hg_xx
    have xx0 := keep (hg_xx.cell (j := 0) rfl)
    have xx1 := keep (hg_xx.cell (j := 1) rfl)
    have xx2 := keep (hg_xx.cell (j := 2) rfl)
    have xx3 := keep (hg_xx.cell (j := 3) rfl)
    have yyB := Blk.keepB hg_yy
    have yyF := Blk.keepF hg_yy
    have yy0 := keep (hg_yy.cell (j := 0) rfl)
    have yy1 := keep (hg_yy.cell (j := 1) rfl)
    have yy2 := keep (hg_yy.cell (j := 2) rfl)
    have yy3 := keep (hg_yy.cell (j := 3) rfl)
    have spB := Blk.keepB hog
    have spF := Blk.keepF hog
    have sp0 := keep (hog.cell (j := 0) rfl)
    have sp1 := keep (hog.cell (j := 1) rfl)
    have sp2 := keep (hog.cell (j := 2) rfl)
    have sp3 := keep (hog.cell (j := 3) rfl)
    have sp4 := keep (hog.cell (j := 4) rfl)
    clear hog hg_pp hg_qq hg_xx hg_yy
    have hbel : Below W4.heap.size W4 W4 := Below.refl _ _
    generalize W3.heap.size = M3 at *
    clear usB
    have usB := Blk.keepB hub2
    clear hub2
    have hgc : g = 0 ∨ g = 1 ∨ g = 2 := by omega
    clear hg
    rcases hgc with rfl | rfl | rfl
    · with_reducible rw [show ((0 : Nat) : Int) = 0 from rfl]
      have hof := ofF_two q.id p.id ⟨q.id, y0, y1, y2⟩ ⟨p.id, x0, x1, x2⟩ rfl rfl (fun e => HNE.out e.symm)
      have hX1 : exF 0 p [⟨q.id, y0, y1, y2⟩, ⟨p.id, x0, x1, x2⟩] = x0 - askF 0 p := by unfold exF; rw [hof.2]; rfl
      have hY1 : exF 0 q [⟨q.id, y0, y1, y2⟩, ⟨p.id, x0, x1, x2⟩] = y0 - askF 0 q := by unfold exF; rw [hof.1]; rfl
      clear hof
      have hof := ofF_two q.id p.id ⟨q.id, y0, y1, y2⟩ ⟨p.id, x0 + m, x1, x2⟩ rfl rfl (fun e => HNE.out e.symm)
      have hX2 : exF 0 p [⟨q.id, y0, y1, y2⟩, ⟨p.id, x0 + m, x1, x2⟩] = x0 + m - askF 0 p := by unfold exF; rw [hof.2]; rfl
      have hY2 : exF 0 q [⟨q.id, y0, y1, y2⟩, ⟨p.id, x0 + m, x1, x2⟩] = y0 - askF 0 q := by unfold exF; rw [hof.1]; rfl
      clear hof
      have HMO := Lib.hid (fun h => ahead_more hX1 hY1 hX2 hY2 (by omega) h)
      clear hX1 hY1 hX2 hY2
      have hTU := @ahead_turn 0 p q [⟨q.id, y0, y1, y2⟩, ⟨p.id, x0, x1, x2⟩] HNE.out
      obtain ⟨x, hA1⟩ : ∃ x, aheadB 0 p q [⟨q.id, y0, y1, y2⟩, ⟨p.id, x0, x1, x2⟩] = x := ⟨_, rfl⟩
      have hA2 := hTU
      rw [hA1] at hA2 HMO
      clear hTU
      have hUO : ∀ u ∈ ([⟨q.id, y0, y1, y2⟩, ⟨p.id, x0, x1, x2⟩] : List UseV), UseOK u := by
        intro u hu
        simp only [List.mem_cons, List.not_mem_nil, or_false] at hu
        rcases hu with rfl | rfl <;> exact use_ok3 (by omega) (by omega) (by omega) (by omega) (by omega) (by omega)
      have A1 := Lib.hid (show ∀ u : World, Below W4.heap.size W4 u → Calls Try.prog 41 #[.int .i64 0, .agg #[.string p.id, .int .i64 p.prio, .bool p.crit, .int .i64 p.r0, .int .i64 p.r1, .int .i64 p.r2, .int .i64 p.l0, .int .i64 p.l1, .int .i64 p.l2, .string p.img, .int .i64 p.size], .agg #[.string q.id, .int .i64 q.prio, .bool q.crit, .int .i64 q.r0, .int .i64 q.r1, .int .i64 q.r2, .int .i64 q.l0, .int .i64 q.l1, .int .i64 q.l2, .string q.img, .int .i64 q.size], .agg #[.int .i64 0, .int .i64 0, .int .i64 0, .int .i64 0, .slice (some ⟨M3, 0, none⟩) 2 2]] u fun e w' => e = .returned (.bool x) ∧ Below u.heap.size u w' from fun u hu => by have h := rk_Ahead 0 0 p q 0 0 0 0 (some ⟨M3, 0, none⟩) 2 2 [⟨q.id, y0, y1, y2⟩, ⟨p.id, x0, x1, x2⟩] u (by omega) rfl HP.out HR0.out HQ.out HR1.out hUO rfl (row_of_blkN (n := 2) (k := 4) (usB u hu) rfl (by unfold maxLen; omega)); rw [hA1] at h; exact h)
      have A2 := Lib.hid (show ∀ u : World, Below W4.heap.size W4 u → Calls Try.prog 41 #[.int .i64 0, .agg #[.string q.id, .int .i64 q.prio, .bool q.crit, .int .i64 q.r0, .int .i64 q.r1, .int .i64 q.r2, .int .i64 q.l0, .int .i64 q.l1, .int .i64 q.l2, .string q.img, .int .i64 q.size], .agg #[.string p.id, .int .i64 p.prio, .bool p.crit, .int .i64 p.r0, .int .i64 p.r1, .int .i64 p.r2, .int .i64 p.l0, .int .i64 p.l1, .int .i64 p.l2, .string p.img, .int .i64 p.size], .agg #[.int .i64 0, .int .i64 0, .int .i64 0, .int .i64 0, .slice (some ⟨M3, 0, none⟩) 2 2]] u fun e w' => e = .returned (.bool !x) ∧ Below u.heap.size u w' from fun u hu => by have h := rk_Ahead 0 0 q p 0 0 0 0 (some ⟨M3, 0, none⟩) 2 2 [⟨q.id, y0, y1, y2⟩, ⟨p.id, x0, x1, x2⟩] u (by omega) rfl HQ.out HR1.out HP.out HR0.out hUO rfl (row_of_blkN (n := 2) (k := 4) (usB u hu) rfl (by unfold maxLen; omega)); rw [hA2] at h; exact h)
      clear hA1 hA2 hUO
      rcases x with _ | _
      · go_wp2_with (first | (go_at_call 41; (with_reducible refine (A1.out _ hbel).mono ?_); rintro e w1 ⟨rfl, hb1⟩; replace hbel := belStep hbel hb1; clear hb1) | (go_at_call 41; (with_reducible refine (A2.out _ hbel).mono ?_); rintro e w1 ⟨rfl, hb1⟩; replace hbel := belStep hbel hb1; clear hb1))
        go_ret
        exact ⟨rfl, belStep hw hbel⟩
      · go_upto_region 11 with (go_at_call 41; (with_reducible refine (A1.out _ hbel).mono ?_); rintro e w1 ⟨rfl, hb1⟩; replace hbel := belStep hbel hb1; clear hb1)
        have hA3 := HMO.out (by trivial)
        clear A1 A2 HMO usB sp0 sp1 sp2 sp3 sp4 spB spF
        replace pp0 := keepOnP pp0 hbel
        replace pp1 := keepOnP pp1 hbel
        replace pp2 := keepOnP pp2 hbel
        replace pp3 := keepOnP pp3 hbel
        replace pp4 := keepOnP pp4 hbel
        replace pp5 := keepOnP pp5 hbel
        replace pp6 := keepOnP pp6 hbel
        replace pp7 := keepOnP pp7 hbel
        replace pp8 := keepOnP pp8 hbel
        replace pp9 := keepOnP pp9 hbel
        replace pp10 := keepOnP pp10 hbel
        replace qq0 := keepOnP qq0 hbel
        replace qq1 := keepOnP qq1 hbel
        replace qq2 := keepOnP qq2 hbel
        replace qq3 := keepOnP qq3 hbel
        replace qq4 := keepOnP qq4 hbel
        replace qq5 := keepOnP qq5 hbel
        replace qq6 := keepOnP qq6 hbel
        replace qq7 := keepOnP qq7 hbel
        replace qq8 := keepOnP qq8 hbel
        replace qq9 := keepOnP qq9 hbel
        replace qq10 := keepOnP qq10 hbel
        replace xx0 := keepOnP xx0 hbel
        replace xx1 := keepOnP xx1 hbel
        replace xx2 := keepOnP xx2 hbel
        replace xx3 := keepOnP xx3 hbel
        replace yy0 := keepOnP yy0 hbel
        replace yy1 := keepOnP yy1 hbel
        replace yy2 := keepOnP yy2 hbel
        replace yy3 := keepOnP yy3 hbel
        replace ppB := keepOnP ppB hbel
        replace ppF := keepOnP ppF hbel
        replace qqB := keepOnP qqB hbel
        replace qqF := keepOnP qqF hbel
        replace xxB := keepOnP xxB hbel
        replace xxF := keepOnP xxF hbel
        replace yyB := keepOnP yyB hbel
        replace yyF := keepOnP yyF hbel
        replace hw := belStep hw hbel
        clear hbel
        generalize w1 = V5 at *
        have hbel : Below V5.heap.size V5 V5 := Below.refl _ _
        go_upto_region 12 with fail
        have hob := xxB _ ((by repeat (first | exact Below.refl _ _ | refine belAlloc ?_ _)) : Below V5.heap.size V5 (V5))
        have hf_pp := ppB _ ((by repeat (first | exact Below.refl _ _ | refine belAlloc ?_ _)) : Below V5.heap.size V5 (V5))
        have hn_pp := Blk.ne hob hf_pp (by simp)
        have hf_qq := qqB _ ((by repeat (first | exact Below.refl _ _ | refine belAlloc ?_ _)) : Below V5.heap.size V5 (V5))
        have hn_qq := Blk.ne hob hf_qq (by simp)
        have hf_yy := yyB _ ((by repeat (first | exact Below.refl _ _ | refine belAlloc ?_ _)) : Below V5.heap.size V5 (V5))
        have hn_yy : M1 ≠ M1 + 1 := by omega
        clear hbel
        have hg_pp := (hf_pp).far (a := ⟨M1, 1, none⟩) hn_pp (.int .i64 (x0 + m))
        have hg_qq := (hf_qq).far (a := ⟨M1, 1, none⟩) hn_qq (.int .i64 (x0 + m))
        have hg_yy := (hf_yy).far (a := ⟨M1, 1, none⟩) hn_yy (.int .i64 (x0 + m))
        have hog : Blk _ (M1) [.string p.id, .int .i64 (x0 + m), .int .i64 x1, .int .i64 x2] 51 := (hob).set (1) (.int .i64 (x0 + m))
        have hwn := belSet ((by repeat (first | exact hw | refine belAlloc ?_ _) : Below w.heap.size w (V5))) ⟨M1, 1, none⟩ (.int .i64 (x0 + m)) (by show w.heap.size ≤ M1; omega)
        clear hw hob hf_pp hn_pp hf_qq hn_qq hf_yy hn_yy
        generalize V5.setCell ⟨M1, 1, none⟩ (.int .i64 (x0 + m)) = W6 at *
        have hw := hwn
        clear hwn
        clear ppB ppF pp0 pp1 pp2 pp3 pp4 pp5 pp6 pp7 pp8 pp9 pp10 qqB qqF qq0 qq1 qq2 qq3 qq4 qq5 qq6 qq7 qq8 qq9 qq10 xxB xxF xx0 xx1 xx2 xx3 yyB yyF yy0 yy1 yy2 yy3
        have ppB := Blk.keepB hg_pp
        have ppF := Blk.keepF hg_pp
        have pp0 := keep (hg_pp.cell (j := 0) rfl)
        have pp1 := keep (hg_pp.cell (j := 1) rfl)
        have pp2 := keep (hg_pp.cell (j := 2) rfl)
        have pp3 := keep (hg_pp.cell (j := 3) rfl)
        have pp4 := keep (hg_pp.cell (j := 4) rfl)
        have pp5 := keep (hg_pp.cell (j := 5) rfl)
        have pp6 := keep (hg_pp.cell (j := 6) rfl)
        have pp7 := keep (hg_pp.cell (j := 7) rfl)
        have pp8 := keep (hg_pp.cell (j := 8) rfl)
        have pp9 := keep (hg_pp.cell (j := 9) rfl)
        have pp10 := keep (hg_pp.cell (j := 10) rfl)
        have qqB := Blk.keepB hg_qq
        have qqF := Blk.keepF hg_qq
        have qq0 := keep (hg_qq.cell (j := 0) rfl)
        have qq1 := keep (hg_qq.cell (j := 1) rfl)
        have qq2 := keep (hg_qq.cell (j := 2) rfl)
        have qq3 := keep (hg_qq.cell (j := 3) rfl)
        have qq4 := keep (hg_qq.cell (j := 4) rfl)
        have qq5 := keep (hg_qq.cell (j := 5) rfl)
        have qq6 := keep (hg_qq.cell (j := 6) rfl)
        have qq7 := keep (hg_qq.cell (j := 7) rfl)
        have qq8 := keep (hg_qq.cell (j := 8) rfl)
        have qq9 := keep (hg_qq.cell (j := 9) rfl)
        have qq10 := keep (hg_qq.cell (j := 10) rfl)
        have yyB := Blk.keepB hg_yy
        have yyF := Blk.keepF hg_yy
        have yy0 := keep (hg_yy.cell (j := 0) rfl)
        have yy1 := keep (hg_yy.cell (j := 1) rfl)
        have yy2 := keep (hg_yy.cell (j := 2) rfl)
        have yy3 := keep (hg_yy.cell (j := 3) rfl)
        have xxB := Blk.keepB hog
        have xxF := Blk.keepF hog
        have xx0 := keep (hog.cell (j := 0) rfl)
        have xx1 := keep (hog.cell (j := 1) rfl)
        have xx2 := keep (hog.cell (j := 2) rfl)
        have xx3 := keep (hog.cell (j := 3) rfl)
        clear hog hg_pp hg_qq hg_yy
        have hbel : Below W6.heap.size W6 W6 := Below.refl _ _
        have hzw7 := hw.size
        go_upto_region 13 with fail
        have Bus : Blk ((W6.alloc (.cells #[.string p.id, .int .i64 (x0 + m), .int .i64 x1, .int .i64 x2, .string q.id, .int .i64 y0, .int .i64 y1, .int .i64 y2] 51)).alloc (.cells #[.int .i64 0, .int .i64 0, .int .i64 0, .int .i64 0, .slice (some ⟨W6.heap.size, 0, none⟩) 2 2] 32)) W6.heap.size [.string p.id, .int .i64 (x0 + m), .int .i64 x1, .int .i64 x2, .string q.id, .int .i64 y0, .int .i64 y1, .int .i64 y2] 51 := (Blk.new W6 [.string p.id, .int .i64 (x0 + m), .int .i64 x1, .int .i64 x2, .string q.id, .int .i64 y0, .int .i64 y1, .int .i64 y2] 51).later (belAlloc (Below.refl _ _) _)
        have Bsp : Blk ((W6.alloc (.cells #[.string p.id, .int .i64 (x0 + m), .int .i64 x1, .int .i64 x2, .string q.id, .int .i64 y0, .int .i64 y1, .int .i64 y2] 51)).alloc (.cells #[.int .i64 0, .int .i64 0, .int .i64 0, .int .i64 0, .slice (some ⟨W6.heap.size, 0, none⟩) 2 2] 32)) (W6.heap.size + 1) [.int .i64 0, .int .i64 0, .int .i64 0, .int .i64 0, .slice (some ⟨W6.heap.size, 0, none⟩) 2 2] 32 := Blk.at (w := W6.alloc (.cells #[.string p.id, .int .i64 (x0 + m), .int .i64 x1, .int .i64 x2, .string q.id, .int .i64 y0, .int .i64 y1, .int .i64 y2] 51)) (by simp)
        have hb2 : Below W6.heap.size W6 ((W6.alloc (.cells #[.string p.id, .int .i64 (x0 + m), .int .i64 x1, .int .i64 x2, .string q.id, .int .i64 y0, .int .i64 y1, .int .i64 y2] 51)).alloc (.cells #[.int .i64 0, .int .i64 0, .int .i64 0, .int .i64 0, .slice (some ⟨W6.heap.size, 0, none⟩) 2 2] 32)) := belAlloc (belAlloc (Below.refl _ _) _) _
        replace pp0 := keepOnP pp0 hb2
        replace pp1 := keepOnP pp1 hb2
        replace pp2 := keepOnP pp2 hb2
        replace pp3 := keepOnP pp3 hb2
        replace pp4 := keepOnP pp4 hb2
        replace pp5 := keepOnP pp5 hb2
        replace pp6 := keepOnP pp6 hb2
        replace pp7 := keepOnP pp7 hb2
        replace pp8 := keepOnP pp8 hb2
        replace pp9 := keepOnP pp9 hb2
        replace pp10 := keepOnP pp10 hb2
        replace qq0 := keepOnP qq0 hb2
        replace qq1 := keepOnP qq1 hb2
        replace qq2 := keepOnP qq2 hb2
        replace qq3 := keepOnP qq3 hb2
        replace qq4 := keepOnP qq4 hb2
        replace qq5 := keepOnP qq5 hb2
        replace qq6 := keepOnP qq6 hb2
        replace qq7 := keepOnP qq7 hb2
        replace qq8 := keepOnP qq8 hb2
        replace qq9 := keepOnP qq9 hb2
        replace qq10 := keepOnP qq10 hb2
        replace xx0 := keepOnP xx0 hb2
        replace xx1 := keepOnP xx1 hb2
        replace xx2 := keepOnP xx2 hb2
        replace xx3 := keepOnP xx3 hb2
        replace yy0 := keepOnP yy0 hb2
        replace yy1 := keepOnP yy1 hb2
        replace yy2 := keepOnP yy2 hb2
        replace yy3 := keepOnP yy3 hb2
        replace ppB := keepOnP ppB hb2
        replace ppF := keepOnP ppF hb2
        replace qqB := keepOnP qqB hb2
        replace qqF := keepOnP qqF hb2
        replace xxB := keepOnP xxB hb2
        replace xxF := keepOnP xxF hb2
        replace yyB := keepOnP yyB hb2
        replace yyF := keepOnP yyF hb2
        replace hw := belStep hw hb2
        clear hb2 hbel
        generalize (W6.alloc (.cells #[.string p.id, .int .i64 (x0 + m), .int .i64 x1, .int .i64 x2, .string q.id, .int .i64 y0, .int .i64 y1, .int .i64 y2] 51)).alloc (.cells #[.int .i64 0, .int .i64 0, .int .i64 0, .int .i64 0, .slice (some ⟨W6.heap.size, 0, none⟩) 2 2] 32) = W7 at *
        generalize W6.heap.size = M7 at *
        have usB := Blk.keepB Bus
        have spB := Blk.keepB Bsp
        have spF := Blk.keepF Bsp
        have sp0 := keep (Bsp.cell (j := 0) rfl)
        have sp1 := keep (Bsp.cell (j := 1) rfl)
        have sp2 := keep (Bsp.cell (j := 2) rfl)
        have sp3 := keep (Bsp.cell (j := 3) rfl)
        have sp4 := keep (Bsp.cell (j := 4) rfl)
        clear Bus Bsp
        have hbel : Below W7.heap.size W7 W7 := Below.refl _ _
        go_upto_region 15 with fail
        have hub := Blk.new W7 [.string q.id, .int .i64 y0, .int .i64 y1, .int .i64 y2, .string p.id, .int .i64 (x0 + m), .int .i64 x1, .int .i64 x2] 51
        have hsb := spB _ (belAlloc (Below.refl _ _) _ : Below W7.heap.size W7 (W7.alloc (.cells #[.string q.id, .int .i64 y0, .int .i64 y1, .int .i64 y2, .string p.id, .int .i64 (x0 + m), .int .i64 x1, .int .i64 x2] 51)))
        have hun := Blk.ne hsb hub (by simp)
        clear hsb
        have hub2 := (((((hub).far (a := ⟨M7 + 1, 0, none⟩) hun (.int .i64 0)).far (a := ⟨M7 + 1, 1, none⟩) hun (.int .i64 0)).far (a := ⟨M7 + 1, 2, none⟩) hun (.int .i64 0)).far (a := ⟨M7 + 1, 3, none⟩) hun (.int .i64 0)).far (a := ⟨M7 + 1, 4, none⟩) hun (.slice (some ⟨W7.heap.size, 0, none⟩) 2 2)
        clear hub hun
        have hob := spB _ ((by repeat (first | exact Below.refl _ _ | refine belAlloc ?_ _)) : Below W7.heap.size W7 (W7.alloc (.cells #[.string q.id, .int .i64 y0, .int .i64 y1, .int .i64 y2, .string p.id, .int .i64 (x0 + m), .int .i64 x1, .int .i64 x2] 51)))
        have hf_pp := ppB _ ((by repeat (first | exact Below.refl _ _ | refine belAlloc ?_ _)) : Below W7.heap.size W7 (W7.alloc (.cells #[.string q.id, .int .i64 y0, .int .i64 y1, .int .i64 y2, .string p.id, .int .i64 (x0 + m), .int .i64 x1, .int .i64 x2] 51)))
        have hn_pp := Blk.ne hob hf_pp (by simp)
        have hf_qq := qqB _ ((by repeat (first | exact Below.refl _ _ | refine belAlloc ?_ _)) : Below W7.heap.size W7 (W7.alloc (.cells #[.string q.id, .int .i64 y0, .int .i64 y1, .int .i64 y2, .string p.id, .int .i64 (x0 + m), .int .i64 x1, .int .i64 x2] 51)))
        have hn_qq := Blk.ne hob hf_qq (by simp)
        have hf_xx := xxB _ ((by repeat (first | exact Below.refl _ _ | refine belAlloc ?_ _)) : Below W7.heap.size W7 (W7.alloc (.cells #[.string q.id, .int .i64 y0, .int .i64 y1, .int .i64 y2, .string p.id, .int .i64 (x0 + m), .int .i64 x1, .int .i64 x2] 51)))
        have hn_xx := Blk.ne hob hf_xx (by simp)
        have hf_yy := yyB _ ((by repeat (first | exact Below.refl _ _ | refine belAlloc ?_ _)) : Below W7.heap.size W7 (W7.alloc (.cells #[.string q.id, .int .i64 y0, .int .i64 y1, .int .i64 y2, .string p.id, .int .i64 (x0 + m), .int .i64 x1, .int .i64 x2] 51)))
        have hn_yy := Blk.ne hob hf_yy (by simp)
        clear hbel
        have hg_pp := (((((hf_pp).far (a := ⟨M7 + 1, 0, none⟩) hn_pp (.int .i64 0)).far (a := ⟨M7 + 1, 1, none⟩) hn_pp (.int .i64 0)).far (a := ⟨M7 + 1, 2, none⟩) hn_pp (.int .i64 0)).far (a := ⟨M7 + 1, 3, none⟩) hn_pp (.int .i64 0)).far (a := ⟨M7 + 1, 4, none⟩) hn_pp (.slice (some ⟨W7.heap.size, 0, none⟩) 2 2)
        have hg_qq := (((((hf_qq).far (a := ⟨M7 + 1, 0, none⟩) hn_qq (.int .i64 0)).far (a := ⟨M7 + 1, 1, none⟩) hn_qq (.int .i64 0)).far (a := ⟨M7 + 1, 2, none⟩) hn_qq (.int .i64 0)).far (a := ⟨M7 + 1, 3, none⟩) hn_qq (.int .i64 0)).far (a := ⟨M7 + 1, 4, none⟩) hn_qq (.slice (some ⟨W7.heap.size, 0, none⟩) 2 2)
        have hg_xx := (((((hf_xx).far (a := ⟨M7 + 1, 0, none⟩) hn_xx (.int .i64 0)).far (a := ⟨M7 + 1, 1, none⟩) hn_xx (.int .i64 0)).far (a := ⟨M7 + 1, 2, none⟩) hn_xx (.int .i64 0)).far (a := ⟨M7 + 1, 3, none⟩) hn_xx (.int .i64 0)).far (a := ⟨M7 + 1, 4, none⟩) hn_xx (.slice (some ⟨W7.heap.size, 0, none⟩) 2 2)
        have hg_yy := (((((hf_yy).far (a := ⟨M7 + 1, 0, none⟩) hn_yy (.int .i64 0)).far (a := ⟨M7 + 1, 1, none⟩) hn_yy (.int .i64 0)).far (a := ⟨M7 + 1, 2, none⟩) hn_yy (.int .i64 0)).far (a := ⟨M7 + 1, 3, none⟩) hn_yy (.int .i64 0)).far (a := ⟨M7 + 1, 4, none⟩) hn_yy (.slice (some ⟨W7.heap.size, 0, none⟩) 2 2)
        have hog : Blk _ (M7 + 1) [.int .i64 0, .int .i64 0, .int .i64 0, .int .i64 0, .slice (some ⟨W7.heap.size, 0, none⟩) 2 2] 32 := (((((hob).set (0) (.int .i64 0)).set (1) (.int .i64 0)).set (2) (.int .i64 0)).set (3) (.int .i64 0)).set (4) (.slice (some ⟨W7.heap.size, 0, none⟩) 2 2)
        have hwn := belSet (belSet (belSet (belSet (belSet ((by repeat (first | exact hw | refine belAlloc ?_ _) : Below w.heap.size w (W7.alloc (.cells #[.string q.id, .int .i64 y0, .int .i64 y1, .int .i64 y2, .string p.id, .int .i64 (x0 + m), .int .i64 x1, .int .i64 x2] 51)))) ⟨M7 + 1, 0, none⟩ (.int .i64 0) (by show w.heap.size ≤ M7 + 1; omega)) ⟨M7 + 1, 1, none⟩ (.int .i64 0) (by show w.heap.size ≤ M7 + 1; omega)) ⟨M7 + 1, 2, none⟩ (.int .i64 0) (by show w.heap.size ≤ M7 + 1; omega)) ⟨M7 + 1, 3, none⟩ (.int .i64 0) (by show w.heap.size ≤ M7 + 1; omega)) ⟨M7 + 1, 4, none⟩ (.slice (some ⟨W7.heap.size, 0, none⟩) 2 2) (by show w.heap.size ≤ M7 + 1; omega)
        clear hw hob hf_pp hn_pp hf_qq hn_qq hf_xx hn_xx hf_yy hn_yy
        generalize (((((W7.alloc (.cells #[.string q.id, .int .i64 y0, .int .i64 y1, .int .i64 y2, .string p.id, .int .i64 (x0 + m), .int .i64 x1, .int .i64 x2] 51)).setCell ⟨M7 + 1, 0, none⟩ (.int .i64 0)).setCell ⟨M7 + 1, 1, none⟩ (.int .i64 0)).setCell ⟨M7 + 1, 2, none⟩ (.int .i64 0)).setCell ⟨M7 + 1, 3, none⟩ (.int .i64 0)).setCell ⟨M7 + 1, 4, none⟩ (.slice (some ⟨W7.heap.size, 0, none⟩) 2 2) = W8 at *
        have hw := hwn
        clear hwn
        clear ppB ppF pp0 pp1 pp2 pp3 pp4 pp5 pp6 pp7 pp8 pp9 pp10 qqB qqF qq0 qq1 qq2 qq3 qq4 qq5 qq6 qq7 qq8 qq9 qq10 xxB xxF xx0 xx1 xx2 xx3 yyB yyF yy0 yy1 yy2 yy3 sp0 sp1 sp2 sp3 sp4 spB spF
        have ppB := Blk.keepB hg_pp
        have ppF := Blk.keepF hg_pp
        have pp0 := keep (hg_pp.cell (j := 0) rfl)
        have pp1 := keep (hg_pp.cell (j := 1) rfl)
        have pp2 := keep (hg_pp.cell (j := 2) rfl)
        have pp3 := keep (hg_pp.cell (j := 3) rfl)
        have pp4 := keep (hg_pp.cell (j := 4) rfl)
        have pp5 := keep (hg_pp.cell (j := 5) rfl)
        have pp6 := keep (hg_pp.cell (j := 6) rfl)
        have pp7 := keep (hg_pp.cell (j := 7) rfl)
        have pp8 := keep (hg_pp.cell (j := 8) rfl)
        have pp9 := keep (hg_pp.cell (j := 9) rfl)
        have pp10 := keep (hg_pp.cell (j := 10) rfl)
        have qqB := Blk.keepB hg_qq
        have qqF := Blk.keepF hg_qq
        have qq0 := keep (hg_qq.cell (j := 0) rfl)
        have qq1 := keep (hg_qq.cell (j := 1) rfl)
        have qq2 := keep (hg_qq.cell (j := 2) rfl)
        have qq3 := keep (hg_qq.cell (j := 3) rfl)
        have qq4 := keep (hg_qq.cell (j := 4) rfl)
        have qq5 := keep (hg_qq.cell (j := 5) rfl)
        have qq6 := keep (hg_qq.cell (j := 6) rfl)
        have qq7 := keep (hg_qq.cell (j := 7) rfl)
        have qq8 := keep (hg_qq.cell (j := 8) rfl)
        have qq9 := keep (hg_qq.cell (j := 9) rfl)
        have qq10 := keep (hg_qq.cell (j := 10) rfl)
        have xxB := Blk.keepB hg_xx
        have xxF := Blk.keepF hg_xx
        have xx0 := keep (hg_xx.cell (j := 0) rfl)
        have xx1 := keep (hg_xx.cell (j := 1) rfl)
        have xx2 := keep (hg_xx.cell (j := 2) rfl)
        have xx3 := keep (hg_xx.cell (j := 3) rfl)
        have yyB := Blk.keepB hg_yy
        have yyF := Blk.keepF hg_yy
        have yy0 := keep (hg_yy.cell (j := 0) rfl)
        have yy1 := keep (hg_yy.cell (j := 1) rfl)
        have yy2 := keep (hg_yy.cell (j := 2) rfl)
        have yy3 := keep (hg_yy.cell (j := 3) rfl)
        have spB := Blk.keepB hog
        have spF := Blk.keepF hog
        have sp0 := keep (hog.cell (j := 0) rfl)
        have sp1 := keep (hog.cell (j := 1) rfl)
        have sp2 := keep (hog.cell (j := 2) rfl)
        have sp3 := keep (hog.cell (j := 3) rfl)
        have sp4 := keep (hog.cell (j := 4) rfl)
        clear hog hg_pp hg_qq hg_xx hg_yy
        have hbel : Below W8.heap.size W8 W8 := Below.refl _ _
        generalize W7.heap.size = M8 at *
        clear usB
        have usB := Blk.keepB hub2
        clear hub2
        have hUO : ∀ u ∈ ([⟨q.id, y0, y1, y2⟩, ⟨p.id, x0 + m, x1, x2⟩] : List UseV), UseOK u := by
          intro u hu
          simp only [List.mem_cons, List.not_mem_nil, or_false] at hu
          rcases hu with rfl | rfl <;> exact use_ok3 (by omega) (by omega) (by omega) (by omega) (by omega) (by omega)
        have A3 := Lib.hid (show ∀ u : World, Below W8.heap.size W8 u → Calls Try.prog 41 #[.int .i64 0, .agg #[.string p.id, .int .i64 p.prio, .bool p.crit, .int .i64 p.r0, .int .i64 p.r1, .int .i64 p.r2, .int .i64 p.l0, .int .i64 p.l1, .int .i64 p.l2, .string p.img, .int .i64 p.size], .agg #[.string q.id, .int .i64 q.prio, .bool q.crit, .int .i64 q.r0, .int .i64 q.r1, .int .i64 q.r2, .int .i64 q.l0, .int .i64 q.l1, .int .i64 q.l2, .string q.img, .int .i64 q.size], .agg #[.int .i64 0, .int .i64 0, .int .i64 0, .int .i64 0, .slice (some ⟨M8, 0, none⟩) 2 2]] u fun e w' => e = .returned (.bool true) ∧ Below u.heap.size u w' from fun u hu => by have h := rk_Ahead 0 0 p q 0 0 0 0 (some ⟨M8, 0, none⟩) 2 2 [⟨q.id, y0, y1, y2⟩, ⟨p.id, x0 + m, x1, x2⟩] u (by omega) rfl HP.out HR0.out HQ.out HR1.out hUO rfl (row_of_blkN (n := 2) (k := 4) (usB u hu) rfl (by unfold maxLen; omega)); rw [hA3] at h; exact h)
        clear hA3 hUO
        go_wp2_with (go_at_call 41; (with_reducible refine (A3.out _ hbel).mono ?_); rintro e w1 ⟨rfl, hb1⟩; replace hbel := belStep hbel hb1; clear hb1)
        go_ret
        exact ⟨rfl, belStep hw hbel⟩
    · with_reducible rw [show ((1 : Nat) : Int) = 1 from rfl]
      have hof := ofF_two q.id p.id ⟨q.id, y0, y1, y2⟩ ⟨p.id, x0, x1, x2⟩ rfl rfl (fun e => HNE.out e.symm)
      have hX1 : exF 1 p [⟨q.id, y0, y1, y2⟩, ⟨p.id, x0, x1, x2⟩] = x1 - askF 1 p := by unfold exF; rw [hof.2]; rfl
      have hY1 : exF 1 q [⟨q.id, y0, y1, y2⟩, ⟨p.id, x0, x1, x2⟩] = y1 - askF 1 q := by unfold exF; rw [hof.1]; rfl
      clear hof
      have hof := ofF_two q.id p.id ⟨q.id, y0, y1, y2⟩ ⟨p.id, x0, x1 + m, x2⟩ rfl rfl (fun e => HNE.out e.symm)
      have hX2 : exF 1 p [⟨q.id, y0, y1, y2⟩, ⟨p.id, x0, x1 + m, x2⟩] = x1 + m - askF 1 p := by unfold exF; rw [hof.2]; rfl
      have hY2 : exF 1 q [⟨q.id, y0, y1, y2⟩, ⟨p.id, x0, x1 + m, x2⟩] = y1 - askF 1 q := by unfold exF; rw [hof.1]; rfl
      clear hof
      have HMO := Lib.hid (fun h => ahead_more hX1 hY1 hX2 hY2 (by omega) h)
      clear hX1 hY1 hX2 hY2
      have hTU := @ahead_turn 1 p q [⟨q.id, y0, y1, y2⟩, ⟨p.id, x0, x1, x2⟩] HNE.out
      obtain ⟨x, hA1⟩ : ∃ x, aheadB 1 p q [⟨q.id, y0, y1, y2⟩, ⟨p.id, x0, x1, x2⟩] = x := ⟨_, rfl⟩
      have hA2 := hTU
      rw [hA1] at hA2 HMO
      clear hTU
      have hUO : ∀ u ∈ ([⟨q.id, y0, y1, y2⟩, ⟨p.id, x0, x1, x2⟩] : List UseV), UseOK u := by
        intro u hu
        simp only [List.mem_cons, List.not_mem_nil, or_false] at hu
        rcases hu with rfl | rfl <;> exact use_ok3 (by omega) (by omega) (by omega) (by omega) (by omega) (by omega)
      have A1 := Lib.hid (show ∀ u : World, Below W4.heap.size W4 u → Calls Try.prog 41 #[.int .i64 1, .agg #[.string p.id, .int .i64 p.prio, .bool p.crit, .int .i64 p.r0, .int .i64 p.r1, .int .i64 p.r2, .int .i64 p.l0, .int .i64 p.l1, .int .i64 p.l2, .string p.img, .int .i64 p.size], .agg #[.string q.id, .int .i64 q.prio, .bool q.crit, .int .i64 q.r0, .int .i64 q.r1, .int .i64 q.r2, .int .i64 q.l0, .int .i64 q.l1, .int .i64 q.l2, .string q.img, .int .i64 q.size], .agg #[.int .i64 0, .int .i64 0, .int .i64 0, .int .i64 0, .slice (some ⟨M3, 0, none⟩) 2 2]] u fun e w' => e = .returned (.bool x) ∧ Below u.heap.size u w' from fun u hu => by have h := rk_Ahead 1 1 p q 0 0 0 0 (some ⟨M3, 0, none⟩) 2 2 [⟨q.id, y0, y1, y2⟩, ⟨p.id, x0, x1, x2⟩] u (by omega) rfl HP.out HR0.out HQ.out HR1.out hUO rfl (row_of_blkN (n := 2) (k := 4) (usB u hu) rfl (by unfold maxLen; omega)); rw [hA1] at h; exact h)
      have A2 := Lib.hid (show ∀ u : World, Below W4.heap.size W4 u → Calls Try.prog 41 #[.int .i64 1, .agg #[.string q.id, .int .i64 q.prio, .bool q.crit, .int .i64 q.r0, .int .i64 q.r1, .int .i64 q.r2, .int .i64 q.l0, .int .i64 q.l1, .int .i64 q.l2, .string q.img, .int .i64 q.size], .agg #[.string p.id, .int .i64 p.prio, .bool p.crit, .int .i64 p.r0, .int .i64 p.r1, .int .i64 p.r2, .int .i64 p.l0, .int .i64 p.l1, .int .i64 p.l2, .string p.img, .int .i64 p.size], .agg #[.int .i64 0, .int .i64 0, .int .i64 0, .int .i64 0, .slice (some ⟨M3, 0, none⟩) 2 2]] u fun e w' => e = .returned (.bool !x) ∧ Below u.heap.size u w' from fun u hu => by have h := rk_Ahead 1 1 q p 0 0 0 0 (some ⟨M3, 0, none⟩) 2 2 [⟨q.id, y0, y1, y2⟩, ⟨p.id, x0, x1, x2⟩] u (by omega) rfl HQ.out HR1.out HP.out HR0.out hUO rfl (row_of_blkN (n := 2) (k := 4) (usB u hu) rfl (by unfold maxLen; omega)); rw [hA2] at h; exact h)
      clear hA1 hA2 hUO
      rcases x with _ | _
      · go_wp2_with (first | (go_at_call 41; (with_reducible refine (A1.out _ hbel).mono ?_); rintro e w1 ⟨rfl, hb1⟩; replace hbel := belStep hbel hb1; clear hb1) | (go_at_call 41; (with_reducible refine (A2.out _ hbel).mono ?_); rintro e w1 ⟨rfl, hb1⟩; replace hbel := belStep hbel hb1; clear hb1))
        go_ret
        exact ⟨rfl, belStep hw hbel⟩
      · go_upto_region 11 with (go_at_call 41; (with_reducible refine (A1.out _ hbel).mono ?_); rintro e w1 ⟨rfl, hb1⟩; replace hbel := belStep hbel hb1; clear hb1)
        have hA3 := HMO.out (by trivial)
        clear A1 A2 HMO usB sp0 sp1 sp2 sp3 sp4 spB spF
        replace pp0 := keepOnP pp0 hbel
        replace pp1 := keepOnP pp1 hbel
        replace pp2 := keepOnP pp2 hbel
        replace pp3 := keepOnP pp3 hbel
        replace pp4 := keepOnP pp4 hbel
        replace pp5 := keepOnP pp5 hbel
        replace pp6 := keepOnP pp6 hbel
        replace pp7 := keepOnP pp7 hbel
        replace pp8 := keepOnP pp8 hbel
        replace pp9 := keepOnP pp9 hbel
        replace pp10 := keepOnP pp10 hbel
        replace qq0 := keepOnP qq0 hbel
        replace qq1 := keepOnP qq1 hbel
        replace qq2 := keepOnP qq2 hbel
        replace qq3 := keepOnP qq3 hbel
        replace qq4 := keepOnP qq4 hbel
        replace qq5 := keepOnP qq5 hbel
        replace qq6 := keepOnP qq6 hbel
        replace qq7 := keepOnP qq7 hbel
        replace qq8 := keepOnP qq8 hbel
        replace qq9 := keepOnP qq9 hbel
        replace qq10 := keepOnP qq10 hbel
        replace xx0 := keepOnP xx0 hbel
        replace xx1 := keepOnP xx1 hbel
        replace xx2 := keepOnP xx2 hbel
        replace xx3 := keepOnP xx3 hbel
        replace yy0 := keepOnP yy0 hbel
        replace yy1 := keepOnP yy1 hbel
        replace yy2 := keepOnP yy2 hbel
        replace yy3 := keepOnP yy3 hbel
        replace ppB := keepOnP ppB hbel
        replace ppF := keepOnP ppF hbel
        replace qqB := keepOnP qqB hbel
        replace qqF := keepOnP qqF hbel
        replace xxB := keepOnP xxB hbel
        replace xxF := keepOnP xxF hbel
        replace yyB := keepOnP yyB hbel
        replace yyF := keepOnP yyF hbel
        replace hw := belStep hw hbel
        clear hbel
        generalize w1 = V5 at *
        have hbel : Below V5.heap.size V5 V5 := Below.refl _ _
        go_upto_region 12 with fail
        have hob := xxB _ ((by repeat (first | exact Below.refl _ _ | refine belAlloc ?_ _)) : Below V5.heap.size V5 (V5))
        have hf_pp := ppB _ ((by repeat (first | exact Below.refl _ _ | refine belAlloc ?_ _)) : Below V5.heap.size V5 (V5))
        have hn_pp := Blk.ne hob hf_pp (by simp)
        have hf_qq := qqB _ ((by repeat (first | exact Below.refl _ _ | refine belAlloc ?_ _)) : Below V5.heap.size V5 (V5))
        have hn_qq := Blk.ne hob hf_qq (by simp)
        have hf_yy := yyB _ ((by repeat (first | exact Below.refl _ _ | refine belAlloc ?_ _)) : Below V5.heap.size V5 (V5))
        have hn_yy : M1 ≠ M1 + 1 := by omega
        clear hbel
        have hg_pp := (hf_pp).far (a := ⟨M1, 2, none⟩) hn_pp (.int .i64 (x1 + m))
        have hg_qq := (hf_qq).far (a := ⟨M1, 2, none⟩) hn_qq (.int .i64 (x1 + m))
        have hg_yy := (hf_yy).far (a := ⟨M1, 2, none⟩) hn_yy (.int .i64 (x1 + m))
        have hog : Blk _ (M1) [.string p.id, .int .i64 x0, .int .i64 (x1 + m), .int .i64 x2] 51 := (hob).set (2) (.int .i64 (x1 + m))
        have hwn := belSet ((by repeat (first | exact hw | refine belAlloc ?_ _) : Below w.heap.size w (V5))) ⟨M1, 2, none⟩ (.int .i64 (x1 + m)) (by show w.heap.size ≤ M1; omega)
        clear hw hob hf_pp hn_pp hf_qq hn_qq hf_yy hn_yy
        generalize V5.setCell ⟨M1, 2, none⟩ (.int .i64 (x1 + m)) = W6 at *
        have hw := hwn
        clear hwn
        clear ppB ppF pp0 pp1 pp2 pp3 pp4 pp5 pp6 pp7 pp8 pp9 pp10 qqB qqF qq0 qq1 qq2 qq3 qq4 qq5 qq6 qq7 qq8 qq9 qq10 xxB xxF xx0 xx1 xx2 xx3 yyB yyF yy0 yy1 yy2 yy3
        have ppB := Blk.keepB hg_pp
        have ppF := Blk.keepF hg_pp
        have pp0 := keep (hg_pp.cell (j := 0) rfl)
        have pp1 := keep (hg_pp.cell (j := 1) rfl)
        have pp2 := keep (hg_pp.cell (j := 2) rfl)
        have pp3 := keep (hg_pp.cell (j := 3) rfl)
        have pp4 := keep (hg_pp.cell (j := 4) rfl)
        have pp5 := keep (hg_pp.cell (j := 5) rfl)
        have pp6 := keep (hg_pp.cell (j := 6) rfl)
        have pp7 := keep (hg_pp.cell (j := 7) rfl)
        have pp8 := keep (hg_pp.cell (j := 8) rfl)
        have pp9 := keep (hg_pp.cell (j := 9) rfl)
        have pp10 := keep (hg_pp.cell (j := 10) rfl)
        have qqB := Blk.keepB hg_qq
        have qqF := Blk.keepF hg_qq
        have qq0 := keep (hg_qq.cell (j := 0) rfl)
        have qq1 := keep (hg_qq.cell (j := 1) rfl)
        have qq2 := keep (hg_qq.cell (j := 2) rfl)
        have qq3 := keep (hg_qq.cell (j := 3) rfl)
        have qq4 := keep (hg_qq.cell (j := 4) rfl)
        have qq5 := keep (hg_qq.cell (j := 5) rfl)
        have qq6 := keep (hg_qq.cell (j := 6) rfl)
        have qq7 := keep (hg_qq.cell (j := 7) rfl)
        have qq8 := keep (hg_qq.cell (j := 8) rfl)
        have qq9 := keep (hg_qq.cell (j := 9) rfl)
        have qq10 := keep (hg_qq.cell (j := 10) rfl)
        have yyB := Blk.keepB hg_yy
        have yyF := Blk.keepF hg_yy
        have yy0 := keep (hg_yy.cell (j := 0) rfl)
        have yy1 := keep (hg_yy.cell (j := 1) rfl)
        have yy2 := keep (hg_yy.cell (j := 2) rfl)
        have yy3 := keep (hg_yy.cell (j := 3) rfl)
        have xxB := Blk.keepB hog
        have xxF := Blk.keepF hog
        have xx0 := keep (hog.cell (j := 0) rfl)
        have xx1 := keep (hog.cell (j := 1) rfl)
        have xx2 := keep (hog.cell (j := 2) rfl)
        have xx3 := keep (hog.cell (j := 3) rfl)
        clear hog hg_pp hg_qq hg_yy
        have hbel : Below W6.heap.size W6 W6 := Below.refl _ _
        have hzw7 := hw.size
        go_upto_region 13 with fail
        have Bus : Blk ((W6.alloc (.cells #[.string p.id, .int .i64 x0, .int .i64 (x1 + m), .int .i64 x2, .string q.id, .int .i64 y0, .int .i64 y1, .int .i64 y2] 51)).alloc (.cells #[.int .i64 0, .int .i64 0, .int .i64 0, .int .i64 0, .slice (some ⟨W6.heap.size, 0, none⟩) 2 2] 32)) W6.heap.size [.string p.id, .int .i64 x0, .int .i64 (x1 + m), .int .i64 x2, .string q.id, .int .i64 y0, .int .i64 y1, .int .i64 y2] 51 := (Blk.new W6 [.string p.id, .int .i64 x0, .int .i64 (x1 + m), .int .i64 x2, .string q.id, .int .i64 y0, .int .i64 y1, .int .i64 y2] 51).later (belAlloc (Below.refl _ _) _)
        have Bsp : Blk ((W6.alloc (.cells #[.string p.id, .int .i64 x0, .int .i64 (x1 + m), .int .i64 x2, .string q.id, .int .i64 y0, .int .i64 y1, .int .i64 y2] 51)).alloc (.cells #[.int .i64 0, .int .i64 0, .int .i64 0, .int .i64 0, .slice (some ⟨W6.heap.size, 0, none⟩) 2 2] 32)) (W6.heap.size + 1) [.int .i64 0, .int .i64 0, .int .i64 0, .int .i64 0, .slice (some ⟨W6.heap.size, 0, none⟩) 2 2] 32 := Blk.at (w := W6.alloc (.cells #[.string p.id, .int .i64 x0, .int .i64 (x1 + m), .int .i64 x2, .string q.id, .int .i64 y0, .int .i64 y1, .int .i64 y2] 51)) (by simp)
        have hb2 : Below W6.heap.size W6 ((W6.alloc (.cells #[.string p.id, .int .i64 x0, .int .i64 (x1 + m), .int .i64 x2, .string q.id, .int .i64 y0, .int .i64 y1, .int .i64 y2] 51)).alloc (.cells #[.int .i64 0, .int .i64 0, .int .i64 0, .int .i64 0, .slice (some ⟨W6.heap.size, 0, none⟩) 2 2] 32)) := belAlloc (belAlloc (Below.refl _ _) _) _
        replace pp0 := keepOnP pp0 hb2
        replace pp1 := keepOnP pp1 hb2
        replace pp2 := keepOnP pp2 hb2
        replace pp3 := keepOnP pp3 hb2
        replace pp4 := keepOnP pp4 hb2
        replace pp5 := keepOnP pp5 hb2
        replace pp6 := keepOnP pp6 hb2
        replace pp7 := keepOnP pp7 hb2
        replace pp8 := keepOnP pp8 hb2
        replace pp9 := keepOnP pp9 hb2
        replace pp10 := keepOnP pp10 hb2
        replace qq0 := keepOnP qq0 hb2
        replace qq1 := keepOnP qq1 hb2
        replace qq2 := keepOnP qq2 hb2
        replace qq3 := keepOnP qq3 hb2
        replace qq4 := keepOnP qq4 hb2
        replace qq5 := keepOnP qq5 hb2
        replace qq6 := keepOnP qq6 hb2
        replace qq7 := keepOnP qq7 hb2
        replace qq8 := keepOnP qq8 hb2
        replace qq9 := keepOnP qq9 hb2
        replace qq10 := keepOnP qq10 hb2
        replace xx0 := keepOnP xx0 hb2
        replace xx1 := keepOnP xx1 hb2
        replace xx2 := keepOnP xx2 hb2
        replace xx3 := keepOnP xx3 hb2
        replace yy0 := keepOnP yy0 hb2
        replace yy1 := keepOnP yy1 hb2
        replace yy2 := keepOnP yy2 hb2
        replace yy3 := keepOnP yy3 hb2
        replace ppB := keepOnP ppB hb2
        replace ppF := keepOnP ppF hb2
        replace qqB := keepOnP qqB hb2
        replace qqF := keepOnP qqF hb2
        replace xxB := keepOnP xxB hb2
        replace xxF := keepOnP xxF hb2
        replace yyB := keepOnP yyB hb2
        replace yyF := keepOnP yyF hb2
        replace hw := belStep hw hb2
        clear hb2 hbel
        generalize (W6.alloc (.cells #[.string p.id, .int .i64 x0, .int .i64 (x1 + m), .int .i64 x2, .string q.id, .int .i64 y0, .int .i64 y1, .int .i64 y2] 51)).alloc (.cells #[.int .i64 0, .int .i64 0, .int .i64 0, .int .i64 0, .slice (some ⟨W6.heap.size, 0, none⟩) 2 2] 32) = W7 at *
        generalize W6.heap.size = M7 at *
        have usB := Blk.keepB Bus
        have spB := Blk.keepB Bsp
        have spF := Blk.keepF Bsp
        have sp0 := keep (Bsp.cell (j := 0) rfl)
        have sp1 := keep (Bsp.cell (j := 1) rfl)
        have sp2 := keep (Bsp.cell (j := 2) rfl)
        have sp3 := keep (Bsp.cell (j := 3) rfl)
        have sp4 := keep (Bsp.cell (j := 4) rfl)
        clear Bus Bsp
        have hbel : Below W7.heap.size W7 W7 := Below.refl _ _
        go_upto_region 15 with fail
        have hub := Blk.new W7 [.string q.id, .int .i64 y0, .int .i64 y1, .int .i64 y2, .string p.id, .int .i64 x0, .int .i64 (x1 + m), .int .i64 x2] 51
        have hsb := spB _ (belAlloc (Below.refl _ _) _ : Below W7.heap.size W7 (W7.alloc (.cells #[.string q.id, .int .i64 y0, .int .i64 y1, .int .i64 y2, .string p.id, .int .i64 x0, .int .i64 (x1 + m), .int .i64 x2] 51)))
        have hun := Blk.ne hsb hub (by simp)
        clear hsb
        have hub2 := (((((hub).far (a := ⟨M7 + 1, 0, none⟩) hun (.int .i64 0)).far (a := ⟨M7 + 1, 1, none⟩) hun (.int .i64 0)).far (a := ⟨M7 + 1, 2, none⟩) hun (.int .i64 0)).far (a := ⟨M7 + 1, 3, none⟩) hun (.int .i64 0)).far (a := ⟨M7 + 1, 4, none⟩) hun (.slice (some ⟨W7.heap.size, 0, none⟩) 2 2)
        clear hub hun
        have hob := spB _ ((by repeat (first | exact Below.refl _ _ | refine belAlloc ?_ _)) : Below W7.heap.size W7 (W7.alloc (.cells #[.string q.id, .int .i64 y0, .int .i64 y1, .int .i64 y2, .string p.id, .int .i64 x0, .int .i64 (x1 + m), .int .i64 x2] 51)))
        have hf_pp := ppB _ ((by repeat (first | exact Below.refl _ _ | refine belAlloc ?_ _)) : Below W7.heap.size W7 (W7.alloc (.cells #[.string q.id, .int .i64 y0, .int .i64 y1, .int .i64 y2, .string p.id, .int .i64 x0, .int .i64 (x1 + m), .int .i64 x2] 51)))
        have hn_pp := Blk.ne hob hf_pp (by simp)
        have hf_qq := qqB _ ((by repeat (first | exact Below.refl _ _ | refine belAlloc ?_ _)) : Below W7.heap.size W7 (W7.alloc (.cells #[.string q.id, .int .i64 y0, .int .i64 y1, .int .i64 y2, .string p.id, .int .i64 x0, .int .i64 (x1 + m), .int .i64 x2] 51)))
        have hn_qq := Blk.ne hob hf_qq (by simp)
        have hf_xx := xxB _ ((by repeat (first | exact Below.refl _ _ | refine belAlloc ?_ _)) : Below W7.heap.size W7 (W7.alloc (.cells #[.string q.id, .int .i64 y0, .int .i64 y1, .int .i64 y2, .string p.id, .int .i64 x0, .int .i64 (x1 + m), .int .i64 x2] 51)))
        have hn_xx := Blk.ne hob hf_xx (by simp)
        have hf_yy := yyB _ ((by repeat (first | exact Below.refl _ _ | refine belAlloc ?_ _)) : Below W7.heap.size W7 (W7.alloc (.cells #[.string q.id, .int .i64 y0, .int .i64 y1, .int .i64 y2, .string p.id, .int .i64 x0, .int .i64 (x1 + m), .int .i64 x2] 51)))
        have hn_yy := Blk.ne hob hf_yy (by simp)
        clear hbel
        have hg_pp := (((((hf_pp).far (a := ⟨M7 + 1, 0, none⟩) hn_pp (.int .i64 0)).far (a := ⟨M7 + 1, 1, none⟩) hn_pp (.int .i64 0)).far (a := ⟨M7 + 1, 2, none⟩) hn_pp (.int .i64 0)).far (a := ⟨M7 + 1, 3, none⟩) hn_pp (.int .i64 0)).far (a := ⟨M7 + 1, 4, none⟩) hn_pp (.slice (some ⟨W7.heap.size, 0, none⟩) 2 2)
        have hg_qq := (((((hf_qq).far (a := ⟨M7 + 1, 0, none⟩) hn_qq (.int .i64 0)).far (a := ⟨M7 + 1, 1, none⟩) hn_qq (.int .i64 0)).far (a := ⟨M7 + 1, 2, none⟩) hn_qq (.int .i64 0)).far (a := ⟨M7 + 1, 3, none⟩) hn_qq (.int .i64 0)).far (a := ⟨M7 + 1, 4, none⟩) hn_qq (.slice (some ⟨W7.heap.size, 0, none⟩) 2 2)
        have hg_xx := (((((hf_xx).far (a := ⟨M7 + 1, 0, none⟩) hn_xx (.int .i64 0)).far (a := ⟨M7 + 1, 1, none⟩) hn_xx (.int .i64 0)).far (a := ⟨M7 + 1, 2, none⟩) hn_xx (.int .i64 0)).far (a := ⟨M7 + 1, 3, none⟩) hn_xx (.int .i64 0)).far (a := ⟨M7 + 1, 4, none⟩) hn_xx (.slice (some ⟨W7.heap.size, 0, none⟩) 2 2)
        have hg_yy := (((((hf_yy).far (a := ⟨M7 + 1, 0, none⟩) hn_yy (.int .i64 0)).far (a := ⟨M7 + 1, 1, none⟩) hn_yy (.int .i64 0)).far (a := ⟨M7 + 1, 2, none⟩) hn_yy (.int .i64 0)).far (a := ⟨M7 + 1, 3, none⟩) hn_yy (.int .i64 0)).far (a := ⟨M7 + 1, 4, none⟩) hn_yy (.slice (some ⟨W7.heap.size, 0, none⟩) 2 2)
        have hog : Blk _ (M7 + 1) [.int .i64 0, .int .i64 0, .int .i64 0, .int .i64 0, .slice (some ⟨W7.heap.size, 0, none⟩) 2 2] 32 := (((((hob).set (0) (.int .i64 0)).set (1) (.int .i64 0)).set (2) (.int .i64 0)).set (3) (.int .i64 0)).set (4) (.slice (some ⟨W7.heap.size, 0, none⟩) 2 2)
        have hwn := belSet (belSet (belSet (belSet (belSet ((by repeat (first | exact hw | refine belAlloc ?_ _) : Below w.heap.size w (W7.alloc (.cells #[.string q.id, .int .i64 y0, .int .i64 y1, .int .i64 y2, .string p.id, .int .i64 x0, .int .i64 (x1 + m), .int .i64 x2] 51)))) ⟨M7 + 1, 0, none⟩ (.int .i64 0) (by show w.heap.size ≤ M7 + 1; omega)) ⟨M7 + 1, 1, none⟩ (.int .i64 0) (by show w.heap.size ≤ M7 + 1; omega)) ⟨M7 + 1, 2, none⟩ (.int .i64 0) (by show w.heap.size ≤ M7 + 1; omega)) ⟨M7 + 1, 3, none⟩ (.int .i64 0) (by show w.heap.size ≤ M7 + 1; omega)) ⟨M7 + 1, 4, none⟩ (.slice (some ⟨W7.heap.size, 0, none⟩) 2 2) (by show w.heap.size ≤ M7 + 1; omega)
        clear hw hob hf_pp hn_pp hf_qq hn_qq hf_xx hn_xx hf_yy hn_yy
        generalize (((((W7.alloc (.cells #[.string q.id, .int .i64 y0, .int .i64 y1, .int .i64 y2, .string p.id, .int .i64 x0, .int .i64 (x1 + m), .int .i64 x2] 51)).setCell ⟨M7 + 1, 0, none⟩ (.int .i64 0)).setCell ⟨M7 + 1, 1, none⟩ (.int .i64 0)).setCell ⟨M7 + 1, 2, none⟩ (.int .i64 0)).setCell ⟨M7 + 1, 3, none⟩ (.int .i64 0)).setCell ⟨M7 + 1, 4, none⟩ (.slice (some ⟨W7.heap.size, 0, none⟩) 2 2) = W8 at *
        have hw := hwn
        clear hwn
        clear ppB ppF pp0 pp1 pp2 pp3 pp4 pp5 pp6 pp7 pp8 pp9 pp10 qqB qqF qq0 qq1 qq2 qq3 qq4 qq5 qq6 qq7 qq8 qq9 qq10 xxB xxF xx0 xx1 xx2 xx3 yyB yyF yy0 yy1 yy2 yy3 sp0 sp1 sp2 sp3 sp4 spB spF
        have ppB := Blk.keepB hg_pp
        have ppF := Blk.keepF hg_pp
        have pp0 := keep (hg_pp.cell (j := 0) rfl)
        have pp1 := keep (hg_pp.cell (j := 1) rfl)
        have pp2 := keep (hg_pp.cell (j := 2) rfl)
        have pp3 := keep (hg_pp.cell (j := 3) rfl)
        have pp4 := keep (hg_pp.cell (j := 4) rfl)
        have pp5 := keep (hg_pp.cell (j := 5) rfl)
        have pp6 := keep (hg_pp.cell (j := 6) rfl)
        have pp7 := keep (hg_pp.cell (j := 7) rfl)
        have pp8 := keep (hg_pp.cell (j := 8) rfl)
        have pp9 := keep (hg_pp.cell (j := 9) rfl)
        have pp10 := keep (hg_pp.cell (j := 10) rfl)
        have qqB := Blk.keepB hg_qq
        have qqF := Blk.keepF hg_qq
        have qq0 := keep (hg_qq.cell (j := 0) rfl)
        have qq1 := keep (hg_qq.cell (j := 1) rfl)
        have qq2 := keep (hg_qq.cell (j := 2) rfl)
        have qq3 := keep (hg_qq.cell (j := 3) rfl)
        have qq4 := keep (hg_qq.cell (j := 4) rfl)
        have qq5 := keep (hg_qq.cell (j := 5) rfl)
        have qq6 := keep (hg_qq.cell (j := 6) rfl)
        have qq7 := keep (hg_qq.cell (j := 7) rfl)
        have qq8 := keep (hg_qq.cell (j := 8) rfl)
        have qq9 := keep (hg_qq.cell (j := 9) rfl)
        have qq10 := keep (hg_qq.cell (j := 10) rfl)
        have xxB := Blk.keepB hg_xx
        have xxF := Blk.keepF hg_xx
        have xx0 := keep (hg_xx.cell (j := 0) rfl)
        have xx1 := keep (hg_xx.cell (j := 1) rfl)
        have xx2 := keep (hg_xx.cell (j := 2) rfl)
        have xx3 := keep (hg_xx.cell (j := 3) rfl)
        have yyB := Blk.keepB hg_yy
        have yyF := Blk.keepF hg_yy
        have yy0 := keep (hg_yy.cell (j := 0) rfl)
        have yy1 := keep (hg_yy.cell (j := 1) rfl)
        have yy2 := keep (hg_yy.cell (j := 2) rfl)
        have yy3 := keep (hg_yy.cell (j := 3) rfl)
        have spB := Blk.keepB hog
        have spF := Blk.keepF hog
        have sp0 := keep (hog.cell (j := 0) rfl)
        have sp1 := keep (hog.cell (j := 1) rfl)
        have sp2 := keep (hog.cell (j := 2) rfl)
        have sp3 := keep (hog.cell (j := 3) rfl)
        have sp4 := keep (hog.cell (j := 4) rfl)
        clear hog hg_pp hg_qq hg_xx hg_yy
        have hbel : Below W8.heap.size W8 W8 := Below.refl _ _
        generalize W7.heap.size = M8 at *
        clear usB
        have usB := Blk.keepB hub2
        clear hub2
        have hUO : ∀ u ∈ ([⟨q.id, y0, y1, y2⟩, ⟨p.id, x0, x1 + m, x2⟩] : List UseV), UseOK u := by
          intro u hu
          simp only [List.mem_cons, List.not_mem_nil, or_false] at hu
          rcases hu with rfl | rfl <;> exact use_ok3 (by omega) (by omega) (by omega) (by omega) (by omega) (by omega)
        have A3 := Lib.hid (show ∀ u : World, Below W8.heap.size W8 u → Calls Try.prog 41 #[.int .i64 1, .agg #[.string p.id, .int .i64 p.prio, .bool p.crit, .int .i64 p.r0, .int .i64 p.r1, .int .i64 p.r2, .int .i64 p.l0, .int .i64 p.l1, .int .i64 p.l2, .string p.img, .int .i64 p.size], .agg #[.string q.id, .int .i64 q.prio, .bool q.crit, .int .i64 q.r0, .int .i64 q.r1, .int .i64 q.r2, .int .i64 q.l0, .int .i64 q.l1, .int .i64 q.l2, .string q.img, .int .i64 q.size], .agg #[.int .i64 0, .int .i64 0, .int .i64 0, .int .i64 0, .slice (some ⟨M8, 0, none⟩) 2 2]] u fun e w' => e = .returned (.bool true) ∧ Below u.heap.size u w' from fun u hu => by have h := rk_Ahead 1 1 p q 0 0 0 0 (some ⟨M8, 0, none⟩) 2 2 [⟨q.id, y0, y1, y2⟩, ⟨p.id, x0, x1 + m, x2⟩] u (by omega) rfl HP.out HR0.out HQ.out HR1.out hUO rfl (row_of_blkN (n := 2) (k := 4) (usB u hu) rfl (by unfold maxLen; omega)); rw [hA3] at h; exact h)
        clear hA3 hUO
        go_wp2_with (go_at_call 41; (with_reducible refine (A3.out _ hbel).mono ?_); rintro e w1 ⟨rfl, hb1⟩; replace hbel := belStep hbel hb1; clear hb1)
        go_ret
        exact ⟨rfl, belStep hw hbel⟩
    · with_reducible rw [show ((2 : Nat) : Int) = 2 from rfl]
      have hof := ofF_two q.id p.id ⟨q.id, y0, y1, y2⟩ ⟨p.id, x0, x1, x2⟩ rfl rfl (fun e => HNE.out e.symm)
      have hX1 : exF 2 p [⟨q.id, y0, y1, y2⟩, ⟨p.id, x0, x1, x2⟩] = x2 - askF 2 p := by unfold exF; rw [hof.2]; rfl
      have hY1 : exF 2 q [⟨q.id, y0, y1, y2⟩, ⟨p.id, x0, x1, x2⟩] = y2 - askF 2 q := by unfold exF; rw [hof.1]; rfl
      clear hof
      have hof := ofF_two q.id p.id ⟨q.id, y0, y1, y2⟩ ⟨p.id, x0, x1, x2 + m⟩ rfl rfl (fun e => HNE.out e.symm)
      have hX2 : exF 2 p [⟨q.id, y0, y1, y2⟩, ⟨p.id, x0, x1, x2 + m⟩] = x2 + m - askF 2 p := by unfold exF; rw [hof.2]; rfl
      have hY2 : exF 2 q [⟨q.id, y0, y1, y2⟩, ⟨p.id, x0, x1, x2 + m⟩] = y2 - askF 2 q := by unfold exF; rw [hof.1]; rfl
      clear hof
      have HMO := Lib.hid (fun h => ahead_more hX1 hY1 hX2 hY2 (by omega) h)
      clear hX1 hY1 hX2 hY2
      have hTU := @ahead_turn 2 p q [⟨q.id, y0, y1, y2⟩, ⟨p.id, x0, x1, x2⟩] HNE.out
      obtain ⟨x, hA1⟩ : ∃ x, aheadB 2 p q [⟨q.id, y0, y1, y2⟩, ⟨p.id, x0, x1, x2⟩] = x := ⟨_, rfl⟩
      have hA2 := hTU
      rw [hA1] at hA2 HMO
      clear hTU
      have hUO : ∀ u ∈ ([⟨q.id, y0, y1, y2⟩, ⟨p.id, x0, x1, x2⟩] : List UseV), UseOK u := by
        intro u hu
        simp only [List.mem_cons, List.not_mem_nil, or_false] at hu
        rcases hu with rfl | rfl <;> exact use_ok3 (by omega) (by omega) (by omega) (by omega) (by omega) (by omega)
      have A1 := Lib.hid (show ∀ u : World, Below W4.heap.size W4 u → Calls Try.prog 41 #[.int .i64 2, .agg #[.string p.id, .int .i64 p.prio, .bool p.crit, .int .i64 p.r0, .int .i64 p.r1, .int .i64 p.r2, .int .i64 p.l0, .int .i64 p.l1, .int .i64 p.l2, .string p.img, .int .i64 p.size], .agg #[.string q.id, .int .i64 q.prio, .bool q.crit, .int .i64 q.r0, .int .i64 q.r1, .int .i64 q.r2, .int .i64 q.l0, .int .i64 q.l1, .int .i64 q.l2, .string q.img, .int .i64 q.size], .agg #[.int .i64 0, .int .i64 0, .int .i64 0, .int .i64 0, .slice (some ⟨M3, 0, none⟩) 2 2]] u fun e w' => e = .returned (.bool x) ∧ Below u.heap.size u w' from fun u hu => by have h := rk_Ahead 2 2 p q 0 0 0 0 (some ⟨M3, 0, none⟩) 2 2 [⟨q.id, y0, y1, y2⟩, ⟨p.id, x0, x1, x2⟩] u (by omega) rfl HP.out HR0.out HQ.out HR1.out hUO rfl (row_of_blkN (n := 2) (k := 4) (usB u hu) rfl (by unfold maxLen; omega)); rw [hA1] at h; exact h)
      have A2 := Lib.hid (show ∀ u : World, Below W4.heap.size W4 u → Calls Try.prog 41 #[.int .i64 2, .agg #[.string q.id, .int .i64 q.prio, .bool q.crit, .int .i64 q.r0, .int .i64 q.r1, .int .i64 q.r2, .int .i64 q.l0, .int .i64 q.l1, .int .i64 q.l2, .string q.img, .int .i64 q.size], .agg #[.string p.id, .int .i64 p.prio, .bool p.crit, .int .i64 p.r0, .int .i64 p.r1, .int .i64 p.r2, .int .i64 p.l0, .int .i64 p.l1, .int .i64 p.l2, .string p.img, .int .i64 p.size], .agg #[.int .i64 0, .int .i64 0, .int .i64 0, .int .i64 0, .slice (some ⟨M3, 0, none⟩) 2 2]] u fun e w' => e = .returned (.bool !x) ∧ Below u.heap.size u w' from fun u hu => by have h := rk_Ahead 2 2 q p 0 0 0 0 (some ⟨M3, 0, none⟩) 2 2 [⟨q.id, y0, y1, y2⟩, ⟨p.id, x0, x1, x2⟩] u (by omega) rfl HQ.out HR1.out HP.out HR0.out hUO rfl (row_of_blkN (n := 2) (k := 4) (usB u hu) rfl (by unfold maxLen; omega)); rw [hA2] at h; exact h)
      clear hA1 hA2 hUO
      rcases x with _ | _
      · go_wp2_with (first | (go_at_call 41; (with_reducible refine (A1.out _ hbel).mono ?_); rintro e w1 ⟨rfl, hb1⟩; replace hbel := belStep hbel hb1; clear hb1) | (go_at_call 41; (with_reducible refine (A2.out _ hbel).mono ?_); rintro e w1 ⟨rfl, hb1⟩; replace hbel := belStep hbel hb1; clear hb1))
        go_ret
        exact ⟨rfl, belStep hw hbel⟩
      · go_upto_region 11 with (go_at_call 41; (with_reducible refine (A1.out _ hbel).mono ?_); rintro e w1 ⟨rfl, hb1⟩; replace hbel := belStep hbel hb1; clear hb1)
        have hA3 := HMO.out (by trivial)
        clear A1 A2 HMO usB sp0 sp1 sp2 sp3 sp4 spB spF
        replace pp0 := keepOnP pp0 hbel
        replace pp1 := keepOnP pp1 hbel
        replace pp2 := keepOnP pp2 hbel
        replace pp3 := keepOnP pp3 hbel
        replace pp4 := keepOnP pp4 hbel
        replace pp5 := keepOnP pp5 hbel
        replace pp6 := keepOnP pp6 hbel
        replace pp7 := keepOnP pp7 hbel
        replace pp8 := keepOnP pp8 hbel
        replace pp9 := keepOnP pp9 hbel
        replace pp10 := keepOnP pp10 hbel
        replace qq0 := keepOnP qq0 hbel
        replace qq1 := keepOnP qq1 hbel
        replace qq2 := keepOnP qq2 hbel
        replace qq3 := keepOnP qq3 hbel
        replace qq4 := keepOnP qq4 hbel
        replace qq5 := keepOnP qq5 hbel
        replace qq6 := keepOnP qq6 hbel
        replace qq7 := keepOnP qq7 hbel
        replace qq8 := keepOnP qq8 hbel
        replace qq9 := keepOnP qq9 hbel
        replace qq10 := keepOnP qq10 hbel
        replace xx0 := keepOnP xx0 hbel
        replace xx1 := keepOnP xx1 hbel
        replace xx2 := keepOnP xx2 hbel
        replace xx3 := keepOnP xx3 hbel
        replace yy0 := keepOnP yy0 hbel
        replace yy1 := keepOnP yy1 hbel
        replace yy2 := keepOnP yy2 hbel
        replace yy3 := keepOnP yy3 hbel
        replace ppB := keepOnP ppB hbel
        replace ppF := keepOnP ppF hbel
        replace qqB := keepOnP qqB hbel
        replace qqF := keepOnP qqF hbel
        replace xxB := keepOnP xxB hbel
        replace xxF := keepOnP xxF hbel
        replace yyB := keepOnP yyB hbel
        replace yyF := keepOnP yyF hbel
        replace hw := belStep hw hbel
        clear hbel
        generalize w1 = V5 at *
        have hbel : Below V5.heap.size V5 V5 := Below.refl _ _
        go_upto_region 12 with fail
        have hob := xxB _ ((by repeat (first | exact Below.refl _ _ | refine belAlloc ?_ _)) : Below V5.heap.size V5 (V5))
        have hf_pp := ppB _ ((by repeat (first | exact Below.refl _ _ | refine belAlloc ?_ _)) : Below V5.heap.size V5 (V5))
        have hn_pp := Blk.ne hob hf_pp (by simp)
        have hf_qq := qqB _ ((by repeat (first | exact Below.refl _ _ | refine belAlloc ?_ _)) : Below V5.heap.size V5 (V5))
        have hn_qq := Blk.ne hob hf_qq (by simp)
        have hf_yy := yyB _ ((by repeat (first | exact Below.refl _ _ | refine belAlloc ?_ _)) : Below V5.heap.size V5 (V5))
        have hn_yy : M1 ≠ M1 + 1 := by omega
        clear hbel
        have hg_pp := (hf_pp).far (a := ⟨M1, 3, none⟩) hn_pp (.int .i64 (x2 + m))
        have hg_qq := (hf_qq).far (a := ⟨M1, 3, none⟩) hn_qq (.int .i64 (x2 + m))
        have hg_yy := (hf_yy).far (a := ⟨M1, 3, none⟩) hn_yy (.int .i64 (x2 + m))
        have hog : Blk _ (M1) [.string p.id, .int .i64 x0, .int .i64 x1, .int .i64 (x2 + m)] 51 := (hob).set (3) (.int .i64 (x2 + m))
        have hwn := belSet ((by repeat (first | exact hw | refine belAlloc ?_ _) : Below w.heap.size w (V5))) ⟨M1, 3, none⟩ (.int .i64 (x2 + m)) (by show w.heap.size ≤ M1; omega)
        clear hw hob hf_pp hn_pp hf_qq hn_qq hf_yy hn_yy
        generalize V5.setCell ⟨M1, 3, none⟩ (.int .i64 (x2 + m)) = W6 at *
        have hw := hwn
        clear hwn
        clear ppB ppF pp0 pp1 pp2 pp3 pp4 pp5 pp6 pp7 pp8 pp9 pp10 qqB qqF qq0 qq1 qq2 qq3 qq4 qq5 qq6 qq7 qq8 qq9 qq10 xxB xxF xx0 xx1 xx2 xx3 yyB yyF yy0 yy1 yy2 yy3
        have ppB := Blk.keepB hg_pp
        have ppF := Blk.keepF hg_pp
        have pp0 := keep (hg_pp.cell (j := 0) rfl)
        have pp1 := keep (hg_pp.cell (j := 1) rfl)
        have pp2 := keep (hg_pp.cell (j := 2) rfl)
        have pp3 := keep (hg_pp.cell (j := 3) rfl)
        have pp4 := keep (hg_pp.cell (j := 4) rfl)
        have pp5 := keep (hg_pp.cell (j := 5) rfl)
        have pp6 := keep (hg_pp.cell (j := 6) rfl)
        have pp7 := keep (hg_pp.cell (j := 7) rfl)
        have pp8 := keep (hg_pp.cell (j := 8) rfl)
        have pp9 := keep (hg_pp.cell (j := 9) rfl)
        have pp10 := keep (hg_pp.cell (j := 10) rfl)
        have qqB := Blk.keepB hg_qq
        have qqF := Blk.keepF hg_qq
        have qq0 := keep (hg_qq.cell (j := 0) rfl)
        have qq1 := keep (hg_qq.cell (j := 1) rfl)
        have qq2 := keep (hg_qq.cell (j := 2) rfl)
        have qq3 := keep (hg_qq.cell (j := 3) rfl)
        have qq4 := keep (hg_qq.cell (j := 4) rfl)
        have qq5 := keep (hg_qq.cell (j := 5) rfl)
        have qq6 := keep (hg_qq.cell (j := 6) rfl)
        have qq7 := keep (hg_qq.cell (j := 7) rfl)
        have qq8 := keep (hg_qq.cell (j := 8) rfl)
        have qq9 := keep (hg_qq.cell (j := 9) rfl)
        have qq10 := keep (hg_qq.cell (j := 10) rfl)
        have yyB := Blk.keepB hg_yy
        have yyF := Blk.keepF hg_yy
        have yy0 := keep (hg_yy.cell (j := 0) rfl)
        have yy1 := keep (hg_yy.cell (j := 1) rfl)
        have yy2 := keep (hg_yy.cell (j := 2) rfl)
        have yy3 := keep (hg_yy.cell (j := 3) rfl)
        have xxB := Blk.keepB hog
        have xxF := Blk.keepF hog
        have xx0 := keep (hog.cell (j := 0) rfl)
        have xx1 := keep (hog.cell (j := 1) rfl)
        have xx2 := keep (hog.cell (j := 2) rfl)
        have xx3 := keep (hog.cell (j := 3) rfl)
        clear hog hg_pp hg_qq hg_yy
        have hbel : Below W6.heap.size W6 W6 := Below.refl _ _
        have hzw7 := hw.size
        go_upto_region 13 with fail
        have Bus : Blk ((W6.alloc (.cells #[.string p.id, .int .i64 x0, .int .i64 x1, .int .i64 (x2 + m), .string q.id, .int .i64 y0, .int .i64 y1, .int .i64 y2] 51)).alloc (.cells #[.int .i64 0, .int .i64 0, .int .i64 0, .int .i64 0, .slice (some ⟨W6.heap.size, 0, none⟩) 2 2] 32)) W6.heap.size [.string p.id, .int .i64 x0, .int .i64 x1, .int .i64 (x2 + m), .string q.id, .int .i64 y0, .int .i64 y1, .int .i64 y2] 51 := (Blk.new W6 [.string p.id, .int .i64 x0, .int .i64 x1, .int .i64 (x2 + m), .string q.id, .int .i64 y0, .int .i64 y1, .int .i64 y2] 51).later (belAlloc (Below.refl _ _) _)
        have Bsp : Blk ((W6.alloc (.cells #[.string p.id, .int .i64 x0, .int .i64 x1, .int .i64 (x2 + m), .string q.id, .int .i64 y0, .int .i64 y1, .int .i64 y2] 51)).alloc (.cells #[.int .i64 0, .int .i64 0, .int .i64 0, .int .i64 0, .slice (some ⟨W6.heap.size, 0, none⟩) 2 2] 32)) (W6.heap.size + 1) [.int .i64 0, .int .i64 0, .int .i64 0, .int .i64 0, .slice (some ⟨W6.heap.size, 0, none⟩) 2 2] 32 := Blk.at (w := W6.alloc (.cells #[.string p.id, .int .i64 x0, .int .i64 x1, .int .i64 (x2 + m), .string q.id, .int .i64 y0, .int .i64 y1, .int .i64 y2] 51)) (by simp)
        have hb2 : Below W6.heap.size W6 ((W6.alloc (.cells #[.string p.id, .int .i64 x0, .int .i64 x1, .int .i64 (x2 + m), .string q.id, .int .i64 y0, .int .i64 y1, .int .i64 y2] 51)).alloc (.cells #[.int .i64 0, .int .i64 0, .int .i64 0, .int .i64 0, .slice (some ⟨W6.heap.size, 0, none⟩) 2 2] 32)) := belAlloc (belAlloc (Below.refl _ _) _) _
        replace pp0 := keepOnP pp0 hb2
        replace pp1 := keepOnP pp1 hb2
        replace pp2 := keepOnP pp2 hb2
        replace pp3 := keepOnP pp3 hb2
        replace pp4 := keepOnP pp4 hb2
        replace pp5 := keepOnP pp5 hb2
        replace pp6 := keepOnP pp6 hb2
        replace pp7 := keepOnP pp7 hb2
        replace pp8 := keepOnP pp8 hb2
        replace pp9 := keepOnP pp9 hb2
        replace pp10 := keepOnP pp10 hb2
        replace qq0 := keepOnP qq0 hb2
        replace qq1 := keepOnP qq1 hb2
        replace qq2 := keepOnP qq2 hb2
        replace qq3 := keepOnP qq3 hb2
        replace qq4 := keepOnP qq4 hb2
        replace qq5 := keepOnP qq5 hb2
        replace qq6 := keepOnP qq6 hb2
        replace qq7 := keepOnP qq7 hb2
        replace qq8 := keepOnP qq8 hb2
        replace qq9 := keepOnP qq9 hb2
        replace qq10 := keepOnP qq10 hb2
        replace xx0 := keepOnP xx0 hb2
        replace xx1 := keepOnP xx1 hb2
        replace xx2 := keepOnP xx2 hb2
        replace xx3 := keepOnP xx3 hb2
        replace yy0 := keepOnP yy0 hb2
        replace yy1 := keepOnP yy1 hb2
        replace yy2 := keepOnP yy2 hb2
        replace yy3 := keepOnP yy3 hb2
        replace ppB := keepOnP ppB hb2
        replace ppF := keepOnP ppF hb2
        replace qqB := keepOnP qqB hb2
        replace qqF := keepOnP qqF hb2
        replace xxB := keepOnP xxB hb2
        replace xxF := keepOnP xxF hb2
        replace yyB := keepOnP yyB hb2
        replace yyF := keepOnP yyF hb2
        replace hw := belStep hw hb2
        clear hb2 hbel
        generalize (W6.alloc (.cells #[.string p.id, .int .i64 x0, .int .i64 x1, .int .i64 (x2 + m), .string q.id, .int .i64 y0, .int .i64 y1, .int .i64 y2] 51)).alloc (.cells #[.int .i64 0, .int .i64 0, .int .i64 0, .int .i64 0, .slice (some ⟨W6.heap.size, 0, none⟩) 2 2] 32) = W7 at *
        generalize W6.heap.size = M7 at *
        have usB := Blk.keepB Bus
        have spB := Blk.keepB Bsp
        have spF := Blk.keepF Bsp
        have sp0 := keep (Bsp.cell (j := 0) rfl)
        have sp1 := keep (Bsp.cell (j := 1) rfl)
        have sp2 := keep (Bsp.cell (j := 2) rfl)
        have sp3 := keep (Bsp.cell (j := 3) rfl)
        have sp4 := keep (Bsp.cell (j := 4) rfl)
        clear Bus Bsp
        have hbel : Below W7.heap.size W7 W7 := Below.refl _ _
        go_upto_region 15 with fail
        have hub := Blk.new W7 [.string q.id, .int .i64 y0, .int .i64 y1, .int .i64 y2, .string p.id, .int .i64 x0, .int .i64 x1, .int .i64 (x2 + m)] 51
        have hsb := spB _ (belAlloc (Below.refl _ _) _ : Below W7.heap.size W7 (W7.alloc (.cells #[.string q.id, .int .i64 y0, .int .i64 y1, .int .i64 y2, .string p.id, .int .i64 x0, .int .i64 x1, .int .i64 (x2 + m)] 51)))
        have hun := Blk.ne hsb hub (by simp)
        clear hsb
        have hub2 := (((((hub).far (a := ⟨M7 + 1, 0, none⟩) hun (.int .i64 0)).far (a := ⟨M7 + 1, 1, none⟩) hun (.int .i64 0)).far (a := ⟨M7 + 1, 2, none⟩) hun (.int .i64 0)).far (a := ⟨M7 + 1, 3, none⟩) hun (.int .i64 0)).far (a := ⟨M7 + 1, 4, none⟩) hun (.slice (some ⟨W7.heap.size, 0, none⟩) 2 2)
        clear hub hun
        have hob := spB _ ((by repeat (first | exact Below.refl _ _ | refine belAlloc ?_ _)) : Below W7.heap.size W7 (W7.alloc (.cells #[.string q.id, .int .i64 y0, .int .i64 y1, .int .i64 y2, .string p.id, .int .i64 x0, .int .i64 x1, .int .i64 (x2 + m)] 51)))
        have hf_pp := ppB _ ((by repeat (first | exact Below.refl _ _ | refine belAlloc ?_ _)) : Below W7.heap.size W7 (W7.alloc (.cells #[.string q.id, .int .i64 y0, .int .i64 y1, .int .i64 y2, .string p.id, .int .i64 x0, .int .i64 x1, .int .i64 (x2 + m)] 51)))
        have hn_pp := Blk.ne hob hf_pp (by simp)
        have hf_qq := qqB _ ((by repeat (first | exact Below.refl _ _ | refine belAlloc ?_ _)) : Below W7.heap.size W7 (W7.alloc (.cells #[.string q.id, .int .i64 y0, .int .i64 y1, .int .i64 y2, .string p.id, .int .i64 x0, .int .i64 x1, .int .i64 (x2 + m)] 51)))
        have hn_qq := Blk.ne hob hf_qq (by simp)
        have hf_xx := xxB _ ((by repeat (first | exact Below.refl _ _ | refine belAlloc ?_ _)) : Below W7.heap.size W7 (W7.alloc (.cells #[.string q.id, .int .i64 y0, .int .i64 y1, .int .i64 y2, .string p.id, .int .i64 x0, .int .i64 x1, .int .i64 (x2 + m)] 51)))
        have hn_xx := Blk.ne hob hf_xx (by simp)
        have hf_yy := yyB _ ((by repeat (first | exact Below.refl _ _ | refine belAlloc ?_ _)) : Below W7.heap.size W7 (W7.alloc (.cells #[.string q.id, .int .i64 y0, .int .i64 y1, .int .i64 y2, .string p.id, .int .i64 x0, .int .i64 x1, .int .i64 (x2 + m)] 51)))
        have hn_yy := Blk.ne hob hf_yy (by simp)
        clear hbel
        have hg_pp := (((((hf_pp).far (a := ⟨M7 + 1, 0, none⟩) hn_pp (.int .i64 0)).far (a := ⟨M7 + 1, 1, none⟩) hn_pp (.int .i64 0)).far (a := ⟨M7 + 1, 2, none⟩) hn_pp (.int .i64 0)).far (a := ⟨M7 + 1, 3, none⟩) hn_pp (.int .i64 0)).far (a := ⟨M7 + 1, 4, none⟩) hn_pp (.slice (some ⟨W7.heap.size, 0, none⟩) 2 2)
        have hg_qq := (((((hf_qq).far (a := ⟨M7 + 1, 0, none⟩) hn_qq (.int .i64 0)).far (a := ⟨M7 + 1, 1, none⟩) hn_qq (.int .i64 0)).far (a := ⟨M7 + 1, 2, none⟩) hn_qq (.int .i64 0)).far (a := ⟨M7 + 1, 3, none⟩) hn_qq (.int .i64 0)).far (a := ⟨M7 + 1, 4, none⟩) hn_qq (.slice (some ⟨W7.heap.size, 0, none⟩) 2 2)
        have hg_xx := (((((hf_xx).far (a := ⟨M7 + 1, 0, none⟩) hn_xx (.int .i64 0)).far (a := ⟨M7 + 1, 1, none⟩) hn_xx (.int .i64 0)).far (a := ⟨M7 + 1, 2, none⟩) hn_xx (.int .i64 0)).far (a := ⟨M7 + 1, 3, none⟩) hn_xx (.int .i64 0)).far (a := ⟨M7 + 1, 4, none⟩) hn_xx (.slice (some ⟨W7.heap.size, 0, none⟩) 2 2)
        have hg_yy := (((((hf_yy).far (a := ⟨M7 + 1, 0, none⟩) hn_yy (.int .i64 0)).far (a := ⟨M7 + 1, 1, none⟩) hn_yy (.int .i64 0)).far (a := ⟨M7 + 1, 2, none⟩) hn_yy (.int .i64 0)).far (a := ⟨M7 + 1, 3, none⟩) hn_yy (.int .i64 0)).far (a := ⟨M7 + 1, 4, none⟩) hn_yy (.slice (some ⟨W7.heap.size, 0, none⟩) 2 2)
        have hog : Blk _ (M7 + 1) [.int .i64 0, .int .i64 0, .int .i64 0, .int .i64 0, .slice (some ⟨W7.heap.size, 0, none⟩) 2 2] 32 := (((((hob).set (0) (.int .i64 0)).set (1) (.int .i64 0)).set (2) (.int .i64 0)).set (3) (.int .i64 0)).set (4) (.slice (some ⟨W7.heap.size, 0, none⟩) 2 2)
        have hwn := belSet (belSet (belSet (belSet (belSet ((by repeat (first | exact hw | refine belAlloc ?_ _) : Below w.heap.size w (W7.alloc (.cells #[.string q.id, .int .i64 y0, .int .i64 y1, .int .i64 y2, .string p.id, .int .i64 x0, .int .i64 x1, .int .i64 (x2 + m)] 51)))) ⟨M7 + 1, 0, none⟩ (.int .i64 0) (by show w.heap.size ≤ M7 + 1; omega)) ⟨M7 + 1, 1, none⟩ (.int .i64 0) (by show w.heap.size ≤ M7 + 1; omega)) ⟨M7 + 1, 2, none⟩ (.int .i64 0) (by show w.heap.size ≤ M7 + 1; omega)) ⟨M7 + 1, 3, none⟩ (.int .i64 0) (by show w.heap.size ≤ M7 + 1; omega)) ⟨M7 + 1, 4, none⟩ (.slice (some ⟨W7.heap.size, 0, none⟩) 2 2) (by show w.heap.size ≤ M7 + 1; omega)
        clear hw hob hf_pp hn_pp hf_qq hn_qq hf_xx hn_xx hf_yy hn_yy
        generalize (((((W7.alloc (.cells #[.string q.id, .int .i64 y0, .int .i64 y1, .int .i64 y2, .string p.id, .int .i64 x0, .int .i64 x1, .int .i64 (x2 + m)] 51)).setCell ⟨M7 + 1, 0, none⟩ (.int .i64 0)).setCell ⟨M7 + 1, 1, none⟩ (.int .i64 0)).setCell ⟨M7 + 1, 2, none⟩ (.int .i64 0)).setCell ⟨M7 + 1, 3, none⟩ (.int .i64 0)).setCell ⟨M7 + 1, 4, none⟩ (.slice (some ⟨W7.heap.size, 0, none⟩) 2 2) = W8 at *
        have hw := hwn
        clear hwn
        clear ppB ppF pp0 pp1 pp2 pp3 pp4 pp5 pp6 pp7 pp8 pp9 pp10 qqB qqF qq0 qq1 qq2 qq3 qq4 qq5 qq6 qq7 qq8 qq9 qq10 xxB xxF xx0 xx1 xx2 xx3 yyB yyF yy0 yy1 yy2 yy3 sp0 sp1 sp2 sp3 sp4 spB spF
        have ppB := Blk.keepB hg_pp
        have ppF := Blk.keepF hg_pp
        have pp0 := keep (hg_pp.cell (j := 0) rfl)
        have pp1 := keep (hg_pp.cell (j := 1) rfl)
        have pp2 := keep (hg_pp.cell (j := 2) rfl)
        have pp3 := keep (hg_pp.cell (j := 3) rfl)
        have pp4 := keep (hg_pp.cell (j := 4) rfl)
        have pp5 := keep (hg_pp.cell (j := 5) rfl)
        have pp6 := keep (hg_pp.cell (j := 6) rfl)
        have pp7 := keep (hg_pp.cell (j := 7) rfl)
        have pp8 := keep (hg_pp.cell (j := 8) rfl)
        have pp9 := keep (hg_pp.cell (j := 9) rfl)
        have pp10 := keep (hg_pp.cell (j := 10) rfl)
        have qqB := Blk.keepB hg_qq
        have qqF := Blk.keepF hg_qq
        have qq0 := keep (hg_qq.cell (j := 0) rfl)
        have qq1 := keep (hg_qq.cell (j := 1) rfl)
        have qq2 := keep (hg_qq.cell (j := 2) rfl)
        have qq3 := keep (hg_qq.cell (j := 3) rfl)
        have qq4 := keep (hg_qq.cell (j := 4) rfl)
        have qq5 := keep (hg_qq.cell (j := 5) rfl)
        have qq6 := keep (hg_qq.cell (j := 6) rfl)
        have qq7 := keep (hg_qq.cell (j := 7) rfl)
        have qq8 := keep (hg_qq.cell (j := 8) rfl)
        have qq9 := keep (hg_qq.cell (j := 9) rfl)
        have qq10 := keep (hg_qq.cell (j := 10) rfl)
        have xxB := Blk.keepB hg_xx
        have xxF := Blk.keepF hg_xx
        have xx0 := keep (hg_xx.cell (j := 0) rfl)
        have xx1 := keep (hg_xx.cell (j := 1) rfl)
        have xx2 := keep (hg_xx.cell (j := 2) rfl)
        have xx3 := keep (hg_xx.cell (j := 3) rfl)
        have yyB := Blk.keepB hg_yy
        have yyF := Blk.keepF hg_yy
        have yy0 := keep (hg_yy.cell (j := 0) rfl)
        have yy1 := keep (hg_yy.cell (j := 1) rfl)
        have yy2 := keep (hg_yy.cell (j := 2) rfl)
        have yy3 := keep (hg_yy.cell (j := 3) rfl)
        have spB := Blk.keepB hog
        have spF := Blk.keepF hog
        have sp0 := keep (hog.cell (j := 0) rfl)
        have sp1 := keep (hog.cell (j := 1) rfl)
        have sp2 := keep (hog.cell (j := 2) rfl)
        have sp3 := keep (hog.cell (j := 3) rfl)
        have sp4 := keep (hog.cell (j := 4) rfl)
        clear hog hg_pp hg_qq hg_xx hg_yy
        have hbel : Below W8.heap.size W8 W8 := Below.refl _ _
        generalize W7.heap.size = M8 at *
        clear usB
        have usB := Blk.keepB hub2
        clear hub2
        have hUO : ∀ u ∈ ([⟨q.id, y0, y1, y2⟩, ⟨p.id, x0, x1, x2 + m⟩] : List UseV), UseOK u := by
          intro u hu
          simp only [List.mem_cons, List.not_mem_nil, or_false] at hu
          rcases hu with rfl | rfl <;> exact use_ok3 (by omega) (by omega) (by omega) (by omega) (by omega) (by omega)
        have A3 := Lib.hid (show ∀ u : World, Below W8.heap.size W8 u → Calls Try.prog 41 #[.int .i64 2, .agg #[.string p.id, .int .i64 p.prio, .bool p.crit, .int .i64 p.r0, .int .i64 p.r1, .int .i64 p.r2, .int .i64 p.l0, .int .i64 p.l1, .int .i64 p.l2, .string p.img, .int .i64 p.size], .agg #[.string q.id, .int .i64 q.prio, .bool q.crit, .int .i64 q.r0, .int .i64 q.r1, .int .i64 q.r2, .int .i64 q.l0, .int .i64 q.l1, .int .i64 q.l2, .string q.img, .int .i64 q.size], .agg #[.int .i64 0, .int .i64 0, .int .i64 0, .int .i64 0, .slice (some ⟨M8, 0, none⟩) 2 2]] u fun e w' => e = .returned (.bool true) ∧ Below u.heap.size u w' from fun u hu => by have h := rk_Ahead 2 2 p q 0 0 0 0 (some ⟨M8, 0, none⟩) 2 2 [⟨q.id, y0, y1, y2⟩, ⟨p.id, x0, x1, x2 + m⟩] u (by omega) rfl HP.out HR0.out HQ.out HR1.out hUO rfl (row_of_blkN (n := 2) (k := 4) (usB u hu) rfl (by unfold maxLen; omega)); rw [hA3] at h; exact h)
        clear hA3 hUO
        go_wp2_with (go_at_call 41; (with_reducible refine (A3.out _ hbel).mono ?_); rintro e w1 ⟨rfl, hb1⟩; replace hbel := belStep hbel hb1; clear hb1)
        go_ret
        exact ⟨rfl, belStep hw hbel⟩

set_option maxRecDepth 100000 in
theorem lifted (os : Os) (started : os.Started) (H : Type) (enc : TypeId × Value → H) :
    ReturnsInHanded {} Try.checked os 15 .any (Rows.rankMoreSpec.pre6 enc Try.prog Try.f15 Rows.rankMoreRow.domain false) (Rows.rankMoreSpec.post enc Try.prog Try.f15 false true false false) := by
  refine returnsInHanded_of_change (C := Try.checked) own started (by kernel_rfl) Try.func15
    (ChangeSpec.witness6 (enc := enc) (C := Try.checked) false ⟨#[], #[.int .u8 0, .agg #[.string ByteArray.empty, .int .i64 0, .bool false, .int .i64 0, .int .i64 0, .int .i64 0, .int .i64 0, .int .i64 0, .int .i64 0, .string ByteArray.empty, .int .i64 0], .agg #[.string ByteArray.empty, .int .i64 0, .bool false, .int .i64 0, .int .i64 0, .int .i64 0, .int .i64 0, .int .i64 0, .int .i64 0, .string ByteArray.empty, .int .i64 0], .agg #[.int .u32 0, .int .u32 0, .int .u32 0], .agg #[.int .u32 0, .int .u32 0, .int .u32 0], .int .u32 0], []⟩ 8 (by kernel_rfl) (by kernel_rfl) (by kernel_rfl) (by kernel_rfl)) ?_
  intro W base args ds gs before hval0 hW hcnd _
  have hval : ∀ (j : Nat) t v, Try.f15.params[j]? = some t → args[j]? = some v → Value.okWide Try.prog W .any base t v := hval0
  have hW' := hW
  obtain ⟨p, q, hA0, hV, rfl, hfz, hnd⟩ := hW
  have hA : DataW.TrodAll enc Try.prog W 0 (fun _ => true) true Try.f15.params.toList args.toList ds p := hA0
  rw [Try.params15] at hA hval
  obtain ⟨v0, vs0, d0, ds0, p0, q0, hargs, rfl, rfl, h0, r0⟩ := trodAll_cons hA
  obtain ⟨v1, vs1, d1, ds1, p1, q1, rfl, rfl, rfl, h1, r1⟩ := trodAll_cons r0
  obtain ⟨v2, vs2, d2, ds2, p2, q2, rfl, rfl, rfl, h2, r2⟩ := trodAll_cons r1
  obtain ⟨v3, vs3, d3, ds3, p3, q3, rfl, rfl, rfl, h3, r3⟩ := trodAll_cons r2
  obtain ⟨v4, vs4, d4, ds4, p4, q4, rfl, rfl, rfl, h4, r4⟩ := trodAll_cons r3
  obtain ⟨v5, vs5, d5, ds5, p5, q5, rfl, rfl, rfl, h5, r5⟩ := trodAll_cons r4
  obtain ⟨rfl, rfl, rfl⟩ := trodAll_nil r5
  obtain rfl : args = #[v0, v1, v2, v3, v4, v5] := by cases args; simp_all
  obtain ⟨rfl, rfl⟩ := trodVars_none hV
  have k0 := h0
  have lt0 : ∀ x ∈ p0, x.block < W.heap.size := by obtain ⟨m, hm⟩ := k0; exact DataW.trod_lt m _ _ _ hm
  have o0 : Value.okWide Try.prog W .any base 5 v0 := hval 0 5 v0 rfl rfl
  obtain ⟨a0, rfl, rfl, rfl, w0⟩ := open_int Try.underlying5 o0 h0
  have k1 := h1
  have lt1 : ∀ x ∈ p1, x.block < W.heap.size := by obtain ⟨m, hm⟩ := k1; exact DataW.trod_lt m _ _ _ hm
  have o1 : Value.okWide Try.prog W .any base 62 v1 := hval 1 62 v1 rfl rfl
  obtain ⟨p1, rfl, fp1⟩ := open_pod o1 h1
  have k2 := h2
  have lt2 : ∀ x ∈ p2, x.block < W.heap.size := by obtain ⟨m, hm⟩ := k2; exact DataW.trod_lt m _ _ _ hm
  have o2 : Value.okWide Try.prog W .any base 62 v2 := hval 2 62 v2 rfl rfl
  obtain ⟨p2, rfl, fp2⟩ := open_pod o2 h2
  have k3 := h3
  have lt3 : ∀ x ∈ p3, x.block < W.heap.size := by obtain ⟨m, hm⟩ := k3; exact DataW.trod_lt m _ _ _ hm
  have o3 : Value.okWide Try.prog W .any base 83 v3 := hval 3 83 v3 rfl rfl
  obtain ⟨x3, y3, z3, rfl, hv3⟩ := open_v3 o3 h3
  have k4 := h4
  have lt4 : ∀ x ∈ p4, x.block < W.heap.size := by obtain ⟨m, hm⟩ := k4; exact DataW.trod_lt m _ _ _ hm
  have o4 : Value.okWide Try.prog W .any base 83 v4 := hval 4 83 v4 rfl rfl
  obtain ⟨x4, y4, z4, rfl, hv4⟩ := open_v3 o4 h4
  have k5 := h5
  have lt5 : ∀ x ∈ p5, x.block < W.heap.size := by obtain ⟨m, hm⟩ := k5; exact DataW.trod_lt m _ _ _ hm
  have o5 : Value.okWide Try.prog W .any base 53 v5 := hval 5 53 v5 rfl rfl
  obtain ⟨a5, rfl, rfl, rfl, w5⟩ := open_int Try.underlying53 o5 h5
  clear hA0 hval0
  refine (walk a0 p1 p2 x3 y3 z3 x4 y4 z4 a5 W (in8_of_wf w0) fp1 fp2 hv3 hv4 (in32_of_wf w5)).mono fun e W' ⟨he, bel⟩ => ?_
  subst he
  exact ⟨_, rfl, _, _, _, [], _, [], hW', trodAll_mk1 (shut_bool Try.underlying4 _), (trodAll_cons_mk (Below.trod laidOut (by kernel_rfl) (of_decide_eq_true (by kernel_rfl)) k0 bel lt0) (trodAll_cons_mk (Below.trod laidOut (by kernel_rfl) (of_decide_eq_true (by kernel_rfl)) k1 bel lt1) (trodAll_cons_mk (Below.trod laidOut (by kernel_rfl) (of_decide_eq_true (by kernel_rfl)) k2 bel lt2) (trodAll_cons_mk (Below.trod laidOut (by kernel_rfl) (of_decide_eq_true (by kernel_rfl)) k3 bel lt3) (trodAll_cons_mk (Below.trod laidOut (by kernel_rfl) (of_decide_eq_true (by kernel_rfl)) k4 bel lt4) (trodAll_cons_mk (Below.trod laidOut (by kernel_rfl) (of_decide_eq_true (by kernel_rfl)) k5 bel lt5) trodAll_mk0)))))), rfl, bel.frame _, fun h => by cases h⟩

theorem over : Rows.rankMoreRow.holds Try.pinned (OpenSpec.ofChange Rows.rankMoreSpec) :=
  OpenClaim.holds_of_wide 15 Try.f15 rfl rfl rfl rfl rfl rfl rfl ⟨rfl, rfl, rfl, rfl, rfl⟩ rfl rfl rfl rfl rfl (by kernel_rfl) Try.func15 (by kernel_rfl)
    (of_decide_eq_true (by kernel_rfl)) (by unfold Func.isWrapper; first | (rw [if_pos (by decide +kernel)]; kernel_rfl) | (rw [if_neg (by decide +kernel)]; exact ⟨rfl, rfl⟩))
    (fun os started H enc _ => lifted os started H enc)

/-- The statement. -/
theorem proved : Rows.RankMoreSaid := over
#print axioms proved

end Go.Proofs.Ytcgpmihjodolmaa.rankMore
