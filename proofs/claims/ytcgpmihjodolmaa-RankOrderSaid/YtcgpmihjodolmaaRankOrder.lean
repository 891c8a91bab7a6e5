
/- RankOrder holds for all its arguments. No conditions. -/
import Derived.Test.YtcgpmihjodolmaaAwake20
import Derived.Test.YtcgpmihjodolmaaRkLM
import Derived.Test.YtcgpmihjodolmaaPodFew
namespace Go.Proofs.Ytcgpmihjodolmaa.rankOrder
open Go.ChangeShapes Go.WideShapes Go.ChangeAt Go.RowKit
open Go.ChangeMaps (open_string shut_string)
set_option linter.unusedVariables false
set_option linter.unusedSimpArgs false
theorem sig_any (n : Int) (w : World) (hn : 0 ≤ n ∧ n ≤ 255) : Calls Try.prog 38 #[.int .u8 n] w fun e w' => (∃ g : Nat, g < 3 ∧ e = .returned (.int .i64 (g : Int))) ∧ w = w' := by
  obtain ⟨h0, h1⟩ := hn
  have hne : ¬ ((3 : Int) = 0) := by omega
  obtain ⟨g, hg⟩ : ∃ g : Nat, n % 3 = (g : Int) := ⟨(n % 3).toNat, by omega⟩
  have hg3 : g < 3 := by omega
  go_enter Try.func38, Try.ntmps38
  go_wp2
  go_ret
  exact ⟨⟨g, hg3, rfl⟩, rfl⟩
theorem readF_bd (n : Nat) : 0 ≤ readF n ∧ readF n ≤ 9223372036854775807 := by
  unfold readF
  split
  · omega
  · split
    · omega
    · rename_i h
      have := whole_lt (frung n) (by omega)
      omega
theorem readL_ok (L : List UsgV) : ∀ u ∈ readL L, UseOK u := by
  intro u hu
  unfold readL sortU at hu
  obtain ⟨v, _, rfl⟩ := List.mem_map.1 (sortBy_mem.1 hu)
  exact ⟨readF_bd _, readF_bd _, readF_bd _⟩
theorem rread2 {r : RawV} {a : Option Addr} {len cap : Nat} {L : List UsgV} {w : World} {S : SmpV} (hl : L.length = len) (hr : r.ok) (hok : ∀ x ∈ L, x.ok) (hR : Row w a len cap 4 (L.flatMap UsgV.cells)) (hq : rightR r L = true) (hS : readOK r L = S) :
    Calls Try.prog 24 #[.agg #[.int .i64 r.t, .float .f64 r.x, .float .f64 r.y, .float .f64 r.z, .slice a len cap]] w fun e w' => (∃ b n, e = .returned (.agg #[.int .i64 S.t, .int .i64 S.a, .int .i64 S.b, .int .i64 S.c, .slice b S.use.length n]) ∧ OwnR w' w.heap.size 51 4 (.slice b S.use.length n) S.use.length (S.use.flatMap UseV.cells)) ∧ Below w.heap.size w w' := hS ▸ sref_Read r a len cap L w hl hr hok hR hq
theorem few_lit (p q z : PodV) (u : World) (hp : p.ok) (hq : q.ok) (hz : z.ok) : Calls Try.prog 51 #[.slice (some ⟨u.heap.size, 0, none⟩) 3 3] (u.alloc (.cells #[.string p.id, .int .i64 p.prio, .bool p.crit, .int .i64 p.r0, .int .i64 p.r1, .int .i64 p.r2, .int .i64 p.l0, .int .i64 p.l1, .int .i64 p.l2, .string p.img, .int .i64 p.size, .string q.id, .int .i64 q.prio, .bool q.crit, .int .i64 q.r0, .int .i64 q.r1, .int .i64 q.r2, .int .i64 q.l0, .int .i64 q.l1, .int .i64 q.l2, .string q.img, .int .i64 q.size, .string z.id, .int .i64 z.prio, .bool z.crit, .int .i64 z.r0, .int .i64 z.r1, .int .i64 z.r2, .int .i64 z.l0, .int .i64 z.l1, .int .i64 z.l2, .string z.img, .int .i64 z.size] 62)) fun e w' => e = .returned (.bool (fewB [p, q, z])) ∧ Below u.heap.size u w' := by
  refine (pref_Few (some ⟨u.heap.size, 0, none⟩) 3 3 [p, q, z] _ rfl ?_ (row_new u [.string p.id, .int .i64 p.prio, .bool p.crit, .int .i64 p.r0, .int .i64 p.r1, .int .i64 p.r2, .int .i64 p.l0, .int .i64 p.l1, .int .i64 p.l2, .string p.img, .int .i64 p.size, .string q.id, .int .i64 q.prio, .bool q.crit, .int .i64 q.r0, .int .i64 q.r1, .int .i64 q.r2, .int .i64 q.l0, .int .i64 q.l1, .int .i64 q.l2, .string q.img, .int .i64 q.size, .string z.id, .int .i64 z.prio, .bool z.crit, .int .i64 z.r0, .int .i64 z.r1, .int .i64 z.r2, .int .i64 z.l0, .int .i64 z.l1, .int .i64 z.l2, .string z.img, .int .i64 z.size] 62 3 11 rfl (by unfold maxLen; omega))).mono ?_
  · intro x hx
    simp only [List.mem_cons, List.not_mem_nil, or_false] at hx
    rcases hx with rfl | rfl | rfl <;> assumption
  · rintro e w' ⟨he, hb⟩
    exact ⟨he, (belAlloc (Below.refl _ _) _).trans (hb.mono (by simp))⟩
set_option maxRecDepth 100000 in
set_option maxHeartbeats 16000000 in
theorem walk (n : Int) (p q z : PodV) (r : RawV) (a : Option Addr) (len cap : Nat) (L : List UsgV) (w : World) (hn : 0 ≤ n ∧ n ≤ 255) (hp : p.ok) (hq : q.ok) (hz : z.ok) (hr : r.ok) (hl : L.length = len) (hok : ∀ x ∈ L, x.ok) (hR : Row w a len cap 4 (L.flatMap UsgV.cells)) :
    Calls Try.prog 12 #[.int .u8 n, p.v, q.v, z.v, .agg #[.int .i64 r.t, .float .f64 r.x, .float .f64 r.y, .float .f64 r.z, .slice a len cap]] w fun e w' => e = .returned (.bool true) ∧ Below w.heap.size w w' := by
  have hw : Below w.heap.size w w := Below.refl _ _
  have hbel := hw
  have hbd_a : len ≤ cap ∧ cap ≤ 9223372036854775807 := by obtain ⟨_, h1, h2, _⟩ := hR; unfold maxLen at h2; exact ⟨h1, h2⟩
  obtain ⟨hbd1_a, hbd2_a⟩ := hbd_a
  have HR := Lib.hid hR
  have HOK := Lib.hid hok
  have HRO := Lib.hid hr
  have HN := Lib.hid hn
  clear hR hok hr hn
  subst hl
  have CFW := Lib.hid (fun u (hu : Below w.heap.size w u) => sref_Few r a L.length cap L u rfl (HR.out.later hu))
  have CRR := Lib.hid (fun u (hu : Below w.heap.size w u) => sref_Right r a L.length cap L u rfl HRO.out HOK.out (HR.out.later hu))
  have HP := Lib.hid hp
  have HQ := Lib.hid hq
  have HZ := Lib.hid hz
  obtain ⟨fw, hfw⟩ : ∃ b, fewB [p, q, z] = b := ⟨_, rfl⟩
  have CFP := Lib.hid (fun u => hfw ▸ few_lit p q z u hp hq hz)
  obtain ⟨r0, hr0⟩ : ∃ b, rightB p = b := ⟨_, rfl⟩
  have CP0 := Lib.hid (fun v => hr0 ▸ pref_Right p v hp)
  have HR0 := Lib.hid hr0
  obtain ⟨r1, hr1⟩ : ∃ b, rightB q = b := ⟨_, rfl⟩
  have CP1 := Lib.hid (fun v => hr1 ▸ pref_Right q v hq)
  have HR1 := Lib.hid hr1
  obtain ⟨r2, hr2⟩ : ∃ b, rightB z = b := ⟨_, rfl⟩
  have CP2 := Lib.hid (fun v => hr2 ▸ pref_Right z v hz)
  have HR2 := Lib.hid hr2
  clear hfw hr0 hp hr1 hq hr2 hz
  obtain ⟨rr, hrr⟩ : ∃ b, rightR r L = b := ⟨_, rfl⟩
  have HRR := Lib.hid hrr
  rw [hrr] at CRR
  clear hrr
  have CSG := Lib.hid (fun u => sig_any n u HN.out)
  have KEY := Lib.hid (show ((fw = false) ∨ (fw = true ∧ r0 = false) ∨ (fw = true ∧ r0 = true ∧ r1 = false) ∨ (fw = true ∧ r0 = true ∧ r1 = true ∧ r2 = false) ∨ (fw = true ∧ r0 = true ∧ r1 = true ∧ r2 = true ∧ rr = false)) ∨ (fw = true ∧ r0 = true ∧ r1 = true ∧ r2 = true ∧ rr = true) from by
    cases fw <;> cases r0 <;> cases r1 <;> cases r2 <;> cases rr <;> simp)
  unfold PodV.v
  go_enter Try.func12, Try.ntmps12
  go_upto_region 1 with fail
  have pp0 : ((((w.alloc (.cells #[.string p.id, .int .i64 p.prio, .bool p.crit, .int .i64 p.r0, .int .i64 p.r1, .int .i64 p.r2, .int .i64 p.l0, .int .i64 p.l1, .int .i64 p.l2, .string p.img, .int .i64 p.size] 62)).alloc (.cells #[.string q.id, .int .i64 q.prio, .bool q.crit, .int .i64 q.r0, .int .i64 q.r1, .int .i64 q.r2, .int .i64 q.l0, .int .i64 q.l1, .int .i64 q.l2, .string q.img, .int .i64 q.size] 62)).alloc (.cells #[.string z.id, .int .i64 z.prio, .bool z.crit, .int .i64 z.r0, .int .i64 z.r1, .int .i64 z.r2, .int .i64 z.l0, .int .i64 z.l1, .int .i64 z.l2, .string z.img, .int .i64 z.size] 62)).alloc (.cells #[.int .i64 r.t, .float .f64 r.x, .float .f64 r.y, .float .f64 r.z, .slice a L.length cap] 26)).cell? ⟨w.heap.size, 0, none⟩ = some (.string p.id) := by first | (simp; done) | (rw [World.cell?_alloc_at _ _ _ _ (by simp)]; rfl) | (rw [World.cell?_alloc_past _ _ _ (by simp <;> omega), World.cell?_alloc_at _ _ _ _ (by simp)]; rfl) | (rw [World.cell?_alloc_past _ _ _ (by simp <;> omega), World.cell?_alloc_past _ _ _ (by simp <;> omega), World.cell?_alloc_at _ _ _ _ (by simp)]; rfl) | (rw [World.cell?_alloc_past _ _ _ (by simp <;> omega), World.cell?_alloc_past _ _ _ (by simp <;> omega), World.cell?_alloc_past _ _ _ (by simp <;> omega), World.cell?_alloc_at _ _ _ _ (by simp)]; rfl)
  have pp1 : ((((w.alloc (.cells #[.string p.id, .int .i64 p.prio, .bool p.crit, .int .i64 p.r0, .int .i64 p.r1, .int .i64 p.r2, .int .i64 p.l0, .int .i64 p.l1, .int .i64 p.l2, .string p.img, .int .i64 p.size] 62)).alloc (.cells #[.string q.id, .int .i64 q.prio, .bool q.crit, .int .i64 q.r0, .int .i64 q.r1, .int .i64 q.r2, .int .i64 q.l0, .int .i64 q.l1, .int .i64 q.l2, .string q.img, .int .i64 q.size] 62)).alloc (.cells #[.string z.id, .int .i64 z.prio, .bool z.crit, .int .i64 z.r0, .int .i64 z.r1, .int .i64 z.r2, .int .i64 z.l0, .int .i64 z.l1, .int .i64 z.l2, .string z.img, .int .i64 z.size] 62)).alloc (.cells #[.int .i64 r.t, .float .f64 r.x, .float .f64 r.y, .float .f64 r.z, .slice a L.length cap] 26)).cell? ⟨w.heap.size, 1, none⟩ = some (.int .i64 p.prio) := by first | (simp; done) | (rw [World.cell?_alloc_at _ _ _ _ (by simp)]; rfl) | (rw [World.cell?_alloc_past _ _ _ (by simp <;> omega), World.cell?_alloc_at _ _ _ _ (by simp)]; rfl) | (rw [World.cell?_alloc_past _ _ _ (by simp <;> omega), World.cell?_alloc_past _ _ _ (by simp <;> omega), World.cell?_alloc_at _ _ _ _ (by simp)]; rfl) | (rw [World.cell?_alloc_past _ _ _ (by simp <;> omega), World.cell?_alloc_past _ _ _ (by simp <;> omega), World.cell?_alloc_past _ _ _ (by simp <;> omega), World.cell?_alloc_at _ _ _ _ (by simp)]; rfl)
  have pp2 : ((((w.alloc (.cells #[.string p.id, .int .i64 p.prio, .bool p.crit, .int .i64 p.r0, .int .i64 p.r1, .int .i64 p.r2, .int .i64 p.l0, .int .i64 p.l1, .int .i64 p.l2, .string p.img, .int .i64 p.size] 62)).alloc (.cells #[.string q.id, .int .i64 q.prio, .bool q.crit, .int .i64 q.r0, .int .i64 q.r1, .int .i64 q.r2, .int .i64 q.l0, .int .i64 q.l1, .int .i64 q.l2, .string q.img, .int .i64 q.size] 62)).alloc (.cells #[.string z.id, .int .i64 z.prio, .bool z.crit, .int .i64 z.r0, .int .i64 z.r1, .int .i64 z.r2, .int .i64 z.l0, .int .i64 z.l1, .int .i64 z.l2, .string z.img, .int .i64 z.size] 62)).alloc (.cells #[.int .i64 r.t, .float .f64 r.x, .float .f64 r.y, .float .f64 r.z, .slice a L.length cap] 26)).cell? ⟨w.heap.size, 2, none⟩ = some (.bool p.crit) := by first | (simp; done) | (rw [World.cell?_alloc_at _ _ _ _ (by simp)]; rfl) | (rw [World.cell?_alloc_past _ _ _ (by simp <;> omega), World.cell?_alloc_at _ _ _ _ (by simp)]; rfl) | (rw [World.cell?_alloc_past _ _ _ (by simp <;> omega), World.cell?_alloc_past _ _ _ (by simp <;> omega), World.cell?_alloc_at _ _ _ _ (by simp)]; rfl) | (rw [World.cell?_alloc_past _ _ _ (by simp <;> omega), World.cell?_alloc_past _ _ _ (by simp <;> omega), World.cell?_alloc_past _ _ _ (by simp <;> omega), World.cell?_alloc_at _ _ _ _ (by simp)]; rfl)
  have pp3 : ((((w.alloc (.cells #[.string p.id, .int .i64 p.prio, .bool p.crit, .int .i64 p.r0, .int .i64 p.r1, .int .i64 p.r2, .int .i64 p.l0, .int .i64 p.l1, .int .i64 p.l2, .string p.img, .int .i64 p.size] 62)).alloc (.cells #[.string q.id, .int .i64 q.prio, .bool q.crit, .int .i64 q.r0, .int .i64 q.r1, .int .i64 q.r2, .int .i64 q.l0, .int .i64 q.l1, .int .i64 q.l2, .string q.img, .int .i64 q.size] 62)).alloc (.cells #[.string z.id, .int .i64 z.prio, .bool z.crit, .int .i64 z.r0, .int .i64 z.r1, .int .i64 z.r2, .int .i64 z.l0, .int .i64 z.l1, .int .i64 z.l2, .string z.img, .int .i64 z.size] 62)).alloc (.cells #[.int .i64 r.t, .float .f64 r.x, .float .f64 r.y, .float .f64 r.z, .slice a L.length cap] 26)).cell? ⟨w.heap.size, 3, none⟩ = some (.int .i64 p.r0) := by first | (simp; done) | (rw [World.cell?_alloc_at _ _ _ _ (by simp)]; rfl) | (rw [World.cell?_alloc_past _ _ _ (by simp <;> omega), World.cell?_alloc_at _ _ _ _ (by simp)]; rfl) | (rw [World.cell?_alloc_past _ _ _ (by simp <;> omega), World.cell?_alloc_past _ _ _ (by simp <;> omega), World.cell?_alloc_at _ _ _ _ (by simp)]; rfl) | (rw [World.cell?_alloc_past _ _ _ (by simp <;> omega), World.cell?_alloc_past _ _ _ (by simp <;> omega), World.cell?_alloc_past _ _ _ (by simp <;> omega), World.cell?_alloc_at _ _ _ _ (by simp)]; rfl)
  have pp4 : ((((w.alloc (.cells #[.string p.id, .int .i64 p.prio, .bool p.crit, .int .i64 p.r0, .int .i64 p.r1, .int .i64 p.r2, .int .i64 p.l0, .int .i64 p.l1, .int .i64 p.l2, .string p.img, .int .i64 p.size] 62)).alloc (.cells #[.string q.id, .int .i64 q.prio, .bool q.crit, .int .i64 q.r0, .int .i64 q.r1, .int .i64 q.r2, .int .i64 q.l0, .int .i64 q.l1, .int .i64 q.l2, .string q.img, .int .i64 q.size] 62)).alloc (.cells #[.string z.id, .int .i64 z.prio, .bool z.crit, .int .i64 z.r0, .int .i64 z.r1, .int .i64 z.r2, .int .i64 z.l0, .int .i64 z.l1, .int .i64 z.l2, .string z.img, .int .i64 z.size] 62)).alloc (.cells #[.int .i64 r.t, .float .f64 r.x, .float .f64 r.y, .float .f64 r.z, .slice a L.length cap] 26)).cell? ⟨w.heap.size, 4, none⟩ = some (.int .i64 p.r1) := by first | (simp; done) | (rw [World.cell?_alloc_at _ _ _ _ (by simp)]; rfl) | (rw [World.cell?_alloc_past _ _ _ (by simp <;> omega), World.cell?_alloc_at _ _ _ _ (by simp)]; rfl) | (rw [World.cell?_alloc_past _ _ _ (by simp <;> omega), World.cell?_alloc_past _ _ _ (by simp <;> omega), World.cell?_alloc_at _ _ _ _ (by simp)]; rfl) | (rw [World.cell?_alloc_past _ _ _ (by simp <;> omega), World.cell?_alloc_past _ _ _ (by simp <;> omega), World.cell?_alloc_past _ _ _ (by simp <;> omega), World.cell?_alloc_at _ _ _ _ (by simp)]; rfl)
  have pp5 : ((((w.alloc (.cells #[.string p.id, .int .i64 p.prio, .bool p.crit, .int .i64 p.r0, .int .i64 p.r1, .int .i64 p.r2, .int .i64 p.l0, .int .i64 p.l1, .int .i64 p.l2, .string p.img, .int .i64 p.size] 62)).alloc (.cells #[.string q.id, .int .i64 q.prio, .bool q.crit, .int .i64 q.r0, .int .i64 q.r1, .int .i64 q.r2, .int .i64 q.l0, .int .i64 q.l1, .int .i64 q.l2, .string q.img, .int .i64 q.size] 62)).alloc (.cells #[.string z.id, .int .i64 z.prio, .bool z.crit, .int .i64 z.r0, .int .i64 z.r1, .int .i64 z.r2, .int .i64 z.l0, .int .i64 z.l1, .int .i64 z.l2, .string z.img, .int .i64 z.size] 62)).alloc (.cells #[.int .i64 r.t, .float .f64 r.x, .float .f64 r.y, .float .f64 r.z, .slice a L.length cap] 26)).cell? ⟨w.heap.size, 5, none⟩ = some (.int .i64 p.r2) := by first | (simp; done) | (rw [World.cell?_alloc_at _ _ _ _ (by simp)]; rfl) | (rw [World.cell?_alloc_past _ _ _ (by simp <;> omega), World.cell?_alloc_at _ _ _ _ (by simp)]; rfl) | (rw [World.cell?_alloc_past _ _ _ (by simp <;> omega), World.cell?_alloc_past _ _ _ (by simp <;> omega), World.cell?_alloc_at _ _ _ _ (by simp)]; rfl) | (rw [World.cell?_alloc_past _ _ _ (by simp <;> omega), World.cell?_alloc_past _ _ _ (by simp <;> omega), World.cell?_alloc_past _ _ _ (by simp <;> omega), World.cell?_alloc_at _ _ _ _ (by simp)]; rfl)
  have pp6 : ((((w.alloc (.cells #[.string p.id, .int .i64 p.prio, .bool p.crit, .int .i64 p.r0, .int .i64 p.r1, .int .i64 p.r2, .int .i64 p.l0, .int .i64 p.l1, .int .i64 p.l2, .string p.img, .int .i64 p.size] 62)).alloc (.cells #[.string q.id, .int .i64 q.prio, .bool q.crit, .int .i64 q.r0, .int .i64 q.r1, .int .i64 q.r2, .int .i64 q.l0, .int .i64 q.l1, .int .i64 q.l2, .string q.img, .int .i64 q.size] 62)).alloc (.cells #[.string z.id, .int .i64 z.prio, .bool z.crit, .int .i64 z.r0, .int .i64 z.r1, .int .i64 z.r2, .int .i64 z.l0, .int .i64 z.l1, .int .i64 z.l2, .string z.img, .int .i64 z.size] 62)).alloc (.cells #[.int .i64 r.t, .float .f64 r.x, .float .f64 r.y, .float .f64 r.z, .slice a L.length cap] 26)).cell? ⟨w.heap.size, 6, none⟩ = some (.int .i64 p.l0) := by first | (simp; done) | (rw [World.cell?_alloc_at _ _ _ _ (by simp)]; rfl) | (rw [World.cell?_alloc_past _ _ _ (by simp <;> omega), World.cell?_alloc_at _ _ _ _ (by simp)]; rfl) | (rw [World.cell?_alloc_past _ _ _ (by simp <;> omega), World.cell?_alloc_past _ _ _ (by simp <;> omega), World.cell?_alloc_at _ _ _ _ (by simp)]; rfl) | (rw [World.cell?_alloc_past _ _ _ (by simp <;> omega), World.cell?_alloc_past _ _ _ (by simp <;> omega), World.cell?_alloc_past _ _ _ (by simp <;> omega), World.cell?_alloc_at _ _ _ _ (by simp)]; rfl)
  have pp7 : ((((w.alloc (.cells #[.string p.id, .int .i64 p.prio, .bool p.crit, .int .i64 p.r0, .int .i64 p.r1, .int .i64 p.r2, .int .i64 p.l0, .int .i64 p.l1, .int .i64 p.l2, .string p.img, .int .i64 p.size] 62)).alloc (.cells #[.string q.id, .int .i64 q.prio, .bool q.crit, .int .i64 q.r0, .int .i64 q.r1, .int .i64 q.r2, .int .i64 q.l0, .int .i64 q.l1, .int .i64 q.l2, .string q.img, .int .i64 q.size] 62)).alloc (.cells #[.string z.id, .int .i64 z.prio, .bool z.crit, .int .i64 z.r0, .int .i64 z.r1, .int .i64 z.r2, .int .i64 z.l0, .int .i64 z.l1, .int .i64 z.l2, .string z.img, .int .i64 z.size] 62)).alloc (.cells #[.int .i64 r.t, .float .f64 r.x, .float .f64 r.y, .float .f64 r.z, .slice a L.length cap] 26)).cell? ⟨w.heap.size, 7, none⟩ = some (.int .i64 p.l1) := by first | (simp; done) | (rw [World.cell?_alloc_at _ _ _ _ (by simp)]; rfl) | (rw [World.cell?_alloc_past _ _ _ (by simp <;> omega), World.cell?_alloc_at _ _ _ _ (by simp)]; rfl) | (rw [World.cell?_alloc_past _ _ _ (by simp <;> omega), World.cell?_alloc_past _ _ _ (by simp <;> omega), World.cell?_alloc_at _ _ _ _ (by simp)]; rfl) | (rw [World.cell?_alloc_past _ _ _ (by simp <;> omega), World.cell?_alloc_past _ _ _ (by simp <;> omega), World.cell?_alloc_past _ _ _ (by simp <;> omega), World.cell?_alloc_at _ _ _ _ (by simp)]; rfl)
  have pp8 : ((((w.alloc (.cells #[.string p.id, .int .i64 p.prio, .bool p.crit, .int .i64 p.r0, .int .i64 p.r1, .int .i64 p.r2, .int .i64 p.l0, .int .i64 p.l1, .int .i64 p.l2, .string p.img, .int .i64 p.size] 62)).alloc (.cells #[.string q.id, .int .i64 q.prio, .bool q.crit, .int .i64 q.r0, .int .i64 q.r1, .int .i64 q.r2, .int .i64 q.l0, .int .i64 q.l1, .int .i64 q.l2, .string q.img, .int .i64 q.size] 62)).alloc (.cells #[.string z.id, .int .i64 z.prio, .bool z.crit, .int .i64 z.r0, .int .i64 z.r1, .int .i64 z.r2, .int .i64 z.l0, .int .i64 z.l1, .int .i64 z.l2, .string z.img, .int .i64 z.size] 62)).alloc (.cells #[.int .i64 r.t, .float .f64 r.x, .float .f64 r.y, .float .f64 r.z, .slice a L.length cap] 26)).cell? ⟨w.heap.size, 8, none⟩ = some (.int .i64 p.l2) := by first | (simp; done) | (rw [World.cell?_alloc_at _ _ _ _ (by simp)]; rfl) | (rw [World.cell?_alloc_past _ _ _ (by simp <;> omega), World.cell?_alloc_at _ _ _ _ (by simp)]; rfl) | (rw [World.cell?_alloc_past _ _ _ (by simp <;> omega), World.cell?_alloc_past _ _ _ (by simp <;> omega), World.cell?_alloc_at _ _ _ _ (by simp)]; rfl) | (rw [World.cell?_alloc_past _ _ _ (by simp <;> omega), World.cell?_alloc_past _ _ _ (by simp <;> omega), World.cell?_alloc_past _ _ _ (by simp <;> omega), World.cell?_alloc_at _ _ _ _ (by simp)]; rfl)
  have pp9 : ((((w.alloc (.cells #[.string p.id, .int .i64 p.prio, .bool p.crit, .int .i64 p.r0, .int .i64 p.r1, .int .i64 p.r2, .int .i64 p.l0, .int .i64 p.l1, .int .i64 p.l2, .string p.img, .int .i64 p.size] 62)).alloc (.cells #[.string q.id, .int .i64 q.prio, .bool q.crit, .int .i64 q.r0, .int .i64 q.r1, .int .i64 q.r2, .int .i64 q.l0, .int .i64 q.l1, .int .i64 q.l2, .string q.img, .int .i64 q.size] 62)).alloc (.cells #[.string z.id, .int .i64 z.prio, .bool z.crit, .int .i64 z.r0, .int .i64 z.r1, .int .i64 z.r2, .int .i64 z.l0, .int .i64 z.l1, .int .i64 z.l2, .string z.img, .int .i64 z.size] 62)).alloc (.cells #[.int .i64 r.t, .float .f64 r.x, .float .f64 r.y, .float .f64 r.z, .slice a L.length cap] 26)).cell? ⟨w.heap.size, 9, none⟩ = some (.string p.img) := by first | (simp; done) | (rw [World.cell?_alloc_at _ _ _ _ (by simp)]; rfl) | (rw [World.cell?_alloc_past _ _ _ (by simp <;> omega), World.cell?_alloc_at _ _ _ _ (by simp)]; rfl) | (rw [World.cell?_alloc_past _ _ _ (by simp <;> omega), World.cell?_alloc_past _ _ _ (by simp <;> omega), World.cell?_alloc_at _ _ _ _ (by simp)]; rfl) | (rw [World.cell?_alloc_past _ _ _ (by simp <;> omega), World.cell?_alloc_past _ _ _ (by simp <;> omega), World.cell?_alloc_past _ _ _ (by simp <;> omega), World.cell?_alloc_at _ _ _ _ (by simp)]; rfl)
  have pp10 : ((((w.alloc (.cells #[.string p.id, .int .i64 p.prio, .bool p.crit, .int .i64 p.r0, .int .i64 p.r1, .int .i64 p.r2, .int .i64 p.l0, .int .i64 p.l1, .int .i64 p.l2, .string p.img, .int .i64 p.size] 62)).alloc (.cells #[.string q.id, .int .i64 q.prio, .bool q.crit, .int .i64 q.r0, .int .i64 q.r1, .int .i64 q.r2, .int .i64 q.l0, .int .i64 q.l1, .int .i64 q.l2, .string q.img, .int .i64 q.size] 62)).alloc (.cells #[.string z.id, .int .i64 z.prio, .bool z.crit, .int .i64 z.r0, .int .i64 z.r1, .int .i64 z.r2, .int .i64 z.l0, .int .i64 z.l1, .int .i64 z.l2, .string z.img, .int .i64 z.size] 62)).alloc (.cells #[.int .i64 r.t, .float .f64 r.x, .float .f64 r.y, .float .f64 r.z, .slice a L.length cap] 26)).cell? ⟨w.heap.size, 10, none⟩ = some (.int .i64 p.size) := by first | (simp; done) | (rw [World.cell?_alloc_at _ _ _ _ (by simp)]; rfl) | (rw [World.cell?_alloc_past _ _ _ (by simp <;> omega), World.cell?_alloc_at _ _ _ _ (by simp)]; rfl) | (rw [World.cell?_alloc_past _ _ _ (by simp <;> omega), World.cell?_alloc_past _ _ _ (by simp <;> omega), World.cell?_alloc_at _ _ _ _ (by simp)]; rfl) | (rw [World.cell?_alloc_past _ _ _ (by simp <;> omega), World.cell?_alloc_past _ _ _ (by simp <;> omega), World.cell?_alloc_past _ _ _ (by simp <;> omega), World.cell?_alloc_at _ _ _ _ (by simp)]; rfl)
  have qq0 : ((((w.alloc (.cells #[.string p.id, .int .i64 p.prio, .bool p.crit, .int .i64 p.r0, .int .i64 p.r1, .int .i64 p.r2, .int .i64 p.l0, .int .i64 p.l1, .int .i64 p.l2, .string p.img, .int .i64 p.size] 62)).alloc (.cells #[.string q.id, .int .i64 q.prio, .bool q.crit, .int .i64 q.r0, .int .i64 q.r1, .int .i64 q.r2, .int .i64 q.l0, .int .i64 q.l1, .int .i64 q.l2, .string q.img, .int .i64 q.size] 62)).alloc (.cells #[.string z.id, .int .i64 z.prio, .bool z.crit, .int .i64 z.r0, .int .i64 z.r1, .int .i64 z.r2, .int .i64 z.l0, .int .i64 z.l1, .int .i64 z.l2, .string z.img, .int .i64 z.size] 62)).alloc (.cells #[.int .i64 r.t, .float .f64 r.x, .float .f64 r.y, .float .f64 r.z, .slice a L.length cap] 26)).cell? ⟨w.heap.size + 1, 0, none⟩ = some (.string q.id) := by first | (simp; done) | (rw [World.cell?_alloc_at _ _ _ _ (by simp)]; rfl) | (rw [World.cell?_alloc_past _ _ _ (by simp <;> omega), World.cell?_alloc_at _ _ _ _ (by simp)]; rfl) | (rw [World.cell?_alloc_past _ _ _ (by simp <;> omega), World.cell?_alloc_past _ _ _ (by simp <;> omega), World.cell?_alloc_at _ _ _ _ (by simp)]; rfl) | (rw [World.cell?_alloc_past _ _ _ (by simp <;> omega), World.cell?_alloc_past _ _ _ (by simp <;> omega), World.cell?_alloc_past _ _ _ (by simp <;> omega), World.cell?_alloc_at _ _ _ _ (by simp)]; rfl)
  have qq1 : ((((w.alloc (.cells #[.string p.id, .int .i64 p.prio, .bool p.crit, .int .i64 p.r0, .int .i64 p.r1, .int .i64 p.r2, .int .i64 p.l0, .int .i64 p.l1, .int .i64 p.l2, .string p.img, .int .i64 p.size] 62)).alloc (.cells #[.string q.id, .int .i64 q.prio, .bool q.crit, .int .i64 q.r0, .int .i64 q.r1, .int .i64 q.r2, .int .i64 q.l0, .int .i64 q.l1, .int .i64 q.l2, .string q.img, .int .i64 q.size] 62)).alloc (.cells #[.string z.id, .int .i64 z.prio, .bool z.crit, .int .i64 z.r0, .int .i64 z.r1, .int .i64 z.r2, .int .i64 z.l0, .int .i64 z.l1, .int .i64 z.l2, .string z.img, .int .i64 z.size] 62)).alloc (.cells #[.int .i64 r.t, .float .f64 r.x, .float .f64 r.y, .float .f64 r.z, .slice a L.length cap] 26)).cell? ⟨w.heap.size + 1, 1, none⟩ = some (.int .i64 q.prio) := by first | (simp; done) | (rw [World.cell?_alloc_at _ _ _ _ (by simp)]; rfl) | (rw [World.cell?_alloc_past _ _ _ (by simp <;> omega), World.cell?_alloc_at _ _ _ _ (by simp)]; rfl) | (rw [World.cell?_alloc_past _ _ _ (by simp <;> omega), World.cell?_alloc_past _ _ _ (by simp <;> omega), World.cell?_alloc_at _ _ _ _ (by simp)]; rfl) | (rw [World.cell?_alloc_past _ _ _ (by simp <;> omega), World.cell?_alloc_past _ _ _ (by simp <;> omega), World.cell?_alloc_past _ _ _ (by simp <;> omega), World.cell?_alloc_at _ _ _ _ (by simp)]; rfl)
  have qq2 : ((((w.alloc (.cells #[.string p.id, .int .i64 p.prio, .bool p.crit, .int .i64 p.r0, .int .i64 p.r1, .int .i64 p.r2, .int .i64 p.l0, .int .i64 p.l1, .int .i64 p.l2, .string p.img, .int .i64 p.size] 62)).alloc (.cells #[.string q.id, .int .i64 q.prio, .bool q.crit, .int .i64 q.r0, .int .i64 q.r1, .int .i64 q.r2, .int .i64 q.l0, .int .i64 q.l1, .int .i64 q.l2, .string q.img, .int .i64 q.size] 62)).alloc (.cells #[.string z.id, .int .i64 z.prio, .bool z.crit, .int .i64 z.r0, .int .i64 z.r1, .int .i64 z.r2, .int .i64 z.l0, .int .i64 z.l1, .int .i64 z.l2, .string z.img, .int .i64 z.size] 62)).alloc (.cells #[.int .i64 r.t, .float .f64 r.x, .float .f64 r.y, .float .f64 r.z, .slice a L.length cap] 26)).cell? ⟨w.heap.size + 1, 2, none⟩ = some (.bool q.crit) := by first | (simp; done) | (rw [World.cell?_alloc_at _ _ _ _ (by simp)]; rfl) | (rw [World.cell?_alloc_past _ _ _ (by simp <;> omega), World.cell?_alloc_at _ _ _ _ (by simp)]; rfl) | (rw [World.cell?_alloc_past _ _ _ (by simp <;> omega), World.cell?_alloc_past _ _ _ (by simp <;> omega), World.cell?_alloc_at _ _ _ _ (by simp)]; rfl) | (rw [World.cell?_alloc_past _ _ _ (by simp <;> omega), World.cell?_alloc_past _ _ _ (by simp <;> omega), World.cell?_alloc_past _ _ _ (by simp <;> omega), World.cell?_alloc_at _ _ _ _ (by simp)]; rfl)
  have qq3 : ((((w.alloc (.cells #[.string p.id, .int .i64 p.prio, .bool p.crit, .int .i64 p.r0, .int .i64 p.r1, .int .i64 p.r2, .int .i64 p.l0, .int .i64 p.l1, .int .i64 p.l2, .string p.img, .int .i64 p.size] 62)).alloc (.cells #[.string q.id, .int .i64 q.prio, .bool q.crit, .int .i64 q.r0, .int .i64 q.r1, .int .i64 q.r2, .int .i64 q.l0, .int .i64 q.l1, .int .i64 q.l2, .string q.img, .int .i64 q.size] 62)).alloc (.cells #[.string z.id, .int .i64 z.prio, .bool z.crit, .int .i64 z.r0, .int .i64 z.r1, .int .i64 z.r2, .int .i64 z.l0, .int .i64 z.l1, .int .i64 z.l2, .string z.img, .int .i64 z.size] 62)).alloc (.cells #[.int .i64 r.t, .float .f64 r.x, .float .f64 r.y, .float .f64 r.z, .slice a L.length cap] 26)).cell? ⟨w.heap.size + 1, 3, none⟩ = some (.int .i64 q.r0) := by first | (simp; done) | (rw [World.cell?_alloc_at _ _ _ _ (by simp)]; rfl) | (rw [World.cell?_alloc_past _ _ _ (by simp <;> omega), World.cell?_alloc_at _ _ _ _ (by simp)]; rfl) | (rw [World.cell?_alloc_past _ _ _ (by simp <;> omega), World.cell?_alloc_past _ _ _ (by simp <;> omega), World.cell?_alloc_at _ _ _ _ (by simp)]; rfl) | (rw [World.cell?_alloc_past _ _ _ (by simp <;> omega), World.cell?_alloc_past _ _ _ (by simp <;> omega), World.cell?_alloc_past _ _ _ (by simp <;> omega), World.cell?_alloc_at _ _ _ _ (by simp)]; rfl)
  have qq4 : ((((w.alloc (.cells #[.string p.id, .int .i64 p.prio, .bool p.crit, .int .i64 p.r0, .int .i64 p.r1, .int .i64 p.r2, .int .i64 p.l0, .int .i64 p.l1, .int .i64 p.l2, .string p.img, .int .i64 p.size] 62)).alloc (.cells #[.string q.id, .int .i64 q.prio, .bool q.crit, .int .i64 q.r0, .int .i64 q.r1, .int .i64 q.r2, .int .i64 q.l0, .int .i64 q.l1, .int .i64 q.l2, .string q.img, .int .i64 q.size] 62)).alloc (.cells #[.string z.id, .int .i64 z.prio, .bool z.crit, .int .i64 z.r0, .int .i64 z.r1, .int .i64 z.r2, .int .i64 z.l0, .int .i64 z.l1, .int .i64 z.l2, .string z.img, .int .i64 z.size] 62)).alloc (.cells #[.int .i64 r.t, .float .f64 r.x, .float .f64 r.y, .float .f64 r.z, .slice a L.length cap] 26)).cell? ⟨w.heap.size + 1, 4, none⟩ = some (.int .i64 q.r1) := by first | (simp; done) | (rw [World.cell?_alloc_at _ _ _ _ (by simp)]; rfl) | (rw [World.cell?_alloc_past _ _ _ (by simp <;> omega), World.cell?_alloc_at _ _ _ _ (by simp)]; rfl) | (rw [World.cell?_alloc_past _ _ _ (by simp <;> omega), World.cell?_alloc_past _ _ _ (by simp <;> omega), World.cell?_alloc_at _ _ _ _ (by simp)]; rfl) | (rw [World.cell?_alloc_past _ _ _ (by simp <;> omega), World.cell?_alloc_past _ _ _ (by simp <;> omega), World.cell?_alloc_past _ _ _ (by simp <;> omega), World.cell?_alloc_at _ _ _ _ (by simp)]; rfl)
  have qq5 : ((((w.alloc (.cells #[.string p.id, .int .i64 p.prio, .bool p.crit, .int .i64 p.r0, .int .i64 p.r1, .int .i64 p.r2, .int .i64 p.l0, .int .i64 p.l1, .int .i64 p.l2, .string p.img, .int .i64 p.size] 62)).alloc (.cells #[.string q.id, .int .i64 q.prio, .bool q.crit, .int .i64 q.r0, .int .i64 q.r1, .int .i64 q.r2, .int .i64 q.l0, .int .i64 q.l1, .int .i64 q.l2, .string q.img, .int .i64 q.size] 62)).alloc (.cells #[.string z.id, .int .i64 z.prio, .bool z.crit, .int .i64 z.r0, .int .i64 z.r1, .int .i64 z.r2, .int .i64 z.l0, .int .i64 z.l1, .int .i64 z.l2, .string z.img, .int .i64 z.size] 62)).alloc (.cells #[.int .i64 r.t, .float .f64 r.x, .float .f64 r.y, .float .f64 r.z, .slice a L.length cap] 26)).cell? ⟨w.heap.size + 1, 5, none⟩ = some (.int .i64 q.r2) := by first | (simp; done) | (rw [World.cell?_alloc_at _ _ _ _ (by simp)]; rfl) | (rw [World.cell?_alloc_past _ _ _ (by simp <;> omega), World.cell?_alloc_at _ _ _ _ (by simp)]; rfl) | (rw [World.cell?_alloc_past _ _ _ (by simp <;> omega), World.cell?_alloc_past _ _ _ (by simp <;> omega), World.cell?_alloc_at _ _ _ _ (by simp)]; rfl) | (rw [World.cell?_alloc_past _ _ _ (by simp <;> omega), World.cell?_alloc_past _ _ _ (by simp <;> omega), World.cell?_alloc_past _ _ _ (by simp <;> omega), World.cell?_alloc_at _ _ _ _ (by simp)]; rfl)
  have qq6 : ((((w.alloc (.cells #[.string p.id, .int .i64 p.prio, .bool p.crit, .int .i64 p.r0, .int .i64 p.r1, .int .i64 p.r2, .int .i64 p.l0, .int .i64 p.l1, .int .i64 p.l2, .string p.img, .int .i64 p.size] 62)).alloc (.cells #[.string q.id, .int .i64 q.prio, .bool q.crit, .int .i64 q.r0, .int .i64 q.r1, .int .i64 q.r2, .int .i64 q.l0, .int .i64 q.l1, .int .i64 q.l2, .string q.img, .int .i64 q.size] 62)).alloc (.cells #[.string z.id, .int .i64 z.prio, .bool z.crit, .int .i64 z.r0, .int .i64 z.r1, .int .i64 z.r2, .int .i64 z.l0, .int .i64 z.l1, .int .i64 z.l2, .string z.img, .int .i64 z.size] 62)).alloc (.cells #[.int .i64 r.t, .float .f64 r.x, .float .f64 r.y, .float .f64 r.z, .slice a L.length cap] 26)).cell? ⟨w.heap.size + 1, 6, none⟩ = some (.int .i64 q.l0) := by first | (simp; done) | (rw [World.cell?_alloc_at _ _ _ _ (by simp)]; rfl) | (rw [World.cell?_alloc_past _ _ _ (by simp <;> omega), World.cell?_alloc_at _ _ _ _ (by simp)]; rfl) | (rw [World.cell?_alloc_past _ _ _ (by simp <;> omega), World.cell?_alloc_past _ _ _ (by simp <;> omega), World.cell?_alloc_at _ _ _ _ (by simp)]; rfl) | (rw [World.cell?_alloc_past _ _ _ (by simp <;> omega), World.cell?_alloc_past _ _ _ (by simp <;> omega), World.cell?_alloc_past _ _ _ (by simp <;> omega), World.cell?_alloc_at _ _ _ _ (by simp)]; rfl)
  have qq7 : ((((w.alloc (.cells #[.string p.id, .int .i64 p.prio, .bool p.crit, .int .i64 p.r0, .int .i64 p.r1, .int .i64 p.r2, .int .i64 p.l0, .int .i64 p.l1, .int .i64 p.l2, .string p.img, .int .i64 p.size] 62)).alloc (.cells #[.string q.id, .int .i64 q.prio, .bool q.crit, .int .i64 q.r0, .int .i64 q.r1, .int .i64 q.r2, .int .i64 q.l0, .int .i64 q.l1, .int .i64 q.l2, .string q.img, .int .i64 q.size] 62)).alloc (.cells #[.string z.id, .int .i64 z.prio, .bool z.crit, .int .i64 z.r0, .int .i64 z.r1, .int .i64 z.r2, .int .i64 z.l0, .int .i64 z.l1, .int .i64 z.l2, .string z.img, .int .i64 z.size] 62)).alloc (.cells #[.int .i64 r.t, .float .f64 r.x, .float .f64 r.y, .float .f64 r.z, .slice a L.length cap] 26)).cell? ⟨w.heap.size + 1, 7, none⟩ = some (.int .i64 q.l1) := by first | (simp; done) | (rw [World.cell?_alloc_at _ _ _ _ (by simp)]; rfl) | (rw [World.cell?_alloc_past _ _ _ (by simp <;> omega), World.cell?_alloc_at _ _ _ _ (by simp)]; rfl) | (rw [World.cell?_alloc_past _ _ _ (by simp <;> omega), World.cell?_alloc_past _ _ _ (by simp <;> omega), World.cell?_alloc_at _ _ _ _ (by simp)]; rfl) | (rw [World.cell?_alloc_past _ _ _ (by simp <;> omega), World.cell?_alloc_past _ _ _ (by simp <;> omega), World.cell?_alloc_past _ _ _ (by simp <;> omega), World.cell?_alloc_at _ _ _ _ (by simp)]; rfl)
  have qq8 : ((((w.alloc (.cells #[.string p.id, .int .i64 p.prio, .bool p.crit, .int .i64 p.r0, .int .i64 p.r1, .int .i64 p.r2, .int .i64 p.l0, .int .i64 p.l1, .int .i64 p.l2, .string p.img, .int .i64 p.size] 62)).alloc (.cells #[.string q.id, .int .i64 q.prio, .bool q.crit, .int .i64 q.r0, .int .i64 q.r1, .int .i64 q.r2, .int .i64 q.l0, .int .i64 q.l1, .int .i64 q.l2, .string q.img, .int .i64 q.size] 62)).alloc (.cells #[.string z.id, .int .i64 z.prio, .bool z.crit, .int .i64 z.r0, .int .i64 z.r1, .int .i64 z.r2, .int .i64 z.l0, .int .i64 z.l1, .int .i64 z.l2, .string z.img, .int .i64 z.size] 62)).alloc (.cells #[.int .i64 r.t, .float .f64 r.x, .float .f64 r.y, .float .f64 r.z, .slice a L.length cap] 26)).cell? ⟨w.heap.size + 1, 8, none⟩ = some (.int .i64 q.l2) := by first | (simp; done) | (rw [World.cell?_alloc_at _ _ _ _ (by simp)]; rfl) | (rw [World.cell?_alloc_past _ _ _ (by simp <;> omega), World.cell?_alloc_at _ _ _ _ (by simp)]; rfl) | (rw [World.cell?_alloc_past _ _ _ (by simp <;> omega), World.cell?_alloc_past _ _ _ (by simp <;> omega), World.cell?_alloc_at _ _ _ _ (by simp)]; rfl) | (rw [World.cell?_alloc_past _ _ _ (by simp <;> omega), World.cell?_alloc_past _ _ _ (by simp <;> omega), World.cell?_alloc_past _ _ _ (by simp <;> omega), World.cell?_alloc_at _ _ _ _ (by simp)]; rfl)
  have qq9 : ((((w.alloc (.cells #[.string p.id, .int .i64 p.prio, .bool p.crit, .int .i64 p.r0, .int .i64 p.r1, .int .i64 p.r2, .int .i64 p.l0, .int .i64 p.l1, .int .i64 p.l2, .string p.img, .int .i64 p.size] 62)).alloc (.cells #[.string q.id, .int .i64 q.prio, .bool q.crit, .int .i64 q.r0, .int .i64 q.r1, .int .i64 q.r2, .int .i64 q.l0, .int .i64 q.l1, .int .i64 q.l2, .string q.img, .int .i64 q.size] 62)).alloc (.cells #[.string z.id, .int .i64 z.prio, .bool z.crit, .int .i64 z.r0, .int .i64 z.r1, .int .i64 z.r2, .int .i64 z.l0, .int .i64 z.l1, .int .i64 z.l2, .string z.img, .int .i64 z.size] 62)).alloc (.cells #[.int .i64 r.t, .float .f64 r.x, .float .f64 r.y, .float .f64 r.z, .slice a L.length cap] 26)).cell? ⟨w.heap.size + 1, 9, none⟩ = some (.string q.img) := by first | (simp; done) | (rw [World.cell?_alloc_at _ _ _ _ (by simp)]; rfl) | (rw [World.cell?_alloc_past _ _ _ (by simp <;> omega), World.cell?_alloc_at _ _ _ _ (by simp)]; rfl) | (rw [World.cell?_alloc_past _ _ _ (by simp <;> omega), World.cell?_alloc_past _ _ _ (by simp <;> omega), World.cell?_alloc_at _ _ _ _ (by simp)]; rfl) | (rw [World.cell?_alloc_past _ _ _ (by simp <;> omega), World.cell?_alloc_past _ _ _ (by simp <;> omega), World.cell?_alloc_past _ _ _ (by simp <;> omega), World.cell?_alloc_at _ _ _ _ (by simp)]; rfl)
  have qq10 : ((((w.alloc (.cells #[.string p.id, .int .i64 p.prio, .bool p.crit, .int .i64 p.r0, .int .i64 p.r1, .int .i64 p.r2, .int .i64 p.l0, .int .i64 p.l1, .int .i64 p.l2, .string p.img, .int .i64 p.size] 62)).alloc (.cells #[.string q.id, .int .i64 q.prio, .bool q.crit, .int .i64 q.r0, .int .i64 q.r1, .int .i64 q.r2, .int .i64 q.l0, .int .i64 q.l1, .int .i64 q.l2, .string q.img, .int .i64 q.size] 62)).alloc (.cells #[.string z.id, .int .i64 z.prio, .bool z.crit, .int .i64 z.r0, .int .i64 z.r1, .int .i64 z.r2, .int .i64 z.l0, .int .i64 z.l1, .int .i64 z.l2, .string z.img, .int .i64 z.size] 62)).alloc (.cells #[.int .i64 r.t, .float .f64 r.x, .float .f64 r.y, .float .f64 r.z, .slice a L.length cap] 26)).cell? ⟨w.heap.size + 1, 10, none⟩ = some (.int .i64 q.size) := by first | (simp; done) | (rw [World.cell?_alloc_at _ _ _ _ (by simp)]; rfl) | (rw [World.cell?_alloc_past _ _ _ (by simp <;> omega), World.cell?_alloc_at _ _ _ _ (by simp)]; rfl) | (rw [World.cell?_alloc_past _ _ _ (by simp <;> omega), World.cell?_alloc_past _ _ _ (by simp <;> omega), World.cell?_alloc_at _ _ _ _ (by simp)]; rfl) | (rw [World.cell?_alloc_past _ _ _ (by simp <;> omega), World.cell?_alloc_past _ _ _ (by simp <;> omega), World.cell?_alloc_past _ _ _ (by simp <;> omega), World.cell?_alloc_at _ _ _ _ (by simp)]; rfl)
  have zz0 : ((((w.alloc (.cells #[.string p.id, .int .i64 p.prio, .bool p.crit, .int .i64 p.r0, .int .i64 p.r1, .int .i64 p.r2, .int .i64 p.l0, .int .i64 p.l1, .int .i64 p.l2, .string p.img, .int .i64 p.size] 62)).alloc (.cells #[.string q.id, .int .i64 q.prio, .bool q.crit, .int .i64 q.r0, .int .i64 q.r1, .int .i64 q.r2, .int .i64 q.l0, .int .i64 q.l1, .int .i64 q.l2, .string q.img, .int .i64 q.size] 62)).alloc (.cells #[.string z.id, .int .i64 z.prio, .bool z.crit, .int .i64 z.r0, .int .i64 z.r1, .int .i64 z.r2, .int .i64 z.l0, .int .i64 z.l1, .int .i64 z.l2, .string z.img, .int .i64 z.size] 62)).alloc (.cells #[.int .i64 r.t, .float .f64 r.x, .float .f64 r.y, .float .f64 r.z, .slice a L.length cap] 26)).cell? ⟨w.heap.size + 2, 0, none⟩ = some (.string z.id) := by first | (simp; done) | (rw [World.cell?_alloc_at _ _ _ _ (by simp)]; rfl) | (rw [World.cell?_alloc_past _ _ _ (by simp <;> omega), World.cell?_alloc_at _ _ _ _ (by simp)]; rfl) | (rw [World.cell?_alloc_past _ _ _ (by simp <;> omega), World.cell?_alloc_past _ _ _ (by simp <;> omega), World.cell?_alloc_at _ _ _ _ (by simp)]; rfl) | (rw [World.cell?_alloc_past _ _ _ (by simp <;> omega), World.cell?_alloc_past _ _ _ (by simp <;> omega), World.cell?_alloc_past _ _ _ (by simp <;> omega), World.cell?_alloc_at _ _ _ _ (by simp)]; rfl)
  have zz1 : ((((w.alloc (.cells #[.string p.id, .int .i64 p.prio, .bool p.crit, .int .i64 p.r0, .int .i64 p.r1, .int .i64 p.r2, .int .i64 p.l0, .int .i64 p.l1, .int .i64 p.l2, .string p.img, .int .i64 p.size] 62)).alloc (.cells #[.string q.id, .int .i64 q.prio, .bool q.crit, .int .i64 q.r0, .int .i64 q.r1, .int .i64 q.r2, .int .i64 q.l0, .int .i64 q.l1, .int .i64 q.l2, .string q.img, .int .i64 q.size] 62)).alloc (.cells #[.string z.id, .int .i64 z.prio, .bool z.crit, .int .i64 z.r0, .int .i64 z.r1, .int .i64 z.r2, .int .i64 z.l0, .int .i64 z.l1, .int .i64 z.l2, .string z.img, .int .i64 z.size] 62)).alloc (.cells #[.int .i64 r.t, .float .f64 r.x, .float .f64 r.y, .float .f64 r.z, .slice a L.length cap] 26)).cell? ⟨w.heap.size + 2, 1, none⟩ = some (.int .i64 z.prio) := by first | (simp; done) | (rw [World.cell?_alloc_at _ _ _ _ (by simp)]; rfl) | (rw [World.cell?_alloc_past _ _ _ (by simp <;> omega), World.cell?_alloc_at _ _ _ _ (by simp)]; rfl) | (rw [World.cell?_alloc_past _ _ _ (by simp <;> omega), World.cell?_alloc_past _ _ _ (by simp <;> omega), World.cell?_alloc_at _ _ _ _ (by simp)]; rfl) | (rw [World.cell?_alloc_past _ _ _ (by simp <;> omega), World.cell?_alloc_past _ _ _ (by simp <;> omega), World.cell?_alloc_past _ _ _ (by simp <;> omega), World.cell?_alloc_at _ _ _ _ (by simp)]; rfl)
  have zz2 : ((((w.alloc (.cells #[.string p.id, .int .i64 p.prio, .bool p.crit, .int .i64 p.r0, .int .i64 p.r1, .int .i64 p.r2, .int .i64 p.l0, .int .i64 p.l1, .int .i64 p.l2, .string p.img, .int .i64 p.size] 62)).alloc (.cells #[.string q.id, .int .i64 q.prio, .bool q.crit, .int .i64 q.r0, .int .i64 q.r1, .int .i64 q.r2, .int .i64 q.l0, .int .i64 q.l1, .int .i64 q.l2, .string q.img, .int .i64 q.size] 62)).alloc (.cells #[.string z.id, .int .i64 z.prio, .bool z.crit, .int .i64 z.r0, .int .i64 z.r1, .int .i64 z.r2, .int .i64 z.l0, .int .i64 z.l1, .int .i64 z.l2, .string z.img, .int .i64 z.size] 62)).alloc (.cells #[.int .i64 r.t, .float .f64 r.x, .float .f64 r.y, .float .f64 r.z, .slice a L.length cap] 26)).cell? ⟨w.heap.size + 2, 2, none⟩ = some (.bool z.crit) := by first | (simp; done) | (rw [World.cell?_alloc_at _ _ _ _ (by simp)]; rfl) | (rw [World.cell?_alloc_past _ _ _ (by simp <;> omega), World.cell?_alloc_at _ _ _ _ (by simp)]; rfl) | (rw [World.cell?_alloc_past _ _ _ (by simp <;> omega), World.cell?_alloc_past _ _ _ (by simp <;> omega), World.cell?_alloc_at _ _ _ _ (by simp)]; rfl) | (rw [World.cell?_alloc_past _ _ _ (by simp <;> omega), World.cell?_alloc_past _ _ _ (by simp <;> omega), World.cell?_alloc_past _ _ _ (by simp <;> omega), World.cell?_alloc_at _ _ _ _ (by simp)]; rfl)
  have zz3 : ((((w.alloc (.cells #[.string p.id, .int .i64 p.prio, .bool p.crit, .int .i64 p.r0, .int .i64 p.r1, .int .i64 p.r2, .int .i64 p.l0, .int .i64 p.l1, .int .i64 p.l2, .string p.img, .int .i64 p.size] 62)).alloc (.cells #[.string q.id, .int .i64 q.prio, .bool q.crit, .int .i64 q.r0, .int .i64 q.r1, .int .i64 q.r2, .int .i64 q.l0, .int .i64 q.l1, .int .i64 q.l2, .string q.img, .int .i64 q.size] 62)).alloc (.cells #[.string z.id, .int .i64 z.prio, .bool z.crit, .int .i64 z.r0, .int .i64 z.r1, .int .i64 z.r2, .int .i64 z.l0, .int .i64 z.l1, .int .i64 z.l2, .string z.img, .int .i64 z.size] 62)).alloc (.cells #[.int .i64 r.t, .float .f64 r.x, .float .f64 r.y, .float .f64 r.z, .slice a L.length cap] 26)).cell? ⟨w.heap.size + 2, 3, none⟩ = some (.int .i64 z.r0) := by first | (simp; done) | (rw [World.cell?_alloc_at _ _ _ _ (by simp)]; rfl) | (rw [World.cell?_alloc_past _ _ _ (by simp <;> omega), World.cell?_alloc_at _ _ _ _ (by simp)]; rfl) | (rw [World.cell?_alloc_past _ _ _ (by simp <;> omega), World.cell?_alloc_past _ _ _ (by simp <;> omega), World.cell?_alloc_at _ _ _ _ (by simp)]; rfl) | (rw [World.cell?_alloc_past _ _ _ (by simp <;> omega), World.cell?_alloc_past _ _ _ (by simp <;> omega), World.cell?_alloc_past _ _ _ (by simp <;> omega), World.cell?_alloc_at _ _ _ _ (by simp)]; rfl)
  have zz4 : ((((w.alloc (.cells #[.string p.id, .int .i64 p.prio, .bool p.crit, .int .i64 p.r0, .int .i64 p.r1, .int .i64 p.r2, .int .i64 p.l0, .int .i64 p.l1, .int .i64 p.l2, .string p.img, .int .i64 p.size] 62)).alloc (.cells #[.string q.id, .int .i64 q.prio, .bool q.crit, .int .i64 q.r0, .int .i64 q.r1, .int .i64 q.r2, .int .i64 q.l0, .int .i64 q.l1, .int .i64 q.l2, .string q.img, .int .i64 q.size] 62)).alloc (.cells #[.string z.id, .int .i64 z.prio, .bool z.crit, .int .i64 z.r0, .int .i64 z.r1, .int .i64 z.r2, .int .i64 z.l0, .int .i64 z.l1, .int .i64 z.l2, .string z.img, .int .i64 z.size] 62)).alloc (.cells #[.int .i64 r.t, .float .f64 r.x, .float .f64 r.y, .float .f64 r.z, .slice a L.length cap] 26)).cell? ⟨w.heap.size + 2, 4, none⟩ = some (.int .i64 z.r1) := by first | (simp; done) | (rw [World.cell?_alloc_at _ _ _ _ (by simp)]; rfl) | (rw [World.cell?_alloc_past _ _ _ (by simp <;> omega), World.cell?_alloc_at _ _ _ _ (by simp)]; rfl) | (rw [World.cell?_alloc_past _ _ _ (by simp <;> omega), World.cell?_alloc_past _ _ _ (by simp <;> omega), World.cell?_alloc_at _ _ _ _ (by simp)]; rfl) | (rw [World.cell?_alloc_past _ _ _ (by simp <;> omega), World.cell?_alloc_past _ _ _ (by simp <;> omega), World.cell?_alloc_past _ _ _ (by simp <;> omega), World.cell?_alloc_at _ _ _ _ (by simp)]; rfl)
  have zz5 : ((((w.alloc (.cells #[.string p.id, .int .i64 p.prio, .bool p.crit, .int .i64 p.r0, .int .i64 p.r1, .int .i64 p.r2, .int .i64 p.l0, .int .i64 p.l1, .int .i64 p.l2, .string p.img, .int .i64 p.size] 62)).alloc (.cells #[.string q.id, .int .i64 q.prio, .bool q.crit, .int .i64 q.r0, .int .i64 q.r1, .int .i64 q.r2, .int .i64 q.l0, .int .i64 q.l1, .int .i64 q.l2, .string q.img, .int .i64 q.size] 62)).alloc (.cells #[.string z.id, .int .i64 z.prio, .bool z.crit, .int .i64 z.r0, .int .i64 z.r1, .int .i64 z.r2, .int .i64 z.l0, .int .i64 z.l1, .int .i64 z.l2, .string z.img, .int .i64 z.size] 62)).alloc (.cells #[.int .i64 r.t, .float .f64 r.x, .float .f64 r.y, .float .f64 r.z, .slice a L.length cap] 26)).cell? ⟨w.heap.size + 2, 5, none⟩ = some (.int .i64 z.r2) := by first | (simp; done) | (rw [World.cell?_alloc_at _ _ _ _ (by simp)]; rfl) | (rw [World.cell?_alloc_past _ _ _ (by simp <;> omega), World.cell?_alloc_at _ _ _ _ (by simp)]; rfl) | (rw [World.cell?_alloc_past _ _ _ (by simp <;> omega), World.cell?_alloc_past _ _ _ (by simp <;> omega), World.cell?_alloc_at _ _ _ _ (by simp)]; rfl) | (rw [World.cell?_alloc_past _ _ _ (by simp <;> omega), World.cell?_alloc_past _ _ _ (by simp <;> omega), World.cell?_alloc_past _ _ _ (by simp <;> omega), World.cell?_alloc_at _ _ _ _ (by simp)]; rfl)
  have zz6 : ((((w.alloc (.cells #[.string p.id, .int .i64 p.prio, .bool p.crit, .int .i64 p.r0, .int .i64 p.r1, .int .i64 p.r2, .int .i64 p.l0, .int .i64 p.l1, .int .i64 p.l2, .string p.img, .int .i64 p.size] 62)).alloc (.cells #[.string q.id, .int .i64 q.prio, .bool q.crit, .int .i64 q.r0, .int .i64 q.r1, .int .i64 q.r2, .int .i64 q.l0, .int .i64 q.l1, .int .i64 q.l2, .string q.img, .int .i64 q.size] 62)).alloc (.cells #[.string z.id, .int .i64 z.prio, .bool z.crit, .int .i64 z.r0, .int .i64 z.r1, .int .i64 z.r2, .int .i64 z.l0, .int .i64 z.l1, .int .i64 z.l2, .string z.img, .int .i64 z.size] 62)).alloc (.cells #[.int .i64 r.t, .float .f64 r.x, .float .f64 r.y, .float .f64 r.z, .slice a L.length cap] 26)).cell? ⟨w.heap.size + 2, 6, none⟩ = some (.int .i64 z.l0) := by first | (simp; done) | (rw [World.cell?_alloc_at _ _ _ _ (by simp)]; rfl) | (rw [World.cell?_alloc_past _ _ _ (by simp <;> omega), World.cell?_alloc_at _ _ _ _ (by simp)]; rfl) | (rw [World.cell?_alloc_past _ _ _ (by simp <;> omega), World.cell?_alloc_past _ _ _ (by simp <;> omega), World.cell?_alloc_at _ _ _ _ (by simp)]; rfl) | (rw [World.cell?_alloc_past _ _ _ (by simp <;> omega), World.cell?_alloc_past _ _ _ (by simp <;> omega), World.cell?_alloc_past _ _ _ (by simp <;> omega), World.cell?_alloc_at _ _ _ _ (by simp)]; rfl)
  have zz7 : ((((w.alloc (.cells #[.string p.id, .int .i64 p.prio, .bool p.crit, .int .i64 p.r0, .int .i64 p.r1, .int .i64 p.r2, .int .i64 p.l0, .int .i64 p.l1, .int .i64 p.l2, .string p.img, .int .i64 p.size] 62)).alloc (.cells #[.string q.id, .int .i64 q.prio, .bool q.crit, .int .i64 q.r0, .int .i64 q.r1, .int .i64 q.r2, .int .i64 q.l0, .int .i64 q.l1, .int .i64 q.l2, .string q.img, .int .i64 q.size] 62)).alloc (.cells #[.string z.id, .int .i64 z.prio, .bool z.crit, .int .i64 z.r0, .int .i64 z.r1, .int .i64 z.r2, .int .i64 z.l0, .int .i64 z.l1, .int .i64 z.l2, .string z.img, .int .i64 z.size] 62)).alloc (.cells #[.int .i64 r.t, .float .f64 r.x, .float .f64 r.y, .float .f64 r.z, .slice a L.length cap] 26)).cell? ⟨w.heap.size + 2, 7, none⟩ = some (.int .i64 z.l1) := by first | (simp; done) | (rw [World.cell?_alloc_at _ _ _ _ (by simp)]; rfl) | (rw [World.cell?_alloc_past _ _ _ (by simp <;> omega), World.cell?_alloc_at _ _ _ _ (by simp)]; rfl) | (rw [World.cell?_alloc_past _ _ _ (by simp <;> omega), World.cell?_alloc_past _ _ _ (by simp <;> omega), World.cell?_alloc_at _ _ _ _ (by simp)]; rfl) | (rw [World.cell?_alloc_past _ _ _ (by simp <;> omega), World.cell?_alloc_past _ _ _ (by simp <;> omega), World.cell?_alloc_past _ _ _ (by simp <;> omega), World.cell?_alloc_at _ _ _ _ (by simp)]; rfl)
  have zz8 : ((((w.alloc (.cells #[.string p.id, .int .i64 p.prio, .bool p.crit, .int .i64 p.r0, .int .i64 p.r1, .int .i64 p.r2, .int .i64 p.l0, .int .i64 p.l1, .int .i64 p.l2, .string p.img, .int .i64 p.size] 62)).alloc (.cells #[.string q.id, .int .i64 q.prio, .bool q.crit, .int .i64 q.r0, .int .i64 q.r1, .int .i64 q.r2, .int .i64 q.l0, .int .i64 q.l1, .int .i64 q.l2, .string q.img, .int .i64 q.size] 62)).alloc (.cells #[.string z.id, .int .i64 z.prio, .bool z.crit, .int .i64 z.r0, .int .i64 z.r1, .int .i64 z.r2, .int .i64 z.l0, .int .i64 z.l1, .int .i64 z.l2, .string z.img, .int .i64 z.size] 62)).alloc (.cells #[.int .i64 r.t, .float .f64 r.x, .float .f64 r.y, .float .f64 r.z, .slice a L.length cap] 26)).cell? ⟨w.heap.size + 2, 8, none⟩ = some (.int .i64 z.l2) := by first | (simp; done) | (rw [World.cell?_alloc_at _ _ _ _ (by simp)]; rfl) | (rw [World.cell?_alloc_past _ _ _ (by simp <;> omega), World.cell?_alloc_at _ _ _ _ (by simp)]; rfl) | (rw [World.cell?_alloc_past _ _ _ (by simp <;> omega), World.cell?_alloc_past _ _ _ (by simp <;> omega), World.cell?_alloc_at _ _ _ _ (by simp)]; rfl) | (rw [World.cell?_alloc_past _ _ _ (by simp <;> omega), World.cell?_alloc_past _ _ _ (by simp <;> omega), World.cell?_alloc_past _ _ _ (by simp <;> omega), World.cell?_alloc_at _ _ _ _ (by simp)]; rfl)
  have zz9 : ((((w.alloc (.cells #[.string p.id, .int .i64 p.prio, .bool p.crit, .int .i64 p.r0, .int .i64 p.r1, .int .i64 p.r2, .int .i64 p.l0, .int .i64 p.l1, .int .i64 p.l2, .string p.img, .int .i64 p.size] 62)).alloc (.cells #[.string q.id, .int .i64 q.prio, .bool q.crit, .int .i64 q.r0, .int .i64 q.r1, .int .i64 q.r2, .int .i64 q.l0, .int .i64 q.l1, .int .i64 q.l2, .string q.img, .int .i64 q.size] 62)).alloc (.cells #[.string z.id, .int .i64 z.prio, .bool z.crit, .int .i64 z.r0, .int .i64 z.r1, .int .i64 z.r2, .int .i64 z.l0, .int .i64 z.l1, .int .i64 z.l2, .string z.img, .int .i64 z.size] 62)).alloc (.cells #[.int .i64 r.t, .float .f64 r.x, .float .f64 r.y, .float .f64 r.z, .slice a L.length cap] 26)).cell? ⟨w.heap.size + 2, 9, none⟩ = some (.string z.img) := by first | (simp; done) | (rw [World.cell?_alloc_at _ _ _ _ (by simp)]; rfl) | (rw [World.cell?_alloc_past _ _ _ (by simp <;> omega), World.cell?_alloc_at _ _ _ _ (by simp)]; rfl) | (rw [World.cell?_alloc_past _ _ _ (by simp <;> omega), World.cell?_alloc_past _ _ _ (by simp <;> omega), World.cell?_alloc_at _ _ _ _ (by simp)]; rfl) | (rw [World.cell?_alloc_past _ _ _ (by simp <;> omega), World.cell?_alloc_past _ _ _ (by simp <;> omega), World.cell?_alloc_past _ _ _ (by simp <;> omega), World.cell?_alloc_at _ _ _ _ (by simp)]; rfl)
  have zz10 : ((((w.alloc (.cells #[.string p.id, .int .i64 p.prio, .bool p.crit, .int .i64 p.r0, .int .i64 p.r1, .int .i64 p.r2, .int .i64 p.l0, .int .i64 p.l1, .int .i64 p.l2, .string p.img, .int .i64 p.size] 62)).alloc (.cells #[.string q.id, .int .i64 q.prio, .bool q.crit, .int .i64 q.r0, .int .i64 q.r1, .int .i64 q.r2, .int .i64 q.l0, .int .i64 q.l1, .int .i64 q.l2, .string q.img, .int .i64 q.size] 62)).alloc (.cells #[.string z.id, .int .i64 z.prio, .bool z.crit, .int .i64 z.r0, .int .i64 z.r1, .int .i64 z.r2, .int .i64 z.l0, .int .i64 z.l1, .int .i64 z.l2, .string z.img, .int .i64 z.size] 62)).alloc (.cells #[.int .i64 r.t, .float .f64 r.x, .float .f64 r.y, .float .f64 r.z, .slice a L.length cap] 26)).cell? ⟨w.heap.size + 2, 10, none⟩ = some (.int .i64 z.size) := by first | (simp; done) | (rw [World.cell?_alloc_at _ _ _ _ (by simp)]; rfl) | (rw [World.cell?_alloc_past _ _ _ (by simp <;> omega), World.cell?_alloc_at _ _ _ _ (by simp)]; rfl) | (rw [World.cell?_alloc_past _ _ _ (by simp <;> omega), World.cell?_alloc_past _ _ _ (by simp <;> omega), World.cell?_alloc_at _ _ _ _ (by simp)]; rfl) | (rw [World.cell?_alloc_past _ _ _ (by simp <;> omega), World.cell?_alloc_past _ _ _ (by simp <;> omega), World.cell?_alloc_past _ _ _ (by simp <;> omega), World.cell?_alloc_at _ _ _ _ (by simp)]; rfl)
  have rw0 : ((((w.alloc (.cells #[.string p.id, .int .i64 p.prio, .bool p.crit, .int .i64 p.r0, .int .i64 p.r1, .int .i64 p.r2, .int .i64 p.l0, .int .i64 p.l1, .int .i64 p.l2, .string p.img, .int .i64 p.size] 62)).alloc (.cells #[.string q.id, .int .i64 q.prio, .bool q.crit, .int .i64 q.r0, .int .i64 q.r1, .int .i64 q.r2, .int .i64 q.l0, .int .i64 q.l1, .int .i64 q.l2, .string q.img, .int .i64 q.size] 62)).alloc (.cells #[.string z.id, .int .i64 z.prio, .bool z.crit, .int .i64 z.r0, .int .i64 z.r1, .int .i64 z.r2, .int .i64 z.l0, .int .i64 z.l1, .int .i64 z.l2, .string z.img, .int .i64 z.size] 62)).alloc (.cells #[.int .i64 r.t, .float .f64 r.x, .float .f64 r.y, .float .f64 r.z, .slice a L.length cap] 26)).cell? ⟨w.heap.size + 3, 0, none⟩ = some (.int .i64 r.t) := by first | (simp; done) | (rw [World.cell?_alloc_at _ _ _ _ (by simp)]; rfl) | (rw [World.cell?_alloc_past _ _ _ (by simp <;> omega), World.cell?_alloc_at _ _ _ _ (by simp)]; rfl) | (rw [World.cell?_alloc_past _ _ _ (by simp <;> omega), World.cell?_alloc_past _ _ _ (by simp <;> omega), World.cell?_alloc_at _ _ _ _ (by simp)]; rfl) | (rw [World.cell?_alloc_past _ _ _ (by simp <;> omega), World.cell?_alloc_past _ _ _ (by simp <;> omega), World.cell?_alloc_past _ _ _ (by simp <;> omega), World.cell?_alloc_at _ _ _ _ (by simp)]; rfl)
  have rw1 : ((((w.alloc (.cells #[.string p.id, .int .i64 p.prio, .bool p.crit, .int .i64 p.r0, .int .i64 p.r1, .int .i64 p.r2, .int .i64 p.l0, .int .i64 p.l1, .int .i64 p.l2, .string p.img, .int .i64 p.size] 62)).alloc (.cells #[.string q.id, .int .i64 q.prio, .bool q.crit, .int .i64 q.r0, .int .i64 q.r1, .int .i64 q.r2, .int .i64 q.l0, .int .i64 q.l1, .int .i64 q.l2, .string q.img, .int .i64 q.size] 62)).alloc (.cells #[.string z.id, .int .i64 z.prio, .bool z.crit, .int .i64 z.r0, .int .i64 z.r1, .int .i64 z.r2, .int .i64 z.l0, .int .i64 z.l1, .int .i64 z.l2, .string z.img, .int .i64 z.size] 62)).alloc (.cells #[.int .i64 r.t, .float .f64 r.x, .float .f64 r.y, .float .f64 r.z, .slice a L.length cap] 26)).cell? ⟨w.heap.size + 3, 1, none⟩ = some (.float .f64 r.x) := by first | (simp; done) | (rw [World.cell?_alloc_at _ _ _ _ (by simp)]; rfl) | (rw [World.cell?_alloc_past _ _ _ (by simp <;> omega), World.cell?_alloc_at _ _ _ _ (by simp)]; rfl) | (rw [World.cell?_alloc_past _ _ _ (by simp <;> omega), World.cell?_alloc_past _ _ _ (by simp <;> omega), World.cell?_alloc_at _ _ _ _ (by simp)]; rfl) | (rw [World.cell?_alloc_past _ _ _ (by simp <;> omega), World.cell?_alloc_past _ _ _ (by simp <;> omega), World.cell?_alloc_past _ _ _ (by simp <;> omega), World.cell?_alloc_at _ _ _ _ (by simp)]; rfl)
  have rw2 : ((((w.alloc (.cells #[.string p.id, .int .i64 p.prio, .bool p.crit, .int .i64 p.r0, .int .i64 p.r1, .int .i64 p.r2, .int .i64 p.l0, .int .i64 p.l1, .int .i64 p.l2, .string p.img, .int .i64 p.size] 62)).alloc (.cells #[.string q.id, .int .i64 q.prio, .bool q.crit, .int .i64 q.r0, .int .i64 q.r1, .int .i64 q.r2, .int .i64 q.l0, .int .i64 q.l1, .int .i64 q.l2, .string q.img, .int .i64 q.size] 62)).alloc (.cells #[.string z.id, .int .i64 z.prio, .bool z.crit, .int .i64 z.r0, .int .i64 z.r1, .int .i64 z.r2, .int .i64 z.l0, .int .i64 z.l1, .int .i64 z.l2, .string z.img, .int .i64 z.size] 62)).alloc (.cells #[.int .i64 r.t, .float .f64 r.x, .float .f64 r.y, .float .f64 r.z, .slice a L.length cap] 26)).cell? ⟨w.heap.size + 3, 2, none⟩ = some (.float .f64 r.y) := by first | (simp; done) | (rw [World.cell?_alloc_at _ _ _ _ (by simp)]; rfl) | (rw [World.cell?_alloc_past _ _ _ (by simp <;> omega), World.cell?_alloc_at _ _ _ _ (by simp)]; rfl) | (rw [World.cell?_alloc_past _ _ _ (by simp <;> omega), World.cell?_alloc_past _ _ _ (by simp <;> omega), World.cell?_alloc_at _ _ _ _ (by simp)]; rfl) | (rw [World.cell?_alloc_past _ _ _ (by simp <;> omega), World.cell?_alloc_past _ _ _ (by simp <;> omega), World.cell?_alloc_past _ _ _ (by simp <;> omega), World.cell?_alloc_at _ _ _ _ (by simp)]; rfl)
  have rw3 : ((((w.alloc (.cells #[.string p.id, .int .i64 p.prio, .bool p.crit, .int .i64 p.r0, .int .i64 p.r1, .int .i64 p.r2, .int .i64 p.l0, .int .i64 p.l1, .int .i64 p.l2, .string p.img, .int .i64 p.size] 62)).alloc (.cells #[.string q.id, .int .i64 q.prio, .bool q.crit, .int .i64 q.r0, .int .i64 q.r1, .int .i64 q.r2, .int .i64 q.l0, .int .i64 q.l1, .int .i64 q.l2, .string q.img, .int .i64 q.size] 62)).alloc (.cells #[.string z.id, .int .i64 z.prio, .bool z.crit, .int .i64 z.r0, .int .i64 z.r1, .int .i64 z.r2, .int .i64 z.l0, .int .i64 z.l1, .int .i64 z.l2, .string z.img, .int .i64 z.size] 62)).alloc (.cells #[.int .i64 r.t, .float .f64 r.x, .float .f64 r.y, .float .f64 r.z, .slice a L.length cap] 26)).cell? ⟨w.heap.size + 3, 3, none⟩ = some (.float .f64 r.z) := by first | (simp; done) | (rw [World.cell?_alloc_at _ _ _ _ (by simp)]; rfl) | (rw [World.cell?_alloc_past _ _ _ (by simp <;> omega), World.cell?_alloc_at _ _ _ _ (by simp)]; rfl) | (rw [World.cell?_alloc_past _ _ _ (by simp <;> omega), World.cell?_alloc_past _ _ _ (by simp <;> omega), World.cell?_alloc_at _ _ _ _ (by simp)]; rfl) | (rw [World.cell?_alloc_past _ _ _ (by simp <;> omega), World.cell?_alloc_past _ _ _ (by simp <;> omega), World.cell?_alloc_past _ _ _ (by simp <;> omega), World.cell?_alloc_at _ _ _ _ (by simp)]; rfl)
  have rw4 : ((((w.alloc (.cells #[.string p.id, .int .i64 p.prio, .bool p.crit, .int .i64 p.r0, .int .i64 p.r1, .int .i64 p.r2, .int .i64 p.l0, .int .i64 p.l1, .int .i64 p.l2, .string p.img, .int .i64 p.size] 62)).alloc (.cells #[.string q.id, .int .i64 q.prio, .bool q.crit, .int .i64 q.r0, .int .i64 q.r1, .int .i64 q.r2, .int .i64 q.l0, .int .i64 q.l1, .int .i64 q.l2, .string q.img, .int .i64 q.size] 62)).alloc (.cells #[.string z.id, .int .i64 z.prio, .bool z.crit, .int .i64 z.r0, .int .i64 z.r1, .int .i64 z.r2, .int .i64 z.l0, .int .i64 z.l1, .int .i64 z.l2, .string z.img, .int .i64 z.size] 62)).alloc (.cells #[.int .i64 r.t, .float .f64 r.x, .float .f64 r.y, .float .f64 r.z, .slice a L.length cap] 26)).cell? ⟨w.heap.size + 3, 4, none⟩ = some (.slice a L.length cap) := by first | (simp; done) | (rw [World.cell?_alloc_at _ _ _ _ (by simp)]; rfl) | (rw [World.cell?_alloc_past _ _ _ (by simp <;> omega), World.cell?_alloc_at _ _ _ _ (by simp)]; rfl) | (rw [World.cell?_alloc_past _ _ _ (by simp <;> omega), World.cell?_alloc_past _ _ _ (by simp <;> omega), World.cell?_alloc_at _ _ _ _ (by simp)]; rfl) | (rw [World.cell?_alloc_past _ _ _ (by simp <;> omega), World.cell?_alloc_past _ _ _ (by simp <;> omega), World.cell?_alloc_past _ _ _ (by simp <;> omega), World.cell?_alloc_at _ _ _ _ (by simp)]; rfl)
  have hb2 := (by repeat (first | exact hbel | refine belAlloc ?_ _ | refine belDrew ?_ | refine belSet ?_ _ _ (by simp)) : Below w.heap.size w ((((w.alloc (.cells #[.string p.id, .int .i64 p.prio, .bool p.crit, .int .i64 p.r0, .int .i64 p.r1, .int .i64 p.r2, .int .i64 p.l0, .int .i64 p.l1, .int .i64 p.l2, .string p.img, .int .i64 p.size] 62)).alloc (.cells #[.string q.id, .int .i64 q.prio, .bool q.crit, .int .i64 q.r0, .int .i64 q.r1, .int .i64 q.r2, .int .i64 q.l0, .int .i64 q.l1, .int .i64 q.l2, .string q.img, .int .i64 q.size] 62)).alloc (.cells #[.string z.id, .int .i64 z.prio, .bool z.crit, .int .i64 z.r0, .int .i64 z.r1, .int .i64 z.r2, .int .i64 z.l0, .int .i64 z.l1, .int .i64 z.l2, .string z.img, .int .i64 z.size] 62)).alloc (.cells #[.int .i64 r.t, .float .f64 r.x, .float .f64 r.y, .float .f64 r.z, .slice a L.length cap] 26)))
  replace hw := belStep hw hb2
  clear hb2 hbel
  generalize (((w.alloc (.cells #[.string p.id, .int .i64 p.prio, .bool p.crit, .int .i64 p.r0, .int .i64 p.r1, .int .i64 p.r2, .int .i64 p.l0, .int .i64 p.l1, .int .i64 p.l2, .string p.img, .int .i64 p.size] 62)).alloc (.cells #[.string q.id, .int .i64 q.prio, .bool q.crit, .int .i64 q.r0, .int .i64 q.r1, .int .i64 q.r2, .int .i64 q.l0, .int .i64 q.l1, .int .i64 q.l2, .string q.img, .int .i64 q.size] 62)).alloc (.cells #[.string z.id, .int .i64 z.prio, .bool z.crit, .int .i64 z.r0, .int .i64 z.r1, .int .i64 z.r2, .int .i64 z.l0, .int .i64 z.l1, .int .i64 z.l2, .string z.img, .int .i64 z.size] 62)).alloc (.cells #[.int .i64 r.t, .float .f64 r.x, .float .f64 r.y, .float .f64 r.z, .slice a L.length cap] 26) = W1 at *
  replace pp0 := keep pp0
  replace pp1 := keep pp1
  replace pp2 := keep pp2
  replace pp3 := keep pp3
  replace pp4 := keep pp4
  replace pp5 := keep pp5
  replace pp6 := keep pp6
  replace pp7 := keep pp7
  replace pp8 := keep pp8
  replace pp9 := keep pp9
  replace pp10 := keep pp10
  replace qq0 := keep qq0
  replace qq1 := keep qq1
  replace qq2 := keep qq2
  replace qq3 := keep qq3
  replace qq4 := keep qq4
  replace qq5 := keep qq5
  replace qq6 := keep qq6
  replace qq7 := keep qq7
  replace qq8 := keep qq8
  replace qq9 := keep qq9
  replace qq10 := keep qq10
  replace zz0 := keep zz0
  replace zz1 := keep zz1
  replace zz2 := keep zz2
  replace zz3 := keep zz3
  replace zz4 := keep zz4
  replace zz5 := keep zz5
  replace zz6 := keep zz6
  replace zz7 := keep zz7
  replace zz8 := keep zz8
  replace zz9 := keep zz9
  replace zz10 := keep zz10
  replace rw0 := keep rw0
  replace rw1 := keep rw1
  replace rw2 := keep rw2
  replace rw3 := keep rw3
  replace rw4 := keep rw4
  have hbel : Below W1.heap.size W1 W1 := Below.refl _ _
  skip
  rcases KEY.out with hbad | ⟨rfl, rfl, rfl, rfl, rfl⟩
  · clear KEY
    rcases hbad with rfl | ⟨rfl, rfl⟩ | ⟨rfl, rfl, rfl⟩ | ⟨rfl, rfl, rfl, rfl⟩ | ⟨rfl, rfl, rfl, rfl, rfl⟩
    all_goals
      go_wp2_with (first | (go_at_call 35; (with_reducible refine (awake20 _).mono ?_); rintro e w1 ⟨rfl, hb1⟩; replace hbel := belStep hbel hb1; clear hb1) | (go_at_call 51; (with_reducible refine (CFP.out _).mono ?_); rintro e w1 ⟨rfl, hb1⟩; replace hbel := belStep hbel hb1; clear hb1) | (go_at_call 37; (with_reducible refine (CP0.out _).mono ?_); rintro e w1 ⟨rfl, hb1⟩; replace hbel := belStep hbel hb1; clear hb1) | (go_at_call 37; (with_reducible refine (CP1.out _).mono ?_); rintro e w1 ⟨rfl, hb1⟩; replace hbel := belStep hbel hb1; clear hb1) | (go_at_call 37; (with_reducible refine (CP2.out _).mono ?_); rintro e w1 ⟨rfl, hb1⟩; replace hbel := belStep hbel hb1; clear hb1) | (go_at_call 22; (with_reducible refine (CRR.out _ (belStep hw hbel)).mono ?_); rintro e w1 ⟨rfl, hb1⟩; replace hbel := belStep hbel hb1; clear hb1) | (go_at_call 19; (with_reducible refine (CFW.out _ (belStep hw hbel)).mono ?_); rintro e u2 ⟨⟨fb, rfl, hq⟩, hb2⟩; replace hbel := belStep hbel hb2; clear hb2; have HFW := Lib.hid hq; clear hq; rcases fb with _ | _))
    all_goals
      go_ret
      exact ⟨rfl, belStep hw hbel⟩
  clear KEY
  obtain ⟨S, hS⟩ : ∃ S, readOK r L = S := ⟨_, rfl⟩
  have HUO := Lib.hid (show ∀ u ∈ S.use, UseOK u by rw [← hS]; exact readL_ok L)
  have CRE := Lib.hid (fun u (hu : Below w.heap.size w u) => rread2 rfl HRO.out HOK.out (HR.out.later hu) HRR.out hS)
  clear hS
  go_upto_region 3 with (first | (go_at_call 35; (with_reducible refine (awake20 _).mono ?_); rintro e w1 ⟨rfl, hb1⟩; replace hbel := belStep hbel hb1; clear hb1) | (go_at_call 51; (with_reducible refine (CFP.out _).mono ?_); rintro e w1 ⟨rfl, hb1⟩; replace hbel := belStep hbel hb1; clear hb1) | (go_at_call 37; (with_reducible refine (CP0.out _).mono ?_); rintro e w1 ⟨rfl, hb1⟩; replace hbel := belStep hbel hb1; clear hb1) | (go_at_call 37; (with_reducible refine (CP1.out _).mono ?_); rintro e w1 ⟨rfl, hb1⟩; replace hbel := belStep hbel hb1; clear hb1) | (go_at_call 37; (with_reducible refine (CP2.out _).mono ?_); rintro e w1 ⟨rfl, hb1⟩; replace hbel := belStep hbel hb1; clear hb1) | (go_at_call 22; (with_reducible refine (CRR.out _ (belStep hw hbel)).mono ?_); rintro e w1 ⟨rfl, hb1⟩; replace hbel := belStep hbel hb1; clear hb1) | (go_at_call 19; (with_reducible refine (CFW.out _ (belStep hw hbel)).mono ?_); rintro e u2 ⟨⟨fb, rfl, hq⟩, hb2⟩; replace hbel := belStep hbel hb2; clear hb2; have HFW := Lib.hid hq; clear hq; rcases fb with _ | _))
  · go_ret
    exact ⟨rfl, belStep hw hbel⟩
  clear CFW HFW CFP CP0 CP1 CP2 CRR
  go_upto_region 4 with (go_at_call 38; (with_reducible refine (CSG.out _).mono ?_); rintro e wg ⟨⟨g, hg, rfl⟩, rfl⟩)
  go_upto_region 5 with (go_at_call 24; (with_reducible refine (CRE.out _ (belStep hw hbel)).mono ?_); rintro e u1 ⟨⟨b1, n1, rfl, ho1⟩, hb1⟩; replace hbel := belStep hbel hb1)
  have HX1 := Lib.hid ((row_of_ownL ho1).later (belAlloc (Below.refl u1.heap.size u1) (.cells #[.int .i64 S.t, .int .i64 S.a, .int .i64 S.b, .int .i64 S.c, .slice b1 S.use.length n1] 32)))
  clear ho1 hb1
  have ss0 : (u1.alloc (.cells #[.int .i64 S.t, .int .i64 S.a, .int .i64 S.b, .int .i64 S.c, .slice b1 S.use.length n1] 32)).cell? ⟨u1.heap.size, 0, none⟩ = some (.int .i64 S.t) := by first | (simp; done) | (rw [World.cell?_alloc_at _ _ _ _ (by simp)]; rfl) | (rw [World.cell?_alloc_past _ _ _ (by simp <;> omega), World.cell?_alloc_at _ _ _ _ (by simp)]; rfl) | (rw [World.cell?_alloc_past _ _ _ (by simp <;> omega), World.cell?_alloc_past _ _ _ (by simp <;> omega), World.cell?_alloc_at _ _ _ _ (by simp)]; rfl)
  have ss1 : (u1.alloc (.cells #[.int .i64 S.t, .int .i64 S.a, .int .i64 S.b, .int .i64 S.c, .slice b1 S.use.length n1] 32)).cell? ⟨u1.heap.size, 1, none⟩ = some (.int .i64 S.a) := by first | (simp; done) | (rw [World.cell?_alloc_at _ _ _ _ (by simp)]; rfl) | (rw [World.cell?_alloc_past _ _ _ (by simp <;> omega), World.cell?_alloc_at _ _ _ _ (by simp)]; rfl) | (rw [World.cell?_alloc_past _ _ _ (by simp <;> omega), World.cell?_alloc_past _ _ _ (by simp <;> omega), World.cell?_alloc_at _ _ _ _ (by simp)]; rfl)
  have ss2 : (u1.alloc (.cells #[.int .i64 S.t, .int .i64 S.a, .int .i64 S.b, .int .i64 S.c, .slice b1 S.use.length n1] 32)).cell? ⟨u1.heap.size, 2, none⟩ = some (.int .i64 S.b) := by first | (simp; done) | (rw [World.cell?_alloc_at _ _ _ _ (by simp)]; rfl) | (rw [World.cell?_alloc_past _ _ _ (by simp <;> omega), World.cell?_alloc_at _ _ _ _ (by simp)]; rfl) | (rw [World.cell?_alloc_past _ _ _ (by simp <;> omega), World.cell?_alloc_past _ _ _ (by simp <;> omega), World.cell?_alloc_at _ _ _ _ (by simp)]; rfl)
  have ss3 : (u1.alloc (.cells #[.int .i64 S.t, .int .i64 S.a, .int .i64 S.b, .int .i64 S.c, .slice b1 S.use.length n1] 32)).cell? ⟨u1.heap.size, 3, none⟩ = some (.int .i64 S.c) := by first | (simp; done) | (rw [World.cell?_alloc_at _ _ _ _ (by simp)]; rfl) | (rw [World.cell?_alloc_past _ _ _ (by simp <;> omega), World.cell?_alloc_at _ _ _ _ (by simp)]; rfl) | (rw [World.cell?_alloc_past _ _ _ (by simp <;> omega), World.cell?_alloc_past _ _ _ (by simp <;> omega), World.cell?_alloc_at _ _ _ _ (by simp)]; rfl)
  have ss4 : (u1.alloc (.cells #[.int .i64 S.t, .int .i64 S.a, .int .i64 S.b, .int .i64 S.c, .slice b1 S.use.length n1] 32)).cell? ⟨u1.heap.size, 4, none⟩ = some (.slice b1 S.use.length n1) := by first | (simp; done) | (rw [World.cell?_alloc_at _ _ _ _ (by simp)]; rfl) | (rw [World.cell?_alloc_past _ _ _ (by simp <;> omega), World.cell?_alloc_at _ _ _ _ (by simp)]; rfl) | (rw [World.cell?_alloc_past _ _ _ (by simp <;> omega), World.cell?_alloc_past _ _ _ (by simp <;> omega), World.cell?_alloc_at _ _ _ _ (by simp)]; rfl)
  have hb2 := (by repeat (first | exact hbel | refine belAlloc ?_ _ | refine belDrew ?_ | refine belSet ?_ _ _ (by simp)) : Below W1.heap.size W1 (u1.alloc (.cells #[.int .i64 S.t, .int .i64 S.a, .int .i64 S.b, .int .i64 S.c, .slice b1 S.use.length n1] 32)))
  replace pp0 := keepOnP pp0 hb2
  replace pp1 := keepOnP pp1 hb2
  replace pp2 := keepOnP pp2 hb2
  replace pp3 := keepOnP pp3 hb2
  replace pp4 := keepOnP pp4 hb2
  replace pp5 := keepOnP pp5 hb2
  replace pp6 := keepOnP pp6 hb2
  replace pp7 := keepOnP pp7 hb2
  replace pp8 := keepOnP pp8 hb2
  replace pp9 := keepOnP pp9 hb2
  replace pp10 := keepOnP pp10 hb2
  replace qq0 := keepOnP qq0 hb2
  replace qq1 := keepOnP qq1 hb2
  replace qq2 := keepOnP qq2 hb2
  replace qq3 := keepOnP qq3 hb2
  replace qq4 := keepOnP qq4 hb2
  replace qq5 := keepOnP qq5 hb2
  replace qq6 := keepOnP qq6 hb2
  replace qq7 := keepOnP qq7 hb2
  replace qq8 := keepOnP qq8 hb2
  replace qq9 := keepOnP qq9 hb2
  replace qq10 := keepOnP qq10 hb2
  replace zz0 := keepOnP zz0 hb2
  replace zz1 := keepOnP zz1 hb2
  replace zz2 := keepOnP zz2 hb2
  replace zz3 := keepOnP zz3 hb2
  replace zz4 := keepOnP zz4 hb2
  replace zz5 := keepOnP zz5 hb2
  replace zz6 := keepOnP zz6 hb2
  replace zz7 := keepOnP zz7 hb2
  replace zz8 := keepOnP zz8 hb2
  replace zz9 := keepOnP zz9 hb2
  replace zz10 := keepOnP zz10 hb2
  replace rw0 := keepOnP rw0 hb2
  replace rw1 := keepOnP rw1 hb2
  replace rw2 := keepOnP rw2 hb2
  replace rw3 := keepOnP rw3 hb2
  replace rw4 := keepOnP rw4 hb2
  replace hw := belStep hw hb2
  clear hb2 hbel
  generalize u1.alloc (.cells #[.int .i64 S.t, .int .i64 S.a, .int .i64 S.b, .int .i64 S.c, .slice b1 S.use.length n1] 32) = W2 at *
  replace ss0 := keep ss0
  replace ss1 := keep ss1
  replace ss2 := keep ss2
  replace ss3 := keep ss3
  replace ss4 := keep ss4
  generalize u1.heap.size = M1 at *
  have hbel : Below W2.heap.size W2 W2 := Below.refl _ _
  clear u1
  replace HX1 := Lib.hid (fun u (hu : Below W2.heap.size W2 u) => HX1.out.later hu)
  have A1 := Lib.hid (fun u (hu : Below W2.heap.size W2 u) => rk_Ahead g g p p S.t S.a S.b S.c b1 S.use.length n1 S.use u hg rfl HP.out HR0.out HP.out HR0.out HUO.out rfl (HX1.out u hu))
  have A2 := Lib.hid (fun u (hu : Below W2.heap.size W2 u) => rk_Ahead g g p q S.t S.a S.b S.c b1 S.use.length n1 S.use u hg rfl HP.out HR0.out HQ.out HR1.out HUO.out rfl (HX1.out u hu))
  have A3 := Lib.hid (fun u (hu : Below W2.heap.size W2 u) => rk_Ahead g g q p S.t S.a S.b S.c b1 S.use.length n1 S.use u hg rfl HQ.out HR1.out HP.out HR0.out HUO.out rfl (HX1.out u hu))
  have A4 := Lib.hid (fun u (hu : Below W2.heap.size W2 u) => rk_Ahead g g q z S.t S.a S.b S.c b1 S.use.length n1 S.use u hg rfl HQ.out HR1.out HZ.out HR2.out HUO.out rfl (HX1.out u hu))
  have A5 := Lib.hid (fun u (hu : Below W2.heap.size W2 u) => rk_Ahead g g p z S.t S.a S.b S.c b1 S.use.length n1 S.use u hg rfl HP.out HR0.out HZ.out HR2.out HUO.out rfl (HX1.out u hu))
  have k1 := ahead_irr g p S.use
  have k3 := Lib.hid (fun h => @ahead_turn g p q S.use h)
  have k5 := Lib.hid (@ahead_trans g p q z S.use)
  obtain ⟨x2, hx2⟩ : ∃ x, aheadB g p q S.use = x := ⟨_, rfl⟩
  obtain ⟨x3, hx3⟩ : ∃ x, aheadB g q p S.use = x := ⟨_, rfl⟩
  obtain ⟨x4, hx4⟩ : ∃ x, aheadB g q z S.use = x := ⟨_, rfl⟩
  obtain ⟨x5, hx5⟩ : ∃ x, aheadB g p z S.use = x := ⟨_, rfl⟩
  rw [k1] at A1
  rw [hx2] at A2 k3 k5
  rw [hx3] at A3 k3
  rw [hx4] at A4 k5
  rw [hx5] at A5 k5
  clear k1 hx2 hx3 hx4 hx5 hg
  have key : x2 = false ∨ (x2 = true ∧ x4 = false) ∨ (x2 = true ∧ x4 = true ∧ x5 = true) := by
    have := k5.out
    revert this
    cases x2 <;> cases x4 <;> cases x5 <;> simp
  have KEY := Lib.hid key
  clear key k5
  rcases Bool.eq_false_or_eq_true (p.id.toList == q.id.toList) with hid | hid
  · have hid2 := hid
    clear hbel
    refine wp_region_held_drew (S := (fun u => Below W2.heap.size W2 u)) (by kernel_rfl) (by exact (show Below W2.heap.size W2 _ from by repeat (first | assumption | exact Below.refl _ _ | refine belDrew ?_ | refine belAlloc ?_ _ | refine belStep ?_ (by assumption)))) (fun hHeld => ?_)
    refine wpAnyH_take (i := 0) (oi := ?oi_1) (v := ?v_1) ?hi_1 (by kernel_rfl) ?hf_1 ?hr_1 ?hQ_1 (Or.inl ⟨?hw_1, ?hy_1⟩) (by assumption) ?rest_1
    case hi_1 => ((simp only [List.getElem?_toArray, List.getElem?_cons_succ, List.getElem?_cons_zero]); rfl)
    case hf_1 => kernel_rfl
    case hr_1 => kernel_rfl
    case hQ_1 => exact fun _ _ _ h => h
    case hw_1 => rfl
    case hy_1 => ((intro w hSw; (try dsimp only at hSw); go_simp); all_goals (with_reducible rfl))
    try simp only [Act.put, List.setIfInBounds_toArray, List.set_cons_zero, List.set_cons_succ]
    refine wpAnyH_take (i := 1) (oi := ?oi_2) (v := ?v_2) ?hi_2 (by kernel_rfl) ?hf_2 ?hr_2 ?hQ_2 (Or.inl ⟨?hw_2, ?hy_2⟩) (by assumption) ?rest_2
    case hi_2 => ((simp only [List.getElem?_toArray, List.getElem?_cons_succ, List.getElem?_cons_zero]); rfl)
    case hf_2 => kernel_rfl
    case hr_2 => kernel_rfl
    case hQ_2 => exact fun _ _ _ h => h
    case hw_2 => rfl
    case hy_2 => ((intro w hSw; (try dsimp only at hSw); go_simp); all_goals (with_reducible rfl))
    try simp only [Act.put, List.setIfInBounds_toArray, List.set_cons_zero, List.set_cons_succ]
    refine wpAnyH_take (i := 2) (oi := ?oi_3) (v := ?v_3) ?hi_3 (by kernel_rfl) ?hf_3 ?hr_3 ?hQ_3 (Or.inl ⟨?hw_3, ?hy_3⟩) (by assumption) ?rest_3
    case hi_3 => ((simp only [List.getElem?_toArray, List.getElem?_cons_succ, List.getElem?_cons_zero]); rfl)
    case hf_3 => kernel_rfl
    case hr_3 => kernel_rfl
    case hQ_3 => exact fun _ _ _ h => h
    case hw_3 => rfl
    case hy_3 => ((intro w hSw; (try dsimp only at hSw); go_simp); all_goals (with_reducible rfl))
    try simp only [Act.put, List.setIfInBounds_toArray, List.set_cons_zero, List.set_cons_succ]
    refine wpAnyH_take (i := 3) (oi := ?oi_4) (v := ?v_4) ?hi_4 (by kernel_rfl) ?hf_4 ?hr_4 ?hQ_4 (Or.inl ⟨?hw_4, ?hy_4⟩) (by assumption) ?rest_4
    case hi_4 => ((simp only [List.getElem?_toArray, List.getElem?_cons_succ, List.getElem?_cons_zero]); rfl)
    case hf_4 => kernel_rfl
    case hr_4 => kernel_rfl
    case hQ_4 => exact fun _ _ _ h => h
    case hw_4 => rfl
    case hy_4 => ((intro w hSw; (try dsimp only at hSw); go_simp); all_goals (with_reducible rfl))
    try simp only [Act.put, List.setIfInBounds_toArray, List.set_cons_zero, List.set_cons_succ]
    refine wpAnyH_ready (rs := [4]) (by kernel_rfl) (by simp) ?_
    refine AllReadyH.cons (o := ?o1_5) ?hi_5 (fun K hK => ?rest_5) AllReadyH.nil
    case hi_5 => ((simp only [List.getElem?_toArray, List.getElem?_cons_succ, List.getElem?_cons_zero]); rfl)
    go_simp
    (first | (go_at_call 41; (with_reducible refine (A1.out _ hHeld).mono ?_); rintro e wq ⟨rfl, hbq⟩) | (go_at_call 41; (with_reducible refine (A2.out _ hHeld).mono ?_); rintro e wq ⟨rfl, hbq⟩) | (go_at_call 41; (with_reducible refine (A3.out _ hHeld).mono ?_); rintro e wq ⟨rfl, hbq⟩) | (go_at_call 41; (with_reducible refine (A4.out _ hHeld).mono ?_); rintro e wq ⟨rfl, hbq⟩) | (go_at_call 41; (with_reducible refine (A5.out _ hHeld).mono ?_); rintro e wq ⟨rfl, hbq⟩))
    try go_simp
    refine hK.out _ _ (by exact (show Below W2.heap.size W2 _ from by repeat (first | assumption | exact Below.refl _ _ | refine belDrew ?_ | refine belAlloc ?_ _ | refine belStep ?_ (by assumption)))) (fun hHeld => ?_)
    clear hK K
    try simp only [Act.put, List.setIfInBounds_toArray, List.set_cons_zero, List.set_cons_succ]
    refine wpAnyH_take (i := 5) (oi := ?oi_6) (v := ?v_6) ?hi_6 (by kernel_rfl) ?hf_6 ?hr_6 ?hQ_6 (Or.inl ⟨?hw_6, ?hy_6⟩) (by assumption) ?rest_6
    case hi_6 => ((simp only [List.getElem?_toArray, List.getElem?_cons_succ, List.getElem?_cons_zero]); rfl)
    case hf_6 => kernel_rfl
    case hr_6 => kernel_rfl
    case hQ_6 => exact fun _ _ _ h => h
    case hw_6 => rfl
    case hy_6 => ((intro w hSw; (try dsimp only at hSw); go_simp); all_goals (with_reducible rfl))
    try simp only [Act.put, List.setIfInBounds_toArray, List.set_cons_zero, List.set_cons_succ]
    refine wpAnyH_take (i := 6) (oi := ?oi_7) (v := ?v_7) ?hi_7 (by kernel_rfl) ?hf_7 ?hr_7 ?hQ_7 (Or.inl ⟨?hw_7, ?hy_7⟩) (by assumption) ?rest_7
    case hi_7 => ((simp only [List.getElem?_toArray, List.getElem?_cons_succ, List.getElem?_cons_zero]); rfl)
    case hf_7 => kernel_rfl
    case hr_7 => kernel_rfl
    case hQ_7 => exact fun _ _ _ h => h
    case hw_7 => rfl
    case hy_7 => ((intro w hSw; (try dsimp only at hSw); go_simp); all_goals (with_reducible rfl))
    try simp only [Act.put, List.setIfInBounds_toArray, List.set_cons_zero, List.set_cons_succ]
    refine wpAnyH_take (i := 7) (oi := ?oi_8) (v := ?v_8) ?hi_8 (by kernel_rfl) ?hf_8 ?hr_8 ?hQ_8 (Or.inl ⟨?hw_8, ?hy_8⟩) (by assumption) ?rest_8
    case hi_8 => ((simp only [List.getElem?_toArray, List.getElem?_cons_succ, List.getElem?_cons_zero]); rfl)
    case hf_8 => kernel_rfl
    case hr_8 => kernel_rfl
    case hQ_8 => exact fun _ _ _ h => h
    case hw_8 => rfl
    case hy_8 => ((intro w hSw; (try dsimp only at hSw); go_simp); all_goals (with_reducible rfl))
    try simp only [Act.put, List.setIfInBounds_toArray, List.set_cons_zero, List.set_cons_succ]
    refine wpAnyH_take (i := 8) (oi := ?oi_9) (v := ?v_9) ?hi_9 (by kernel_rfl) ?hf_9 ?hr_9 ?hQ_9 (Or.inl ⟨?hw_9, ?hy_9⟩) (by assumption) ?rest_9
    case hi_9 => ((simp only [List.getElem?_toArray, List.getElem?_cons_succ, List.getElem?_cons_zero]); rfl)
    case hf_9 => kernel_rfl
    case hr_9 => kernel_rfl
    case hQ_9 => exact fun _ _ _ h => h
    case hw_9 => rfl
    case hy_9 => ((intro w hSw; (try dsimp only at hSw); go_simp); all_goals (with_reducible rfl))
    try simp only [Act.put, List.setIfInBounds_toArray, List.set_cons_zero, List.set_cons_succ]
    refine wpAnyH_take (i := 9) (oi := ?oi_10) (v := ?v_10) ?hi_10 (by kernel_rfl) ?hf_10 ?hr_10 ?hQ_10 (Or.inl ⟨?hw_10, ?hy_10⟩) (by assumption) ?rest_10
    case hi_10 => ((simp only [List.getElem?_toArray, List.getElem?_cons_succ, List.getElem?_cons_zero]); rfl)
    case hf_10 => kernel_rfl
    case hr_10 => kernel_rfl
    case hQ_10 => exact fun _ _ _ h => h
    case hw_10 => rfl
    case hy_10 => ((intro w hSw; (try dsimp only at hSw); go_simp); all_goals (with_reducible rfl))
    try simp only [Act.put, List.setIfInBounds_toArray, List.set_cons_zero, List.set_cons_succ]
    refine wpAnyH_take (i := 10) (oi := ?oi_11) (v := ?v_11) ?hi_11 (by kernel_rfl) ?hf_11 ?hr_11 ?hQ_11 (Or.inl ⟨?hw_11, ?hy_11⟩) (by assumption) ?rest_11
    case hi_11 => ((simp only [List.getElem?_toArray, List.getElem?_cons_succ, List.getElem?_cons_zero]); rfl)
    case hf_11 => kernel_rfl
    case hr_11 => kernel_rfl
    case hQ_11 => exact fun _ _ _ h => h
    case hw_11 => rfl
    case hy_11 => ((intro w hSw; (try dsimp only at hSw); go_simp); all_goals (with_reducible rfl))
    try simp only [Act.put, List.setIfInBounds_toArray, List.set_cons_zero, List.set_cons_succ]
    refine wpAnyH_take (i := 11) (oi := ?oi_12) (v := ?v_12) ?hi_12 (by kernel_rfl) ?hf_12 ?hr_12 ?hQ_12 (Or.inl ⟨?hw_12, ?hy_12⟩) (by assumption) ?rest_12
    case hi_12 => ((simp only [List.getElem?_toArray, List.getElem?_cons_succ, List.getElem?_cons_zero]); rfl)
    case hf_12 => kernel_rfl
    case hr_12 => kernel_rfl
    case hQ_12 => exact fun _ _ _ h => h
    case hw_12 => rfl
    case hy_12 => ((intro w hSw; (try dsimp only at hSw); go_simp); all_goals (with_reducible rfl))
    try simp only [Act.put, List.setIfInBounds_toArray, List.set_cons_zero, List.set_cons_succ]
    refine wpAnyH_take (i := 12) (oi := ?oi_13) (v := undef) ?hi_13 (by kernel_rfl) ?hf_13 ?hr_13 ?hQ_13 (Or.inr ⟨?hw_13, rfl⟩) (by assumption) ?rest_13
    case hi_13 => ((simp only [List.getElem?_toArray, List.getElem?_cons_succ, List.getElem?_cons_zero]); rfl)
    case hf_13 => kernel_rfl
    case hr_13 => kernel_rfl
    case hQ_13 => exact fun _ _ _ h => h
    case hw_13 => rfl
    try simp only [Act.put, List.setIfInBounds_toArray, List.set_cons_zero, List.set_cons_succ]
    refine wpAnyH_take (i := 13) (oi := ?oi_14) (v := undef) ?hi_14 (by kernel_rfl) ?hf_14 ?hr_14 ?hQ_14 (Or.inr ⟨?hw_14, rfl⟩) (by assumption) ?rest_14
    case hi_14 => ((simp only [List.getElem?_toArray, List.getElem?_cons_succ, List.getElem?_cons_zero]); rfl)
    case hf_14 => kernel_rfl
    case hr_14 => kernel_rfl
    case hQ_14 => exact fun _ _ _ h => h
    case hw_14 => rfl
    try simp only [Act.put, List.setIfInBounds_toArray, List.set_cons_zero, List.set_cons_succ]
    refine wpAnyH_take (i := 14) (oi := ?oi_15) (v := undef) ?hi_15 (by kernel_rfl) ?hf_15 ?hr_15 ?hQ_15 (Or.inr ⟨?hw_15, rfl⟩) (by assumption) ?rest_15
    case hi_15 => ((simp only [List.getElem?_toArray, List.getElem?_cons_succ, List.getElem?_cons_zero]); rfl)
    case hf_15 => kernel_rfl
    case hr_15 => kernel_rfl
    case hQ_15 => exact fun _ _ _ h => h
    case hw_15 => rfl
    try simp only [Act.put, List.setIfInBounds_toArray, List.set_cons_zero, List.set_cons_succ]
    refine wpAnyH_take (i := 15) (oi := ?oi_16) (v := undef) ?hi_16 (by kernel_rfl) ?hf_16 ?hr_16 ?hQ_16 (Or.inr ⟨?hw_16, rfl⟩) (by assumption) ?rest_16
    case hi_16 => ((simp only [List.getElem?_toArray, List.getElem?_cons_succ, List.getElem?_cons_zero]); rfl)
    case hf_16 => kernel_rfl
    case hr_16 => kernel_rfl
    case hQ_16 => exact fun _ _ _ h => h
    case hw_16 => rfl
    try simp only [Act.put, List.setIfInBounds_toArray, List.set_cons_zero, List.set_cons_succ]
    refine wpAnyH_take (i := 16) (oi := ?oi_17) (v := undef) ?hi_17 (by kernel_rfl) ?hf_17 ?hr_17 ?hQ_17 (Or.inr ⟨?hw_17, rfl⟩) (by assumption) ?rest_17
    case hi_17 => ((simp only [List.getElem?_toArray, List.getElem?_cons_succ, List.getElem?_cons_zero]); rfl)
    case hf_17 => kernel_rfl
    case hr_17 => kernel_rfl
    case hQ_17 => exact fun _ _ _ h => h
    case hw_17 => rfl
    try simp only [Act.put, List.setIfInBounds_toArray, List.set_cons_zero, List.set_cons_succ]
    refine wpAnyH_take (i := 17) (oi := ?oi_18) (v := undef) ?hi_18 (by kernel_rfl) ?hf_18 ?hr_18 ?hQ_18 (Or.inr ⟨?hw_18, rfl⟩) (by assumption) ?rest_18
    case hi_18 => ((simp only [List.getElem?_toArray, List.getElem?_cons_succ, List.getElem?_cons_zero]); rfl)
    case hf_18 => kernel_rfl
    case hr_18 => kernel_rfl
    case hQ_18 => exact fun _ _ _ h => h
    case hw_18 => rfl
    try simp only [Act.put, List.setIfInBounds_toArray, List.set_cons_zero, List.set_cons_succ]
    refine wpAnyH_take (i := 18) (oi := ?oi_19) (v := undef) ?hi_19 (by kernel_rfl) ?hf_19 ?hr_19 ?hQ_19 (Or.inr ⟨?hw_19, rfl⟩) (by assumption) ?rest_19
    case hi_19 => ((simp only [List.getElem?_toArray, List.getElem?_cons_succ, List.getElem?_cons_zero]); rfl)
    case hf_19 => kernel_rfl
    case hr_19 => kernel_rfl
    case hQ_19 => exact fun _ _ _ h => h
    case hw_19 => rfl
    try simp only [Act.put, List.setIfInBounds_toArray, List.set_cons_zero, List.set_cons_succ]
    refine wpAnyH_take (i := 19) (oi := ?oi_20) (v := undef) ?hi_20 (by kernel_rfl) ?hf_20 ?hr_20 ?hQ_20 (Or.inr ⟨?hw_20, rfl⟩) (by assumption) ?rest_20
    case hi_20 => ((simp only [List.getElem?_toArray, List.getElem?_cons_succ, List.getElem?_cons_zero]); rfl)
    case hf_20 => kernel_rfl
    case hr_20 => kernel_rfl
    case hQ_20 => exact fun _ _ _ h => h
    case hw_20 => rfl
    try simp only [Act.put, List.setIfInBounds_toArray, List.set_cons_zero, List.set_cons_succ]
    refine wpAnyH_take (i := 20) (oi := ?oi_21) (v := undef) ?hi_21 (by kernel_rfl) ?hf_21 ?hr_21 ?hQ_21 (Or.inr ⟨?hw_21, rfl⟩) (by assumption) ?rest_21
    case hi_21 => ((simp only [List.getElem?_toArray, List.getElem?_cons_succ, List.getElem?_cons_zero]); rfl)
    case hf_21 => kernel_rfl
    case hr_21 => kernel_rfl
    case hQ_21 => exact fun _ _ _ h => h
    case hw_21 => rfl
    try simp only [Act.put, List.setIfInBounds_toArray, List.set_cons_zero, List.set_cons_succ]
    refine wpAnyH_take (i := 21) (oi := ?oi_22) (v := undef) ?hi_22 (by kernel_rfl) ?hf_22 ?hr_22 ?hQ_22 (Or.inr ⟨?hw_22, rfl⟩) (by assumption) ?rest_22
    case hi_22 => ((simp only [List.getElem?_toArray, List.getElem?_cons_succ, List.getElem?_cons_zero]); rfl)
    case hf_22 => kernel_rfl
    case hr_22 => kernel_rfl
    case hQ_22 => exact fun _ _ _ h => h
    case hw_22 => rfl
    try simp only [Act.put, List.setIfInBounds_toArray, List.set_cons_zero, List.set_cons_succ]
    refine wpAnyH_take (i := 22) (oi := ?oi_23) (v := undef) ?hi_23 (by kernel_rfl) ?hf_23 ?hr_23 ?hQ_23 (Or.inr ⟨?hw_23, rfl⟩) (by assumption) ?rest_23
    case hi_23 => ((simp only [List.getElem?_toArray, List.getElem?_cons_succ, List.getElem?_cons_zero]); rfl)
    case hf_23 => kernel_rfl
    case hr_23 => kernel_rfl
    case hQ_23 => exact fun _ _ _ h => h
    case hw_23 => rfl
    try simp only [Act.put, List.setIfInBounds_toArray, List.set_cons_zero, List.set_cons_succ]
    refine wpAnyH_take (i := 23) (oi := ?oi_24) (v := ?v_24) ?hi_24 (by kernel_rfl) ?hf_24 ?hr_24 ?hQ_24 (Or.inl ⟨?hw_24, ?hy_24⟩) (by assumption) ?rest_24
    case hi_24 => ((simp only [List.getElem?_toArray, List.getElem?_cons_succ, List.getElem?_cons_zero]); rfl)
    case hf_24 => kernel_rfl
    case hr_24 => kernel_rfl
    case hQ_24 => exact fun _ _ _ h => h
    case hw_24 => rfl
    case hy_24 => ((intro w hSw; (try dsimp only at hSw); go_simp); all_goals (with_reducible rfl))
    try simp only [Act.put, List.setIfInBounds_toArray, List.set_cons_zero, List.set_cons_succ]
    refine wpAnyH_take (i := 24) (oi := ?oi_25) (v := ?v_25) ?hi_25 (by kernel_rfl) ?hf_25 ?hr_25 ?hQ_25 (Or.inl ⟨?hw_25, ?hy_25⟩) (by assumption) ?rest_25
    case hi_25 => ((simp only [List.getElem?_toArray, List.getElem?_cons_succ, List.getElem?_cons_zero]); rfl)
    case hf_25 => kernel_rfl
    case hr_25 => kernel_rfl
    case hQ_25 => exact fun _ _ _ h => h
    case hw_25 => rfl
    case hy_25 => ((intro w hSw; (try dsimp only at hSw); go_simp); all_goals (with_reducible rfl))
    try simp only [Act.put, List.setIfInBounds_toArray, List.set_cons_zero, List.set_cons_succ]
    refine wpAnyH_done (by kernel_rfl) ?_ _
    have hbel := hHeld
    rcases KEY.out with rfl | ⟨rfl, rfl⟩ | ⟨rfl, rfl, rfl⟩
    all_goals
      go_wp2_with (first | (go_at_call 41; (with_reducible refine (A1.out _ hbel).mono ?_); rintro e w1 ⟨rfl, hb1⟩; replace hbel := belStep hbel hb1; clear hb1) | (go_at_call 41; (with_reducible refine (A2.out _ hbel).mono ?_); rintro e w1 ⟨rfl, hb1⟩; replace hbel := belStep hbel hb1; clear hb1) | (go_at_call 41; (with_reducible refine (A3.out _ hbel).mono ?_); rintro e w1 ⟨rfl, hb1⟩; replace hbel := belStep hbel hb1; clear hb1) | (go_at_call 41; (with_reducible refine (A4.out _ hbel).mono ?_); rintro e w1 ⟨rfl, hb1⟩; replace hbel := belStep hbel hb1; clear hb1) | (go_at_call 41; (with_reducible refine (A5.out _ hbel).mono ?_); rintro e w1 ⟨rfl, hb1⟩; replace hbel := belStep hbel hb1; clear hb1))
      go_ret
      exact ⟨rfl, belStep hw hbel⟩
  · have hne : p.id ≠ q.id := fun e => by rw [e, beq_self_eq_true] at hid; cases hid
    obtain rfl : x3 = !x2 := k3.out hne
    clear hne k3 hbel
    have hxx : (x2 == !x2) = false := by cases x2 <;> rfl
    refine wp_region_held_drew (S := (fun u => Below W2.heap.size W2 u)) (by kernel_rfl) (by exact (show Below W2.heap.size W2 _ from by repeat (first | assumption | exact Below.refl _ _ | refine belDrew ?_ | refine belAlloc ?_ _ | refine belStep ?_ (by assumption)))) (fun hHeld => ?_)
    refine wpAnyH_take (i := 0) (oi := ?oi_26) (v := ?v_26) ?hi_26 (by kernel_rfl) ?hf_26 ?hr_26 ?hQ_26 (Or.inl ⟨?hw_26, ?hy_26⟩) (by assumption) ?rest_26
    case hi_26 => ((simp only [List.getElem?_toArray, List.getElem?_cons_succ, List.getElem?_cons_zero]); rfl)
    case hf_26 => kernel_rfl
    case hr_26 => kernel_rfl
    case hQ_26 => exact fun _ _ _ h => h
    case hw_26 => rfl
    case hy_26 => ((intro w hSw; (try dsimp only at hSw); go_simp); all_goals (with_reducible rfl))
    try simp only [Act.put, List.setIfInBounds_toArray, List.set_cons_zero, List.set_cons_succ]
    refine wpAnyH_take (i := 1) (oi := ?oi_27) (v := ?v_27) ?hi_27 (by kernel_rfl) ?hf_27 ?hr_27 ?hQ_27 (Or.inl ⟨?hw_27, ?hy_27⟩) (by assumption) ?rest_27
    case hi_27 => ((simp only [List.getElem?_toArray, List.getElem?_cons_succ, List.getElem?_cons_zero]); rfl)
    case hf_27 => kernel_rfl
    case hr_27 => kernel_rfl
    case hQ_27 => exact fun _ _ _ h => h
    case hw_27 => rfl
    case hy_27 => ((intro w hSw; (try dsimp only at hSw); go_simp); all_goals (with_reducible rfl))
    try simp only [Act.put, List.setIfInBounds_toArray, List.set_cons_zero, List.set_cons_succ]
    refine wpAnyH_take (i := 2) (oi := ?oi_28) (v := ?v_28) ?hi_28 (by kernel_rfl) ?hf_28 ?hr_28 ?hQ_28 (Or.inl ⟨?hw_28, ?hy_28⟩) (by assumption) ?rest_28
    case hi_28 => ((simp only [List.getElem?_toArray, List.getElem?_cons_succ, List.getElem?_cons_zero]); rfl)
    case hf_28 => kernel_rfl
    case hr_28 => kernel_rfl
    case hQ_28 => exact fun _ _ _ h => h
    case hw_28 => rfl
    case hy_28 => ((intro w hSw; (try dsimp only at hSw); go_simp); all_goals (with_reducible rfl))
    try simp only [Act.put, List.setIfInBounds_toArray, List.set_cons_zero, List.set_cons_succ]
    refine wpAnyH_take (i := 3) (oi := ?oi_29) (v := ?v_29) ?hi_29 (by kernel_rfl) ?hf_29 ?hr_29 ?hQ_29 (Or.inl ⟨?hw_29, ?hy_29⟩) (by assumption) ?rest_29
    case hi_29 => ((simp only [List.getElem?_toArray, List.getElem?_cons_succ, List.getElem?_cons_zero]); rfl)
    case hf_29 => kernel_rfl
    case hr_29 => kernel_rfl
    case hQ_29 => exact fun _ _ _ h => h
    case hw_29 => rfl
    case hy_29 => ((intro w hSw; (try dsimp only at hSw); go_simp); all_goals (with_reducible rfl))
    try simp only [Act.put, List.setIfInBounds_toArray, List.set_cons_zero, List.set_cons_succ]
    refine wpAnyH_ready (rs := [4]) (by kernel_rfl) (by simp) ?_
    refine AllReadyH.cons (o := ?o1_30) ?hi_30 (fun K hK => ?rest_30) AllReadyH.nil
    case hi_30 => ((simp only [List.getElem?_toArray, List.getElem?_cons_succ, List.getElem?_cons_zero]); rfl)
    go_simp
    (first | (go_at_call 41; (with_reducible refine (A1.out _ hHeld).mono ?_); rintro e wq ⟨rfl, hbq⟩) | (go_at_call 41; (with_reducible refine (A2.out _ hHeld).mono ?_); rintro e wq ⟨rfl, hbq⟩) | (go_at_call 41; (with_reducible refine (A3.out _ hHeld).mono ?_); rintro e wq ⟨rfl, hbq⟩) | (go_at_call 41; (with_reducible refine (A4.out _ hHeld).mono ?_); rintro e wq ⟨rfl, hbq⟩) | (go_at_call 41; (with_reducible refine (A5.out _ hHeld).mono ?_); rintro e wq ⟨rfl, hbq⟩))
    try go_simp
    refine hK.out _ _ (by exact (show Below W2.heap.size W2 _ from by repeat (first | assumption | exact Below.refl _ _ | refine belDrew ?_ | refine belAlloc ?_ _ | refine belStep ?_ (by assumption)))) (fun hHeld => ?_)
    clear hK K
    try simp only [Act.put, List.setIfInBounds_toArray, List.set_cons_zero, List.set_cons_succ]
    refine wpAnyH_take (i := 5) (oi := ?oi_31) (v := ?v_31) ?hi_31 (by kernel_rfl) ?hf_31 ?hr_31 ?hQ_31 (Or.inl ⟨?hw_31, ?hy_31⟩) (by assumption) ?rest_31
    case hi_31 => ((simp only [List.getElem?_toArray, List.getElem?_cons_succ, List.getElem?_cons_zero]); rfl)
    case hf_31 => kernel_rfl
    case hr_31 => kernel_rfl
    case hQ_31 => exact fun _ _ _ h => h
    case hw_31 => rfl
    case hy_31 => ((intro w hSw; (try dsimp only at hSw); go_simp); all_goals (with_reducible rfl))
    try simp only [Act.put, List.setIfInBounds_toArray, List.set_cons_zero, List.set_cons_succ]
    refine wpAnyH_take (i := 6) (oi := ?oi_32) (v := ?v_32) ?hi_32 (by kernel_rfl) ?hf_32 ?hr_32 ?hQ_32 (Or.inl ⟨?hw_32, ?hy_32⟩) (by assumption) ?rest_32
    case hi_32 => ((simp only [List.getElem?_toArray, List.getElem?_cons_succ, List.getElem?_cons_zero]); rfl)
    case hf_32 => kernel_rfl
    case hr_32 => kernel_rfl
    case hQ_32 => exact fun _ _ _ h => h
    case hw_32 => rfl
    case hy_32 => ((intro w hSw; (try dsimp only at hSw); go_simp); all_goals (with_reducible rfl))
    try simp only [Act.put, List.setIfInBounds_toArray, List.set_cons_zero, List.set_cons_succ]
    refine wpAnyH_take (i := 7) (oi := ?oi_33) (v := ?v_33) ?hi_33 (by kernel_rfl) ?hf_33 ?hr_33 ?hQ_33 (Or.inl ⟨?hw_33, ?hy_33⟩) (by assumption) ?rest_33
    case hi_33 => ((simp only [List.getElem?_toArray, List.getElem?_cons_succ, List.getElem?_cons_zero]); rfl)
    case hf_33 => kernel_rfl
    case hr_33 => kernel_rfl
    case hQ_33 => exact fun _ _ _ h => h
    case hw_33 => rfl
    case hy_33 => ((intro w hSw; (try dsimp only at hSw); go_simp); all_goals (with_reducible rfl))
    try simp only [Act.put, List.setIfInBounds_toArray, List.set_cons_zero, List.set_cons_succ]
    refine wpAnyH_take (i := 8) (oi := ?oi_34) (v := ?v_34) ?hi_34 (by kernel_rfl) ?hf_34 ?hr_34 ?hQ_34 (Or.inl ⟨?hw_34, ?hy_34⟩) (by assumption) ?rest_34
    case hi_34 => ((simp only [List.getElem?_toArray, List.getElem?_cons_succ, List.getElem?_cons_zero]); rfl)
    case hf_34 => kernel_rfl
    case hr_34 => kernel_rfl
    case hQ_34 => exact fun _ _ _ h => h
    case hw_34 => rfl
    case hy_34 => ((intro w hSw; (try dsimp only at hSw); go_simp); all_goals (with_reducible rfl))
    try simp only [Act.put, List.setIfInBounds_toArray, List.set_cons_zero, List.set_cons_succ]
    refine wpAnyH_take (i := 9) (oi := ?oi_35) (v := ?v_35) ?hi_35 (by kernel_rfl) ?hf_35 ?hr_35 ?hQ_35 (Or.inl ⟨?hw_35, ?hy_35⟩) (by assumption) ?rest_35
    case hi_35 => ((simp only [List.getElem?_toArray, List.getElem?_cons_succ, List.getElem?_cons_zero]); rfl)
    case hf_35 => kernel_rfl
    case hr_35 => kernel_rfl
    case hQ_35 => exact fun _ _ _ h => h
    case hw_35 => rfl
    case hy_35 => ((intro w hSw; (try dsimp only at hSw); go_simp); all_goals (with_reducible rfl))
    try simp only [Act.put, List.setIfInBounds_toArray, List.set_cons_zero, List.set_cons_succ]
    refine wpAnyH_take (i := 10) (oi := ?oi_36) (v := ?v_36) ?hi_36 (by kernel_rfl) ?hf_36 ?hr_36 ?hQ_36 (Or.inl ⟨?hw_36, ?hy_36⟩) (by assumption) ?rest_36
    case hi_36 => ((simp only [List.getElem?_toArray, List.getElem?_cons_succ, List.getElem?_cons_zero]); rfl)
    case hf_36 => kernel_rfl
    case hr_36 => kernel_rfl
    case hQ_36 => exact fun _ _ _ h => h
    case hw_36 => rfl
    case hy_36 => ((intro w hSw; (try dsimp only at hSw); go_simp); all_goals (with_reducible rfl))
    try simp only [Act.put, List.setIfInBounds_toArray, List.set_cons_zero, List.set_cons_succ]
    refine wpAnyH_take (i := 11) (oi := ?oi_37) (v := ?v_37) ?hi_37 (by kernel_rfl) ?hf_37 ?hr_37 ?hQ_37 (Or.inl ⟨?hw_37, ?hy_37⟩) (by assumption) ?rest_37
    case hi_37 => ((simp only [List.getElem?_toArray, List.getElem?_cons_succ, List.getElem?_cons_zero]); rfl)
    case hf_37 => kernel_rfl
    case hr_37 => kernel_rfl
    case hQ_37 => exact fun _ _ _ h => h
    case hw_37 => rfl
    case hy_37 => ((intro w hSw; (try dsimp only at hSw); go_simp); all_goals (with_reducible rfl))
    try simp only [Act.put, List.setIfInBounds_toArray, List.set_cons_zero, List.set_cons_succ]
    refine wpAnyH_take (i := 12) (oi := ?oi_38) (v := ?v_38) ?hi_38 (by kernel_rfl) ?hf_38 ?hr_38 ?hQ_38 (Or.inl ⟨?hw_38, ?hy_38⟩) (by assumption) ?rest_38
    case hi_38 => ((simp only [List.getElem?_toArray, List.getElem?_cons_succ, List.getElem?_cons_zero]); rfl)
    case hf_38 => kernel_rfl
    case hr_38 => kernel_rfl
    case hQ_38 => exact fun _ _ _ h => h
    case hw_38 => rfl
    case hy_38 => ((intro w hSw; (try dsimp only at hSw); go_simp); all_goals (with_reducible rfl))
    try simp only [Act.put, List.setIfInBounds_toArray, List.set_cons_zero, List.set_cons_succ]
    refine wpAnyH_take (i := 13) (oi := ?oi_39) (v := ?v_39) ?hi_39 (by kernel_rfl) ?hf_39 ?hr_39 ?hQ_39 (Or.inl ⟨?hw_39, ?hy_39⟩) (by assumption) ?rest_39
    case hi_39 => ((simp only [List.getElem?_toArray, List.getElem?_cons_succ, List.getElem?_cons_zero]); rfl)
    case hf_39 => kernel_rfl
    case hr_39 => kernel_rfl
    case hQ_39 => exact fun _ _ _ h => h
    case hw_39 => rfl
    case hy_39 => ((intro w hSw; (try dsimp only at hSw); go_simp); all_goals (with_reducible rfl))
    try simp only [Act.put, List.setIfInBounds_toArray, List.set_cons_zero, List.set_cons_succ]
    refine wpAnyH_take (i := 14) (oi := ?oi_40) (v := ?v_40) ?hi_40 (by kernel_rfl) ?hf_40 ?hr_40 ?hQ_40 (Or.inl ⟨?hw_40, ?hy_40⟩) (by assumption) ?rest_40
    case hi_40 => ((simp only [List.getElem?_toArray, List.getElem?_cons_succ, List.getElem?_cons_zero]); rfl)
    case hf_40 => kernel_rfl
    case hr_40 => kernel_rfl
    case hQ_40 => exact fun _ _ _ h => h
    case hw_40 => rfl
    case hy_40 => ((intro w hSw; (try dsimp only at hSw); go_simp); all_goals (with_reducible rfl))
    try simp only [Act.put, List.setIfInBounds_toArray, List.set_cons_zero, List.set_cons_succ]
    refine wpAnyH_take (i := 15) (oi := ?oi_41) (v := ?v_41) ?hi_41 (by kernel_rfl) ?hf_41 ?hr_41 ?hQ_41 (Or.inl ⟨?hw_41, ?hy_41⟩) (by assumption) ?rest_41
    case hi_41 => ((simp only [List.getElem?_toArray, List.getElem?_cons_succ, List.getElem?_cons_zero]); rfl)
    case hf_41 => kernel_rfl
    case hr_41 => kernel_rfl
    case hQ_41 => exact fun _ _ _ h => h
    case hw_41 => rfl
    case hy_41 => ((intro w hSw; (try dsimp only at hSw); go_simp); all_goals (with_reducible rfl))
    try simp only [Act.put, List.setIfInBounds_toArray, List.set_cons_zero, List.set_cons_succ]
    refine wpAnyH_take (i := 17) (oi := ?oi_42) (v := ?v_42) ?hi_42 (by kernel_rfl) ?hf_42 ?hr_42 ?hQ_42 (Or.inl ⟨?hw_42, ?hy_42⟩) (by assumption) ?rest_42
    case hi_42 => ((simp only [List.getElem?_toArray, List.getElem?_cons_succ, List.getElem?_cons_zero]); rfl)
    case hf_42 => kernel_rfl
    case hr_42 => kernel_rfl
    case hQ_42 => exact fun _ _ _ h => h
    case hw_42 => rfl
    case hy_42 => ((intro w hSw; (try dsimp only at hSw); go_simp); all_goals (with_reducible rfl))
    try simp only [Act.put, List.setIfInBounds_toArray, List.set_cons_zero, List.set_cons_succ]
    refine wpAnyH_take (i := 18) (oi := ?oi_43) (v := ?v_43) ?hi_43 (by kernel_rfl) ?hf_43 ?hr_43 ?hQ_43 (Or.inl ⟨?hw_43, ?hy_43⟩) (by assumption) ?rest_43
    case hi_43 => ((simp only [List.getElem?_toArray, List.getElem?_cons_succ, List.getElem?_cons_zero]); rfl)
    case hf_43 => kernel_rfl
    case hr_43 => kernel_rfl
    case hQ_43 => exact fun _ _ _ h => h
    case hw_43 => rfl
    case hy_43 => ((intro w hSw; (try dsimp only at hSw); go_simp); all_goals (with_reducible rfl))
    try simp only [Act.put, List.setIfInBounds_toArray, List.set_cons_zero, List.set_cons_succ]
    refine wpAnyH_take (i := 19) (oi := ?oi_44) (v := ?v_44) ?hi_44 (by kernel_rfl) ?hf_44 ?hr_44 ?hQ_44 (Or.inl ⟨?hw_44, ?hy_44⟩) (by assumption) ?rest_44
    case hi_44 => ((simp only [List.getElem?_toArray, List.getElem?_cons_succ, List.getElem?_cons_zero]); rfl)
    case hf_44 => kernel_rfl
    case hr_44 => kernel_rfl
    case hQ_44 => exact fun _ _ _ h => h
    case hw_44 => rfl
    case hy_44 => ((intro w hSw; (try dsimp only at hSw); go_simp); all_goals (with_reducible rfl))
    try simp only [Act.put, List.setIfInBounds_toArray, List.set_cons_zero, List.set_cons_succ]
    refine wpAnyH_take (i := 20) (oi := ?oi_45) (v := ?v_45) ?hi_45 (by kernel_rfl) ?hf_45 ?hr_45 ?hQ_45 (Or.inl ⟨?hw_45, ?hy_45⟩) (by assumption) ?rest_45
    case hi_45 => ((simp only [List.getElem?_toArray, List.getElem?_cons_succ, List.getElem?_cons_zero]); rfl)
    case hf_45 => kernel_rfl
    case hr_45 => kernel_rfl
    case hQ_45 => exact fun _ _ _ h => h
    case hw_45 => rfl
    case hy_45 => ((intro w hSw; (try dsimp only at hSw); go_simp); all_goals (with_reducible rfl))
    try simp only [Act.put, List.setIfInBounds_toArray, List.set_cons_zero, List.set_cons_succ]
    refine wpAnyH_ready (rs := [16]) (by kernel_rfl) (by simp) ?_
    refine AllReadyH.cons (o := ?o1_46) ?hi_46 (fun K hK => ?rest_46) AllReadyH.nil
    case hi_46 => ((simp only [List.getElem?_toArray, List.getElem?_cons_succ, List.getElem?_cons_zero]); rfl)
    go_simp
    (first | (go_at_call 41; (with_reducible refine (A1.out _ hHeld).mono ?_); rintro e wq ⟨rfl, hbq⟩) | (go_at_call 41; (with_reducible refine (A2.out _ hHeld).mono ?_); rintro e wq ⟨rfl, hbq⟩) | (go_at_call 41; (with_reducible refine (A3.out _ hHeld).mono ?_); rintro e wq ⟨rfl, hbq⟩) | (go_at_call 41; (with_reducible refine (A4.out _ hHeld).mono ?_); rintro e wq ⟨rfl, hbq⟩) | (go_at_call 41; (with_reducible refine (A5.out _ hHeld).mono ?_); rintro e wq ⟨rfl, hbq⟩))
    try go_simp
    refine hK.out _ _ (by exact (show Below W2.heap.size W2 _ from by repeat (first | assumption | exact Below.refl _ _ | refine belDrew ?_ | refine belAlloc ?_ _ | refine belStep ?_ (by assumption)))) (fun hHeld => ?_)
    clear hK K
    try simp only [Act.put, List.setIfInBounds_toArray, List.set_cons_zero, List.set_cons_succ]
    refine wpAnyH_ready (rs := [21]) (by kernel_rfl) (by simp) ?_
    refine AllReadyH.cons (o := ?o1_47) ?hi_47 (fun K hK => ?rest_47) AllReadyH.nil
    case hi_47 => ((simp only [List.getElem?_toArray, List.getElem?_cons_succ, List.getElem?_cons_zero]); rfl)
    go_simp
    (first | (go_at_call 41; (with_reducible refine (A1.out _ hHeld).mono ?_); rintro e wq ⟨rfl, hbq⟩) | (go_at_call 41; (with_reducible refine (A2.out _ hHeld).mono ?_); rintro e wq ⟨rfl, hbq⟩) | (go_at_call 41; (with_reducible refine (A3.out _ hHeld).mono ?_); rintro e wq ⟨rfl, hbq⟩) | (go_at_call 41; (with_reducible refine (A4.out _ hHeld).mono ?_); rintro e wq ⟨rfl, hbq⟩) | (go_at_call 41; (with_reducible refine (A5.out _ hHeld).mono ?_); rintro e wq ⟨rfl, hbq⟩))
    try go_simp
    refine hK.out _ _ (by exact (show Below W2.heap.size W2 _ from by repeat (first | assumption | exact Below.refl _ _ | refine belDrew ?_ | refine belAlloc ?_ _ | refine belStep ?_ (by assumption)))) (fun hHeld => ?_)
    clear hK K
    try simp only [Act.put, List.setIfInBounds_toArray, List.set_cons_zero, List.set_cons_succ]
    refine wpAnyH_take (i := 22) (oi := ?oi_48) (v := ?v_48) ?hi_48 (by kernel_rfl) ?hf_48 ?hr_48 ?hQ_48 (Or.inl ⟨?hw_48, ?hy_48⟩) (by assumption) ?rest_48
    case hi_48 => ((simp only [List.getElem?_toArray, List.getElem?_cons_succ, List.getElem?_cons_zero]); rfl)
    case hf_48 => kernel_rfl
    case hr_48 => kernel_rfl
    case hQ_48 => exact fun _ _ _ h => h
    case hw_48 => rfl
    case hy_48 => ((intro w hSw; (try dsimp only at hSw); go_simp); all_goals (with_reducible rfl))
    try simp only [Act.put, List.setIfInBounds_toArray, List.set_cons_zero, List.set_cons_succ]
    refine wpAnyH_take (i := 23) (oi := ?oi_49) (v := ?v_49) ?hi_49 (by kernel_rfl) ?hf_49 ?hr_49 ?hQ_49 (Or.inl ⟨?hw_49, ?hy_49⟩) (by assumption) ?rest_49
    case hi_49 => ((simp only [List.getElem?_toArray, List.getElem?_cons_succ, List.getElem?_cons_zero]); rfl)
    case hf_49 => kernel_rfl
    case hr_49 => kernel_rfl
    case hQ_49 => exact fun _ _ _ h => h
    case hw_49 => rfl
    case hy_49 => ((intro w hSw; (try dsimp only at hSw); go_simp); all_goals (with_reducible rfl))
    try simp only [Act.put, List.setIfInBounds_toArray, List.set_cons_zero, List.set_cons_succ]
    refine wpAnyH_take (i := 24) (oi := ?oi_50) (v := ?v_50) ?hi_50 (by kernel_rfl) ?hf_50 ?hr_50 ?hQ_50 (Or.inl ⟨?hw_50, ?hy_50⟩) (by assumption) ?rest_50
    case hi_50 => ((simp only [List.getElem?_toArray, List.getElem?_cons_succ, List.getElem?_cons_zero]); rfl)
    case hf_50 => kernel_rfl
    case hr_50 => kernel_rfl
    case hQ_50 => exact fun _ _ _ h => h
    case hw_50 => rfl
    case hy_50 => ((intro w hSw; (try dsimp only at hSw); go_simp); all_goals (with_reducible rfl))
    try simp only [Act.put, List.setIfInBounds_toArray, List.set_cons_zero, List.set_cons_succ]
    refine wpAnyH_done (by kernel_rfl) ?_ _
    have hbel := hHeld
    rcases KEY.out with rfl | ⟨rfl, rfl⟩ | ⟨rfl, rfl, rfl⟩
    all_goals
      go_wp2_with (first | (go_at_call 41; (with_reducible refine (A1.out _ hbel).mono ?_); rintro e w1 ⟨rfl, hb1⟩; replace hbel := belStep hbel hb1; clear hb1) | (go_at_call 41; (with_reducible refine (A2.out _ hbel).mono ?_); rintro e w1 ⟨rfl, hb1⟩; replace hbel := belStep hbel hb1; clear hb1) | (go_at_call 41; (with_reducible refine (A3.out _ hbel).mono ?_); rintro e w1 ⟨rfl, hb1⟩; replace hbel := belStep hbel hb1; clear hb1) | (go_at_call 41; (with_reducible refine (A4.out _ hbel).mono ?_); rintro e w1 ⟨rfl, hb1⟩; replace hbel := belStep hbel hb1; clear hb1) | (go_at_call 41; (with_reducible refine (A5.out _ hbel).mono ?_); rintro e w1 ⟨rfl, hb1⟩; replace hbel := belStep hbel hb1; clear hb1))
      go_ret
      exact ⟨rfl, belStep hw hbel⟩

set_option maxRecDepth 100000 in
theorem lifted (os : Os) (started : os.Started) (H : Type) (enc : TypeId × Value → H) :
    ReturnsInHanded {} Try.checked os 12 .any (Rows.rankOrderSpec.pre6 enc Try.prog Try.f12 Rows.rankOrderRow.domain false) (Rows.rankOrderSpec.post enc Try.prog Try.f12 false true false false) := by
  refine returnsInHanded_of_change (C := Try.checked) own started (by kernel_rfl) Try.func12
    (ChangeSpec.witness6 (enc := enc) (C := Try.checked) false ⟨#[], #[.int .u8 0, .agg #[.string ByteArray.empty, .int .i64 0, .bool false, .int .i64 0, .int .i64 0, .int .i64 0, .int .i64 0, .int .i64 0, .int .i64 0, .string ByteArray.empty, .int .i64 0], .agg #[.string ByteArray.empty, .int .i64 0, .bool false, .int .i64 0, .int .i64 0, .int .i64 0, .int .i64 0, .int .i64 0, .int .i64 0, .string ByteArray.empty, .int .i64 0], .agg #[.string ByteArray.empty, .int .i64 0, .bool false, .int .i64 0, .int .i64 0, .int .i64 0, .int .i64 0, .int .i64 0, .int .i64 0, .string ByteArray.empty, .int .i64 0], .agg #[.int .i64 0, .float .f64 0, .float .f64 0, .float .f64 0, .slice none 0 0]], []⟩ 8 (by kernel_rfl) (by kernel_rfl) (by kernel_rfl) (by kernel_rfl)) ?_
  intro W base args ds gs before hval0 hW hcnd _
  have hval : ∀ (j : Nat) t v, Try.f12.params[j]? = some t → args[j]? = some v → Value.okWide Try.prog W .any base t v := hval0
  have hW' := hW
  obtain ⟨p, q, hA0, hV, rfl, hfz, hnd⟩ := hW
  have hA : DataW.TrodAll enc Try.prog W 0 (fun _ => true) true Try.f12.params.toList args.toList ds p := hA0
  rw [Try.params12] at hA hval
  obtain ⟨v0, vs0, d0, ds0, p0, q0, hargs, rfl, rfl, h0, r0⟩ := trodAll_cons hA
  obtain ⟨v1, vs1, d1, ds1, p1, q1, rfl, rfl, rfl, h1, r1⟩ := trodAll_cons r0
  obtain ⟨v2, vs2, d2, ds2, p2, q2, rfl, rfl, rfl, h2, r2⟩ := trodAll_cons r1
  obtain ⟨v3, vs3, d3, ds3, p3, q3, rfl, rfl, rfl, h3, r3⟩ := trodAll_cons r2
  obtain ⟨v4, vs4, d4, ds4, p4, q4, rfl, rfl, rfl, h4, r4⟩ := trodAll_cons r3
  obtain ⟨rfl, rfl, rfl⟩ := trodAll_nil r4
  obtain rfl : args = #[v0, v1, v2, v3, v4] := by cases args; simp_all
  obtain ⟨rfl, rfl⟩ := trodVars_none hV
  have k0 := h0
  have lt0 : ∀ x ∈ p0, x.block < W.heap.size := by obtain ⟨m, hm⟩ := k0; exact DataW.trod_lt m _ _ _ hm
  have o0 : Value.okWide Try.prog W .any base 5 v0 := hval 0 5 v0 rfl rfl
  obtain ⟨a0, rfl, rfl, rfl, w0⟩ := open_int Try.underlying5 o0 h0
  have k1 := h1
  have lt1 : ∀ x ∈ p1, x.block < W.heap.size := by obtain ⟨m, hm⟩ := k1; exact DataW.trod_lt m _ _ _ hm
  have o1 : Value.okWide Try.prog W .any base 62 v1 := hval 1 62 v1 rfl rfl
  obtain ⟨p1, rfl, fp1⟩ := open_pod o1 h1
  have k2 := h2
  have lt2 : ∀ x ∈ p2, x.block < W.heap.size := by obtain ⟨m, hm⟩ := k2; exact DataW.trod_lt m _ _ _ hm
  have o2 : Value.okWide Try.prog W .any base 62 v2 := hval 2 62 v2 rfl rfl
  obtain ⟨p2, rfl, fp2⟩ := open_pod o2 h2
  have k3 := h3
  have lt3 : ∀ x ∈ p3, x.block < W.heap.size := by obtain ⟨m, hm⟩ := k3; exact DataW.trod_lt m _ _ _ hm
  have o3 : Value.okWide Try.prog W .any base 62 v3 := hval 3 62 v3 rfl rfl
  obtain ⟨p3, rfl, fp3⟩ := open_pod o3 h3
  have k4 := h4
  have lt4 : ∀ x ∈ p4, x.block < W.heap.size := by obtain ⟨m, hm⟩ := k4; exact DataW.trod_lt m _ _ _ hm
  have o4 : Value.okWide Try.prog W .any base 26 v4 := hval 4 26 v4 rfl rfl
  obtain ⟨x4, a4, len4, cap4, L4, rfl, fa4, fb4, fc4, fd4⟩ := open_raw o4 h4
  clear hA0 hval0
  refine (walk a0 p1 p2 p3 x4 a4 len4 cap4 L4 W (in8_of_wf w0) fp1 fp2 fp3 fa4 fb4 fc4 fd4).mono fun e W' ⟨he, bel⟩ => ?_
  subst he
  exact ⟨_, rfl, _, _, _, [], _, [], hW', trodAll_mk1 (shut_bool Try.underlying4 _), (trodAll_cons_mk (Below.trod laidOut (by kernel_rfl) (of_decide_eq_true (by kernel_rfl)) k0 bel lt0) (trodAll_cons_mk (Below.trod laidOut (by kernel_rfl) (of_decide_eq_true (by kernel_rfl)) k1 bel lt1) (trodAll_cons_mk (Below.trod laidOut (by kernel_rfl) (of_decide_eq_true (by kernel_rfl)) k2 bel lt2) (trodAll_cons_mk (Below.trod laidOut (by kernel_rfl) (of_decide_eq_true (by kernel_rfl)) k3 bel lt3) (trodAll_cons_mk (Below.trod laidOut (by kernel_rfl) (of_decide_eq_true (by kernel_rfl)) k4 bel lt4) trodAll_mk0))))), rfl, bel.frame _, fun h => by cases h⟩

theorem over : Rows.rankOrderRow.holds Try.pinned (OpenSpec.ofChange Rows.rankOrderSpec) :=
  OpenClaim.holds_of_wide 12 Try.f12 rfl rfl rfl rfl rfl rfl rfl ⟨rfl, rfl, rfl, rfl, rfl⟩ rfl rfl rfl rfl rfl (by kernel_rfl) Try.func12 (by kernel_rfl)
    (of_decide_eq_true (by kernel_rfl)) (by unfold Func.isWrapper; first | (rw [if_pos (by decide +kernel)]; kernel_rfl) | (rw [if_neg (by decide +kernel)]; exact ⟨rfl, rfl⟩))
    (fun os started H enc _ => lifted os started H enc)

/-- The statement. -/
theorem proved : Rows.RankOrderSaid := over
#print axioms proved

end Go.Proofs.Ytcgpmihjodolmaa.rankOrder
