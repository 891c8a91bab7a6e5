
/- RankKeeps holds for all its arguments. No conditions. -/
import Derived.Test.YtcgpmihjodolmaaAwake20
import Derived.Test.YtcgpmihjodolmaaRk7
import Derived.Test.YtcgpmihjodolmaaKeepC
namespace Go.Proofs.Ytcgpmihjodolmaa.rankKeeps
open Go.ChangeShapes Go.WideShapes Go.ChangeAt Go.RowKit
open Go.ChangeMaps (open_string shut_string)
set_option linter.unusedVariables false
set_option linter.unusedSimpArgs false
theorem sig_any (n : Int) (w : World) (hn : 0 ≤ n ∧ n ≤ 255) : Calls Try.prog 38 #[.int .u8 n] w fun e w' => (∃ g : Nat, g < 3 ∧ e = .returned (.int .i64 (g : Int))) ∧ w = w' := by
  obtain ⟨h0, h1⟩ := hn
  have hne : ¬ ((3 : Int) = 0) := by omega
  obtain ⟨g, hg⟩ : ∃ g : Nat, n % 3 = (g : Int) := ⟨(n % 3).toNat, by omega⟩
  have hg3 : g < 3 := by omega
  go_enter Try.func38, Try.ntmps38
  go_wp2
  go_ret
  exact ⟨⟨g, hg3, rfl⟩, rfl⟩
theorem readF_bd (n : Nat) : 0 ≤ readF n ∧ readF n ≤ 9223372036854775807 := by
  unfold readF
  split
  · omega
  · split
    · omega
    · rename_i h
      have := whole_lt (frung n) (by omega)
      omega
theorem readL_ok (L : List UsgV) : ∀ u ∈ readL L, UseOK u := by
  intro u hu
  unfold readL sortU at hu
  obtain ⟨v, _, rfl⟩ := List.mem_map.1 (sortBy_mem.1 hu)
  exact ⟨readF_bd _, readF_bd _, readF_bd _⟩
theorem rread2 {r : RawV} {a : Option Addr} {len cap : Nat} {L : List UsgV} {w : World} {S : SmpV} (hl : L.length = len) (hr : r.ok) (hok : ∀ x ∈ L, x.ok) (hR : Row w a len cap 4 (L.flatMap UsgV.cells)) (hq : rightR r L = true) (hS : readOK r L = S) :
    Calls Try.prog 24 #[.agg #[.int .i64 r.t, .float .f64 r.x, .float .f64 r.y, .float .f64 r.z, .slice a len cap]] w fun e w' => (∃ b n, e = .returned (.agg #[.int .i64 S.t, .int .i64 S.a, .int .i64 S.b, .int .i64 S.c, .slice b S.use.length n]) ∧ OwnR w' w.heap.size 51 4 (.slice b S.use.length n) S.use.length (S.use.flatMap UseV.cells)) ∧ Below w.heap.size w w' := hS ▸ sref_Read r a len cap L w hl hr hok hR hq
set_option maxHeartbeats 1000000 in
theorem eq_ent_same (x : EntV) (w : World) : (Op.equalIn 10000 66 (.agg #[.string x.pod.id, .int .i64 x.pod.prio, .bool x.pod.crit, .int .i64 x.pod.r0, .int .i64 x.pod.r1, .int .i64 x.pod.r2, .int .i64 x.pod.l0, .int .i64 x.pod.l1, .int .i64 x.pod.l2, .string x.pod.img, .int .i64 x.pod.size, .int .i64 x.phase]) (.agg #[.string x.pod.id, .int .i64 x.pod.prio, .bool x.pod.crit, .int .i64 x.pod.r0, .int .i64 x.pod.r1, .int .i64 x.pod.r2, .int .i64 x.pod.l0, .int .i64 x.pod.l1, .int .i64 x.pod.l2, .string x.pod.img, .int .i64 x.pod.size, .int .i64 x.phase])).run Try.prog w = .ok true w := by
  have hs : Try.prog.fieldsOf 62 = #[{ name := "Id", type := 9, offset := 0, embedded := false, tag := "", pkgPath := "", byteOffset := 0 }, { name := "Prio", type := 3, offset := 1, embedded := false, tag := "", pkgPath := "", byteOffset := 16 }, { name := "Critical", type := 4, offset := 2, embedded := false, tag := "", pkgPath := "", byteOffset := 24 }, { name := "Req", type := 29, offset := 3, embedded := false, tag := "", pkgPath := "", byteOffset := 32 }, { name := "Lim", type := 29, offset := 6, embedded := false, tag := "", pkgPath := "", byteOffset := 56 }, { name := "Image", type := 9, offset := 9, embedded := false, tag := "", pkgPath := "", byteOffset := 80 }, { name := "Size", type := 3, offset := 10, embedded := false, tag := "", pkgPath := "", byteOffset := 96 }] := by kernel_rfl
  have ht : Try.prog.fieldsOf 66 = #[{ name := "Pod", type := 62, offset := 0, embedded := false, tag := "", pkgPath := "", byteOffset := 0 }, { name := "Phase", type := 3, offset := 11, embedded := false, tag := "", pkgPath := "", byteOffset := 104 }] := by kernel_rfl
  have h3 : ∀ e (a b c : Int) (v : World), (Op.equalIn (e + 2) 29 (.agg #[.int .i64 a, .int .i64 b, .int .i64 c]) (.agg #[.int .i64 a, .int .i64 b, .int .i64 c])).run Try.prog v = .ok true v := by
    intro e a b c v
    rw [Op.equalIn]
    simp [run_underlying Try.underlying29, go_sem]
    rw [show List.range' 0 3 = [0, 1, 2] from rfl]
    simp [List.forIn_cons, go_sem]
  have hp : ∀ v : World, (Op.equalIn 9999 62 (.agg #[.string x.pod.id, .int .i64 x.pod.prio, .bool x.pod.crit, .int .i64 x.pod.r0, .int .i64 x.pod.r1, .int .i64 x.pod.r2, .int .i64 x.pod.l0, .int .i64 x.pod.l1, .int .i64 x.pod.l2, .string x.pod.img, .int .i64 x.pod.size]) (.agg #[.string x.pod.id, .int .i64 x.pod.prio, .bool x.pod.crit, .int .i64 x.pod.r0, .int .i64 x.pod.r1, .int .i64 x.pod.r2, .int .i64 x.pod.l0, .int .i64 x.pod.l1, .int .i64 x.pod.l2, .string x.pod.img, .int .i64 x.pod.size])).run Try.prog v = .ok true v := by
    intro v
    rw [run_equalIn_struct _ _ _ _ _ (by kernel_rfl) (by kernel_rfl), hs]
    simp [go_sem, h3]
  rw [run_equalIn_struct _ _ _ _ _ (by kernel_rfl) (by kernel_rfl), ht]
  simp [go_sem, hp]
theorem stored12 {w : World} {B g n c m : Nat} {cs : List Value} (h : OwnR w B 66 12 (.slice (some ⟨g, 0, none⟩) n c) n cs) : OwnR ((((((((((((w.setCell ⟨g, m, none⟩ (.string ⟨#[]⟩)).setCell ⟨g, m + 1, none⟩ (.int .i64 0)).setCell ⟨g, m + 2, none⟩ (.bool false)).setCell ⟨g, m + 3, none⟩ (.int .i64 0)).setCell ⟨g, m + 4, none⟩ (.int .i64 0)).setCell ⟨g, m + 5, none⟩ (.int .i64 0)).setCell ⟨g, m + 6, none⟩ (.int .i64 0)).setCell ⟨g, m + 7, none⟩ (.int .i64 0)).setCell ⟨g, m + 8, none⟩ (.int .i64 0)).setCell ⟨g, m + 9, none⟩ (.string ⟨#[]⟩)).setCell ⟨g, m + 10, none⟩ (.int .i64 0)).setCell ⟨g, m + 11, none⟩ (.int .i64 0)) B 66 12 (.slice (some ⟨g, 0, none⟩) n c) n ((((((((((((cs.set m (.string ⟨#[]⟩)).set (m + 1) (.int .i64 0)).set (m + 2) (.bool false)).set (m + 3) (.int .i64 0)).set (m + 4) (.int .i64 0)).set (m + 5) (.int .i64 0)).set (m + 6) (.int .i64 0)).set (m + 7) (.int .i64 0)).set (m + 8) (.int .i64 0)).set (m + 9) (.string ⟨#[]⟩)).set (m + 10) (.int .i64 0)).set (m + 11) (.int .i64 0)) := (World.ownsRow.stored ((World.ownsRow.stored ((World.ownsRow.stored ((World.ownsRow.stored ((World.ownsRow.stored ((World.ownsRow.stored ((World.ownsRow.stored ((World.ownsRow.stored ((World.ownsRow.stored ((World.ownsRow.stored ((World.ownsRow.stored ((World.ownsRow.stored (h) (m) (.string ⟨#[]⟩)).1) (m + 1) (.int .i64 0)).1) (m + 2) (.bool false)).1) (m + 3) (.int .i64 0)).1) (m + 4) (.int .i64 0)).1) (m + 5) (.int .i64 0)).1) (m + 6) (.int .i64 0)).1) (m + 7) (.int .i64 0)).1) (m + 8) (.int .i64 0)).1) (m + 9) (.string ⟨#[]⟩)).1) (m + 10) (.int .i64 0)).1) (m + 11) (.int .i64 0)).1
theorem low12 {w : World} {B n E g m : Nat} {v : Value} {cs : List Value} (h : OwnR w B E 1 v n cs) (hg : g < B) : OwnR ((((((((((((w.setCell ⟨g, m, none⟩ (.string ⟨#[]⟩)).setCell ⟨g, m + 1, none⟩ (.int .i64 0)).setCell ⟨g, m + 2, none⟩ (.bool false)).setCell ⟨g, m + 3, none⟩ (.int .i64 0)).setCell ⟨g, m + 4, none⟩ (.int .i64 0)).setCell ⟨g, m + 5, none⟩ (.int .i64 0)).setCell ⟨g, m + 6, none⟩ (.int .i64 0)).setCell ⟨g, m + 7, none⟩ (.int .i64 0)).setCell ⟨g, m + 8, none⟩ (.int .i64 0)).setCell ⟨g, m + 9, none⟩ (.string ⟨#[]⟩)).setCell ⟨g, m + 10, none⟩ (.int .i64 0)).setCell ⟨g, m + 11, none⟩ (.int .i64 0)) B E 1 v n cs := own_low (own_low (own_low (own_low (own_low (own_low (own_low (own_low (own_low (own_low (own_low (own_low (h) ⟨g, m, none⟩ hg (.string ⟨#[]⟩)) ⟨g, m + 1, none⟩ hg (.int .i64 0)) ⟨g, m + 2, none⟩ hg (.bool false)) ⟨g, m + 3, none⟩ hg (.int .i64 0)) ⟨g, m + 4, none⟩ hg (.int .i64 0)) ⟨g, m + 5, none⟩ hg (.int .i64 0)) ⟨g, m + 6, none⟩ hg (.int .i64 0)) ⟨g, m + 7, none⟩ hg (.int .i64 0)) ⟨g, m + 8, none⟩ hg (.int .i64 0)) ⟨g, m + 9, none⟩ hg (.string ⟨#[]⟩)) ⟨g, m + 10, none⟩ hg (.int .i64 0)) ⟨g, m + 11, none⟩ hg (.int .i64 0)
theorem bel12 {w0 w : World} {g m : Nat} (h : Below w0.heap.size w0 w) (hg : w0.heap.size ≤ g) : Below w0.heap.size w0 ((((((((((((w.setCell ⟨g, m, none⟩ (.string ⟨#[]⟩)).setCell ⟨g, m + 1, none⟩ (.int .i64 0)).setCell ⟨g, m + 2, none⟩ (.bool false)).setCell ⟨g, m + 3, none⟩ (.int .i64 0)).setCell ⟨g, m + 4, none⟩ (.int .i64 0)).setCell ⟨g, m + 5, none⟩ (.int .i64 0)).setCell ⟨g, m + 6, none⟩ (.int .i64 0)).setCell ⟨g, m + 7, none⟩ (.int .i64 0)).setCell ⟨g, m + 8, none⟩ (.int .i64 0)).setCell ⟨g, m + 9, none⟩ (.string ⟨#[]⟩)).setCell ⟨g, m + 10, none⟩ (.int .i64 0)).setCell ⟨g, m + 11, none⟩ (.int .i64 0)) := belSet (belSet (belSet (belSet (belSet (belSet (belSet (belSet (belSet (belSet (belSet (belSet (h) ⟨g, m, none⟩ (.string ⟨#[]⟩) hg) ⟨g, m + 1, none⟩ (.int .i64 0) hg) ⟨g, m + 2, none⟩ (.bool false) hg) ⟨g, m + 3, none⟩ (.int .i64 0) hg) ⟨g, m + 4, none⟩ (.int .i64 0) hg) ⟨g, m + 5, none⟩ (.int .i64 0) hg) ⟨g, m + 6, none⟩ (.int .i64 0) hg) ⟨g, m + 7, none⟩ (.int .i64 0) hg) ⟨g, m + 8, none⟩ (.int .i64 0) hg) ⟨g, m + 9, none⟩ (.string ⟨#[]⟩) hg) ⟨g, m + 10, none⟩ (.int .i64 0) hg) ⟨g, m + 11, none⟩ (.int .i64 0) hg
theorem tail12 {cs ds : List Value} {k m : Nat} (h : TailEq cs ds (k * 12)) (hm : m = k * 12) : TailEq ((((((((((((cs.set m (.string ⟨#[]⟩)).set (m + 1) (.int .i64 0)).set (m + 2) (.bool false)).set (m + 3) (.int .i64 0)).set (m + 4) (.int .i64 0)).set (m + 5) (.int .i64 0)).set (m + 6) (.int .i64 0)).set (m + 7) (.int .i64 0)).set (m + 8) (.int .i64 0)).set (m + 9) (.string ⟨#[]⟩)).set (m + 10) (.int .i64 0)).set (m + 11) (.int .i64 0)) ds ((k + 1) * 12) := by
  subst hm
  refine (((((((((((h.set (k * 12) (by omega) (by omega) _).set2 (k * 12 + 1) (by omega) _).set2 (k * 12 + 2) (by omega) _).set2 (k * 12 + 3) (by omega) _).set2 (k * 12 + 4) (by omega) _).set2 (k * 12 + 5) (by omega) _).set2 (k * 12 + 6) (by omega) _).set2 (k * 12 + 7) (by omega) _).set2 (k * 12 + 8) (by omega) _).set2 (k * 12 + 9) (by omega) _).set2 (k * 12 + 10) (by omega) _).set2 (k * 12 + 11) (by omega) _
set_option maxRecDepth 100000 in
set_option maxHeartbeats 16000000 in
theorem walk (n : Int) (ta : Option Addr) (tlen tcap : Nat) (T : List EntV) (r : RawV) (a : Option Addr) (len cap : Nat) (L : List UsgV) (w : World) (hn : 0 ≤ n ∧ n ≤ 255) (htl : T.length = tlen) (htok : ∀ x ∈ T, x.ok) (hTR : Row w ta tlen tcap 12 (T.flatMap EntV.cells)) (hr : r.ok) (hl : L.length = len) (hok : ∀ x ∈ L, x.ok) (hR : Row w a len cap 4 (L.flatMap UsgV.cells)) :
    Calls Try.prog 17 #[.int .u8 n, .slice ta tlen tcap, .agg #[.int .i64 r.t, .float .f64 r.x, .float .f64 r.y, .float .f64 r.z, .slice a len cap]] w fun e w' => e = .returned (.bool true) ∧ Below w.heap.size w w' := by
  have hw : Below w.heap.size w w := Below.refl _ _
  have hbel := hw
  have hbd_t : tlen ≤ tcap ∧ tcap ≤ 9223372036854775807 := by obtain ⟨_, h1, h2, _⟩ := hTR; unfold maxLen at h2; exact ⟨h1, h2⟩
  obtain ⟨hbd1_t, hbd2_t⟩ := hbd_t
  have hbd_a : len ≤ cap ∧ cap ≤ 9223372036854775807 := by obtain ⟨_, h1, h2, _⟩ := hR; unfold maxLen at h2; exact ⟨h1, h2⟩
  obtain ⟨hbd1_a, hbd2_a⟩ := hbd_a
  have HTR := Lib.hid hTR
  have HTO := Lib.hid htok
  have HR := Lib.hid hR
  have HOK := Lib.hid hok
  have HRO := Lib.hid hr
  have HN := Lib.hid hn
  clear hR hok hr hn hTR htok
  subst hl htl
  have CFW := Lib.hid (fun u (hu : Below w.heap.size w u) => sref_Few r a L.length cap L u rfl (HR.out.later hu))
  have CRR := Lib.hid (fun u (hu : Below w.heap.size w u) => sref_Right r a L.length cap L u rfl HRO.out HOK.out (HR.out.later hu))
  have CFT := Lib.hid (fun v (hv : Below w.heap.size w v) => rref_Fit ta T.length tcap T v rfl HTO.out (HTR.out.later hv))
  obtain ⟨rr, hrr⟩ : ∃ b, rightR r L = b := ⟨_, rfl⟩
  have HRR := Lib.hid hrr
  rw [hrr] at CRR
  clear hrr
  have CSG := Lib.hid (fun u => sig_any n u HN.out)
  rcases rr with _ | _
  · go_enter Try.func17, Try.ntmps17
    go_upto_region 1 with fail
    have rw0 : (w.alloc (.cells #[.int .i64 r.t, .float .f64 r.x, .float .f64 r.y, .float .f64 r.z, .slice a L.length cap] 26)).cell? ⟨w.heap.size, 0, none⟩ = some (.int .i64 r.t) := by first | (simp; done) | (rw [World.cell?_alloc_at _ _ _ _ (by simp)]; rfl) | (rw [World.cell?_alloc_past _ _ _ (by simp <;> omega), World.cell?_alloc_at _ _ _ _ (by simp)]; rfl) | (rw [World.cell?_alloc_past _ _ _ (by simp <;> omega), World.cell?_alloc_past _ _ _ (by simp <;> omega), World.cell?_alloc_at _ _ _ _ (by simp)]; rfl)
    have rw1 : (w.alloc (.cells #[.int .i64 r.t, .float .f64 r.x, .float .f64 r.y, .float .f64 r.z, .slice a L.length cap] 26)).cell? ⟨w.heap.size, 1, none⟩ = some (.float .f64 r.x) := by first | (simp; done) | (rw [World.cell?_alloc_at _ _ _ _ (by simp)]; rfl) | (rw [World.cell?_alloc_past _ _ _ (by simp <;> omega), World.cell?_alloc_at _ _ _ _ (by simp)]; rfl) | (rw [World.cell?_alloc_past _ _ _ (by simp <;> omega), World.cell?_alloc_past _ _ _ (by simp <;> omega), World.cell?_alloc_at _ _ _ _ (by simp)]; rfl)
    have rw2 : (w.alloc (.cells #[.int .i64 r.t, .float .f64 r.x, .float .f64 r.y, .float .f64 r.z, .slice a L.length cap] 26)).cell? ⟨w.heap.size, 2, none⟩ = some (.float .f64 r.y) := by first | (simp; done) | (rw [World.cell?_alloc_at _ _ _ _ (by simp)]; rfl) | (rw [World.cell?_alloc_past _ _ _ (by simp <;> omega), World.cell?_alloc_at _ _ _ _ (by simp)]; rfl) | (rw [World.cell?_alloc_past _ _ _ (by simp <;> omega), World.cell?_alloc_past _ _ _ (by simp <;> omega), World.cell?_alloc_at _ _ _ _ (by simp)]; rfl)
    have rw3 : (w.alloc (.cells #[.int .i64 r.t, .float .f64 r.x, .float .f64 r.y, .float .f64 r.z, .slice a L.length cap] 26)).cell? ⟨w.heap.size, 3, none⟩ = some (.float .f64 r.z) := by first | (simp; done) | (rw [World.cell?_alloc_at _ _ _ _ (by simp)]; rfl) | (rw [World.cell?_alloc_past _ _ _ (by simp <;> omega), World.cell?_alloc_at _ _ _ _ (by simp)]; rfl) | (rw [World.cell?_alloc_past _ _ _ (by simp <;> omega), World.cell?_alloc_past _ _ _ (by simp <;> omega), World.cell?_alloc_at _ _ _ _ (by simp)]; rfl)
    have rw4 : (w.alloc (.cells #[.int .i64 r.t, .float .f64 r.x, .float .f64 r.y, .float .f64 r.z, .slice a L.length cap] 26)).cell? ⟨w.heap.size, 4, none⟩ = some (.slice a L.length cap) := by first | (simp; done) | (rw [World.cell?_alloc_at _ _ _ _ (by simp)]; rfl) | (rw [World.cell?_alloc_past _ _ _ (by simp <;> omega), World.cell?_alloc_at _ _ _ _ (by simp)]; rfl) | (rw [World.cell?_alloc_past _ _ _ (by simp <;> omega), World.cell?_alloc_past _ _ _ (by simp <;> omega), World.cell?_alloc_at _ _ _ _ (by simp)]; rfl)
    have hb2 := (by repeat (first | exact hbel | refine belAlloc ?_ _ | refine belDrew ?_ | refine belSet ?_ _ _ (by simp)) : Below w.heap.size w (w.alloc (.cells #[.int .i64 r.t, .float .f64 r.x, .float .f64 r.y, .float .f64 r.z, .slice a L.length cap] 26)))
    replace hw := belStep hw hb2
    clear hb2 hbel
    generalize w.alloc (.cells #[.int .i64 r.t, .float .f64 r.x, .float .f64 r.y, .float .f64 r.z, .slice a L.length cap] 26) = W1 at *
    replace rw0 := keep rw0
    replace rw1 := keep rw1
    replace rw2 := keep rw2
    replace rw3 := keep rw3
    replace rw4 := keep rw4
    have hbel : Below W1.heap.size W1 W1 := Below.refl _ _
    skip
    go_wp2_with (first | (go_at_call 35; (with_reducible refine (awake20 _).mono ?_); rintro e w1 ⟨rfl, hb1⟩; replace hbel := belStep hbel hb1; clear hb1) | (go_at_call 45; (with_reducible refine (CFT.out _ (belStep hw hbel)).mono ?_); rintro e w3 ⟨⟨b, rfl, hq⟩, hb3⟩; replace hbel := belStep hbel hb3; clear hb3; have HT := Lib.hid hq; clear hq; rcases b with _ | _) | (go_at_call 22; (with_reducible refine (CRR.out _ (belStep hw hbel)).mono ?_); rintro e w1 ⟨rfl, hb1⟩; replace hbel := belStep hbel hb1; clear hb1) | (go_at_call 19; (with_reducible refine (CFW.out _ (belStep hw hbel)).mono ?_); rintro e u2 ⟨⟨fb, rfl, hq⟩, hb2⟩; replace hbel := belStep hbel hb2; clear hb2; have HFW := Lib.hid hq; clear hq; rcases fb with _ | _))
    all_goals
      go_ret
      exact ⟨rfl, belStep hw hbel⟩
  obtain ⟨S, hS⟩ : ∃ S, readOK r L = S := ⟨_, rfl⟩
  have HUO := Lib.hid (show ∀ u ∈ S.use, UseOK u by rw [← hS]; exact readL_ok L)
  have CRE := Lib.hid (fun u (hu : Below w.heap.size w u) => rread2 rfl HRO.out HOK.out (HR.out.later hu) HRR.out hS)
  have HSL := Lib.hid (show S.use.length = L.length by rw [← hS]; exact readL_len L)
  clear hS
  go_enter Try.func17, Try.ntmps17
  go_upto_region 1 with fail
  have rw0 : (w.alloc (.cells #[.int .i64 r.t, .float .f64 r.x, .float .f64 r.y, .float .f64 r.z, .slice a L.length cap] 26)).cell? ⟨w.heap.size, 0, none⟩ = some (.int .i64 r.t) := by first | (simp; done) | (rw [World.cell?_alloc_at _ _ _ _ (by simp)]; rfl) | (rw [World.cell?_alloc_past _ _ _ (by simp <;> omega), World.cell?_alloc_at _ _ _ _ (by simp)]; rfl) | (rw [World.cell?_alloc_past _ _ _ (by simp <;> omega), World.cell?_alloc_past _ _ _ (by simp <;> omega), World.cell?_alloc_at _ _ _ _ (by simp)]; rfl)
  have rw1 : (w.alloc (.cells #[.int .i64 r.t, .float .f64 r.x, .float .f64 r.y, .float .f64 r.z, .slice a L.length cap] 26)).cell? ⟨w.heap.size, 1, none⟩ = some (.float .f64 r.x) := by first | (simp; done) | (rw [World.cell?_alloc_at _ _ _ _ (by simp)]; rfl) | (rw [World.cell?_alloc_past _ _ _ (by simp <;> omega), World.cell?_alloc_at _ _ _ _ (by simp)]; rfl) | (rw [World.cell?_alloc_past _ _ _ (by simp <;> omega), World.cell?_alloc_past _ _ _ (by simp <;> omega), World.cell?_alloc_at _ _ _ _ (by simp)]; rfl)
  have rw2 : (w.alloc (.cells #[.int .i64 r.t, .float .f64 r.x, .float .f64 r.y, .float .f64 r.z, .slice a L.length cap] 26)).cell? ⟨w.heap.size, 2, none⟩ = some (.float .f64 r.y) := by first | (simp; done) | (rw [World.cell?_alloc_at _ _ _ _ (by simp)]; rfl) | (rw [World.cell?_alloc_past _ _ _ (by simp <;> omega), World.cell?_alloc_at _ _ _ _ (by simp)]; rfl) | (rw [World.cell?_alloc_past _ _ _ (by simp <;> omega), World.cell?_alloc_past _ _ _ (by simp <;> omega), World.cell?_alloc_at _ _ _ _ (by simp)]; rfl)
  have rw3 : (w.alloc (.cells #[.int .i64 r.t, .float .f64 r.x, .float .f64 r.y, .float .f64 r.z, .slice a L.length cap] 26)).cell? ⟨w.heap.size, 3, none⟩ = some (.float .f64 r.z) := by first | (simp; done) | (rw [World.cell?_alloc_at _ _ _ _ (by simp)]; rfl) | (rw [World.cell?_alloc_past _ _ _ (by simp <;> omega), World.cell?_alloc_at _ _ _ _ (by simp)]; rfl) | (rw [World.cell?_alloc_past _ _ _ (by simp <;> omega), World.cell?_alloc_past _ _ _ (by simp <;> omega), World.cell?_alloc_at _ _ _ _ (by simp)]; rfl)
  have rw4 : (w.alloc (.cells #[.int .i64 r.t, .float .f64 r.x, .float .f64 r.y, .float .f64 r.z, .slice a L.length cap] 26)).cell? ⟨w.heap.size, 4, none⟩ = some (.slice a L.length cap) := by first | (simp; done) | (rw [World.cell?_alloc_at _ _ _ _ (by simp)]; rfl) | (rw [World.cell?_alloc_past _ _ _ (by simp <;> omega), World.cell?_alloc_at _ _ _ _ (by simp)]; rfl) | (rw [World.cell?_alloc_past _ _ _ (by simp <;> omega), World.cell?_alloc_past _ _ _ (by simp <;> omega), World.cell?_alloc_at _ _ _ _ (by simp)]; rfl)
  have hb2 := (by repeat (first | exact hbel | refine belAlloc ?_ _ | refine belDrew ?_ | refine belSet ?_ _ _ (by simp)) : Below w.heap.size w (w.alloc (.cells #[.int .i64 r.t, .float .f64 r.x, .float .f64 r.y, .float .f64 r.z, .slice a L.length cap] 26)))
  replace hw := belStep hw hb2
  clear hb2 hbel
  generalize w.alloc (.cells #[.int .i64 r.t, .float .f64 r.x, .float .f64 r.y, .float .f64 r.z, .slice a L.length cap] 26) = W1 at *
  replace rw0 := keep rw0
  replace rw1 := keep rw1
  replace rw2 := keep rw2
  replace rw3 := keep rw3
  replace rw4 := keep rw4
  have hbel : Below W1.heap.size W1 W1 := Below.refl _ _
  skip
  go_upto_region 3 with (first | (go_at_call 35; (with_reducible refine (awake20 _).mono ?_); rintro e w1 ⟨rfl, hb1⟩; replace hbel := belStep hbel hb1; clear hb1) | (go_at_call 45; (with_reducible refine (CFT.out _ (belStep hw hbel)).mono ?_); rintro e w3 ⟨⟨b, rfl, hq⟩, hb3⟩; replace hbel := belStep hbel hb3; clear hb3; have HT := Lib.hid hq; clear hq; rcases b with _ | _) | (go_at_call 22; (with_reducible refine (CRR.out _ (belStep hw hbel)).mono ?_); rintro e w1 ⟨rfl, hb1⟩; replace hbel := belStep hbel hb1; clear hb1) | (go_at_call 19; (with_reducible refine (CFW.out _ (belStep hw hbel)).mono ?_); rintro e u2 ⟨⟨fb, rfl, hq⟩, hb2⟩; replace hbel := belStep hbel hb2; clear hb2; have HFW := Lib.hid hq; clear hq; rcases fb with _ | _))
  · go_ret
    exact ⟨rfl, belStep hw hbel⟩
  · go_ret
    exact ⟨rfl, belStep hw hbel⟩
  have hu140 : S.use.length ≤ 140 := by rw [HSL.out]; exact HFW.out (by trivial)
  clear CFW HFW CRR CFT
  replace HT := Lib.hid (HT.out (by trivial))
  have hT64 : T.length ≤ 64 := HT.out.len
  go_upto_region 4 with (go_at_call 38; (with_reducible refine (CSG.out _).mono ?_); rintro e wg ⟨⟨g, hg, rfl⟩, rfl⟩)
  go_upto_region 5 with (go_at_call 24; (with_reducible refine (CRE.out _ (belStep hw hbel)).mono ?_); rintro e u1 ⟨⟨b1, n1, rfl, ho1⟩, hb1⟩; replace hbel := belStep hbel hb1)
  have HX1 := Lib.hid ((row_of_ownL ho1).later (belAlloc (Below.refl u1.heap.size u1) (.cells #[.int .i64 S.t, .int .i64 S.a, .int .i64 S.b, .int .i64 S.c, .slice b1 S.use.length n1] 32)))
  clear ho1 hb1
  have ss0 : (u1.alloc (.cells #[.int .i64 S.t, .int .i64 S.a, .int .i64 S.b, .int .i64 S.c, .slice b1 S.use.length n1] 32)).cell? ⟨u1.heap.size, 0, none⟩ = some (.int .i64 S.t) := by first | (simp; done) | (rw [World.cell?_alloc_at _ _ _ _ (by simp)]; rfl) | (rw [World.cell?_alloc_past _ _ _ (by simp <;> omega), World.cell?_alloc_at _ _ _ _ (by simp)]; rfl) | (rw [World.cell?_alloc_past _ _ _ (by simp <;> omega), World.cell?_alloc_past _ _ _ (by simp <;> omega), World.cell?_alloc_at _ _ _ _ (by simp)]; rfl)
  have ss1 : (u1.alloc (.cells #[.int .i64 S.t, .int .i64 S.a, .int .i64 S.b, .int .i64 S.c, .slice b1 S.use.length n1] 32)).cell? ⟨u1.heap.size, 1, none⟩ = some (.int .i64 S.a) := by first | (simp; done) | (rw [World.cell?_alloc_at _ _ _ _ (by simp)]; rfl) | (rw [World.cell?_alloc_past _ _ _ (by simp <;> omega), World.cell?_alloc_at _ _ _ _ (by simp)]; rfl) | (rw [World.cell?_alloc_past _ _ _ (by simp <;> omega), World.cell?_alloc_past _ _ _ (by simp <;> omega), World.cell?_alloc_at _ _ _ _ (by simp)]; rfl)
  have ss2 : (u1.alloc (.cells #[.int .i64 S.t, .int .i64 S.a, .int .i64 S.b, .int .i64 S.c, .slice b1 S.use.length n1] 32)).cell? ⟨u1.heap.size, 2, none⟩ = some (.int .i64 S.b) := by first | (simp; done) | (rw [World.cell?_alloc_at _ _ _ _ (by simp)]; rfl) | (rw [World.cell?_alloc_past _ _ _ (by simp <;> omega), World.cell?_alloc_at _ _ _ _ (by simp)]; rfl) | (rw [World.cell?_alloc_past _ _ _ (by simp <;> omega), World.cell?_alloc_past _ _ _ (by simp <;> omega), World.cell?_alloc_at _ _ _ _ (by simp)]; rfl)
  have ss3 : (u1.alloc (.cells #[.int .i64 S.t, .int .i64 S.a, .int .i64 S.b, .int .i64 S.c, .slice b1 S.use.length n1] 32)).cell? ⟨u1.heap.size, 3, none⟩ = some (.int .i64 S.c) := by first | (simp; done) | (rw [World.cell?_alloc_at _ _ _ _ (by simp)]; rfl) | (rw [World.cell?_alloc_past _ _ _ (by simp <;> omega), World.cell?_alloc_at _ _ _ _ (by simp)]; rfl) | (rw [World.cell?_alloc_past _ _ _ (by simp <;> omega), World.cell?_alloc_past _ _ _ (by simp <;> omega), World.cell?_alloc_at _ _ _ _ (by simp)]; rfl)
  have ss4 : (u1.alloc (.cells #[.int .i64 S.t, .int .i64 S.a, .int .i64 S.b, .int .i64 S.c, .slice b1 S.use.length n1] 32)).cell? ⟨u1.heap.size, 4, none⟩ = some (.slice b1 S.use.length n1) := by first | (simp; done) | (rw [World.cell?_alloc_at _ _ _ _ (by simp)]; rfl) | (rw [World.cell?_alloc_past _ _ _ (by simp <;> omega), World.cell?_alloc_at _ _ _ _ (by simp)]; rfl) | (rw [World.cell?_alloc_past _ _ _ (by simp <;> omega), World.cell?_alloc_past _ _ _ (by simp <;> omega), World.cell?_alloc_at _ _ _ _ (by simp)]; rfl)
  have hb2 := (by repeat (first | exact hbel | refine belAlloc ?_ _ | refine belDrew ?_ | refine belSet ?_ _ _ (by simp)) : Below W1.heap.size W1 (u1.alloc (.cells #[.int .i64 S.t, .int .i64 S.a, .int .i64 S.b, .int .i64 S.c, .slice b1 S.use.length n1] 32)))
  replace rw0 := keepOnP rw0 hb2
  replace rw1 := keepOnP rw1 hb2
  replace rw2 := keepOnP rw2 hb2
  replace rw3 := keepOnP rw3 hb2
  replace rw4 := keepOnP rw4 hb2
  replace hw := belStep hw hb2
  clear hb2 hbel
  generalize u1.alloc (.cells #[.int .i64 S.t, .int .i64 S.a, .int .i64 S.b, .int .i64 S.c, .slice b1 S.use.length n1] 32) = W2 at *
  replace ss0 := keep ss0
  replace ss1 := keep ss1
  replace ss2 := keep ss2
  replace ss3 := keep ss3
  replace ss4 := keep ss4
  generalize u1.heap.size = M1 at *
  have hbel : Below W2.heap.size W2 W2 := Below.refl _ _
  clear u1
  replace HX1 := Lib.hid (fun u (hu : Below W2.heap.size W2 u) => HX1.out.later hu)
  have HTL := Lib.hid (fun u (hu : Below W2.heap.size W2 u) => HTR.out.later (belStep hw hu))
  clear CSG CRE
  have HW2 := Lib.hid hw
  have zs0 := ss0
  have zs1 := ss1
  have zs2 := ss2
  have zs3 := ss3
  have zs4 := ss4
  obtain ⟨G, hG⟩ : ∃ G, orderF g T S.use = G := ⟨_, rfl⟩
  have hGl : G.length ≤ T.length := by rw [← hG]; exact order_len _ _ _
  have HG := Lib.hid hG
  clear hG
  have HE := Lib.hid (own_empty W2 66 12)
  have HRE := Lib.hid (HTL.out _ (belAlloc (Below.refl _ _) (.cells #[] 66)))
  go_upto_region 6 with (at_builtin; refine wpList_app_row rfl _ _ 71 rfl W2.heap.size 66 _ 12 112 Try.underlying71 info_ent rfl (by decide) _ 0 [] rfl HE.out ta T.length tcap (T.flatMap EntV.cells) rfl HRE.out (ents_one _) (by simp only [maxLen]; omega) (by omega) (by simp) ?_)
  intro v7 w7 ho7 hb7 _
  have hbel7 : Below W2.heap.size W2 w7 := (belAlloc (Below.refl _ _) _).trans hb7
  obtain ⟨a7, c7, e7, hr7⟩ := rowR_of_own ho7
  subst e7
  (try simp only [Nat.zero_add, List.nil_append] at ho7)
  (try simp only [Nat.zero_add])
  have HE7 := Lib.hid ho7
  clear ho7 hb7 HE HRE hr7
  go_upto_region 6 with fail
  replace hbel := hbel7
  clear hbel7
  have HB2 := Lib.hid hbel
  replace ss0 := keepOnP ss0 hbel
  replace ss1 := keepOnP ss1 hbel
  replace ss2 := keepOnP ss2 hbel
  replace ss3 := keepOnP ss3 hbel
  replace ss4 := keepOnP ss4 hbel
  replace hw := belStep hw hbel
  clear hbel
  generalize w7 = W3 at *
  have hbel : Below W3.heap.size W3 W3 := Below.refl _ _
  refine wp_region_held_drew (S := fun u => Below W3.heap.size W3 u) (by kernel_rfl) (by exact (show Below W3.heap.size W3 _ by repeat (first | assumption | exact Below.refl _ _ | refine belDrew ?_ | refine belAlloc ?_ _ | refine belStep ?_ (by assumption)))) (fun hHeld => ?_)
  refine wpAnyH_take (i := 0) (oi := ?oi_k1) (v := ?v_k1) ?hi_k1 (by kernel_rfl) ?hf_k1 ?hr_k1 ?hQ_k1 (Or.inl ⟨?hw_k1, ?hy_k1⟩) (by assumption) ?rest_k1
  case hi_k1 => ((simp only [List.getElem?_toArray, List.getElem?_cons_succ, List.getElem?_cons_zero]); rfl)
  case hf_k1 => kernel_rfl
  case hr_k1 => kernel_rfl
  case hQ_k1 => exact fun _ _ _ h => h
  case hw_k1 => rfl
  case hy_k1 => ((intro w hSw; (try dsimp only at hSw); go_simp); all_goals (with_reducible rfl))
  try simp only [Act.put, List.setIfInBounds_toArray, List.set_cons_zero, List.set_cons_succ]
  refine wpAnyH_take (i := 1) (oi := ?oi_k2) (v := ?v_k2) ?hi_k2 (by kernel_rfl) ?hf_k2 ?hr_k2 ?hQ_k2 (Or.inl ⟨?hw_k2, ?hy_k2⟩) (by assumption) ?rest_k2
  case hi_k2 => ((simp only [List.getElem?_toArray, List.getElem?_cons_succ, List.getElem?_cons_zero]); rfl)
  case hf_k2 => kernel_rfl
  case hr_k2 => kernel_rfl
  case hQ_k2 => exact fun _ _ _ h => h
  case hw_k2 => rfl
  case hy_k2 => ((intro w hSw; (try dsimp only at hSw); go_simp); all_goals (with_reducible rfl))
  try simp only [Act.put, List.setIfInBounds_toArray, List.set_cons_zero, List.set_cons_succ]
  refine wpAnyH_take (i := 2) (oi := ?oi_k3) (v := ?v_k3) ?hi_k3 (by kernel_rfl) ?hf_k3 ?hr_k3 ?hQ_k3 (Or.inl ⟨?hw_k3, ?hy_k3⟩) (by assumption) ?rest_k3
  case hi_k3 => ((simp only [List.getElem?_toArray, List.getElem?_cons_succ, List.getElem?_cons_zero]); rfl)
  case hf_k3 => kernel_rfl
  case hr_k3 => kernel_rfl
  case hQ_k3 => exact fun _ _ _ h => h
  case hw_k3 => rfl
  case hy_k3 => ((intro w hSw; (try dsimp only at hSw); go_simp); all_goals (with_reducible rfl))
  try simp only [Act.put, List.setIfInBounds_toArray, List.set_cons_zero, List.set_cons_succ]
  refine wpAnyH_take (i := 3) (oi := ?oi_k4) (v := ?v_k4) ?hi_k4 (by kernel_rfl) ?hf_k4 ?hr_k4 ?hQ_k4 (Or.inl ⟨?hw_k4, ?hy_k4⟩) (by assumption) ?rest_k4
  case hi_k4 => ((simp only [List.getElem?_toArray, List.getElem?_cons_succ, List.getElem?_cons_zero]); rfl)
  case hf_k4 => kernel_rfl
  case hr_k4 => kernel_rfl
  case hQ_k4 => exact fun _ _ _ h => h
  case hw_k4 => rfl
  case hy_k4 => ((intro w hSw; (try dsimp only at hSw); go_simp); all_goals (with_reducible rfl))
  try simp only [Act.put, List.setIfInBounds_toArray, List.set_cons_zero, List.set_cons_succ]
  refine wpAnyH_take (i := 5) (oi := ?oi_k5) (v := ?v_k5) ?hi_k5 (by kernel_rfl) ?hf_k5 ?hr_k5 ?hQ_k5 (Or.inl ⟨?hw_k5, ?hy_k5⟩) (by assumption) ?rest_k5
  case hi_k5 => ((simp only [List.getElem?_toArray, List.getElem?_cons_succ, List.getElem?_cons_zero]); rfl)
  case hf_k5 => kernel_rfl
  case hr_k5 => kernel_rfl
  case hQ_k5 => exact fun _ _ _ h => h
  case hw_k5 => rfl
  case hy_k5 => ((intro w hSw; (try dsimp only at hSw); go_simp); all_goals (with_reducible rfl))
  try simp only [Act.put, List.setIfInBounds_toArray, List.set_cons_zero, List.set_cons_succ]
  refine wpAnyH_take (i := 6) (oi := ?oi_k6) (v := ?v_k6) ?hi_k6 (by kernel_rfl) ?hf_k6 ?hr_k6 ?hQ_k6 (Or.inl ⟨?hw_k6, ?hy_k6⟩) (by assumption) ?rest_k6
  case hi_k6 => ((simp only [List.getElem?_toArray, List.getElem?_cons_succ, List.getElem?_cons_zero]); rfl)
  case hf_k6 => kernel_rfl
  case hr_k6 => kernel_rfl
  case hQ_k6 => exact fun _ _ _ h => h
  case hw_k6 => rfl
  case hy_k6 => ((intro w hSw; (try dsimp only at hSw); go_simp); all_goals (with_reducible rfl))
  try simp only [Act.put, List.setIfInBounds_toArray, List.set_cons_zero, List.set_cons_succ]
  refine krip (fun u u' => Below u.heap.size u u') [42, 45, 46, 10] [[], [], [], [], [], [], [], [4], [4, 7], [], [4, 7, 8, 9]] [[], [], [], [], [42], [], [], [45], [46], [10], []] [4, 7, 8, 9] (krF [(4, fun t u => ∃ g : Nat, t 42 = .slice (some ⟨g, 0, none⟩) 0 0 ∧ OwnR u (W3.heap.size) 51 4 (.slice (some ⟨g, 0, none⟩) 0 0) 0 []), (7, fun t u => OwnR u (W3.heap.size) 51 4 (t 45) (S.use.length) (S.use.flatMap UseV.cells)), (8, fun t u => ∃ (a8 : Option Addr) (c8 : Nat), t 46 = .agg #[.int .i64 S.t, .int .i64 S.a, .int .i64 S.b, .int .i64 S.c, .slice a8 S.use.length c8] ∧ OwnR u (W3.heap.size) 51 4 (.slice a8 S.use.length c8) (S.use.length) (S.use.flatMap UseV.cells)), (9, fun t u => ∃ g : Nat, t 10 = .pointer (some ⟨g, 0, none⟩) ∧ W3.heap.size ≤ g ∧ Blk u g [.int .i64 0, .int .i64 0, .int .i64 0, .int .i64 0, .slice none 0 0] 32)]) 1 #[true, true, true, true, true, true, true, true, true, true, false] (by kernel_rfl) (by kernel_rfl) (by kernel_rfl) (by assumption) (AllL.cons ?s_4_q7 (AllL.cons ?s_7_q7 (AllL.cons ?s_8_q7 (AllL.cons ?s_9_q7 AllL.nil)))) (AllL.cons ?o_4_q7 (AllL.cons ?o_7_q7 (AllL.cons ?o_8_q7 (AllL.cons ?o_9_q7 AllL.nil)))) ?e_q7
  case s_4_q7 => exact fun t u u' hle ⟨g, e, h⟩ => ⟨g, e, OwnR.later h hle⟩
  case s_7_q7 => exact fun t u u' hle h => OwnR.later h hle
  case s_8_q7 => exact fun t u u' hle ⟨a, c, e, h⟩ => ⟨a, c, e, OwnR.later h hle⟩
  case s_9_q7 => exact fun t u u' hle ⟨g, e, hb, h⟩ => ⟨g, e, hb, Blk.later h hle⟩
  case o_4_q7 =>
    refine KrOp.of (o := ?oo_4_q7) ?hi_4_q7 (fun t u hHeld hF K hK => ?rr_4_q7)
    case hi_4_q7 => ((simp only [List.getElem?_toArray, List.getElem?_cons_succ, List.getElem?_cons_zero]); rfl)
    case rr_4_q7 =>
      clear hF
      simp only [setl, List.foldl_cons, List.foldl_nil, Act.put, List.setIfInBounds_toArray, List.set_cons_zero, List.set_cons_succ] at hK ⊢
      go_simp
      refine hK.out _ _ (by exact (by repeat (first | assumption | exact Below.refl _ _ | refine belDrew ?_ | refine belAlloc ?_ _ | refine belStep ?_ (by assumption)))) (by exact (show Below W3.heap.size W3 _ by repeat (first | assumption | exact Below.refl _ _ | refine belDrew ?_ | refine belAlloc ?_ _ | refine belStep ?_ (by assumption)))) ?_
      exact ⟨_, rfl, OwnR.mono (own_empty _ _ 4) (Below.size hHeld)⟩
  case o_7_q7 =>
    refine KrOp.of (o := ?oo_7_q7) ?hi_7_q7 (fun t u hHeld hF K hK => ?rr_7_q7)
    case hi_7_q7 => ((simp only [List.getElem?_toArray, List.getElem?_cons_succ, List.getElem?_cons_zero]); rfl)
    case rr_7_q7 =>
      have h4 : ∃ g : Nat, t 42 = .slice (some ⟨g, 0, none⟩) 0 0 ∧ OwnR u (W3.heap.size) 51 4 (.slice (some ⟨g, 0, none⟩) 0 0) 0 [] := hF 4 rfl rfl
      clear hF
      simp only [setl, List.foldl_cons, List.foldl_nil, Act.put, List.setIfInBounds_toArray, List.set_cons_zero, List.set_cons_succ] at hK ⊢
      generalize t 42 = x42 at *
      obtain ⟨g4, rfl, ho4⟩ := h4
      refine op_first rfl _ _ 30 rfl (W3.heap.size) 51 _ 4 40 Try.underlying30 info_use rfl (by decide) g4 (by rfl) ho4 (b1) (S.use.length) (n1) (S.use.flatMap UseV.cells) (by rfl) (HX1.out _ (belStep HB2.out hHeld)) (uses_one _) (by have := hu140; unfold maxLen; omega) (by have := hu140; omega) (Below.size hHeld) ?_
      intro v4 w4 ho4 hb4
      refine hK.out _ _ (by exact (by repeat (first | assumption | exact Below.refl _ _ | refine belDrew ?_ | refine belAlloc ?_ _ | refine belStep ?_ (by assumption)))) (by exact (show Below W3.heap.size W3 _ by repeat (first | assumption | exact Below.refl _ _ | refine belDrew ?_ | refine belAlloc ?_ _ | refine belStep ?_ (by assumption)))) ?_
      exact ho4
  case o_8_q7 =>
    refine KrOp.of (o := ?oo_8_q7) ?hi_8_q7 (fun t u hHeld hF K hK => ?rr_8_q7)
    case hi_8_q7 => ((simp only [List.getElem?_toArray, List.getElem?_cons_succ, List.getElem?_cons_zero]); rfl)
    case rr_8_q7 =>
      have h7 : OwnR u (W3.heap.size) 51 4 (t 45) (S.use.length) (S.use.flatMap UseV.cells) := hF 7 rfl rfl
      clear hF
      simp only [setl, List.foldl_cons, List.foldl_nil, Act.put, List.setIfInBounds_toArray, List.set_cons_zero, List.set_cons_succ] at hK ⊢
      generalize t 45 = x45 at *
      obtain ⟨a8, c8, e8, hr8⟩ := rowR_of_own h7
      subst e8
      go_simp
      refine hK.out _ _ (by exact (by repeat (first | assumption | exact Below.refl _ _ | refine belDrew ?_ | refine belAlloc ?_ _ | refine belStep ?_ (by assumption)))) (by exact (show Below W3.heap.size W3 _ by repeat (first | assumption | exact Below.refl _ _ | refine belDrew ?_ | refine belAlloc ?_ _ | refine belStep ?_ (by assumption)))) ?_
      exact ⟨_, _, rfl, h7⟩
  case o_9_q7 =>
    refine KrOp.of (o := ?oo_9_q7) ?hi_9_q7 (fun t u hHeld hF K hK => ?rr_9_q7)
    case hi_9_q7 => ((simp only [List.getElem?_toArray, List.getElem?_cons_succ, List.getElem?_cons_zero]); rfl)
    case rr_9_q7 =>
      clear hF
      simp only [setl, List.foldl_cons, List.foldl_nil, Act.put, List.setIfInBounds_toArray, List.set_cons_zero, List.set_cons_succ] at hK ⊢
      go_simp
      refine hK.out _ _ (by exact (by repeat (first | assumption | exact Below.refl _ _ | refine belDrew ?_ | refine belAlloc ?_ _ | refine belStep ?_ (by assumption)))) (by exact (show Below W3.heap.size W3 _ by repeat (first | assumption | exact Below.refl _ _ | refine belDrew ?_ | refine belAlloc ?_ _ | refine belStep ?_ (by assumption)))) ?_
      exact ⟨_, rfl, Below.size hHeld, Blk.new _ _ _⟩
  case e_q7 =>
    intro t u hHeld hF
    have h4 : ∃ g : Nat, t 42 = .slice (some ⟨g, 0, none⟩) 0 0 ∧ OwnR u (W3.heap.size) 51 4 (.slice (some ⟨g, 0, none⟩) 0 0) 0 [] := hF 4 rfl
    have h7 : OwnR u (W3.heap.size) 51 4 (t 45) (S.use.length) (S.use.flatMap UseV.cells) := hF 7 rfl
    have h8 : ∃ (a8 : Option Addr) (c8 : Nat), t 46 = .agg #[.int .i64 S.t, .int .i64 S.a, .int .i64 S.b, .int .i64 S.c, .slice a8 S.use.length c8] ∧ OwnR u (W3.heap.size) 51 4 (.slice a8 S.use.length c8) (S.use.length) (S.use.flatMap UseV.cells) := hF 8 rfl
    have h9 : ∃ g : Nat, t 10 = .pointer (some ⟨g, 0, none⟩) ∧ W3.heap.size ≤ g ∧ Blk u g [.int .i64 0, .int .i64 0, .int .i64 0, .int .i64 0, .slice none 0 0] 32 := hF 9 rfl
    clear hF
    simp only [setl, List.foldl_cons, List.foldl_nil, Act.put, List.setIfInBounds_toArray, List.set_cons_zero, List.set_cons_succ]
    generalize t 42 = x42 at *
    generalize t 45 = x45 at *
    generalize t 46 = x46 at *
    generalize t 10 = x10 at *
    obtain ⟨g9, rfl, hg9, hB9⟩ := h9
    obtain ⟨a8, c8, rfl, ho8⟩ := h8
    obtain ⟨g4, rfl, ho4⟩ := h4
    have hfz := Blk.frozen hB9
    have q0 := Blk.cell hB9 (j := 0) rfl
    have q1 := Blk.cell hB9 (j := 1) rfl
    have q2 := Blk.cell hB9 (j := 2) rfl
    have q3 := Blk.cell hB9 (j := 3) rfl
    have q4 := Blk.cell hB9 (j := 4) rfl
    have hbk : Blk _ g9 [.int .i64 S.t, .int .i64 S.a, .int .i64 S.b, .int .i64 S.c, .slice a8 S.use.length c8] 32 := (((((hB9).set 0 (.int .i64 S.t)).set 1 (.int .i64 S.a)).set 2 (.int .i64 S.b)).set 3 (.int .i64 S.c)).set 4 (.slice a8 S.use.length c8)
    have hbl := belSet (belSet (belSet (belSet (belSet (hHeld) ⟨g9, 0, none⟩ (.int .i64 S.t) hg9) ⟨g9, 1, none⟩ (.int .i64 S.a) hg9) ⟨g9, 2, none⟩ (.int .i64 S.b) hg9) ⟨g9, 3, none⟩ (.int .i64 S.c) hg9) ⟨g9, 4, none⟩ (.slice a8 S.use.length c8) hg9
    have how := own_far (own_far (own_far (own_far (own_far (ho8) (hB9) (by decide) ⟨g9, 0, none⟩ rfl (.int .i64 S.t)) ((hB9).set 0 (.int .i64 S.t)) (by decide) ⟨g9, 1, none⟩ rfl (.int .i64 S.a)) (((hB9).set 0 (.int .i64 S.t)).set 1 (.int .i64 S.a)) (by decide) ⟨g9, 2, none⟩ rfl (.int .i64 S.b)) ((((hB9).set 0 (.int .i64 S.t)).set 1 (.int .i64 S.a)).set 2 (.int .i64 S.b)) (by decide) ⟨g9, 3, none⟩ rfl (.int .i64 S.c)) (((((hB9).set 0 (.int .i64 S.t)).set 1 (.int .i64 S.a)).set 2 (.int .i64 S.b)).set 3 (.int .i64 S.c)) (by decide) ⟨g9, 4, none⟩ rfl (.slice a8 S.use.length c8)
    refine wpAnyH_ready (rs := [10]) (by kernel_rfl) (by simp) ?_
    refine AllReadyH.cons (o := ?o1_lt) ?hi_lt (fun K hK => ?rest_lt) AllReadyH.nil
    case hi_lt => ((simp only [List.getElem?_toArray, List.getElem?_cons_succ, List.getElem?_cons_zero]); rfl)
    go_simp
    refine hK.out _ _ (by exact hbl) (fun hHeld2 => ?_)
    clear hK K
    try simp only [Act.put, List.setIfInBounds_toArray, List.set_cons_zero, List.set_cons_succ]
    refine wpAnyH_done (by kernel_rfl) ?_ _
    clear hHeld hHeld2 hfz ho4 q0 q1 q2 q3 q4
    replace ss0 := keepOnP ss0 hbl
    replace ss1 := keepOnP ss1 hbl
    replace ss2 := keepOnP ss2 hbl
    replace ss3 := keepOnP ss3 hbl
    replace ss4 := keepOnP ss4 hbl
    replace hw := belStep hw hbl
    have HBT8 := Lib.hid hbl
    clear hbl hB9
    (try clear h7)
    generalize ((((u.setCell ⟨g9, 0, none⟩ (.int .i64 S.t)).setCell ⟨g9, 1, none⟩ (.int .i64 S.a)).setCell ⟨g9, 2, none⟩ (.int .i64 S.b)).setCell ⟨g9, 3, none⟩ (.int .i64 S.c)).setCell ⟨g9, 4, none⟩ (.slice a8 S.use.length c8) = W4 at *
    have HOT8 := Lib.hid how
    have t0 := keep (hbk.cell (j := 0) rfl)
    have t1 := keep (hbk.cell (j := 1) rfl)
    have t2 := keep (hbk.cell (j := 2) rfl)
    have t3 := keep (hbk.cell (j := 3) rfl)
    have t4 := keep (hbk.cell (j := 4) rfl)
    have tB := Blk.keepB hbk
    have tF := Blk.keepF hbk
    have HG8 := Lib.hid hg9
    clear how hbk hg9
    generalize g9 = Mt8 at *
    generalize a8 = at8 at *
    generalize c8 = ct8 at *
    have hbel : Below W4.heap.size W4 W4 := Below.refl _ _
    replace HE7 := Lib.hid (HE7.out.later HBT8.out)
    replace HB2 := Lib.hid (belStep HB2.out HBT8.out)
    clear hw
    have hw : Below w.heap.size w W4 := belStep HW2.out HB2.out
    have HLT7 := Lib.hid (fun q hq => (World.ownsRow.lt HE7.out q hq).2)
    have HRE7 := Lib.hid (row_of_ownL HE7.out)
    have HRU := Lib.hid (row_of_ownL HOT8.out)
    have CO := Lib.hid (show ∀ u : World, Below W4.heap.size W4 u → Calls Try.prog 46 #[.int .i64 g, .slice a7 T.length c7, .agg #[.int .i64 S.t, .int .i64 S.a, .int .i64 S.b, .int .i64 S.c, .slice at8 S.use.length ct8]] u fun e w' => TextsP u G e w' ∧ Below u.heap.size u w' from fun u hu => by have h := rk_Order g g a7 T.length c7 T S.t S.a S.b S.c at8 S.use.length ct8 S.use u hg rfl HT.out HTO.out rfl (HRE7.out.later hu) HUO.out rfl (HRU.out.later hu); rw [HG.out] at h; exact h)
    go_upto_region 8 with (go_at_call 46; (with_reducible refine (CO.out _ hbel).mono ?_); rintro e u5 ⟨⟨b5, n5, rfl, ho5⟩, hb5⟩; replace hbel := belStep hbel hb5)
    have HO5 := Lib.hid ho5
    clear ho5 hb5 CO
    replace HE7 := Lib.hid (HE7.out.later hbel)
    replace HB2 := Lib.hid (belStep HB2.out hbel)
    have hz45 := hbel.size
    have HB4 := Lib.hid hbel
    replace ss0 := keepOnP ss0 hbel
    replace ss1 := keepOnP ss1 hbel
    replace ss2 := keepOnP ss2 hbel
    replace ss3 := keepOnP ss3 hbel
    replace ss4 := keepOnP ss4 hbel
    replace t0 := keepOnP t0 hbel
    replace t1 := keepOnP t1 hbel
    replace t2 := keepOnP t2 hbel
    replace t3 := keepOnP t3 hbel
    replace t4 := keepOnP t4 hbel
    replace tB := keepOnP tB hbel
    replace tF := keepOnP tF hbel
    replace hw := belStep hw hbel
    clear hbel
    generalize u5 = W5 at *
    have hbel : Below W5.heap.size W5 W5 := Below.refl _ _
    have HRE8 := Lib.hid (row_of_ownL HE7.out)
    have CFI := Lib.hid (fun u (hu : Below W5.heap.size W5 u) => rk_First g g a7 T.length c7 T S.t S.a S.b S.c at8 S.use.length ct8 S.use u hg rfl HT.out HTO.out rfl (HRE8.out.later hu) HUO.out rfl (HRU.out.later (belStep HB4.out hu)))
    have CSM := Lib.hid (fun u (hu : Below W5.heap.size W5 u) => sref_Same S b1 n1 at8 ct8 u (HX1.out u (belStep HB2.out hu)) (HRU.out.later (belStep HB4.out hu)))
    go_upto_region 9 with (go_at_call 47; (with_reducible refine (CFI.out _ hbel).mono ?_); rintro e w1 ⟨rfl, hb1⟩; replace hbel := belStep hbel hb1; clear hb1)
    go_upto_region 11 with (go_at_call 23; (with_reducible refine (CSM.out _ hbel).mono ?_); rintro e w1 ⟨rfl, hb1⟩; replace hbel := belStep hbel hb1; clear hb1)
    clear CFI CSM HRE8 HRE7 HRU
    replace HE7 := Lib.hid (HE7.out.later hbel)
    replace HO5 := Lib.hid (HO5.out.later hbel)
    replace HB2 := Lib.hid (belStep HB2.out hbel)
    clear hbel hw ss0 ss1 ss2 ss3 ss4 t0 t1 t2 t3 t4 tB tF
    generalize w1 = W6 at *
    have hw := HW2.out
    have CR := Lib.hid (show ∀ u : World, Below W2.heap.size W2 u → Calls Try.prog 50 #[.int .i64 g, .slice ta T.length tcap, .agg #[.int .i64 S.t, .int .i64 S.a, .int .i64 S.b, .int .i64 S.c, .slice b1 S.use.length n1]] u fun e w' => TextsP u G e w' ∧ Below u.heap.size u w' from fun u hu => by have h := rref_Order g g ta T.length tcap T S.t S.a S.b S.c b1 S.use.length n1 S.use u hg rfl HT.out HTO.out rfl (HTL.out u hu) HUO.out rfl (HX1.out u hu); rw [HG.out] at h; exact h)
    have CS := Lib.hid (fun (a2 : Option Addr) (n2 : Nat) (u : World) (hu : Row u b5 G.length n5 1 (G.map Value.string)) (h2 : Row u a2 G.length n2 1 (G.map Value.string)) => (show Calls Try.prog 49 #[.slice b5 G.length n5, .slice a2 G.length n2] u fun e w' => e = .returned (.bool true) ∧ Below u.heap.size u w' from by have h := sames_any b5 a2 G.length G.length n5 n2 G G u rfl rfl hu h2; rw [same_refl] at h; exact h))
    rcases own_shape HE7.out with ⟨e1, hn⟩ | ⟨g7, cp, e1, hg1, hg2, hcp1, hcp2⟩
    · simp only [Value.slice.injEq] at e1
      obtain ⟨rfl, _, rfl⟩ := e1
      obtain rfl : T = [] := List.eq_nil_of_length_eq_zero hn
      (try simp only [List.length_nil])
      have CR2 := Lib.hid (show ∀ u : World, Below W2.heap.size W2 u → Calls Try.prog 50 #[.int .i64 g, .slice ta 0 tcap, .agg #[.int .i64 S.t, .int .i64 S.a, .int .i64 S.b, .int .i64 S.c, .slice b1 S.use.length n1]] u fun e w' => TextsP u G e w' ∧ Below u.heap.size u w' from CR.out)
      clear CR
      go_wp2
      go_loopw [12] (fun i wr => i = .int .i64 0 ∧ Hid (OwnR wr W4.heap.size 9 1 (.slice b5 G.length n5) G.length (G.map Value.string)) ∧ Below W2.heap.size W2 wr) (fun i _ => 0)
      case atStart => exact ⟨rfl, HO5, HB2.out⟩
      case round =>
        obtain ⟨rfl, HS5, hbel⟩ := hrel
        clear HB2 HO5 HE7
        have HO9 := Lib.hid (row_of_ownL HS5.out)
        go_wp2_with (first | (go_at_call 50; (with_reducible refine (CR2.out _ hbel).mono ?_); rintro e u6 ⟨⟨b6, n6, rfl, ho6⟩, hb6⟩; have HO6 := Lib.hid (HO9.out.later hb6); replace hbel := belStep hbel hb6) | (go_at_call 49; (with_reducible refine (CS.out b6 n6 _ HO6.out (row_of_ownL ho6)).mono ?_); rintro e w9 ⟨rfl, hb9⟩; replace hbel := belStep hbel hb9; clear hb9))
        go_ret
        exact ⟨rfl, belStep hw hbel⟩
    · simp only [Value.slice.injEq] at e1
      obtain ⟨rfl, _, rfl⟩ := e1
      have hg5 : g7 < W4.heap.size := HLT7.out g7 rfl
      go_wp2
      go_loopw [12] (fun i wr => ∃ (k : Nat) (cs : List Value), k ≤ T.length ∧ i = .int .i64 k ∧ Hid (OwnR wr W2.heap.size 66 12 (.slice (some ⟨g7, 0, none⟩) T.length c7) T.length cs) ∧ Hid (TailEq cs (T.flatMap EntV.cells) (k * 12)) ∧ Hid (OwnR wr W4.heap.size 9 1 (.slice b5 G.length n5) G.length (G.map Value.string)) ∧ Below W2.heap.size W2 wr) (fun i _ => T.length - (intOf i).toNat)
      case atStart => exact ⟨0, _, Nat.zero_le _, rfl, HE7, Lib.hid (TailEq.refl _ _), HO5, HB2.out⟩
      case round =>
        obtain ⟨k, cs, hk, rfl, HQ, HTE, HS5, hbel⟩ := hrel
        clear HB2 HO5 HE7
        have HBW := Lib.hid hbel
        by_cases hlt : k < T.length
        · generalize wr = WR at *
          obtain ⟨x, hx⟩ : ∃ x, T[k]? = some x := ⟨T[k], List.getElem?_eq_getElem hlt⟩
          obtain ⟨bc, oc, ec, _, hcc⟩ := (HTL.out _ (Below.refl _ _)).elem EntV.cells_len (by omega) hx
          subst ec
          have c0 := keep (hcc 0 _ rfl)
          have c1 := keep (hcc 1 _ rfl)
          have c2 := keep (hcc 2 _ rfl)
          have c3 := keep (hcc 3 _ rfl)
          have c4 := keep (hcc 4 _ rfl)
          have c5 := keep (hcc 5 _ rfl)
          have c6 := keep (hcc 6 _ rfl)
          have c7 := keep (hcc 7 _ rfl)
          have c8 := keep (hcc 8 _ rfl)
          have c9 := keep (hcc 9 _ rfl)
          have c10 := keep (hcc 10 _ rfl)
          have c11 := keep (hcc 11 _ rfl)
          rw [Nat.add_zero] at c0
          have d0 := keep (show WR.cell? ⟨g7, k * 12 + 0, none⟩ = some (.string x.pod.id) from by rw [World.ownsRow.cellAt HQ.out (k * 12 + 0) (by omega), HTE.out _ (by omega), flat_cell EntV.cells_len hx (by omega)]; rfl)
          have d1 := keep (show WR.cell? ⟨g7, k * 12 + 1, none⟩ = some (.int .i64 x.pod.prio) from by rw [World.ownsRow.cellAt HQ.out (k * 12 + 1) (by omega), HTE.out _ (by omega), flat_cell EntV.cells_len hx (by omega)]; rfl)
          have d2 := keep (show WR.cell? ⟨g7, k * 12 + 2, none⟩ = some (.bool x.pod.crit) from by rw [World.ownsRow.cellAt HQ.out (k * 12 + 2) (by omega), HTE.out _ (by omega), flat_cell EntV.cells_len hx (by omega)]; rfl)
          have d3 := keep (show WR.cell? ⟨g7, k * 12 + 3, none⟩ = some (.int .i64 x.pod.r0) from by rw [World.ownsRow.cellAt HQ.out (k * 12 + 3) (by omega), HTE.out _ (by omega), flat_cell EntV.cells_len hx (by omega)]; rfl)
          have d4 := keep (show WR.cell? ⟨g7, k * 12 + 4, none⟩ = some (.int .i64 x.pod.r1) from by rw [World.ownsRow.cellAt HQ.out (k * 12 + 4) (by omega), HTE.out _ (by omega), flat_cell EntV.cells_len hx (by omega)]; rfl)
          have d5 := keep (show WR.cell? ⟨g7, k * 12 + 5, none⟩ = some (.int .i64 x.pod.r2) from by rw [World.ownsRow.cellAt HQ.out (k * 12 + 5) (by omega), HTE.out _ (by omega), flat_cell EntV.cells_len hx (by omega)]; rfl)
          have d6 := keep (show WR.cell? ⟨g7, k * 12 + 6, none⟩ = some (.int .i64 x.pod.l0) from by rw [World.ownsRow.cellAt HQ.out (k * 12 + 6) (by omega), HTE.out _ (by omega), flat_cell EntV.cells_len hx (by omega)]; rfl)
          have d7 := keep (show WR.cell? ⟨g7, k * 12 + 7, none⟩ = some (.int .i64 x.pod.l1) from by rw [World.ownsRow.cellAt HQ.out (k * 12 + 7) (by omega), HTE.out _ (by omega), flat_cell EntV.cells_len hx (by omega)]; rfl)
          have d8 := keep (show WR.cell? ⟨g7, k * 12 + 8, none⟩ = some (.int .i64 x.pod.l2) from by rw [World.ownsRow.cellAt HQ.out (k * 12 + 8) (by omega), HTE.out _ (by omega), flat_cell EntV.cells_len hx (by omega)]; rfl)
          have d9 := keep (show WR.cell? ⟨g7, k * 12 + 9, none⟩ = some (.string x.pod.img) from by rw [World.ownsRow.cellAt HQ.out (k * 12 + 9) (by omega), HTE.out _ (by omega), flat_cell EntV.cells_len hx (by omega)]; rfl)
          have d10 := keep (show WR.cell? ⟨g7, k * 12 + 10, none⟩ = some (.int .i64 x.pod.size) from by rw [World.ownsRow.cellAt HQ.out (k * 12 + 10) (by omega), HTE.out _ (by omega), flat_cell EntV.cells_len hx (by omega)]; rfl)
          have d11 := keep (show WR.cell? ⟨g7, k * 12 + 11, none⟩ = some (.int .i64 x.phase) from by rw [World.ownsRow.cellAt HQ.out (k * 12 + 11) (by omega), HTE.out _ (by omega), flat_cell EntV.cells_len hx (by omega)]; rfl)
          rw [Nat.add_zero] at d0
          have dF : ∀ u, Below WR.heap.size WR u → ∀ j, u.frozen? ⟨g7, j, none⟩ = false := fun u hu j => World.ownsRow.frozenAt (OwnR.later HQ.out hu) j
          have hd : decide ((k : Int) < (T.length : Int)) = true := decide_eq_true (by omega)
          have hki : (k : Int) < (T.length : Int) := by omega
          have hk0 : (0 : Int) ≤ (k : Int) := by omega
          clear hx hcc
          go_upto_region 14 with fail
          clear hbel
          replace c0 := keepOnP c0 HBW.out
          replace c1 := keepOnP c1 HBW.out
          replace c2 := keepOnP c2 HBW.out
          replace c3 := keepOnP c3 HBW.out
          replace c4 := keepOnP c4 HBW.out
          replace c5 := keepOnP c5 HBW.out
          replace c6 := keepOnP c6 HBW.out
          replace c7 := keepOnP c7 HBW.out
          replace c8 := keepOnP c8 HBW.out
          replace c9 := keepOnP c9 HBW.out
          replace c10 := keepOnP c10 HBW.out
          replace c11 := keepOnP c11 HBW.out
          have hbel : Below WR.heap.size WR WR := Below.refl _ _
          have heq := fun u => eq_ent_same x u
          have kk := fun d os => belStep hbel (below_regrown _ d os)
          refine wp_region_quiet_below (by kernel_rfl) (by kernel_rfl) ?_
          repeat ((with_reducible refine wpQuiet_step (fun K hK => ?_)); go_simp; (try (rw [if_neg]; rotate_left; · decide)); first | ((with_reducible refine hK _ ?_); clear hK K) | (apply Exists.intro; refine ⟨fun _ => ?_, hK _ ?_⟩; (fail); clear hK K))
          refine wpQuiet_nil (fun w1 hw1 => ?_)
          replace hbel := belStep hbel (bel_of_class hw1)
          clear hw1 kk
          have HQ2 := Lib.hid (stored12 (m := k * 12) (HQ.out.later hbel))
          have HT2 := Lib.hid (tail12 HTE.out rfl)
          have HS6 := Lib.hid (low12 (g := g7) (m := k * 12) (HS5.out.later hbel) hg5)
          have HB6 := Lib.hid (bel12 (g := g7) (m := k * 12) (belStep HBW.out hbel) hg1)
          go_wp2
          go_roundw
          case rel => exact ⟨k + 1, _, by omega, by push_cast; rfl, HQ2, HT2, HS6, HB6.out⟩
          case measure => simp [intOf] <;> omega
        · obtain rfl : k = T.length := by omega
          have hd : decide ((T.length : Int) < (T.length : Int)) = false := decide_eq_false (by omega)
          have hki : ¬ (T.length : Int) < (T.length : Int) := by omega
          have HO9 := Lib.hid (row_of_ownL HS5.out)
          go_wp2_with (first | (go_at_call 50; (with_reducible refine (CR.out _ hbel).mono ?_); rintro e u6 ⟨⟨b6, n6, rfl, ho6⟩, hb6⟩; have HO6 := Lib.hid (HO9.out.later hb6); replace hbel := belStep hbel hb6) | (go_at_call 49; (with_reducible refine (CS.out b6 n6 _ HO6.out (row_of_ownL ho6)).mono ?_); rintro e w9 ⟨rfl, hb9⟩; replace hbel := belStep hbel hb9; clear hb9))
          go_ret
          exact ⟨rfl, belStep hw hbel⟩

set_option maxRecDepth 100000 in
theorem lifted (os : Os) (started : os.Started) (H : Type) (enc : TypeId × Value → H) :
    ReturnsInHanded {} Try.checked os 17 .any (Rows.rankKeepsSpec.pre6 enc Try.prog Try.f17 Rows.rankKeepsRow.domain false) (Rows.rankKeepsSpec.post enc Try.prog Try.f17 false true false false) := by
  refine returnsInHanded_of_change (C := Try.checked) own started (by kernel_rfl) Try.func17
    (ChangeSpec.witness6 (enc := enc) (C := Try.checked) false ⟨#[], #[.int .u8 0, .slice none 0 0, .agg #[.int .i64 0, .float .f64 0, .float .f64 0, .float .f64 0, .slice none 0 0]], []⟩ 8 (by kernel_rfl) (by kernel_rfl) (by kernel_rfl) (by kernel_rfl)) ?_
  intro W base args ds gs before hval0 hW hcnd _
  have hval : ∀ (j : Nat) t v, Try.f17.params[j]? = some t → args[j]? = some v → Value.okWide Try.prog W .any base t v := hval0
  have hW' := hW
  obtain ⟨p, q, hA0, hV, rfl, hfz, hnd⟩ := hW
  have hA : DataW.TrodAll enc Try.prog W 0 (fun _ => true) true Try.f17.params.toList args.toList ds p := hA0
  rw [Try.params17] at hA hval
  obtain ⟨v0, vs0, d0, ds0, p0, q0, hargs, rfl, rfl, h0, r0⟩ := trodAll_cons hA
  obtain ⟨v1, vs1, d1, ds1, p1, q1, rfl, rfl, rfl, h1, r1⟩ := trodAll_cons r0
  obtain ⟨v2, vs2, d2, ds2, p2, q2, rfl, rfl, rfl, h2, r2⟩ := trodAll_cons r1
  obtain ⟨rfl, rfl, rfl⟩ := trodAll_nil r2
  obtain rfl : args = #[v0, v1, v2] := by cases args; simp_all
  obtain ⟨rfl, rfl⟩ := trodVars_none hV
  have k0 := h0
  have lt0 : ∀ x ∈ p0, x.block < W.heap.size := by obtain ⟨m, hm⟩ := k0; exact DataW.trod_lt m _ _ _ hm
  have o0 : Value.okWide Try.prog W .any base 5 v0 := hval 0 5 v0 rfl rfl
  obtain ⟨a0, rfl, rfl, rfl, w0⟩ := open_int Try.underlying5 o0 h0
  have k1 := h1
  have lt1 : ∀ x ∈ p1, x.block < W.heap.size := by obtain ⟨m, hm⟩ := k1; exact DataW.trod_lt m _ _ _ hm
  have o1 : Value.okWide Try.prog W .any base 71 v1 := hval 1 71 v1 rfl rfl
  obtain ⟨ta1, tlen1, tcap1, T1, rfl, f1, g1, i1⟩ := open_ents o1 h1
  have k2 := h2
  have lt2 : ∀ x ∈ p2, x.block < W.heap.size := by obtain ⟨m, hm⟩ := k2; exact DataW.trod_lt m _ _ _ hm
  have o2 : Value.okWide Try.prog W .any base 26 v2 := hval 2 26 v2 rfl rfl
  obtain ⟨x2, a2, len2, cap2, L2, rfl, fa2, fb2, fc2, fd2⟩ := open_raw o2 h2
  clear hA0 hval0
  refine (walk a0 ta1 tlen1 tcap1 T1 x2 a2 len2 cap2 L2 W (in8_of_wf w0) f1 g1 i1 fa2 fb2 fc2 fd2).mono fun e W' ⟨he, bel⟩ => ?_
  subst he
  exact ⟨_, rfl, _, _, _, [], _, [], hW', trodAll_mk1 (shut_bool Try.underlying4 _), (trodAll_cons_mk (Below.trod laidOut (by kernel_rfl) (of_decide_eq_true (by kernel_rfl)) k0 bel lt0) (trodAll_cons_mk (Below.trod laidOut (by kernel_rfl) (of_decide_eq_true (by kernel_rfl)) k1 bel lt1) (trodAll_cons_mk (Below.trod laidOut (by kernel_rfl) (of_decide_eq_true (by kernel_rfl)) k2 bel lt2) trodAll_mk0))), rfl, bel.frame _, fun h => by cases h⟩

theorem over : Rows.rankKeepsRow.holds Try.pinned (OpenSpec.ofChange Rows.rankKeepsSpec) :=
  OpenClaim.holds_of_wide 17 Try.f17 rfl rfl rfl rfl rfl rfl rfl ⟨rfl, rfl, rfl, rfl, rfl⟩ rfl rfl rfl rfl rfl (by kernel_rfl) Try.func17 (by kernel_rfl)
    (of_decide_eq_true (by kernel_rfl)) (by unfold Func.isWrapper; first | (rw [if_pos (by decide +kernel)]; kernel_rfl) | (rw [if_neg (by decide +kernel)]; exact ⟨rfl, rfl⟩))
    (fun os started H enc _ => lifted os started H enc)

/-- The statement. -/
theorem proved : Rows.RankKeepsSaid := over
#print axioms proved

end Go.Proofs.Ytcgpmihjodolmaa.rankKeeps
