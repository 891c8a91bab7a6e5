
/- StateKeeps holds for all its arguments. No conditions. -/
import Derived.Test.YtpmkhimmlpnbpaaStLM
import Derived.Test.YtpmkhimmlpnbpaaStTabM2
import Derived.Test.YtpmkhimmlpnbpaaKeepC
import Derived.Test.YtpmkhimmlpnbpaaKrip
namespace Go.Proofs.Ytpmkhimmlpnbpaa.stateKeeps
open Go.ChangeShapes Go.WideShapes Go.ChangeAt Go.RowKit
open Go.ChangeMaps (open_string shut_string)
set_option linter.unusedVariables false
set_option linter.unusedSimpArgs false
theorem grownBy_refl (w : World) (q : Option Nat) : w.grownBy w q := ⟨rfl, rfl, rfl, Nat.le_refl _, fun _ _ _ => rfl⟩
theorem grownBy_trans {w u v : World} {q : Option Nat} (h : w.grownBy u q) (k : u.grownBy v q) : w.grownBy v q :=
  ⟨k.os.trans h.os, k.tape.trans h.tape, k.output.trans h.output, Nat.le_trans h.size k.size, fun b hb hne => (k.block b (Nat.lt_of_lt_of_le hb h.size) hne).trans (h.block b hb hne)⟩
theorem keptSet {w w0 : World} {B g n c s : Nat} {E : TypeId} {cs : List Value} (h : OwnR w B E s (.slice (some ⟨g, 0, none⟩) n c) n cs ∧ w0.grownBy w (some g)) (j : Nat) (v : Value) :
    OwnR (w.setCell ⟨g, j, none⟩ v) B E s (.slice (some ⟨g, 0, none⟩) n c) n (cs.set j v) ∧ w0.grownBy (w.setCell ⟨g, j, none⟩ v) (some g) :=
  ⟨(World.ownsRow.stored h.1 j v).1, grownBy_trans h.2 (World.ownsRow.stored h.1 j v).2⟩
theorem stored12 {w : World} {B g n c m : Nat} {cs : List Value} (h : OwnR w B 46 12 (.slice (some ⟨g, 0, none⟩) n c) n cs) : ∃ ds, OwnR ((((((((((((w.setCell ⟨g, m, none⟩ (.string ⟨#[]⟩)).setCell ⟨g, m + 1, none⟩ (.int .i64 0)).setCell ⟨g, m + 2, none⟩ (.bool false)).setCell ⟨g, m + 3, none⟩ (.int .i64 0)).setCell ⟨g, m + 4, none⟩ (.int .i64 0)).setCell ⟨g, m + 5, none⟩ (.int .i64 0)).setCell ⟨g, m + 6, none⟩ (.int .i64 0)).setCell ⟨g, m + 7, none⟩ (.int .i64 0)).setCell ⟨g, m + 8, none⟩ (.int .i64 0)).setCell ⟨g, m + 9, none⟩ (.string ⟨#[]⟩)).setCell ⟨g, m + 10, none⟩ (.int .i64 0)).setCell ⟨g, m + 11, none⟩ (.int .i64 0)) B 46 12 (.slice (some ⟨g, 0, none⟩) n c) n ds ∧ w.grownBy ((((((((((((w.setCell ⟨g, m, none⟩ (.string ⟨#[]⟩)).setCell ⟨g, m + 1, none⟩ (.int .i64 0)).setCell ⟨g, m + 2, none⟩ (.bool false)).setCell ⟨g, m + 3, none⟩ (.int .i64 0)).setCell ⟨g, m + 4, none⟩ (.int .i64 0)).setCell ⟨g, m + 5, none⟩ (.int .i64 0)).setCell ⟨g, m + 6, none⟩ (.int .i64 0)).setCell ⟨g, m + 7, none⟩ (.int .i64 0)).setCell ⟨g, m + 8, none⟩ (.int .i64 0)).setCell ⟨g, m + 9, none⟩ (.string ⟨#[]⟩)).setCell ⟨g, m + 10, none⟩ (.int .i64 0)).setCell ⟨g, m + 11, none⟩ (.int .i64 0)) (some g) := by
  have h0 : OwnR w B 46 12 (.slice (some ⟨g, 0, none⟩) n c) n cs ∧ w.grownBy w (some g) := ⟨h, grownBy_refl _ _⟩
  have h1 := keptSet h0 (m) (.string ⟨#[]⟩)
  have h2 := keptSet h1 (m + 1) (.int .i64 0)
  have h3 := keptSet h2 (m + 2) (.bool false)
  have h4 := keptSet h3 (m + 3) (.int .i64 0)
  have h5 := keptSet h4 (m + 4) (.int .i64 0)
  have h6 := keptSet h5 (m + 5) (.int .i64 0)
  have h7 := keptSet h6 (m + 6) (.int .i64 0)
  have h8 := keptSet h7 (m + 7) (.int .i64 0)
  have h9 := keptSet h8 (m + 8) (.int .i64 0)
  have h10 := keptSet h9 (m + 9) (.string ⟨#[]⟩)
  have h11 := keptSet h10 (m + 10) (.int .i64 0)
  have h12 := keptSet h11 (m + 11) (.int .i64 0)
  exact ⟨_, h12⟩
theorem own_ne_blk {w : World} {B k n M : Nat} {E T : TypeId} {v : Value} {cs C : List Value} (h : OwnR w B E k v n cs) (hb : Blk w M C T) (hne : E ≠ T) : v.ownBlock ≠ some M := by
  intro q
  obtain ⟨_, h2⟩ := h
  rcases h2 with ⟨e, _⟩ | ⟨g, cap, cur, e1, _, e3, _⟩
  · rw [e] at q; simp [Value.ownBlock] at q
  · rw [e1] at q
    simp [Value.ownBlock] at q
    subst q
    unfold Blk at hb
    rw [e3] at hb
    simp at hb
    exact hne hb.2
theorem own_rowS {w : World} {B : Nat} {E : TypeId} {k : Nat} {a : Option Addr} {n c : Nat} {cs : List Value} (h : OwnR w B E k (.slice a n c) n cs) : Row w a n c k cs := by
  obtain ⟨a2, c2, e, hr⟩ := rowR_of_own h
  simp only [Value.slice.injEq] at e
  obtain ⟨rfl, _, rfl⟩ := e
  exact hr
theorem st_GetO (a : Option Addr) (n c : Nat) (l : List Int) (w : World) (hI : Ints .u8 w a n c l) (hn : n ≤ 100000) {r : Int} {o : On} {L : List EntV} (h : GetOK l r o L) :
    Calls Try.prog 18 #[.slice a n c] w fun e w' => ∃ b d, e = .returned (.tuple #[.agg #[.int .i64 r, .slice b L.length d, .bool o.a, .bool o.b, .bool o.c], .int .i64 0]) ∧ OwnR w' w.heap.size 46 12 (.slice b L.length d) L.length (L.flatMap EntV.cells) ∧ Below w.heap.size w w' := by
  refine (st_Get a n c l w hI hn).mono ?_
  rintro e w' ⟨⟨r', o', L', b, d, h', rfl, hown, _⟩ | ⟨hno, _⟩, hb⟩
  · obtain ⟨rfl, rfl, rfl⟩ := h'.uniq h
    exact ⟨b, d, rfl, hown, hb⟩
  · exact absurd h (hno _ _ _)
set_option maxRecDepth 100000 in
set_option maxHeartbeats 16000000 in
theorem walk (r : Int) (a : Option Addr) (n c : Nat) (o : On) (L : List EntV) (x : EntV) (w : World) (hr : InI r) (hl : L.length = n) (hok : ∀ x ∈ L, x.ok) (hR : Row w a n c 12 (L.flatMap EntV.cells)) (hx : x.ok) :
    Calls Try.prog 10 #[.agg #[.int .i64 r, .slice a n c, .bool o.a, .bool o.b, .bool o.c], .agg #[.string x.pod.id, .int .i64 x.pod.prio, .bool x.pod.crit, .int .i64 x.pod.r0, .int .i64 x.pod.r1, .int .i64 x.pod.r2, .int .i64 x.pod.l0, .int .i64 x.pod.l1, .int .i64 x.pod.l2, .string x.pod.img, .int .i64 x.pod.size, .int .i64 x.phase]] w fun e w' => e = .returned (.bool true) ∧ Below w.heap.size w w' := by
  have hw : Below w.heap.size w w := Below.refl _ _
  have hbel := hw
  have hbd : n ≤ c ∧ c ≤ 9223372036854775807 := by obtain ⟨_, h1, h2, _⟩ := hR; unfold maxLen at h2; exact ⟨h1, h2⟩
  obtain ⟨hbd1, hbd2⟩ := hbd
  have HR := Lib.hid hR
  have HOK := Lib.hid hok
  have HLN := Lib.hid hl
  obtain ⟨fs, hfs⟩ : ∃ b, fewS L = b := ⟨_, rfl⟩
  obtain ⟨rs, hrs⟩ : ∃ b, stB r L = b := ⟨_, rfl⟩
  have CFW := Lib.hid (fun v (hv : Below w.heap.size w v) => hfs ▸ sref_Few r a n c o L v hl hok (hR.later hv))
  have CRT := Lib.hid (fun v (hv : Below w.heap.size w v) => hrs ▸ sref_Right r a n c o L v hl hok (hR.later hv))
  have HFS := Lib.hid hfs
  have HRS := Lib.hid hrs
  clear hR hok hl hfs hrs hr
  obtain ⟨sm, hsm⟩ : ∃ b, smallB x.pod = b := ⟨_, rfl⟩
  have CSM := Lib.hid (fun v => hsm ▸ pref_Small x.pod v hx.1)
  obtain ⟨rp, hrp⟩ : ∃ b, rightB x.pod = b := ⟨_, rfl⟩
  have CRP := Lib.hid (fun v => hrp ▸ pref_Right x.pod v hx.1)
  have HRP := Lib.hid hrp
  have HX := Lib.hid hx
  clear hsm hrp hx
  have key : x.phase < 1 ∨ (¬ x.phase < 1 ∧ 3 < x.phase) ∨ (¬ x.phase < 1 ∧ ¬ 3 < x.phase) := by omega
  rcases key with k1 | ⟨k1, k2⟩ | ⟨k1, k2⟩
  · have p1 : decide (x.phase < (1 : Int)) = true := decide_eq_true k1
    go_enter Try.func10, Try.ntmps10
    go_upto_region 1 with fail
    have ss0 : ((w.alloc (.cells #[.int .i64 r, .slice a n c, .bool o.a, .bool o.b, .bool o.c] 25)).alloc (.cells #[.string x.pod.id, .int .i64 x.pod.prio, .bool x.pod.crit, .int .i64 x.pod.r0, .int .i64 x.pod.r1, .int .i64 x.pod.r2, .int .i64 x.pod.l0, .int .i64 x.pod.l1, .int .i64 x.pod.l2, .string x.pod.img, .int .i64 x.pod.size, .int .i64 x.phase] 46)).cell? ⟨w.heap.size, 0, none⟩ = some (.int .i64 r) := by first | (simp; done) | (rw [World.cell?_alloc_at _ _ _ _ (by simp)]; rfl) | (rw [World.cell?_alloc_past _ _ _ (by simp <;> omega), World.cell?_alloc_at _ _ _ _ (by simp)]; rfl) | (rw [World.cell?_alloc_past _ _ _ (by simp <;> omega), World.cell?_alloc_past _ _ _ (by simp <;> omega), World.cell?_alloc_at _ _ _ _ (by simp)]; rfl)
    have ss1 : ((w.alloc (.cells #[.int .i64 r, .slice a n c, .bool o.a, .bool o.b, .bool o.c] 25)).alloc (.cells #[.string x.pod.id, .int .i64 x.pod.prio, .bool x.pod.crit, .int .i64 x.pod.r0, .int .i64 x.pod.r1, .int .i64 x.pod.r2, .int .i64 x.pod.l0, .int .i64 x.pod.l1, .int .i64 x.pod.l2, .string x.pod.img, .int .i64 x.pod.size, .int .i64 x.phase] 46)).cell? ⟨w.heap.size, 1, none⟩ = some (.slice a n c) := by first | (simp; done) | (rw [World.cell?_alloc_at _ _ _ _ (by simp)]; rfl) | (rw [World.cell?_alloc_past _ _ _ (by simp <;> omega), World.cell?_alloc_at _ _ _ _ (by simp)]; rfl) | (rw [World.cell?_alloc_past _ _ _ (by simp <;> omega), World.cell?_alloc_past _ _ _ (by simp <;> omega), World.cell?_alloc_at _ _ _ _ (by simp)]; rfl)
    have ss2 : ((w.alloc (.cells #[.int .i64 r, .slice a n c, .bool o.a, .bool o.b, .bool o.c] 25)).alloc (.cells #[.string x.pod.id, .int .i64 x.pod.prio, .bool x.pod.crit, .int .i64 x.pod.r0, .int .i64 x.pod.r1, .int .i64 x.pod.r2, .int .i64 x.pod.l0, .int .i64 x.pod.l1, .int .i64 x.pod.l2, .string x.pod.img, .int .i64 x.pod.size, .int .i64 x.phase] 46)).cell? ⟨w.heap.size, 2, none⟩ = some (.bool o.a) := by first | (simp; done) | (rw [World.cell?_alloc_at _ _ _ _ (by simp)]; rfl) | (rw [World.cell?_alloc_past _ _ _ (by simp <;> omega), World.cell?_alloc_at _ _ _ _ (by simp)]; rfl) | (rw [World.cell?_alloc_past _ _ _ (by simp <;> omega), World.cell?_alloc_past _ _ _ (by simp <;> omega), World.cell?_alloc_at _ _ _ _ (by simp)]; rfl)
    have ss3 : ((w.alloc (.cells #[.int .i64 r, .slice a n c, .bool o.a, .bool o.b, .bool o.c] 25)).alloc (.cells #[.string x.pod.id, .int .i64 x.pod.prio, .bool x.pod.crit, .int .i64 x.pod.r0, .int .i64 x.pod.r1, .int .i64 x.pod.r2, .int .i64 x.pod.l0, .int .i64 x.pod.l1, .int .i64 x.pod.l2, .string x.pod.img, .int .i64 x.pod.size, .int .i64 x.phase] 46)).cell? ⟨w.heap.size, 3, none⟩ = some (.bool o.b) := by first | (simp; done) | (rw [World.cell?_alloc_at _ _ _ _ (by simp)]; rfl) | (rw [World.cell?_alloc_past _ _ _ (by simp <;> omega), World.cell?_alloc_at _ _ _ _ (by simp)]; rfl) | (rw [World.cell?_alloc_past _ _ _ (by simp <;> omega), World.cell?_alloc_past _ _ _ (by simp <;> omega), World.cell?_alloc_at _ _ _ _ (by simp)]; rfl)
    have ss4 : ((w.alloc (.cells #[.int .i64 r, .slice a n c, .bool o.a, .bool o.b, .bool o.c] 25)).alloc (.cells #[.string x.pod.id, .int .i64 x.pod.prio, .bool x.pod.crit, .int .i64 x.pod.r0, .int .i64 x.pod.r1, .int .i64 x.pod.r2, .int .i64 x.pod.l0, .int .i64 x.pod.l1, .int .i64 x.pod.l2, .string x.pod.img, .int .i64 x.pod.size, .int .i64 x.phase] 46)).cell? ⟨w.heap.size, 4, none⟩ = some (.bool o.c) := by first | (simp; done) | (rw [World.cell?_alloc_at _ _ _ _ (by simp)]; rfl) | (rw [World.cell?_alloc_past _ _ _ (by simp <;> omega), World.cell?_alloc_at _ _ _ _ (by simp)]; rfl) | (rw [World.cell?_alloc_past _ _ _ (by simp <;> omega), World.cell?_alloc_past _ _ _ (by simp <;> omega), World.cell?_alloc_at _ _ _ _ (by simp)]; rfl)
    have ee0 : ((w.alloc (.cells #[.int .i64 r, .slice a n c, .bool o.a, .bool o.b, .bool o.c] 25)).alloc (.cells #[.string x.pod.id, .int .i64 x.pod.prio, .bool x.pod.crit, .int .i64 x.pod.r0, .int .i64 x.pod.r1, .int .i64 x.pod.r2, .int .i64 x.pod.l0, .int .i64 x.pod.l1, .int .i64 x.pod.l2, .string x.pod.img, .int .i64 x.pod.size, .int .i64 x.phase] 46)).cell? ⟨w.heap.size + 1, 0, none⟩ = some (.string x.pod.id) := by first | (simp; done) | (rw [World.cell?_alloc_at _ _ _ _ (by simp)]; rfl) | (rw [World.cell?_alloc_past _ _ _ (by simp <;> omega), World.cell?_alloc_at _ _ _ _ (by simp)]; rfl) | (rw [World.cell?_alloc_past _ _ _ (by simp <;> omega), World.cell?_alloc_past _ _ _ (by simp <;> omega), World.cell?_alloc_at _ _ _ _ (by simp)]; rfl)
    have ee1 : ((w.alloc (.cells #[.int .i64 r, .slice a n c, .bool o.a, .bool o.b, .bool o.c] 25)).alloc (.cells #[.string x.pod.id, .int .i64 x.pod.prio, .bool x.pod.crit, .int .i64 x.pod.r0, .int .i64 x.pod.r1, .int .i64 x.pod.r2, .int .i64 x.pod.l0, .int .i64 x.pod.l1, .int .i64 x.pod.l2, .string x.pod.img, .int .i64 x.pod.size, .int .i64 x.phase] 46)).cell? ⟨w.heap.size + 1, 1, none⟩ = some (.int .i64 x.pod.prio) := by first | (simp; done) | (rw [World.cell?_alloc_at _ _ _ _ (by simp)]; rfl) | (rw [World.cell?_alloc_past _ _ _ (by simp <;> omega), World.cell?_alloc_at _ _ _ _ (by simp)]; rfl) | (rw [World.cell?_alloc_past _ _ _ (by simp <;> omega), World.cell?_alloc_past _ _ _ (by simp <;> omega), World.cell?_alloc_at _ _ _ _ (by simp)]; rfl)
    have ee2 : ((w.alloc (.cells #[.int .i64 r, .slice a n c, .bool o.a, .bool o.b, .bool o.c] 25)).alloc (.cells #[.string x.pod.id, .int .i64 x.pod.prio, .bool x.pod.crit, .int .i64 x.pod.r0, .int .i64 x.pod.r1, .int .i64 x.pod.r2, .int .i64 x.pod.l0, .int .i64 x.pod.l1, .int .i64 x.pod.l2, .string x.pod.img, .int .i64 x.pod.size, .int .i64 x.phase] 46)).cell? ⟨w.heap.size + 1, 2, none⟩ = some (.bool x.pod.crit) := by first | (simp; done) | (rw [World.cell?_alloc_at _ _ _ _ (by simp)]; rfl) | (rw [World.cell?_alloc_past _ _ _ (by simp <;> omega), World.cell?_alloc_at _ _ _ _ (by simp)]; rfl) | (rw [World.cell?_alloc_past _ _ _ (by simp <;> omega), World.cell?_alloc_past _ _ _ (by simp <;> omega), World.cell?_alloc_at _ _ _ _ (by simp)]; rfl)
    have ee3 : ((w.alloc (.cells #[.int .i64 r, .slice a n c, .bool o.a, .bool o.b, .bool o.c] 25)).alloc (.cells #[.string x.pod.id, .int .i64 x.pod.prio, .bool x.pod.crit, .int .i64 x.pod.r0, .int .i64 x.pod.r1, .int .i64 x.pod.r2, .int .i64 x.pod.l0, .int .i64 x.pod.l1, .int .i64 x.pod.l2, .string x.pod.img, .int .i64 x.pod.size, .int .i64 x.phase] 46)).cell? ⟨w.heap.size + 1, 3, none⟩ = some (.int .i64 x.pod.r0) := by first | (simp; done) | (rw [World.cell?_alloc_at _ _ _ _ (by simp)]; rfl) | (rw [World.cell?_alloc_past _ _ _ (by simp <;> omega), World.cell?_alloc_at _ _ _ _ (by simp)]; rfl) | (rw [World.cell?_alloc_past _ _ _ (by simp <;> omega), World.cell?_alloc_past _ _ _ (by simp <;> omega), World.cell?_alloc_at _ _ _ _ (by simp)]; rfl)
    have ee4 : ((w.alloc (.cells #[.int .i64 r, .slice a n c, .bool o.a, .bool o.b, .bool o.c] 25)).alloc (.cells #[.string x.pod.id, .int .i64 x.pod.prio, .bool x.pod.crit, .int .i64 x.pod.r0, .int .i64 x.pod.r1, .int .i64 x.pod.r2, .int .i64 x.pod.l0, .int .i64 x.pod.l1, .int .i64 x.pod.l2, .string x.pod.img, .int .i64 x.pod.size, .int .i64 x.phase] 46)).cell? ⟨w.heap.size + 1, 4, none⟩ = some (.int .i64 x.pod.r1) := by first | (simp; done) | (rw [World.cell?_alloc_at _ _ _ _ (by simp)]; rfl) | (rw [World.cell?_alloc_past _ _ _ (by simp <;> omega), World.cell?_alloc_at _ _ _ _ (by simp)]; rfl) | (rw [World.cell?_alloc_past _ _ _ (by simp <;> omega), World.cell?_alloc_past _ _ _ (by simp <;> omega), World.cell?_alloc_at _ _ _ _ (by simp)]; rfl)
    have ee5 : ((w.alloc (.cells #[.int .i64 r, .slice a n c, .bool o.a, .bool o.b, .bool o.c] 25)).alloc (.cells #[.string x.pod.id, .int .i64 x.pod.prio, .bool x.pod.crit, .int .i64 x.pod.r0, .int .i64 x.pod.r1, .int .i64 x.pod.r2, .int .i64 x.pod.l0, .int .i64 x.pod.l1, .int .i64 x.pod.l2, .string x.pod.img, .int .i64 x.pod.size, .int .i64 x.phase] 46)).cell? ⟨w.heap.size + 1, 5, none⟩ = some (.int .i64 x.pod.r2) := by first | (simp; done) | (rw [World.cell?_alloc_at _ _ _ _ (by simp)]; rfl) | (rw [World.cell?_alloc_past _ _ _ (by simp <;> omega), World.cell?_alloc_at _ _ _ _ (by simp)]; rfl) | (rw [World.cell?_alloc_past _ _ _ (by simp <;> omega), World.cell?_alloc_past _ _ _ (by simp <;> omega), World.cell?_alloc_at _ _ _ _ (by simp)]; rfl)
    have ee6 : ((w.alloc (.cells #[.int .i64 r, .slice a n c, .bool o.a, .bool o.b, .bool o.c] 25)).alloc (.cells #[.string x.pod.id, .int .i64 x.pod.prio, .bool x.pod.crit, .int .i64 x.pod.r0, .int .i64 x.pod.r1, .int .i64 x.pod.r2, .int .i64 x.pod.l0, .int .i64 x.pod.l1, .int .i64 x.pod.l2, .string x.pod.img, .int .i64 x.pod.size, .int .i64 x.phase] 46)).cell? ⟨w.heap.size + 1, 6, none⟩ = some (.int .i64 x.pod.l0) := by first | (simp; done) | (rw [World.cell?_alloc_at _ _ _ _ (by simp)]; rfl) | (rw [World.cell?_alloc_past _ _ _ (by simp <;> omega), World.cell?_alloc_at _ _ _ _ (by simp)]; rfl) | (rw [World.cell?_alloc_past _ _ _ (by simp <;> omega), World.cell?_alloc_past _ _ _ (by simp <;> omega), World.cell?_alloc_at _ _ _ _ (by simp)]; rfl)
    have ee7 : ((w.alloc (.cells #[.int .i64 r, .slice a n c, .bool o.a, .bool o.b, .bool o.c] 25)).alloc (.cells #[.string x.pod.id, .int .i64 x.pod.prio, .bool x.pod.crit, .int .i64 x.pod.r0, .int .i64 x.pod.r1, .int .i64 x.pod.r2, .int .i64 x.pod.l0, .int .i64 x.pod.l1, .int .i64 x.pod.l2, .string x.pod.img, .int .i64 x.pod.size, .int .i64 x.phase] 46)).cell? ⟨w.heap.size + 1, 7, none⟩ = some (.int .i64 x.pod.l1) := by first | (simp; done) | (rw [World.cell?_alloc_at _ _ _ _ (by simp)]; rfl) | (rw [World.cell?_alloc_past _ _ _ (by simp <;> omega), World.cell?_alloc_at _ _ _ _ (by simp)]; rfl) | (rw [World.cell?_alloc_past _ _ _ (by simp <;> omega), World.cell?_alloc_past _ _ _ (by simp <;> omega), World.cell?_alloc_at _ _ _ _ (by simp)]; rfl)
    have ee8 : ((w.alloc (.cells #[.int .i64 r, .slice a n c, .bool o.a, .bool o.b, .bool o.c] 25)).alloc (.cells #[.string x.pod.id, .int .i64 x.pod.prio, .bool x.pod.crit, .int .i64 x.pod.r0, .int .i64 x.pod.r1, .int .i64 x.pod.r2, .int .i64 x.pod.l0, .int .i64 x.pod.l1, .int .i64 x.pod.l2, .string x.pod.img, .int .i64 x.pod.size, .int .i64 x.phase] 46)).cell? ⟨w.heap.size + 1, 8, none⟩ = some (.int .i64 x.pod.l2) := by first | (simp; done) | (rw [World.cell?_alloc_at _ _ _ _ (by simp)]; rfl) | (rw [World.cell?_alloc_past _ _ _ (by simp <;> omega), World.cell?_alloc_at _ _ _ _ (by simp)]; rfl) | (rw [World.cell?_alloc_past _ _ _ (by simp <;> omega), World.cell?_alloc_past _ _ _ (by simp <;> omega), World.cell?_alloc_at _ _ _ _ (by simp)]; rfl)
    have ee9 : ((w.alloc (.cells #[.int .i64 r, .slice a n c, .bool o.a, .bool o.b, .bool o.c] 25)).alloc (.cells #[.string x.pod.id, .int .i64 x.pod.prio, .bool x.pod.crit, .int .i64 x.pod.r0, .int .i64 x.pod.r1, .int .i64 x.pod.r2, .int .i64 x.pod.l0, .int .i64 x.pod.l1, .int .i64 x.pod.l2, .string x.pod.img, .int .i64 x.pod.size, .int .i64 x.phase] 46)).cell? ⟨w.heap.size + 1, 9, none⟩ = some (.string x.pod.img) := by first | (simp; done) | (rw [World.cell?_alloc_at _ _ _ _ (by simp)]; rfl) | (rw [World.cell?_alloc_past _ _ _ (by simp <;> omega), World.cell?_alloc_at _ _ _ _ (by simp)]; rfl) | (rw [World.cell?_alloc_past _ _ _ (by simp <;> omega), World.cell?_alloc_past _ _ _ (by simp <;> omega), World.cell?_alloc_at _ _ _ _ (by simp)]; rfl)
    have ee10 : ((w.alloc (.cells #[.int .i64 r, .slice a n c, .bool o.a, .bool o.b, .bool o.c] 25)).alloc (.cells #[.string x.pod.id, .int .i64 x.pod.prio, .bool x.pod.crit, .int .i64 x.pod.r0, .int .i64 x.pod.r1, .int .i64 x.pod.r2, .int .i64 x.pod.l0, .int .i64 x.pod.l1, .int .i64 x.pod.l2, .string x.pod.img, .int .i64 x.pod.size, .int .i64 x.phase] 46)).cell? ⟨w.heap.size + 1, 10, none⟩ = some (.int .i64 x.pod.size) := by first | (simp; done) | (rw [World.cell?_alloc_at _ _ _ _ (by simp)]; rfl) | (rw [World.cell?_alloc_past _ _ _ (by simp <;> omega), World.cell?_alloc_at _ _ _ _ (by simp)]; rfl) | (rw [World.cell?_alloc_past _ _ _ (by simp <;> omega), World.cell?_alloc_past _ _ _ (by simp <;> omega), World.cell?_alloc_at _ _ _ _ (by simp)]; rfl)
    have ee11 : ((w.alloc (.cells #[.int .i64 r, .slice a n c, .bool o.a, .bool o.b, .bool o.c] 25)).alloc (.cells #[.string x.pod.id, .int .i64 x.pod.prio, .bool x.pod.crit, .int .i64 x.pod.r0, .int .i64 x.pod.r1, .int .i64 x.pod.r2, .int .i64 x.pod.l0, .int .i64 x.pod.l1, .int .i64 x.pod.l2, .string x.pod.img, .int .i64 x.pod.size, .int .i64 x.phase] 46)).cell? ⟨w.heap.size + 1, 11, none⟩ = some (.int .i64 x.phase) := by first | (simp; done) | (rw [World.cell?_alloc_at _ _ _ _ (by simp)]; rfl) | (rw [World.cell?_alloc_past _ _ _ (by simp <;> omega), World.cell?_alloc_at _ _ _ _ (by simp)]; rfl) | (rw [World.cell?_alloc_past _ _ _ (by simp <;> omega), World.cell?_alloc_past _ _ _ (by simp <;> omega), World.cell?_alloc_at _ _ _ _ (by simp)]; rfl)
    have hb2 := (by repeat (first | exact hbel | refine belAlloc ?_ _ | refine belDrew ?_ | refine belSet ?_ _ _ (by simp)) : Below w.heap.size w ((w.alloc (.cells #[.int .i64 r, .slice a n c, .bool o.a, .bool o.b, .bool o.c] 25)).alloc (.cells #[.string x.pod.id, .int .i64 x.pod.prio, .bool x.pod.crit, .int .i64 x.pod.r0, .int .i64 x.pod.r1, .int .i64 x.pod.r2, .int .i64 x.pod.l0, .int .i64 x.pod.l1, .int .i64 x.pod.l2, .string x.pod.img, .int .i64 x.pod.size, .int .i64 x.phase] 46)))
    replace hw := belStep hw hb2
    clear hb2 hbel
    generalize (w.alloc (.cells #[.int .i64 r, .slice a n c, .bool o.a, .bool o.b, .bool o.c] 25)).alloc (.cells #[.string x.pod.id, .int .i64 x.pod.prio, .bool x.pod.crit, .int .i64 x.pod.r0, .int .i64 x.pod.r1, .int .i64 x.pod.r2, .int .i64 x.pod.l0, .int .i64 x.pod.l1, .int .i64 x.pod.l2, .string x.pod.img, .int .i64 x.pod.size, .int .i64 x.phase] 46) = W1 at *
    replace ss0 := keep ss0
    replace ss1 := keep ss1
    replace ss2 := keep ss2
    replace ss3 := keep ss3
    replace ss4 := keep ss4
    replace ee0 := keep ee0
    replace ee1 := keep ee1
    replace ee2 := keep ee2
    replace ee3 := keep ee3
    replace ee4 := keep ee4
    replace ee5 := keep ee5
    replace ee6 := keep ee6
    replace ee7 := keep ee7
    replace ee8 := keep ee8
    replace ee9 := keep ee9
    replace ee10 := keep ee10
    replace ee11 := keep ee11
    have hbel : Below W1.heap.size W1 W1 := Below.refl _ _
    skip
    go_wp2_with (first | (go_at_call 11; (with_reducible refine (awake24 _).mono ?_); rintro e w1 ⟨rfl, hb1⟩; replace hbel := belStep hbel hb1; clear hb1) | (go_at_call 12; (with_reducible refine (CFW.out _ (belStep hw hbel)).mono ?_); rintro e wf ⟨rfl, hbf⟩; replace hbel := belStep hbel hbf; clear hbf; rcases fs with _ | _) | (go_at_call 15; (with_reducible refine (CRT.out _ (belStep hw hbel)).mono ?_); rintro e wf ⟨rfl, hbf⟩; replace hbel := belStep hbel hbf; clear hbf; rcases rs with _ | _) | (go_at_call 21; (with_reducible refine (CSM.out _).mono ?_); rintro e wf8 ⟨rfl, hbf8⟩; replace hbel := belStep hbel hbf8; clear hbf8; rcases sm with _ | _) | (go_at_call 22; (with_reducible refine (CRP.out _).mono ?_); rintro e wf9 ⟨rfl, hbf9⟩; replace hbel := belStep hbel hbf9; clear hbf9; rcases rp with _ | _))
    all_goals (go_ret; exact ⟨rfl, belStep hw hbel⟩)
  · have p1 : decide (x.phase < (1 : Int)) = false := decide_eq_false k1
    have p2 : decide ((3 : Int) < x.phase) = true := decide_eq_true k2
    go_enter Try.func10, Try.ntmps10
    go_upto_region 1 with fail
    have ss0 : ((w.alloc (.cells #[.int .i64 r, .slice a n c, .bool o.a, .bool o.b, .bool o.c] 25)).alloc (.cells #[.string x.pod.id, .int .i64 x.pod.prio, .bool x.pod.crit, .int .i64 x.pod.r0, .int .i64 x.pod.r1, .int .i64 x.pod.r2, .int .i64 x.pod.l0, .int .i64 x.pod.l1, .int .i64 x.pod.l2, .string x.pod.img, .int .i64 x.pod.size, .int .i64 x.phase] 46)).cell? ⟨w.heap.size, 0, none⟩ = some (.int .i64 r) := by first | (simp; done) | (rw [World.cell?_alloc_at _ _ _ _ (by simp)]; rfl) | (rw [World.cell?_alloc_past _ _ _ (by simp <;> omega), World.cell?_alloc_at _ _ _ _ (by simp)]; rfl) | (rw [World.cell?_alloc_past _ _ _ (by simp <;> omega), World.cell?_alloc_past _ _ _ (by simp <;> omega), World.cell?_alloc_at _ _ _ _ (by simp)]; rfl)
    have ss1 : ((w.alloc (.cells #[.int .i64 r, .slice a n c, .bool o.a, .bool o.b, .bool o.c] 25)).alloc (.cells #[.string x.pod.id, .int .i64 x.pod.prio, .bool x.pod.crit, .int .i64 x.pod.r0, .int .i64 x.pod.r1, .int .i64 x.pod.r2, .int .i64 x.pod.l0, .int .i64 x.pod.l1, .int .i64 x.pod.l2, .string x.pod.img, .int .i64 x.pod.size, .int .i64 x.phase] 46)).cell? ⟨w.heap.size, 1, none⟩ = some (.slice a n c) := by first | (simp; done) | (rw [World.cell?_alloc_at _ _ _ _ (by simp)]; rfl) | (rw [World.cell?_alloc_past _ _ _ (by simp <;> omega), World.cell?_alloc_at _ _ _ _ (by simp)]; rfl) | (rw [World.cell?_alloc_past _ _ _ (by simp <;> omega), World.cell?_alloc_past _ _ _ (by simp <;> omega), World.cell?_alloc_at _ _ _ _ (by simp)]; rfl)
    have ss2 : ((w.alloc (.cells #[.int .i64 r, .slice a n c, .bool o.a, .bool o.b, .bool o.c] 25)).alloc (.cells #[.string x.pod.id, .int .i64 x.pod.prio, .bool x.pod.crit, .int .i64 x.pod.r0, .int .i64 x.pod.r1, .int .i64 x.pod.r2, .int .i64 x.pod.l0, .int .i64 x.pod.l1, .int .i64 x.pod.l2, .string x.pod.img, .int .i64 x.pod.size, .int .i64 x.phase] 46)).cell? ⟨w.heap.size, 2, none⟩ = some (.bool o.a) := by first | (simp; done) | (rw [World.cell?_alloc_at _ _ _ _ (by simp)]; rfl) | (rw [World.cell?_alloc_past _ _ _ (by simp <;> omega), World.cell?_alloc_at _ _ _ _ (by simp)]; rfl) | (rw [World.cell?_alloc_past _ _ _ (by simp <;> omega), World.cell?_alloc_past _ _ _ (by simp <;> omega), World.cell?_alloc_at _ _ _ _ (by simp)]; rfl)
    have ss3 : ((w.alloc (.cells #[.int .i64 r, .slice a n c, .bool o.a, .bool o.b, .bool o.c] 25)).alloc (.cells #[.string x.pod.id, .int .i64 x.pod.prio, .bool x.pod.crit, .int .i64 x.pod.r0, .int .i64 x.pod.r1, .int .i64 x.pod.r2, .int .i64 x.pod.l0, .int .i64 x.pod.l1, .int .i64 x.pod.l2, .string x.pod.img, .int .i64 x.pod.size, .int .i64 x.phase] 46)).cell? ⟨w.heap.size, 3, none⟩ = some (.bool o.b) := by first | (simp; done) | (rw [World.cell?_alloc_at _ _ _ _ (by simp)]; rfl) | (rw [World.cell?_alloc_past _ _ _ (by simp <;> omega), World.cell?_alloc_at _ _ _ _ (by simp)]; rfl) | (rw [World.cell?_alloc_past _ _ _ (by simp <;> omega), World.cell?_alloc_past _ _ _ (by simp <;> omega), World.cell?_alloc_at _ _ _ _ (by simp)]; rfl)
    have ss4 : ((w.alloc (.cells #[.int .i64 r, .slice a n c, .bool o.a, .bool o.b, .bool o.c] 25)).alloc (.cells #[.string x.pod.id, .int .i64 x.pod.prio, .bool x.pod.crit, .int .i64 x.pod.r0, .int .i64 x.pod.r1, .int .i64 x.pod.r2, .int .i64 x.pod.l0, .int .i64 x.pod.l1, .int .i64 x.pod.l2, .string x.pod.img, .int .i64 x.pod.size, .int .i64 x.phase] 46)).cell? ⟨w.heap.size, 4, none⟩ = some (.bool o.c) := by first | (simp; done) | (rw [World.cell?_alloc_at _ _ _ _ (by simp)]; rfl) | (rw [World.cell?_alloc_past _ _ _ (by simp <;> omega), World.cell?_alloc_at _ _ _ _ (by simp)]; rfl) | (rw [World.cell?_alloc_past _ _ _ (by simp <;> omega), World.cell?_alloc_past _ _ _ (by simp <;> omega), World.cell?_alloc_at _ _ _ _ (by simp)]; rfl)
    have ee0 : ((w.alloc (.cells #[.int .i64 r, .slice a n c, .bool o.a, .bool o.b, .bool o.c] 25)).alloc (.cells #[.string x.pod.id, .int .i64 x.pod.prio, .bool x.pod.crit, .int .i64 x.pod.r0, .int .i64 x.pod.r1, .int .i64 x.pod.r2, .int .i64 x.pod.l0, .int .i64 x.pod.l1, .int .i64 x.pod.l2, .string x.pod.img, .int .i64 x.pod.size, .int .i64 x.phase] 46)).cell? ⟨w.heap.size + 1, 0, none⟩ = some (.string x.pod.id) := by first | (simp; done) | (rw [World.cell?_alloc_at _ _ _ _ (by simp)]; rfl) | (rw [World.cell?_alloc_past _ _ _ (by simp <;> omega), World.cell?_alloc_at _ _ _ _ (by simp)]; rfl) | (rw [World.cell?_alloc_past _ _ _ (by simp <;> omega), World.cell?_alloc_past _ _ _ (by simp <;> omega), World.cell?_alloc_at _ _ _ _ (by simp)]; rfl)
    have ee1 : ((w.alloc (.cells #[.int .i64 r, .slice a n c, .bool o.a, .bool o.b, .bool o.c] 25)).alloc (.cells #[.string x.pod.id, .int .i64 x.pod.prio, .bool x.pod.crit, .int .i64 x.pod.r0, .int .i64 x.pod.r1, .int .i64 x.pod.r2, .int .i64 x.pod.l0, .int .i64 x.pod.l1, .int .i64 x.pod.l2, .string x.pod.img, .int .i64 x.pod.size, .int .i64 x.phase] 46)).cell? ⟨w.heap.size + 1, 1, none⟩ = some (.int .i64 x.pod.prio) := by first | (simp; done) | (rw [World.cell?_alloc_at _ _ _ _ (by simp)]; rfl) | (rw [World.cell?_alloc_past _ _ _ (by simp <;> omega), World.cell?_alloc_at _ _ _ _ (by simp)]; rfl) | (rw [World.cell?_alloc_past _ _ _ (by simp <;> omega), World.cell?_alloc_past _ _ _ (by simp <;> omega), World.cell?_alloc_at _ _ _ _ (by simp)]; rfl)
    have ee2 : ((w.alloc (.cells #[.int .i64 r, .slice a n c, .bool o.a, .bool o.b, .bool o.c] 25)).alloc (.cells #[.string x.pod.id, .int .i64 x.pod.prio, .bool x.pod.crit, .int .i64 x.pod.r0, .int .i64 x.pod.r1, .int .i64 x.pod.r2, .int .i64 x.pod.l0, .int .i64 x.pod.l1, .int .i64 x.pod.l2, .string x.pod.img, .int .i64 x.pod.size, .int .i64 x.phase] 46)).cell? ⟨w.heap.size + 1, 2, none⟩ = some (.bool x.pod.crit) := by first | (simp; done) | (rw [World.cell?_alloc_at _ _ _ _ (by simp)]; rfl) | (rw [World.cell?_alloc_past _ _ _ (by simp <;> omega), World.cell?_alloc_at _ _ _ _ (by simp)]; rfl) | (rw [World.cell?_alloc_past _ _ _ (by simp <;> omega), World.cell?_alloc_past _ _ _ (by simp <;> omega), World.cell?_alloc_at _ _ _ _ (by simp)]; rfl)
    have ee3 : ((w.alloc (.cells #[.int .i64 r, .slice a n c, .bool o.a, .bool o.b, .bool o.c] 25)).alloc (.cells #[.string x.pod.id, .int .i64 x.pod.prio, .bool x.pod.crit, .int .i64 x.pod.r0, .int .i64 x.pod.r1, .int .i64 x.pod.r2, .int .i64 x.pod.l0, .int .i64 x.pod.l1, .int .i64 x.pod.l2, .string x.pod.img, .int .i64 x.pod.size, .int .i64 x.phase] 46)).cell? ⟨w.heap.size + 1, 3, none⟩ = some (.int .i64 x.pod.r0) := by first | (simp; done) | (rw [World.cell?_alloc_at _ _ _ _ (by simp)]; rfl) | (rw [World.cell?_alloc_past _ _ _ (by simp <;> omega), World.cell?_alloc_at _ _ _ _ (by simp)]; rfl) | (rw [World.cell?_alloc_past _ _ _ (by simp <;> omega), World.cell?_alloc_past _ _ _ (by simp <;> omega), World.cell?_alloc_at _ _ _ _ (by simp)]; rfl)
    have ee4 : ((w.alloc (.cells #[.int .i64 r, .slice a n c, .bool o.a, .bool o.b, .bool o.c] 25)).alloc (.cells #[.string x.pod.id, .int .i64 x.pod.prio, .bool x.pod.crit, .int .i64 x.pod.r0, .int .i64 x.pod.r1, .int .i64 x.pod.r2, .int .i64 x.pod.l0, .int .i64 x.pod.l1, .int .i64 x.pod.l2, .string x.pod.img, .int .i64 x.pod.size, .int .i64 x.phase] 46)).cell? ⟨w.heap.size + 1, 4, none⟩ = some (.int .i64 x.pod.r1) := by first | (simp; done) | (rw [World.cell?_alloc_at _ _ _ _ (by simp)]; rfl) | (rw [World.cell?_alloc_past _ _ _ (by simp <;> omega), World.cell?_alloc_at _ _ _ _ (by simp)]; rfl) | (rw [World.cell?_alloc_past _ _ _ (by simp <;> omega), World.cell?_alloc_past _ _ _ (by simp <;> omega), World.cell?_alloc_at _ _ _ _ (by simp)]; rfl)
    have ee5 : ((w.alloc (.cells #[.int .i64 r, .slice a n c, .bool o.a, .bool o.b, .bool o.c] 25)).alloc (.cells #[.string x.pod.id, .int .i64 x.pod.prio, .bool x.pod.crit, .int .i64 x.pod.r0, .int .i64 x.pod.r1, .int .i64 x.pod.r2, .int .i64 x.pod.l0, .int .i64 x.pod.l1, .int .i64 x.pod.l2, .string x.pod.img, .int .i64 x.pod.size, .int .i64 x.phase] 46)).cell? ⟨w.heap.size + 1, 5, none⟩ = some (.int .i64 x.pod.r2) := by first | (simp; done) | (rw [World.cell?_alloc_at _ _ _ _ (by simp)]; rfl) | (rw [World.cell?_alloc_past _ _ _ (by simp <;> omega), World.cell?_alloc_at _ _ _ _ (by simp)]; rfl) | (rw [World.cell?_alloc_past _ _ _ (by simp <;> omega), World.cell?_alloc_past _ _ _ (by simp <;> omega), World.cell?_alloc_at _ _ _ _ (by simp)]; rfl)
    have ee6 : ((w.alloc (.cells #[.int .i64 r, .slice a n c, .bool o.a, .bool o.b, .bool o.c] 25)).alloc (.cells #[.string x.pod.id, .int .i64 x.pod.prio, .bool x.pod.crit, .int .i64 x.pod.r0, .int .i64 x.pod.r1, .int .i64 x.pod.r2, .int .i64 x.pod.l0, .int .i64 x.pod.l1, .int .i64 x.pod.l2, .string x.pod.img, .int .i64 x.pod.size, .int .i64 x.phase] 46)).cell? ⟨w.heap.size + 1, 6, none⟩ = some (.int .i64 x.pod.l0) := by first | (simp; done) | (rw [World.cell?_alloc_at _ _ _ _ (by simp)]; rfl) | (rw [World.cell?_alloc_past _ _ _ (by simp <;> omega), World.cell?_alloc_at _ _ _ _ (by simp)]; rfl) | (rw [World.cell?_alloc_past _ _ _ (by simp <;> omega), World.cell?_alloc_past _ _ _ (by simp <;> omega), World.cell?_alloc_at _ _ _ _ (by simp)]; rfl)
    have ee7 : ((w.alloc (.cells #[.int .i64 r, .slice a n c, .bool o.a, .bool o.b, .bool o.c] 25)).alloc (.cells #[.string x.pod.id, .int .i64 x.pod.prio, .bool x.pod.crit, .int .i64 x.pod.r0, .int .i64 x.pod.r1, .int .i64 x.pod.r2, .int .i64 x.pod.l0, .int .i64 x.pod.l1, .int .i64 x.pod.l2, .string x.pod.img, .int .i64 x.pod.size, .int .i64 x.phase] 46)).cell? ⟨w.heap.size + 1, 7, none⟩ = some (.int .i64 x.pod.l1) := by first | (simp; done) | (rw [World.cell?_alloc_at _ _ _ _ (by simp)]; rfl) | (rw [World.cell?_alloc_past _ _ _ (by simp <;> omega), World.cell?_alloc_at _ _ _ _ (by simp)]; rfl) | (rw [World.cell?_alloc_past _ _ _ (by simp <;> omega), World.cell?_alloc_past _ _ _ (by simp <;> omega), World.cell?_alloc_at _ _ _ _ (by simp)]; rfl)
    have ee8 : ((w.alloc (.cells #[.int .i64 r, .slice a n c, .bool o.a, .bool o.b, .bool o.c] 25)).alloc (.cells #[.string x.pod.id, .int .i64 x.pod.prio, .bool x.pod.crit, .int .i64 x.pod.r0, .int .i64 x.pod.r1, .int .i64 x.pod.r2, .int .i64 x.pod.l0, .int .i64 x.pod.l1, .int .i64 x.pod.l2, .string x.pod.img, .int .i64 x.pod.size, .int .i64 x.phase] 46)).cell? ⟨w.heap.size + 1, 8, none⟩ = some (.int .i64 x.pod.l2) := by first | (simp; done) | (rw [World.cell?_alloc_at _ _ _ _ (by simp)]; rfl) | (rw [World.cell?_alloc_past _ _ _ (by simp <;> omega), World.cell?_alloc_at _ _ _ _ (by simp)]; rfl) | (rw [World.cell?_alloc_past _ _ _ (by simp <;> omega), World.cell?_alloc_past _ _ _ (by simp <;> omega), World.cell?_alloc_at _ _ _ _ (by simp)]; rfl)
    have ee9 : ((w.alloc (.cells #[.int .i64 r, .slice a n c, .bool o.a, .bool o.b, .bool o.c] 25)).alloc (.cells #[.string x.pod.id, .int .i64 x.pod.prio, .bool x.pod.crit, .int .i64 x.pod.r0, .int .i64 x.pod.r1, .int .i64 x.pod.r2, .int .i64 x.pod.l0, .int .i64 x.pod.l1, .int .i64 x.pod.l2, .string x.pod.img, .int .i64 x.pod.size, .int .i64 x.phase] 46)).cell? ⟨w.heap.size + 1, 9, none⟩ = some (.string x.pod.img) := by first | (simp; done) | (rw [World.cell?_alloc_at _ _ _ _ (by simp)]; rfl) | (rw [World.cell?_alloc_past _ _ _ (by simp <;> omega), World.cell?_alloc_at _ _ _ _ (by simp)]; rfl) | (rw [World.cell?_alloc_past _ _ _ (by simp <;> omega), World.cell?_alloc_past _ _ _ (by simp <;> omega), World.cell?_alloc_at _ _ _ _ (by simp)]; rfl)
    have ee10 : ((w.alloc (.cells #[.int .i64 r, .slice a n c, .bool o.a, .bool o.b, .bool o.c] 25)).alloc (.cells #[.string x.pod.id, .int .i64 x.pod.prio, .bool x.pod.crit, .int .i64 x.pod.r0, .int .i64 x.pod.r1, .int .i64 x.pod.r2, .int .i64 x.pod.l0, .int .i64 x.pod.l1, .int .i64 x.pod.l2, .string x.pod.img, .int .i64 x.pod.size, .int .i64 x.phase] 46)).cell? ⟨w.heap.size + 1, 10, none⟩ = some (.int .i64 x.pod.size) := by first | (simp; done) | (rw [World.cell?_alloc_at _ _ _ _ (by simp)]; rfl) | (rw [World.cell?_alloc_past _ _ _ (by simp <;> omega), World.cell?_alloc_at _ _ _ _ (by simp)]; rfl) | (rw [World.cell?_alloc_past _ _ _ (by simp <;> omega), World.cell?_alloc_past _ _ _ (by simp <;> omega), World.cell?_alloc_at _ _ _ _ (by simp)]; rfl)
    have ee11 : ((w.alloc (.cells #[.int .i64 r, .slice a n c, .bool o.a, .bool o.b, .bool o.c] 25)).alloc (.cells #[.string x.pod.id, .int .i64 x.pod.prio, .bool x.pod.crit, .int .i64 x.pod.r0, .int .i64 x.pod.r1, .int .i64 x.pod.r2, .int .i64 x.pod.l0, .int .i64 x.pod.l1, .int .i64 x.pod.l2, .string x.pod.img, .int .i64 x.pod.size, .int .i64 x.phase] 46)).cell? ⟨w.heap.size + 1, 11, none⟩ = some (.int .i64 x.phase) := by first | (simp; done) | (rw [World.cell?_alloc_at _ _ _ _ (by simp)]; rfl) | (rw [World.cell?_alloc_past _ _ _ (by simp <;> omega), World.cell?_alloc_at _ _ _ _ (by simp)]; rfl) | (rw [World.cell?_alloc_past _ _ _ (by simp <;> omega), World.cell?_alloc_past _ _ _ (by simp <;> omega), World.cell?_alloc_at _ _ _ _ (by simp)]; rfl)
    have hb2 := (by repeat (first | exact hbel | refine belAlloc ?_ _ | refine belDrew ?_ | refine belSet ?_ _ _ (by simp)) : Below w.heap.size w ((w.alloc (.cells #[.int .i64 r, .slice a n c, .bool o.a, .bool o.b, .bool o.c] 25)).alloc (.cells #[.string x.pod.id, .int .i64 x.pod.prio, .bool x.pod.crit, .int .i64 x.pod.r0, .int .i64 x.pod.r1, .int .i64 x.pod.r2, .int .i64 x.pod.l0, .int .i64 x.pod.l1, .int .i64 x.pod.l2, .string x.pod.img, .int .i64 x.pod.size, .int .i64 x.phase] 46)))
    replace hw := belStep hw hb2
    clear hb2 hbel
    generalize (w.alloc (.cells #[.int .i64 r, .slice a n c, .bool o.a, .bool o.b, .bool o.c] 25)).alloc (.cells #[.string x.pod.id, .int .i64 x.pod.prio, .bool x.pod.crit, .int .i64 x.pod.r0, .int .i64 x.pod.r1, .int .i64 x.pod.r2, .int .i64 x.pod.l0, .int .i64 x.pod.l1, .int .i64 x.pod.l2, .string x.pod.img, .int .i64 x.pod.size, .int .i64 x.phase] 46) = W1 at *
    replace ss0 := keep ss0
    replace ss1 := keep ss1
    replace ss2 := keep ss2
    replace ss3 := keep ss3
    replace ss4 := keep ss4
    replace ee0 := keep ee0
    replace ee1 := keep ee1
    replace ee2 := keep ee2
    replace ee3 := keep ee3
    replace ee4 := keep ee4
    replace ee5 := keep ee5
    replace ee6 := keep ee6
    replace ee7 := keep ee7
    replace ee8 := keep ee8
    replace ee9 := keep ee9
    replace ee10 := keep ee10
    replace ee11 := keep ee11
    have hbel : Below W1.heap.size W1 W1 := Below.refl _ _
    skip
    go_wp2_with (first | (go_at_call 11; (with_reducible refine (awake24 _).mono ?_); rintro e w1 ⟨rfl, hb1⟩; replace hbel := belStep hbel hb1; clear hb1) | (go_at_call 12; (with_reducible refine (CFW.out _ (belStep hw hbel)).mono ?_); rintro e wf ⟨rfl, hbf⟩; replace hbel := belStep hbel hbf; clear hbf; rcases fs with _ | _) | (go_at_call 15; (with_reducible refine (CRT.out _ (belStep hw hbel)).mono ?_); rintro e wf ⟨rfl, hbf⟩; replace hbel := belStep hbel hbf; clear hbf; rcases rs with _ | _) | (go_at_call 21; (with_reducible refine (CSM.out _).mono ?_); rintro e wf8 ⟨rfl, hbf8⟩; replace hbel := belStep hbel hbf8; clear hbf8; rcases sm with _ | _) | (go_at_call 22; (with_reducible refine (CRP.out _).mono ?_); rintro e wf9 ⟨rfl, hbf9⟩; replace hbel := belStep hbel hbf9; clear hbf9; rcases rp with _ | _))
    all_goals (go_ret; exact ⟨rfl, belStep hw hbel⟩)
  · have p1 : decide (x.phase < (1 : Int)) = false := decide_eq_false k1
    have p2 : decide ((3 : Int) < x.phase) = false := decide_eq_false k2
    have HPH := Lib.hid (show phB x.phase = true by unfold phB; rw [decide_eq_true (by omega), decide_eq_true (by omega)]; rfl)
    go_enter Try.func10, Try.ntmps10
    go_upto_region 1 with fail
    have ss0 : ((w.alloc (.cells #[.int .i64 r, .slice a n c, .bool o.a, .bool o.b, .bool o.c] 25)).alloc (.cells #[.string x.pod.id, .int .i64 x.pod.prio, .bool x.pod.crit, .int .i64 x.pod.r0, .int .i64 x.pod.r1, .int .i64 x.pod.r2, .int .i64 x.pod.l0, .int .i64 x.pod.l1, .int .i64 x.pod.l2, .string x.pod.img, .int .i64 x.pod.size, .int .i64 x.phase] 46)).cell? ⟨w.heap.size, 0, none⟩ = some (.int .i64 r) := by first | (simp; done) | (rw [World.cell?_alloc_at _ _ _ _ (by simp)]; rfl) | (rw [World.cell?_alloc_past _ _ _ (by simp <;> omega), World.cell?_alloc_at _ _ _ _ (by simp)]; rfl) | (rw [World.cell?_alloc_past _ _ _ (by simp <;> omega), World.cell?_alloc_past _ _ _ (by simp <;> omega), World.cell?_alloc_at _ _ _ _ (by simp)]; rfl)
    have ss1 : ((w.alloc (.cells #[.int .i64 r, .slice a n c, .bool o.a, .bool o.b, .bool o.c] 25)).alloc (.cells #[.string x.pod.id, .int .i64 x.pod.prio, .bool x.pod.crit, .int .i64 x.pod.r0, .int .i64 x.pod.r1, .int .i64 x.pod.r2, .int .i64 x.pod.l0, .int .i64 x.pod.l1, .int .i64 x.pod.l2, .string x.pod.img, .int .i64 x.pod.size, .int .i64 x.phase] 46)).cell? ⟨w.heap.size, 1, none⟩ = some (.slice a n c) := by first | (simp; done) | (rw [World.cell?_alloc_at _ _ _ _ (by simp)]; rfl) | (rw [World.cell?_alloc_past _ _ _ (by simp <;> omega), World.cell?_alloc_at _ _ _ _ (by simp)]; rfl) | (rw [World.cell?_alloc_past _ _ _ (by simp <;> omega), World.cell?_alloc_past _ _ _ (by simp <;> omega), World.cell?_alloc_at _ _ _ _ (by simp)]; rfl)
    have ss2 : ((w.alloc (.cells #[.int .i64 r, .slice a n c, .bool o.a, .bool o.b, .bool o.c] 25)).alloc (.cells #[.string x.pod.id, .int .i64 x.pod.prio, .bool x.pod.crit, .int .i64 x.pod.r0, .int .i64 x.pod.r1, .int .i64 x.pod.r2, .int .i64 x.pod.l0, .int .i64 x.pod.l1, .int .i64 x.pod.l2, .string x.pod.img, .int .i64 x.pod.size, .int .i64 x.phase] 46)).cell? ⟨w.heap.size, 2, none⟩ = some (.bool o.a) := by first | (simp; done) | (rw [World.cell?_alloc_at _ _ _ _ (by simp)]; rfl) | (rw [World.cell?_alloc_past _ _ _ (by simp <;> omega), World.cell?_alloc_at _ _ _ _ (by simp)]; rfl) | (rw [World.cell?_alloc_past _ _ _ (by simp <;> omega), World.cell?_alloc_past _ _ _ (by simp <;> omega), World.cell?_alloc_at _ _ _ _ (by simp)]; rfl)
    have ss3 : ((w.alloc (.cells #[.int .i64 r, .slice a n c, .bool o.a, .bool o.b, .bool o.c] 25)).alloc (.cells #[.string x.pod.id, .int .i64 x.pod.prio, .bool x.pod.crit, .int .i64 x.pod.r0, .int .i64 x.pod.r1, .int .i64 x.pod.r2, .int .i64 x.pod.l0, .int .i64 x.pod.l1, .int .i64 x.pod.l2, .string x.pod.img, .int .i64 x.pod.size, .int .i64 x.phase] 46)).cell? ⟨w.heap.size, 3, none⟩ = some (.bool o.b) := by first | (simp; done) | (rw [World.cell?_alloc_at _ _ _ _ (by simp)]; rfl) | (rw [World.cell?_alloc_past _ _ _ (by simp <;> omega), World.cell?_alloc_at _ _ _ _ (by simp)]; rfl) | (rw [World.cell?_alloc_past _ _ _ (by simp <;> omega), World.cell?_alloc_past _ _ _ (by simp <;> omega), World.cell?_alloc_at _ _ _ _ (by simp)]; rfl)
    have ss4 : ((w.alloc (.cells #[.int .i64 r, .slice a n c, .bool o.a, .bool o.b, .bool o.c] 25)).alloc (.cells #[.string x.pod.id, .int .i64 x.pod.prio, .bool x.pod.crit, .int .i64 x.pod.r0, .int .i64 x.pod.r1, .int .i64 x.pod.r2, .int .i64 x.pod.l0, .int .i64 x.pod.l1, .int .i64 x.pod.l2, .string x.pod.img, .int .i64 x.pod.size, .int .i64 x.phase] 46)).cell? ⟨w.heap.size, 4, none⟩ = some (.bool o.c) := by first | (simp; done) | (rw [World.cell?_alloc_at _ _ _ _ (by simp)]; rfl) | (rw [World.cell?_alloc_past _ _ _ (by simp <;> omega), World.cell?_alloc_at _ _ _ _ (by simp)]; rfl) | (rw [World.cell?_alloc_past _ _ _ (by simp <;> omega), World.cell?_alloc_past _ _ _ (by simp <;> omega), World.cell?_alloc_at _ _ _ _ (by simp)]; rfl)
    have ee0 : ((w.alloc (.cells #[.int .i64 r, .slice a n c, .bool o.a, .bool o.b, .bool o.c] 25)).alloc (.cells #[.string x.pod.id, .int .i64 x.pod.prio, .bool x.pod.crit, .int .i64 x.pod.r0, .int .i64 x.pod.r1, .int .i64 x.pod.r2, .int .i64 x.pod.l0, .int .i64 x.pod.l1, .int .i64 x.pod.l2, .string x.pod.img, .int .i64 x.pod.size, .int .i64 x.phase] 46)).cell? ⟨w.heap.size + 1, 0, none⟩ = some (.string x.pod.id) := by first | (simp; done) | (rw [World.cell?_alloc_at _ _ _ _ (by simp)]; rfl) | (rw [World.cell?_alloc_past _ _ _ (by simp <;> omega), World.cell?_alloc_at _ _ _ _ (by simp)]; rfl) | (rw [World.cell?_alloc_past _ _ _ (by simp <;> omega), World.cell?_alloc_past _ _ _ (by simp <;> omega), World.cell?_alloc_at _ _ _ _ (by simp)]; rfl)
    have ee1 : ((w.alloc (.cells #[.int .i64 r, .slice a n c, .bool o.a, .bool o.b, .bool o.c] 25)).alloc (.cells #[.string x.pod.id, .int .i64 x.pod.prio, .bool x.pod.crit, .int .i64 x.pod.r0, .int .i64 x.pod.r1, .int .i64 x.pod.r2, .int .i64 x.pod.l0, .int .i64 x.pod.l1, .int .i64 x.pod.l2, .string x.pod.img, .int .i64 x.pod.size, .int .i64 x.phase] 46)).cell? ⟨w.heap.size + 1, 1, none⟩ = some (.int .i64 x.pod.prio) := by first | (simp; done) | (rw [World.cell?_alloc_at _ _ _ _ (by simp)]; rfl) | (rw [World.cell?_alloc_past _ _ _ (by simp <;> omega), World.cell?_alloc_at _ _ _ _ (by simp)]; rfl) | (rw [World.cell?_alloc_past _ _ _ (by simp <;> omega), World.cell?_alloc_past _ _ _ (by simp <;> omega), World.cell?_alloc_at _ _ _ _ (by simp)]; rfl)
    have ee2 : ((w.alloc (.cells #[.int .i64 r, .slice a n c, .bool o.a, .bool o.b, .bool o.c] 25)).alloc (.cells #[.string x.pod.id, .int .i64 x.pod.prio, .bool x.pod.crit, .int .i64 x.pod.r0, .int .i64 x.pod.r1, .int .i64 x.pod.r2, .int .i64 x.pod.l0, .int .i64 x.pod.l1, .int .i64 x.pod.l2, .string x.pod.img, .int .i64 x.pod.size, .int .i64 x.phase] 46)).cell? ⟨w.heap.size + 1, 2, none⟩ = some (.bool x.pod.crit) := by first | (simp; done) | (rw [World.cell?_alloc_at _ _ _ _ (by simp)]; rfl) | (rw [World.cell?_alloc_past _ _ _ (by simp <;> omega), World.cell?_alloc_at _ _ _ _ (by simp)]; rfl) | (rw [World.cell?_alloc_past _ _ _ (by simp <;> omega), World.cell?_alloc_past _ _ _ (by simp <;> omega), World.cell?_alloc_at _ _ _ _ (by simp)]; rfl)
    have ee3 : ((w.alloc (.cells #[.int .i64 r, .slice a n c, .bool o.a, .bool o.b, .bool o.c] 25)).alloc (.cells #[.string x.pod.id, .int .i64 x.pod.prio, .bool x.pod.crit, .int .i64 x.pod.r0, .int .i64 x.pod.r1, .int .i64 x.pod.r2, .int .i64 x.pod.l0, .int .i64 x.pod.l1, .int .i64 x.pod.l2, .string x.pod.img, .int .i64 x.pod.size, .int .i64 x.phase] 46)).cell? ⟨w.heap.size + 1, 3, none⟩ = some (.int .i64 x.pod.r0) := by first | (simp; done) | (rw [World.cell?_alloc_at _ _ _ _ (by simp)]; rfl) | (rw [World.cell?_alloc_past _ _ _ (by simp <;> omega), World.cell?_alloc_at _ _ _ _ (by simp)]; rfl) | (rw [World.cell?_alloc_past _ _ _ (by simp <;> omega), World.cell?_alloc_past _ _ _ (by simp <;> omega), World.cell?_alloc_at _ _ _ _ (by simp)]; rfl)
    have ee4 : ((w.alloc (.cells #[.int .i64 r, .slice a n c, .bool o.a, .bool o.b, .bool o.c] 25)).alloc (.cells #[.string x.pod.id, .int .i64 x.pod.prio, .bool x.pod.crit, .int .i64 x.pod.r0, .int .i64 x.pod.r1, .int .i64 x.pod.r2, .int .i64 x.pod.l0, .int .i64 x.pod.l1, .int .i64 x.pod.l2, .string x.pod.img, .int .i64 x.pod.size, .int .i64 x.phase] 46)).cell? ⟨w.heap.size + 1, 4, none⟩ = some (.int .i64 x.pod.r1) := by first | (simp; done) | (rw [World.cell?_alloc_at _ _ _ _ (by simp)]; rfl) | (rw [World.cell?_alloc_past _ _ _ (by simp <;> omega), World.cell?_alloc_at _ _ _ _ (by simp)]; rfl) | (rw [World.cell?_alloc_past _ _ _ (by simp <;> omega), World.cell?_alloc_past _ _ _ (by simp <;> omega), World.cell?_alloc_at _ _ _ _ (by simp)]; rfl)
    have ee5 : ((w.alloc (.cells #[.int .i64 r, .slice a n c, .bool o.a, .bool o.b, .bool o.c] 25)).alloc (.cells #[.string x.pod.id, .int .i64 x.pod.prio, .bool x.pod.crit, .int .i64 x.pod.r0, .int .i64 x.pod.r1, .int .i64 x.pod.r2, .int .i64 x.pod.l0, .int .i64 x.pod.l1, .int .i64 x.pod.l2, .string x.pod.img, .int .i64 x.pod.size, .int .i64 x.phase] 46)).cell? ⟨w.heap.size + 1, 5, none⟩ = some (.int .i64 x.pod.r2) := by first | (simp; done) | (rw [World.cell?_alloc_at _ _ _ _ (by simp)]; rfl) | (rw [World.cell?_alloc_past _ _ _ (by simp <;> omega), World.cell?_alloc_at _ _ _ _ (by simp)]; rfl) | (rw [World.cell?_alloc_past _ _ _ (by simp <;> omega), World.cell?_alloc_past _ _ _ (by simp <;> omega), World.cell?_alloc_at _ _ _ _ (by simp)]; rfl)
    have ee6 : ((w.alloc (.cells #[.int .i64 r, .slice a n c, .bool o.a, .bool o.b, .bool o.c] 25)).alloc (.cells #[.string x.pod.id, .int .i64 x.pod.prio, .bool x.pod.crit, .int .i64 x.pod.r0, .int .i64 x.pod.r1, .int .i64 x.pod.r2, .int .i64 x.pod.l0, .int .i64 x.pod.l1, .int .i64 x.pod.l2, .string x.pod.img, .int .i64 x.pod.size, .int .i64 x.phase] 46)).cell? ⟨w.heap.size + 1, 6, none⟩ = some (.int .i64 x.pod.l0) := by first | (simp; done) | (rw [World.cell?_alloc_at _ _ _ _ (by simp)]; rfl) | (rw [World.cell?_alloc_past _ _ _ (by simp <;> omega), World.cell?_alloc_at _ _ _ _ (by simp)]; rfl) | (rw [World.cell?_alloc_past _ _ _ (by simp <;> omega), World.cell?_alloc_past _ _ _ (by simp <;> omega), World.cell?_alloc_at _ _ _ _ (by simp)]; rfl)
    have ee7 : ((w.alloc (.cells #[.int .i64 r, .slice a n c, .bool o.a, .bool o.b, .bool o.c] 25)).alloc (.cells #[.string x.pod.id, .int .i64 x.pod.prio, .bool x.pod.crit, .int .i64 x.pod.r0, .int .i64 x.pod.r1, .int .i64 x.pod.r2, .int .i64 x.pod.l0, .int .i64 x.pod.l1, .int .i64 x.pod.l2, .string x.pod.img, .int .i64 x.pod.size, .int .i64 x.phase] 46)).cell? ⟨w.heap.size + 1, 7, none⟩ = some (.int .i64 x.pod.l1) := by first | (simp; done) | (rw [World.cell?_alloc_at _ _ _ _ (by simp)]; rfl) | (rw [World.cell?_alloc_past _ _ _ (by simp <;> omega), World.cell?_alloc_at _ _ _ _ (by simp)]; rfl) | (rw [World.cell?_alloc_past _ _ _ (by simp <;> omega), World.cell?_alloc_past _ _ _ (by simp <;> omega), World.cell?_alloc_at _ _ _ _ (by simp)]; rfl)
    have ee8 : ((w.alloc (.cells #[.int .i64 r, .slice a n c, .bool o.a, .bool o.b, .bool o.c] 25)).alloc (.cells #[.string x.pod.id, .int .i64 x.pod.prio, .bool x.pod.crit, .int .i64 x.pod.r0, .int .i64 x.pod.r1, .int .i64 x.pod.r2, .int .i64 x.pod.l0, .int .i64 x.pod.l1, .int .i64 x.pod.l2, .string x.pod.img, .int .i64 x.pod.size, .int .i64 x.phase] 46)).cell? ⟨w.heap.size + 1, 8, none⟩ = some (.int .i64 x.pod.l2) := by first | (simp; done) | (rw [World.cell?_alloc_at _ _ _ _ (by simp)]; rfl) | (rw [World.cell?_alloc_past _ _ _ (by simp <;> omega), World.cell?_alloc_at _ _ _ _ (by simp)]; rfl) | (rw [World.cell?_alloc_past _ _ _ (by simp <;> omega), World.cell?_alloc_past _ _ _ (by simp <;> omega), World.cell?_alloc_at _ _ _ _ (by simp)]; rfl)
    have ee9 : ((w.alloc (.cells #[.int .i64 r, .slice a n c, .bool o.a, .bool o.b, .bool o.c] 25)).alloc (.cells #[.string x.pod.id, .int .i64 x.pod.prio, .bool x.pod.crit, .int .i64 x.pod.r0, .int .i64 x.pod.r1, .int .i64 x.pod.r2, .int .i64 x.pod.l0, .int .i64 x.pod.l1, .int .i64 x.pod.l2, .string x.pod.img, .int .i64 x.pod.size, .int .i64 x.phase] 46)).cell? ⟨w.heap.size + 1, 9, none⟩ = some (.string x.pod.img) := by first | (simp; done) | (rw [World.cell?_alloc_at _ _ _ _ (by simp)]; rfl) | (rw [World.cell?_alloc_past _ _ _ (by simp <;> omega), World.cell?_alloc_at _ _ _ _ (by simp)]; rfl) | (rw [World.cell?_alloc_past _ _ _ (by simp <;> omega), World.cell?_alloc_past _ _ _ (by simp <;> omega), World.cell?_alloc_at _ _ _ _ (by simp)]; rfl)
    have ee10 : ((w.alloc (.cells #[.int .i64 r, .slice a n c, .bool o.a, .bool o.b, .bool o.c] 25)).alloc (.cells #[.string x.pod.id, .int .i64 x.pod.prio, .bool x.pod.crit, .int .i64 x.pod.r0, .int .i64 x.pod.r1, .int .i64 x.pod.r2, .int .i64 x.pod.l0, .int .i64 x.pod.l1, .int .i64 x.pod.l2, .string x.pod.img, .int .i64 x.pod.size, .int .i64 x.phase] 46)).cell? ⟨w.heap.size + 1, 10, none⟩ = some (.int .i64 x.pod.size) := by first | (simp; done) | (rw [World.cell?_alloc_at _ _ _ _ (by simp)]; rfl) | (rw [World.cell?_alloc_past _ _ _ (by simp <;> omega), World.cell?_alloc_at _ _ _ _ (by simp)]; rfl) | (rw [World.cell?_alloc_past _ _ _ (by simp <;> omega), World.cell?_alloc_past _ _ _ (by simp <;> omega), World.cell?_alloc_at _ _ _ _ (by simp)]; rfl)
    have ee11 : ((w.alloc (.cells #[.int .i64 r, .slice a n c, .bool o.a, .bool o.b, .bool o.c] 25)).alloc (.cells #[.string x.pod.id, .int .i64 x.pod.prio, .bool x.pod.crit, .int .i64 x.pod.r0, .int .i64 x.pod.r1, .int .i64 x.pod.r2, .int .i64 x.pod.l0, .int .i64 x.pod.l1, .int .i64 x.pod.l2, .string x.pod.img, .int .i64 x.pod.size, .int .i64 x.phase] 46)).cell? ⟨w.heap.size + 1, 11, none⟩ = some (.int .i64 x.phase) := by first | (simp; done) | (rw [World.cell?_alloc_at _ _ _ _ (by simp)]; rfl) | (rw [World.cell?_alloc_past _ _ _ (by simp <;> omega), World.cell?_alloc_at _ _ _ _ (by simp)]; rfl) | (rw [World.cell?_alloc_past _ _ _ (by simp <;> omega), World.cell?_alloc_past _ _ _ (by simp <;> omega), World.cell?_alloc_at _ _ _ _ (by simp)]; rfl)
    have hb2 := (by repeat (first | exact hbel | refine belAlloc ?_ _ | refine belDrew ?_ | refine belSet ?_ _ _ (by simp)) : Below w.heap.size w ((w.alloc (.cells #[.int .i64 r, .slice a n c, .bool o.a, .bool o.b, .bool o.c] 25)).alloc (.cells #[.string x.pod.id, .int .i64 x.pod.prio, .bool x.pod.crit, .int .i64 x.pod.r0, .int .i64 x.pod.r1, .int .i64 x.pod.r2, .int .i64 x.pod.l0, .int .i64 x.pod.l1, .int .i64 x.pod.l2, .string x.pod.img, .int .i64 x.pod.size, .int .i64 x.phase] 46)))
    replace hw := belStep hw hb2
    clear hb2 hbel
    generalize (w.alloc (.cells #[.int .i64 r, .slice a n c, .bool o.a, .bool o.b, .bool o.c] 25)).alloc (.cells #[.string x.pod.id, .int .i64 x.pod.prio, .bool x.pod.crit, .int .i64 x.pod.r0, .int .i64 x.pod.r1, .int .i64 x.pod.r2, .int .i64 x.pod.l0, .int .i64 x.pod.l1, .int .i64 x.pod.l2, .string x.pod.img, .int .i64 x.pod.size, .int .i64 x.phase] 46) = W1 at *
    replace ss0 := keep ss0
    replace ss1 := keep ss1
    replace ss2 := keep ss2
    replace ss3 := keep ss3
    replace ss4 := keep ss4
    replace ee0 := keep ee0
    replace ee1 := keep ee1
    replace ee2 := keep ee2
    replace ee3 := keep ee3
    replace ee4 := keep ee4
    replace ee5 := keep ee5
    replace ee6 := keep ee6
    replace ee7 := keep ee7
    replace ee8 := keep ee8
    replace ee9 := keep ee9
    replace ee10 := keep ee10
    replace ee11 := keep ee11
    have hbel : Below W1.heap.size W1 W1 := Below.refl _ _
    skip
    go_upto_region 3 with (first | (go_at_call 11; (with_reducible refine (awake24 _).mono ?_); rintro e w1 ⟨rfl, hb1⟩; replace hbel := belStep hbel hb1; clear hb1) | (go_at_call 12; (with_reducible refine (CFW.out _ (belStep hw hbel)).mono ?_); rintro e wf ⟨rfl, hbf⟩; replace hbel := belStep hbel hbf; clear hbf; rcases fs with _ | _) | (go_at_call 15; (with_reducible refine (CRT.out _ (belStep hw hbel)).mono ?_); rintro e wf ⟨rfl, hbf⟩; replace hbel := belStep hbel hbf; clear hbf; rcases rs with _ | _) | (go_at_call 21; (with_reducible refine (CSM.out _).mono ?_); rintro e wf8 ⟨rfl, hbf8⟩; replace hbel := belStep hbel hbf8; clear hbf8; rcases sm with _ | _) | (go_at_call 22; (with_reducible refine (CRP.out _).mono ?_); rintro e wf9 ⟨rfl, hbf9⟩; replace hbel := belStep hbel hbf9; clear hbf9; rcases rp with _ | _))
    · go_ret
      exact ⟨rfl, belStep hw hbel⟩
    · go_ret
      exact ⟨rfl, belStep hw hbel⟩
    · go_ret
      exact ⟨rfl, belStep hw hbel⟩
    · go_ret
      exact ⟨rfl, belStep hw hbel⟩
    have hn64 : n ≤ 64 := by have h := (st_nums HRS.out).2.2; rw [HLN.out] at h; exact h
    have HEB := Lib.hid (show entB x = true by unfold entB; rw [HRP.out, HPH.out]; rfl)
    have HW1 := Lib.hid hw
    have HB := Lib.hid hbel
    clear hw CFW CRT CSM CRP HPH HRP p1 p2
    have HRI := Lib.hid (st_ris HRS.out)
    have HLL := Lib.hid (HLN.out)
    have hw := HW1.out
    obtain ⟨LA, hLA⟩ : ∃ l, withF L x = l := ⟨_, rfl⟩
    obtain ⟨LB, hLB⟩ : ∃ l, woutF L x.pod.id = l := ⟨_, rfl⟩
    obtain ⟨A, Mz, Bz, hc⟩ := cut9 HRI.out x.pod.id
    have HRA := Lib.hid (show withR L x = LA by rw [← hLA, hc.putR, hc.put])
    have HRB := Lib.hid (show L.filter (keepF x.pod.id) = LB by rw [← hLB, hc.filt, hc.out])
    have hlA : LA.length ≤ 65 := by rw [← hLA, hc.put]; have h1 := congrArg List.length hc.eq; have h2 := HLN.out; simp only [List.length_append, List.length_cons] at h1 ⊢; omega
    have hlB : LB.length ≤ 64 := by rw [← HRB.out]; have h1 := List.length_filter_le (keepF x.pod.id) L; have h2 := HLN.out; omega
    have HLA := Lib.hid hLA
    have HLB := Lib.hid hLB
    clear hLA hLB hc
    have zss0 := ss0
    have zss1 := ss1
    have zss2 := ss2
    have zss3 := ss3
    have zss4 := ss4
    have zee0 := ee0
    have zee1 := ee1
    have zee2 := ee2
    have zee3 := ee3
    have zee4 := ee4
    have zee5 := ee5
    have zee6 := ee6
    have zee7 := ee7
    have zee8 := ee8
    have zee9 := ee9
    have zee10 := ee10
    have zee11 := ee11
    refine wp_region_held_drew (S := fun u => Below W1.heap.size W1 u) (by kernel_rfl) (by exact (show Below W1.heap.size W1 _ by repeat (first | assumption | exact Below.refl _ _ | refine belDrew ?_ | refine belAlloc ?_ _ | refine belStep ?_ (by assumption)))) (fun hHeld => ?_)
    refine wpAnyH_take (i := 0) (oi := ?oi_k1) (v := ?v_k1) ?hi_k1 (by kernel_rfl) ?hf_k1 ?hr_k1 ?hQ_k1 (Or.inl ⟨?hw_k1, ?hy_k1⟩) (by assumption) ?rest_k1
    case hi_k1 => ((simp only [List.getElem?_toArray, List.getElem?_cons_succ, List.getElem?_cons_zero]); rfl)
    case hf_k1 => kernel_rfl
    case hr_k1 => kernel_rfl
    case hQ_k1 => exact fun _ _ _ h => h
    case hw_k1 => rfl
    case hy_k1 => ((intro w hSw; (try dsimp only at hSw); go_simp); all_goals (with_reducible rfl))
    try simp only [Act.put, List.setIfInBounds_toArray, List.set_cons_zero, List.set_cons_succ]
    refine wpAnyH_take (i := 1) (oi := ?oi_k2) (v := ?v_k2) ?hi_k2 (by kernel_rfl) ?hf_k2 ?hr_k2 ?hQ_k2 (Or.inl ⟨?hw_k2, ?hy_k2⟩) (by assumption) ?rest_k2
    case hi_k2 => ((simp only [List.getElem?_toArray, List.getElem?_cons_succ, List.getElem?_cons_zero]); rfl)
    case hf_k2 => kernel_rfl
    case hr_k2 => kernel_rfl
    case hQ_k2 => exact fun _ _ _ h => h
    case hw_k2 => rfl
    case hy_k2 => ((intro w hSw; (try dsimp only at hSw); go_simp); all_goals (with_reducible rfl))
    try simp only [Act.put, List.setIfInBounds_toArray, List.set_cons_zero, List.set_cons_succ]
    refine wpAnyH_take (i := 2) (oi := ?oi_k3) (v := ?v_k3) ?hi_k3 (by kernel_rfl) ?hf_k3 ?hr_k3 ?hQ_k3 (Or.inl ⟨?hw_k3, ?hy_k3⟩) (by assumption) ?rest_k3
    case hi_k3 => ((simp only [List.getElem?_toArray, List.getElem?_cons_succ, List.getElem?_cons_zero]); rfl)
    case hf_k3 => kernel_rfl
    case hr_k3 => kernel_rfl
    case hQ_k3 => exact fun _ _ _ h => h
    case hw_k3 => rfl
    case hy_k3 => ((intro w hSw; (try dsimp only at hSw); go_simp); all_goals (with_reducible rfl))
    try simp only [Act.put, List.setIfInBounds_toArray, List.set_cons_zero, List.set_cons_succ]
    refine wpAnyH_take (i := 3) (oi := ?oi_k4) (v := ?v_k4) ?hi_k4 (by kernel_rfl) ?hf_k4 ?hr_k4 ?hQ_k4 (Or.inl ⟨?hw_k4, ?hy_k4⟩) (by assumption) ?rest_k4
    case hi_k4 => ((simp only [List.getElem?_toArray, List.getElem?_cons_succ, List.getElem?_cons_zero]); rfl)
    case hf_k4 => kernel_rfl
    case hr_k4 => kernel_rfl
    case hQ_k4 => exact fun _ _ _ h => h
    case hw_k4 => rfl
    case hy_k4 => ((intro w hSw; (try dsimp only at hSw); go_simp); all_goals (with_reducible rfl))
    try simp only [Act.put, List.setIfInBounds_toArray, List.set_cons_zero, List.set_cons_succ]
    refine wpAnyH_take (i := 5) (oi := ?oi_k5) (v := ?v_k5) ?hi_k5 (by kernel_rfl) ?hf_k5 ?hr_k5 ?hQ_k5 (Or.inl ⟨?hw_k5, ?hy_k5⟩) (by assumption) ?rest_k5
    case hi_k5 => ((simp only [List.getElem?_toArray, List.getElem?_cons_succ, List.getElem?_cons_zero]); rfl)
    case hf_k5 => kernel_rfl
    case hr_k5 => kernel_rfl
    case hQ_k5 => exact fun _ _ _ h => h
    case hw_k5 => rfl
    case hy_k5 => ((intro w hSw; (try dsimp only at hSw); go_simp); all_goals (with_reducible rfl))
    try simp only [Act.put, List.setIfInBounds_toArray, List.set_cons_zero, List.set_cons_succ]
    refine wpAnyH_take (i := 6) (oi := ?oi_k6) (v := ?v_k6) ?hi_k6 (by kernel_rfl) ?hf_k6 ?hr_k6 ?hQ_k6 (Or.inl ⟨?hw_k6, ?hy_k6⟩) (by assumption) ?rest_k6
    case hi_k6 => ((simp only [List.getElem?_toArray, List.getElem?_cons_succ, List.getElem?_cons_zero]); rfl)
    case hf_k6 => kernel_rfl
    case hr_k6 => kernel_rfl
    case hQ_k6 => exact fun _ _ _ h => h
    case hw_k6 => rfl
    case hy_k6 => ((intro w hSw; (try dsimp only at hSw); go_simp); all_goals (with_reducible rfl))
    try simp only [Act.put, List.setIfInBounds_toArray, List.set_cons_zero, List.set_cons_succ]
    refine krip (fun u u' => Below u.heap.size u u') [53, 56, 57, 5] [[], [], [], [], [], [], [], [4], [4, 7], [], [4, 7, 8, 9]] [[], [], [], [], [53], [], [], [56], [57], [5], []] [4, 7, 8, 9] (krF [(4, fun t u => ∃ g : Nat, t 53 = .slice (some ⟨g, 0, none⟩) 0 0 ∧ OwnR u (W1.heap.size) 46 12 (.slice (some ⟨g, 0, none⟩) 0 0) 0 []), (7, fun t u => OwnR u (W1.heap.size) 46 12 (t 56) (n) (L.flatMap EntV.cells)), (8, fun t u => ∃ (a8 : Option Addr) (c8 : Nat), t 57 = .agg #[.int .i64 r, .slice a8 n c8, .bool o.a, .bool o.b, .bool o.c] ∧ OwnR u (W1.heap.size) 46 12 (.slice a8 n c8) (n) (L.flatMap EntV.cells)), (9, fun t u => ∃ g : Nat, t 5 = .pointer (some ⟨g, 0, none⟩) ∧ W1.heap.size ≤ g ∧ Blk u g [.int .i64 0, .slice none 0 0, .bool false, .bool false, .bool false] 25)]) 1 #[true, true, true, true, true, true, true, true, true, true, false] (by kernel_rfl) (by kernel_rfl) (by kernel_rfl) (by assumption) (AllL.cons ?s_4_q7 (AllL.cons ?s_7_q7 (AllL.cons ?s_8_q7 (AllL.cons ?s_9_q7 AllL.nil)))) (AllL.cons ?o_4_q7 (AllL.cons ?o_7_q7 (AllL.cons ?o_8_q7 (AllL.cons ?o_9_q7 AllL.nil)))) ?e_q7
    case s_4_q7 => exact fun t u u' hle ⟨g, e, h⟩ => ⟨g, e, OwnR.later h hle⟩
    case s_7_q7 => exact fun t u u' hle h => OwnR.later h hle
    case s_8_q7 => exact fun t u u' hle ⟨a, c, e, h⟩ => ⟨a, c, e, OwnR.later h hle⟩
    case s_9_q7 => exact fun t u u' hle ⟨g, e, hb, h⟩ => ⟨g, e, hb, Blk.later h hle⟩
    case o_4_q7 =>
      refine KrOp.of (o := ?oo_4_q7) ?hi_4_q7 (fun t u hHeld hF K hK => ?rr_4_q7)
      case hi_4_q7 => ((simp only [List.getElem?_toArray, List.getElem?_cons_succ, List.getElem?_cons_zero]); rfl)
      case rr_4_q7 =>
        clear hF
        simp only [setl, List.foldl_cons, List.foldl_nil, Act.put, List.setIfInBounds_toArray, List.set_cons_zero, List.set_cons_succ] at hK ⊢
        go_simp
        refine hK.out _ _ (by exact (by repeat (first | assumption | exact Below.refl _ _ | refine belDrew ?_ | refine belAlloc ?_ _ | refine belStep ?_ (by assumption)))) (by exact (show Below W1.heap.size W1 _ by repeat (first | assumption | exact Below.refl _ _ | refine belDrew ?_ | refine belAlloc ?_ _ | refine belStep ?_ (by assumption)))) ?_
        exact ⟨_, rfl, OwnR.mono (own_empty _ _ 12) (Below.size hHeld)⟩
    case o_7_q7 =>
      refine KrOp.of (o := ?oo_7_q7) ?hi_7_q7 (fun t u hHeld hF K hK => ?rr_7_q7)
      case hi_7_q7 => ((simp only [List.getElem?_toArray, List.getElem?_cons_succ, List.getElem?_cons_zero]); rfl)
      case rr_7_q7 =>
        have h4 : ∃ g : Nat, t 53 = .slice (some ⟨g, 0, none⟩) 0 0 ∧ OwnR u (W1.heap.size) 46 12 (.slice (some ⟨g, 0, none⟩) 0 0) 0 [] := hF 4 rfl rfl
        clear hF
        simp only [setl, List.foldl_cons, List.foldl_nil, Act.put, List.setIfInBounds_toArray, List.set_cons_zero, List.set_cons_succ] at hK ⊢
        generalize t 53 = x53 at *
        obtain ⟨g4, rfl, ho4⟩ := h4
        refine op_first rfl _ _ 22 rfl (W1.heap.size) 46 _ 12 112 Try.underlying22 info_entI rfl (by decide) g4 (by rfl) ho4 (a) (n) (c) (L.flatMap EntV.cells) (by rfl) (HR.out.later (belStep HW1.out hHeld)) (ones_entI _) (by have := hn64; unfold maxLen; omega) (by have := hn64; omega) (Below.size hHeld) ?_
        intro v4 w4 ho4 hb4
        refine hK.out _ _ (by exact (by repeat (first | assumption | exact Below.refl _ _ | refine belDrew ?_ | refine belAlloc ?_ _ | refine belStep ?_ (by assumption)))) (by exact (show Below W1.heap.size W1 _ by repeat (first | assumption | exact Below.refl _ _ | refine belDrew ?_ | refine belAlloc ?_ _ | refine belStep ?_ (by assumption)))) ?_
        exact ho4
    case o_8_q7 =>
      refine KrOp.of (o := ?oo_8_q7) ?hi_8_q7 (fun t u hHeld hF K hK => ?rr_8_q7)
      case hi_8_q7 => ((simp only [List.getElem?_toArray, List.getElem?_cons_succ, List.getElem?_cons_zero]); rfl)
      case rr_8_q7 =>
        have h7 : OwnR u (W1.heap.size) 46 12 (t 56) (n) (L.flatMap EntV.cells) := hF 7 rfl rfl
        clear hF
        simp only [setl, List.foldl_cons, List.foldl_nil, Act.put, List.setIfInBounds_toArray, List.set_cons_zero, List.set_cons_succ] at hK ⊢
        generalize t 56 = x56 at *
        obtain ⟨a8, c8, e8, hr8⟩ := rowR_of_own h7
        subst e8
        go_simp
        refine hK.out _ _ (by exact (by repeat (first | assumption | exact Below.refl _ _ | refine belDrew ?_ | refine belAlloc ?_ _ | refine belStep ?_ (by assumption)))) (by exact (show Below W1.heap.size W1 _ by repeat (first | assumption | exact Below.refl _ _ | refine belDrew ?_ | refine belAlloc ?_ _ | refine belStep ?_ (by assumption)))) ?_
        exact ⟨_, _, rfl, h7⟩
    case o_9_q7 =>
      refine KrOp.of (o := ?oo_9_q7) ?hi_9_q7 (fun t u hHeld hF K hK => ?rr_9_q7)
      case hi_9_q7 => ((simp only [List.getElem?_toArray, List.getElem?_cons_succ, List.getElem?_cons_zero]); rfl)
      case rr_9_q7 =>
        clear hF
        simp only [setl, List.foldl_cons, List.foldl_nil, Act.put, List.setIfInBounds_toArray, List.set_cons_zero, List.set_cons_succ] at hK ⊢
        go_simp
        refine hK.out _ _ (by exact (by repeat (first | assumption | exact Below.refl _ _ | refine belDrew ?_ | refine belAlloc ?_ _ | refine belStep ?_ (by assumption)))) (by exact (show Below W1.heap.size W1 _ by repeat (first | assumption | exact Below.refl _ _ | refine belDrew ?_ | refine belAlloc ?_ _ | refine belStep ?_ (by assumption)))) ?_
        exact ⟨_, rfl, Below.size hHeld, Blk.new _ _ _⟩
    case e_q7 =>
      intro t u hHeld hF
      have h4 : ∃ g : Nat, t 53 = .slice (some ⟨g, 0, none⟩) 0 0 ∧ OwnR u (W1.heap.size) 46 12 (.slice (some ⟨g, 0, none⟩) 0 0) 0 [] := hF 4 rfl
      have h7 : OwnR u (W1.heap.size) 46 12 (t 56) (n) (L.flatMap EntV.cells) := hF 7 rfl
      have h8 : ∃ (a8 : Option Addr) (c8 : Nat), t 57 = .agg #[.int .i64 r, .slice a8 n c8, .bool o.a, .bool o.b, .bool o.c] ∧ OwnR u (W1.heap.size) 46 12 (.slice a8 n c8) (n) (L.flatMap EntV.cells) := hF 8 rfl
      have h9 : ∃ g : Nat, t 5 = .pointer (some ⟨g, 0, none⟩) ∧ W1.heap.size ≤ g ∧ Blk u g [.int .i64 0, .slice none 0 0, .bool false, .bool false, .bool false] 25 := hF 9 rfl
      clear hF
      simp only [setl, List.foldl_cons, List.foldl_nil, Act.put, List.setIfInBounds_toArray, List.set_cons_zero, List.set_cons_succ]
      generalize t 53 = x53 at *
      generalize t 56 = x56 at *
      generalize t 57 = x57 at *
      generalize t 5 = x5 at *
      obtain ⟨g9, rfl, hg9, hB9⟩ := h9
      obtain ⟨a8, c8, rfl, ho8⟩ := h8
      obtain ⟨g4, rfl, ho4⟩ := h4
      have hfz := Blk.frozen hB9
      have q0 := Blk.cell hB9 (j := 0) rfl
      have q1 := Blk.cell hB9 (j := 1) rfl
      have q2 := Blk.cell hB9 (j := 2) rfl
      have q3 := Blk.cell hB9 (j := 3) rfl
      have q4 := Blk.cell hB9 (j := 4) rfl
      have hbk : Blk _ g9 [.int .i64 r, .slice a8 n c8, .bool o.a, .bool o.b, .bool o.c] 25 := (((((hB9).set 0 (.int .i64 r)).set 1 (.slice a8 n c8)).set 2 (.bool o.a)).set 3 (.bool o.b)).set 4 (.bool o.c)
      have hbl := belSet (belSet (belSet (belSet (belSet (hHeld) ⟨g9, 0, none⟩ (.int .i64 r) hg9) ⟨g9, 1, none⟩ (.slice a8 n c8) hg9) ⟨g9, 2, none⟩ (.bool o.a) hg9) ⟨g9, 3, none⟩ (.bool o.b) hg9) ⟨g9, 4, none⟩ (.bool o.c) hg9
      have how := own_far (own_far (own_far (own_far (own_far (ho8) (hB9) (by decide) ⟨g9, 0, none⟩ rfl (.int .i64 r)) ((hB9).set 0 (.int .i64 r)) (by decide) ⟨g9, 1, none⟩ rfl (.slice a8 n c8)) (((hB9).set 0 (.int .i64 r)).set 1 (.slice a8 n c8)) (by decide) ⟨g9, 2, none⟩ rfl (.bool o.a)) ((((hB9).set 0 (.int .i64 r)).set 1 (.slice a8 n c8)).set 2 (.bool o.a)) (by decide) ⟨g9, 3, none⟩ rfl (.bool o.b)) (((((hB9).set 0 (.int .i64 r)).set 1 (.slice a8 n c8)).set 2 (.bool o.a)).set 3 (.bool o.b)) (by decide) ⟨g9, 4, none⟩ rfl (.bool o.c)
      refine wpAnyH_ready (rs := [10]) (by kernel_rfl) (by simp) ?_
      refine AllReadyH.cons (o := ?o1_lt) ?hi_lt (fun K hK => ?rest_lt) AllReadyH.nil
      case hi_lt => ((simp only [List.getElem?_toArray, List.getElem?_cons_succ, List.getElem?_cons_zero]); rfl)
      go_simp
      refine hK.out _ _ (by exact hbl) (fun hHeld2 => ?_)
      clear hK K
      try simp only [Act.put, List.setIfInBounds_toArray, List.set_cons_zero, List.set_cons_succ]
      refine wpAnyH_done (by kernel_rfl) ?_ _
      clear hHeld hHeld2 hfz ho4 q0 q1 q2 q3 q4
      replace ss0 := keepOnP ss0 hbl
      replace ss1 := keepOnP ss1 hbl
      replace ss2 := keepOnP ss2 hbl
      replace ss3 := keepOnP ss3 hbl
      replace ss4 := keepOnP ss4 hbl
      replace ee0 := keepOnP ee0 hbl
      replace ee1 := keepOnP ee1 hbl
      replace ee2 := keepOnP ee2 hbl
      replace ee3 := keepOnP ee3 hbl
      replace ee4 := keepOnP ee4 hbl
      replace ee5 := keepOnP ee5 hbl
      replace ee6 := keepOnP ee6 hbl
      replace ee7 := keepOnP ee7 hbl
      replace ee8 := keepOnP ee8 hbl
      replace ee9 := keepOnP ee9 hbl
      replace ee10 := keepOnP ee10 hbl
      replace ee11 := keepOnP ee11 hbl
      replace hw := belStep hw hbl
      have HBT8 := Lib.hid hbl
      clear hbl hB9
      (try clear h7)
      generalize ((((u.setCell ⟨g9, 0, none⟩ (.int .i64 r)).setCell ⟨g9, 1, none⟩ (.slice a8 n c8)).setCell ⟨g9, 2, none⟩ (.bool o.a)).setCell ⟨g9, 3, none⟩ (.bool o.b)).setCell ⟨g9, 4, none⟩ (.bool o.c) = W2 at *
      have HOT8 := Lib.hid how
      have t0 := keep (hbk.cell (j := 0) rfl)
      have t1 := keep (hbk.cell (j := 1) rfl)
      have t2 := keep (hbk.cell (j := 2) rfl)
      have t3 := keep (hbk.cell (j := 3) rfl)
      have t4 := keep (hbk.cell (j := 4) rfl)
      have tB := Blk.keepB hbk
      have tF := Blk.keepF hbk
      have HG8 := Lib.hid hg9
      clear how hbk hg9
      generalize g9 = Mt8 at *
      generalize a8 = at8 at *
      generalize c8 = ct8 at *
      have hbel : Below W2.heap.size W2 W2 := Below.refl _ _
      have HW2 := Lib.hid hw
      have HRT := Lib.hid (own_rowS HOT8.out)
      have hbt : n ≤ ct8 ∧ ct8 ≤ 9223372036854775807 := by obtain ⟨_, h1, h2, _⟩ := HRT.out; unfold maxLen at h2; exact ⟨h1, h2⟩
      obtain ⟨hbt1, hbt2⟩ := hbt
      have HTB := Lib.hid (show Blk W2 Mt8 [.int .i64 r, .slice at8 n ct8, .bool o.a, .bool o.b, .bool o.c] 25 from tB W2 (Below.refl _ _))
      have HNE8 := Lib.hid (own_ne_blk HOT8.out HTB.out (by decide))
      have HLT8 := Lib.hid (fun q (e : (Value.slice at8 n ct8).ownBlock = some q) => World.ownsRow.lt HOT8.out q e)
      have CWI := Lib.hid (fun u (hu : Below W2.heap.size W2 u) => HLA.out ▸ st_With r at8 n ct8 o L x u HLN.out (HRT.out.later hu) (by omega))
      have CWO := Lib.hid (fun u (hu : Below W2.heap.size W2 u) => HLB.out ▸ st_Without r at8 n ct8 o L x.pod.id u HLN.out (HRT.out.later hu) (by omega))
      have CPU := Lib.hid (fun u (hu : Below W2.heap.size W2 u) => st_PutI r at8 n ct8 o L u HLN.out HOK.out (HRT.out.later hu) HRS.out)
      have CSM := Lib.hid (fun u (hu : Below W2.heap.size W2 u) => ((sameS_iff r o L r o L).2 ⟨rfl, rfl, rfl⟩) ▸ sref_SameS r at8 n ct8 o L r a n c o L u HLN.out (HRT.out.later hu) HLN.out (HR.out.later (belStep HW2.out hu)))
      have HG := Lib.hid (getI (o := o) HOK.out HRS.out)
      have hln := lenI (o := o) HRS.out
      obtain ⟨l, hl⟩ : ∃ l, stBytes r.toNat o L = l := ⟨_, rfl⟩
      rw [hl] at CPU HG hln
      obtain ⟨N, hN⟩ : ∃ N, l.length = N := ⟨_, rfl⟩
      rw [hN] at CPU hln
      have HLEN := Lib.hid hN
      obtain ⟨hN1, hN2⟩ := hln
      clear hl hN tB tF
      replace HB := Lib.hid (Below.refl W2.heap.size W2)
      clear hbel
      have hbel := HB.out
      have CRW := Lib.hid (fun u (hu : Below W2.heap.size W2 u) => HRA.out ▸ sref_With r a n c o L x u HLN.out (HR.out.later (belStep HW2.out hu)) (by omega))
      have CRO := Lib.hid (fun u (hu : Below W2.heap.size W2 u) => HRB.out ▸ sref_Without r a n c o L x.pod.id u HLN.out (HR.out.later (belStep HW2.out hu)) (by omega))
      have HBO := Lib.hid HB.out
      go_upto_region 5 with (go_at_call 23; (with_reducible refine (CWI.out _ HB.out).mono ?_); rintro e w4 ⟨v4, rfl, ho, hb_⟩; replace HB := Lib.hid (belStep HB.out hb_); clear hbel; have hbel := HB.out; obtain ⟨aA, cA, rfl, _⟩ := rowR_of_own ho; have HA := Lib.hid (OwnR.mono ho HBO.out.size); clear ho; clear hb_)
      clear HBO
      have k1 : Below w4.heap.size w4 (w4.alloc (.cells #[.int .i64 r, .slice aA LA.length cA, .bool o.a, .bool o.b, .bool o.c] 25)) := belAlloc (Below.refl _ _) _
      have hn_ := Blk.new w4 [.int .i64 r, .slice aA LA.length cA, .bool o.a, .bool o.b, .bool o.c] 25
      replace HA := Lib.hid (HA.out.later k1)
      have hsBA : W2.heap.size ≤ w4.heap.size := HB.out.size
      replace HB := Lib.hid (belStep HB.out k1)
      have BA := Lib.hid (show Blk (w4.alloc (.cells #[.int .i64 r, .slice aA LA.length cA, .bool o.a, .bool o.b, .bool o.c] 25)) w4.heap.size [.int .i64 r, .slice aA LA.length cA, .bool o.a, .bool o.b, .bool o.c] 25 from hn_)
      clear hn_ k1 hbel
      generalize w4.alloc (.cells #[.int .i64 r, .slice aA LA.length cA, .bool o.a, .bool o.b, .bool o.c] 25) = W4 at *
      have hbel := HB.out
      have HBO := Lib.hid HB.out
      go_upto_region 6 with (go_at_call 24; (with_reducible refine (CWO.out _ HB.out).mono ?_); rintro e w5 ⟨v5, rfl, ho, hb_⟩; replace HA := Lib.hid (HA.out.later hb_); replace BA := Lib.hid (BA.out.later hb_); replace HB := Lib.hid (belStep HB.out hb_); clear hbel; have hbel := HB.out; obtain ⟨aB9, cB9, rfl, _⟩ := rowR_of_own ho; have HB9 := Lib.hid (OwnR.mono ho HBO.out.size); clear ho; clear hb_)
      clear HBO
      have k1 : Below w5.heap.size w5 (w5.alloc (.cells #[.int .i64 r, .slice aB9 LB.length cB9, .bool o.a, .bool o.b, .bool o.c] 25)) := belAlloc (Below.refl _ _) _
      have hn_ := Blk.new w5 [.int .i64 r, .slice aB9 LB.length cB9, .bool o.a, .bool o.b, .bool o.c] 25
      replace HA := Lib.hid (HA.out.later k1)
      replace BA := Lib.hid (BA.out.later k1)
      replace HB9 := Lib.hid (HB9.out.later k1)
      have hsBB : W2.heap.size ≤ w5.heap.size := HB.out.size
      replace HB := Lib.hid (belStep HB.out k1)
      have BB := Lib.hid (show Blk (w5.alloc (.cells #[.int .i64 r, .slice aB9 LB.length cB9, .bool o.a, .bool o.b, .bool o.c] 25)) w5.heap.size [.int .i64 r, .slice aB9 LB.length cB9, .bool o.a, .bool o.b, .bool o.c] 25 from hn_)
      clear hn_ k1 hbel
      generalize w5.alloc (.cells #[.int .i64 r, .slice aB9 LB.length cB9, .bool o.a, .bool o.b, .bool o.c] 25) = W5 at *
      have hbel := HB.out
      have HALT := Lib.hid (fun q (e : (Value.slice aA LA.length cA).ownBlock = some q) => (World.ownsRow.lt HA.out q e).2)
      have HBLT := Lib.hid (fun q (e : (Value.slice aB9 LB.length cB9).ownBlock = some q) => (World.ownsRow.lt HB9.out q e).2)
      have h45 : w4.heap.size < W5.heap.size := BA.out.lt
      have h55 : w5.heap.size < W5.heap.size := BB.out.lt
      have HB5S := Lib.hid HB.out.size
      have HBO := Lib.hid HB.out
      go_upto_region 7 with (go_at_call 13; (with_reducible refine (CPU.out _ HB.out).mono ?_); rintro e w6 ⟨aX, cX, rfl, ho, hi, hb_⟩; replace HA := Lib.hid (HA.out.later hb_); replace BA := Lib.hid (BA.out.later hb_); replace HB9 := Lib.hid (HB9.out.later hb_); replace BB := Lib.hid (BB.out.later hb_); replace HB := Lib.hid (belStep HB.out hb_); clear hbel; have hbel := HB.out; have HX := Lib.hid ho; have HXI := Lib.hid hi; clear hi ho; clear hb_)
      clear HBO
      have HX6 := Lib.hid (show OwnR w6 W5.heap.size 5 1 (.slice aX N cX) N (l.map (Value.int .u8)) from by have h := HX.out; unfold OwnI at h; rw [HLEN.out] at h; exact h)
      have HXA := Lib.hid (show Sep (.slice aX N cX) (.slice aA LA.length cA) from fun q h1 h2 => by have e1 := (World.ownsRow.lt HX6.out q h1).1; have e2 := HALT.out q h2; omega)
      have HXB := Lib.hid (show Sep (.slice aX N cX) (.slice aB9 LB.length cB9) from fun q h1 h2 => by have e1 := (World.ownsRow.lt HX6.out q h1).1; have e2 := HBLT.out q h2; omega)
      have HNA := Lib.hid (show (Value.slice aX N cX).ownBlock ≠ some w4.heap.size from fun e => by have e1 := (World.ownsRow.lt HX6.out _ e).1; omega)
      have HNB := Lib.hid (show (Value.slice aX N cX).ownBlock ≠ some w5.heap.size from fun e => by have e1 := (World.ownsRow.lt HX6.out _ e).1; omega)
      have HXW := Lib.hid (show OwnR w6 W2.heap.size 5 1 (.slice aX N cX) N (l.map (Value.int .u8)) from OwnR.mono HX6.out HB5S.out)
      have HSX6 := Lib.hid HB5S.out
      have hbx : N ≤ cX ∧ cX ≤ 9223372036854775807 := ⟨HXI.out.1.2.1, by have := HXI.out.1.2.2.1; unfold maxLen at this; exact this⟩
      obtain ⟨hbx1, hbx2⟩ := hbx
      have HBO := Lib.hid HB.out
      go_upto_region 9 with (go_at_call 20; (with_reducible refine (CSM.out _ HB.out).mono ?_); rintro e w7 ⟨rfl, hb_⟩; replace HA := Lib.hid (HA.out.later hb_); replace BA := Lib.hid (BA.out.later hb_); replace HB9 := Lib.hid (HB9.out.later hb_); replace BB := Lib.hid (BB.out.later hb_); replace HX := Lib.hid (HX.out.later hb_); replace HXI := Lib.hid (HXI.out.later hb_); replace HB := Lib.hid (belStep HB.out hb_); clear hbel; have hbel := HB.out; clear hb_)
      clear HBO
      have HX7 := Lib.hid (show OwnR w7 W5.heap.size 5 1 (.slice aX N cX) N (l.map (Value.int .u8)) from by have h := HX.out; unfold OwnI at h; rw [HLEN.out] at h; exact h)
      have HB7 := Lib.hid HB.out
      have HBO := Lib.hid HB.out
      go_upto_region 10 with (go_at_call 18; (with_reducible refine (st_GetO aX N cX l _ HXI.out (by omega) HG.out).mono ?_); rintro e w8 ⟨aT, cT, rfl, ho, hb_⟩; replace HA := Lib.hid (HA.out.later hb_); replace BA := Lib.hid (BA.out.later hb_); replace HB9 := Lib.hid (HB9.out.later hb_); replace BB := Lib.hid (BB.out.later hb_); replace HX := Lib.hid (HX.out.later hb_); replace HXI := Lib.hid (HXI.out.later hb_); replace HB := Lib.hid (belStep HB.out hb_); clear hbel; have hbel := HB.out; have HT := Lib.hid ho; clear ho; have H78 := Lib.hid hb_.size; clear hb_)
      clear HBO
      have k1 : Below w8.heap.size w8 (w8.alloc (.cells #[.int .i64 r, .slice aT L.length cT, .bool o.a, .bool o.b, .bool o.c] 25)) := belAlloc (Below.refl _ _) _
      have hn_ := Blk.new w8 [.int .i64 r, .slice aT L.length cT, .bool o.a, .bool o.b, .bool o.c] 25
      replace HA := Lib.hid (HA.out.later k1)
      replace BA := Lib.hid (BA.out.later k1)
      replace HB9 := Lib.hid (HB9.out.later k1)
      replace BB := Lib.hid (BB.out.later k1)
      replace HX := Lib.hid (HX.out.later k1)
      replace HXI := Lib.hid (HXI.out.later k1)
      replace HT := Lib.hid (HT.out.later k1)
      have hsBT : W2.heap.size ≤ w8.heap.size := HB.out.size
      replace HB := Lib.hid (belStep HB.out k1)
      have BT := Lib.hid (show Blk (w8.alloc (.cells #[.int .i64 r, .slice aT L.length cT, .bool o.a, .bool o.b, .bool o.c] 25)) w8.heap.size [.int .i64 r, .slice aT L.length cT, .bool o.a, .bool o.b, .bool o.c] 25 from hn_)
      clear hn_ k1 hbel
      generalize w8.alloc (.cells #[.int .i64 r, .slice aT L.length cT, .bool o.a, .bool o.b, .bool o.c] 25) = W8 at *
      have hbel := HB.out
      have HXT := Lib.hid (show Sep (.slice aX N cX) (.slice aT L.length cT) from fun q h1 h2 => by have e1 := (World.ownsRow.lt HX7.out q h1).2; have e2 := (World.ownsRow.lt HT.out q h2).1; omega)
      have HNT := Lib.hid (show (Value.slice aX N cX).ownBlock ≠ some w8.heap.size from fun e => by have e1 := (World.ownsRow.lt HX7.out _ e).2; have e2 := H78.out; omega)
      have HSA := Lib.hid (show Sep (Value.slice at8 n ct8) (.slice aA LA.length cA) from fun q h1 h2 => by have e1 := (HLT8.out q h1).2; have e2 := (World.ownsRow.lt HA.out q h2).1; omega)
      have HSB := Lib.hid (show Sep (Value.slice at8 n ct8) (.slice aB9 LB.length cB9) from fun q h1 h2 => by have e1 := (HLT8.out q h1).2; have e2 := (World.ownsRow.lt HB9.out q h2).1; omega)
      have HST := Lib.hid (show Sep (Value.slice at8 n ct8) (.slice aT L.length cT) from fun q h1 h2 => by have e1 := (HLT8.out q h1).2; have e2 := (World.ownsRow.lt HT.out q h2).1; have e3 := HB7.out.size; omega)
      have HOW := Lib.hid (HOT8.out.later HB.out)
      have HT5 := Lib.hid (HTB.out.later HB.out)
      clear CWI CWO CPU CSM hbel
      have HBZ := Lib.hid HB.out
      go_wp2
      go_loopw [12] (fun iv wr => ∃ (k : Nat) (cs : List Value), k ≤ n ∧ iv = .int .i64 k ∧ Hid (OwnR wr W1.heap.size 46 12 (.slice at8 n ct8) n cs) ∧ Hid (W8.grownBy wr (Value.slice at8 n ct8).ownBlock)) (fun iv _ => n - (intOf iv).toNat)
      case atStart => exact ⟨0, _, Nat.zero_le _, rfl, HOW, Lib.hid (grownBy_refl _ _)⟩
      case round =>
        clear HOW
        obtain ⟨k, cs, hk, rfl, HOW, HGB⟩ := hrel
        have HTK := Lib.hid (Blk.grown HT5.out HGB.out HNE8.out)
        have q1 := HTK.out.cell (j := 1) rfl
        by_cases hlt : k < n
        · have hd : decide ((k : Int) < (n : Int)) = true := decide_eq_true (by omega)
          have hki : (k : Int) < (n : Int) := by omega
          have hk0 : (0 : Int) ≤ (k : Int) := by omega
          rcases own_open HOW.out with ⟨_, h0, _⟩ | ⟨gg, gc, C, e9, hBg, hCb, hnc, hcm, hCl, _⟩
          · omega
          simp only [Value.slice.injEq, true_and] at e9
          obtain ⟨rfl, rfl⟩ := e9
          obtain ⟨d0v, d0⟩ : ∃ v, wr.cell? ⟨gg, k * 12, none⟩ = some v := ⟨_, hCb.cell (List.getElem?_eq_getElem (by rw [hCl]; omega))⟩
          obtain ⟨d1v, d1⟩ : ∃ v, wr.cell? ⟨gg, k * 12 + 1, none⟩ = some v := ⟨_, hCb.cell (List.getElem?_eq_getElem (by rw [hCl]; omega))⟩
          obtain ⟨d2v, d2⟩ : ∃ v, wr.cell? ⟨gg, k * 12 + 2, none⟩ = some v := ⟨_, hCb.cell (List.getElem?_eq_getElem (by rw [hCl]; omega))⟩
          obtain ⟨d3v, d3⟩ : ∃ v, wr.cell? ⟨gg, k * 12 + 3, none⟩ = some v := ⟨_, hCb.cell (List.getElem?_eq_getElem (by rw [hCl]; omega))⟩
          obtain ⟨d4v, d4⟩ : ∃ v, wr.cell? ⟨gg, k * 12 + 4, none⟩ = some v := ⟨_, hCb.cell (List.getElem?_eq_getElem (by rw [hCl]; omega))⟩
          obtain ⟨d5v, d5⟩ : ∃ v, wr.cell? ⟨gg, k * 12 + 5, none⟩ = some v := ⟨_, hCb.cell (List.getElem?_eq_getElem (by rw [hCl]; omega))⟩
          obtain ⟨d6v, d6⟩ : ∃ v, wr.cell? ⟨gg, k * 12 + 6, none⟩ = some v := ⟨_, hCb.cell (List.getElem?_eq_getElem (by rw [hCl]; omega))⟩
          obtain ⟨d7v, d7⟩ : ∃ v, wr.cell? ⟨gg, k * 12 + 7, none⟩ = some v := ⟨_, hCb.cell (List.getElem?_eq_getElem (by rw [hCl]; omega))⟩
          obtain ⟨d8v, d8⟩ : ∃ v, wr.cell? ⟨gg, k * 12 + 8, none⟩ = some v := ⟨_, hCb.cell (List.getElem?_eq_getElem (by rw [hCl]; omega))⟩
          obtain ⟨d9v, d9⟩ : ∃ v, wr.cell? ⟨gg, k * 12 + 9, none⟩ = some v := ⟨_, hCb.cell (List.getElem?_eq_getElem (by rw [hCl]; omega))⟩
          obtain ⟨d10v, d10⟩ : ∃ v, wr.cell? ⟨gg, k * 12 + 10, none⟩ = some v := ⟨_, hCb.cell (List.getElem?_eq_getElem (by rw [hCl]; omega))⟩
          obtain ⟨d11v, d11⟩ : ∃ v, wr.cell? ⟨gg, k * 12 + 11, none⟩ = some v := ⟨_, hCb.cell (List.getElem?_eq_getElem (by rw [hCl]; omega))⟩
          have df := hCb.frozen
          obtain ⟨ds, hds, hgd⟩ := stored12 (m := k * 12) HOW.out
          have HOW2 := Lib.hid hds
          have HGB2 := Lib.hid (grownBy_trans HGB.out hgd)
          clear hCb hCl hcm HOW HGB hds hgd
          go_wp2
          go_roundw
          case rel => exact ⟨k + 1, _, by omega, by push_cast; rfl, HOW2, HGB2⟩
          case measure => simp [intOf] <;> omega
        · obtain rfl : k = n := by omega
          have hd : decide ((k : Int) < (k : Int)) = false := decide_eq_false (by omega)
          have hg := HGB.out
          have HBG := Lib.hid (show Below W1.heap.size W8 wr from (Below.refl _ _).grown hg (by have h1 := HBT8.out.size; have h2 := HBZ.out.size; omega) (fun q hq => (HLT8.out q hq).1))
          have HA2 := Lib.hid (HA.out.sep hg HSA.out)
          have HB2 := Lib.hid (HB9.out.sep hg HSB.out)
          have HT2 := Lib.hid (HT.out.sep hg HST.out)
          have hnb : ∀ q, W2.heap.size ≤ q → (Value.slice at8 k ct8).ownBlock ≠ some q := fun q hq e => by have e1 := (HLT8.out q e).2; omega
          have BA2 := Lib.hid (Blk.grown BA.out hg (hnb _ hsBA))
          have BB2 := Lib.hid (Blk.grown BB.out hg (hnb _ hsBB))
          have BT2 := Lib.hid (Blk.grown BT.out hg (hnb _ hsBT))
          have HSX := Lib.hid (show Sep (Value.slice at8 k ct8) (.slice aX N cX) from fun q h1 h2 => by have e1 := (HLT8.out q h1).2; have e2 := (World.ownsRow.lt HX.out q h2).1; have := HSX6.out; omega)
          have HX2 := Lib.hid (OwnR.sep HX.out hg HSX.out)
          have HX3 := Lib.hid (show OwnR wr W5.heap.size 5 1 (.slice aX N cX) N (l.map (Value.int .u8)) from by have h := HX2.out; rw [HLEN.out] at h; exact h)
          have HXLT := Lib.hid (fun q (e : (Value.slice aX N cX).ownBlock = some q) => World.ownsRow.lt HXW.out q e)
          clear HA HB9 HT BA BB BT HX HXI HTK HOW HGB hg hnb
          generalize wr = W9 at *
          go_wp2
          go_loopw [13] (fun iv wr => ∃ (m : Nat) (cs : List Value), m ≤ N ∧ iv = .int .i64 m ∧ Hid (OwnR wr W5.heap.size 5 1 (.slice aX N cX) N cs) ∧ Hid (W9.grownBy wr (Value.slice aX N cX).ownBlock)) (fun iv _ => N - (intOf iv).toNat)
          case atStart => exact ⟨0, _, Nat.zero_le _, rfl, HX3, Lib.hid (grownBy_refl _ _)⟩
          case round =>
            clear HX3
            obtain ⟨m, cs, hm, rfl, HOX, HGX⟩ := hrel
            by_cases hlm : m < N
            · have hd : decide ((m : Int) < (N : Int)) = true := decide_eq_true (by omega)
              have hmi : (m : Int) < (N : Int) := by omega
              have hm0 : (0 : Int) ≤ (m : Int) := by omega
              rcases own_open HOX.out with ⟨_, h0, _⟩ | ⟨gx, gc, C, e9, hBg, hCb, hnc, hcm, hCl, _⟩
              · omega
              simp only [Value.slice.injEq, true_and] at e9
              obtain ⟨rfl, rfl⟩ := e9
              obtain ⟨d0v, d0⟩ : ∃ v, wr.cell? ⟨gx, m, none⟩ = some v := ⟨_, hCb.cell (List.getElem?_eq_getElem (by rw [hCl]; omega))⟩
              have df := hCb.frozen
              have hks := keptSet ⟨HOX.out, HGX.out⟩ m (.int .u8 7)
              have HOX2 := Lib.hid hks.1
              have HGX2 := Lib.hid (show W9.grownBy _ (Value.slice (some ⟨gx, 0, none⟩) N cX).ownBlock from hks.2)
              clear hCb hCl hcm HOX HGX hks
              go_wp2
              go_roundw
              case rel => exact ⟨m + 1, _, by omega, by push_cast; rfl, HOX2, HGX2⟩
              case measure => simp [intOf] <;> omega
            · obtain rfl : m = N := by omega
              have hd : decide ((m : Int) < (m : Int)) = false := decide_eq_false (by omega)
              have hg := HGX.out
              have HBH := Lib.hid (show Below W1.heap.size W9 wr from (Below.refl _ _).grown hg (by have h1 := HBT8.out.size; have h2 := HBZ.out.size; have h3 := HBG.out.size; omega) (fun q hq => by have h1 := (HXLT.out q hq).1; have h2 := HBT8.out.size; omega))
              have HA3 := Lib.hid (HA2.out.sep hg HXA.out)
              have HB3 := Lib.hid (HB2.out.sep hg HXB.out)
              have HT3 := Lib.hid (HT2.out.sep hg HXT.out)
              have BA3 := Lib.hid (Blk.grown BA2.out hg HNA.out)
              have BB3 := Lib.hid (Blk.grown BB2.out hg HNB.out)
              have BT3 := Lib.hid (Blk.grown BT2.out hg HNT.out)
              have HW9 := Lib.hid (show Below W1.heap.size W1 wr from (HBT8.out.trans (HBZ.out.mono HBT8.out.size)).trans (HBG.out.trans HBH.out))
              clear HA2 HB2 HT2 BA2 BB2 BT2 hg HGX HOX
              generalize wr = V at *
              have hbel : Below V.heap.size V V := Below.refl _ _
              have u0 := keep (BA3.out.cell (j := 0) rfl)
              have u1 := keep (BA3.out.cell (j := 1) rfl)
              have u2 := keep (BA3.out.cell (j := 2) rfl)
              have u3 := keep (BA3.out.cell (j := 3) rfl)
              have u4 := keep (BA3.out.cell (j := 4) rfl)
              have v0 := keep (BB3.out.cell (j := 0) rfl)
              have v1 := keep (BB3.out.cell (j := 1) rfl)
              have v2 := keep (BB3.out.cell (j := 2) rfl)
              have v3 := keep (BB3.out.cell (j := 3) rfl)
              have v4 := keep (BB3.out.cell (j := 4) rfl)
              have t0 := keep (BT3.out.cell (j := 0) rfl)
              have t1 := keep (BT3.out.cell (j := 1) rfl)
              have t2 := keep (BT3.out.cell (j := 2) rfl)
              have t3 := keep (BT3.out.cell (j := 3) rfl)
              have t4 := keep (BT3.out.cell (j := 4) rfl)
              replace ss0 := keepOn zss0 HW9.out
              replace ss1 := keepOn zss1 HW9.out
              replace ss2 := keepOn zss2 HW9.out
              replace ss3 := keepOn zss3 HW9.out
              replace ss4 := keepOn zss4 HW9.out
              replace ee0 := keepOn zee0 HW9.out
              replace ee1 := keepOn zee1 HW9.out
              replace ee2 := keepOn zee2 HW9.out
              replace ee3 := keepOn zee3 HW9.out
              replace ee4 := keepOn zee4 HW9.out
              replace ee5 := keepOn zee5 HW9.out
              replace ee6 := keepOn zee6 HW9.out
              replace ee7 := keepOn zee7 HW9.out
              replace ee8 := keepOn zee8 HW9.out
              replace ee9 := keepOn zee9 HW9.out
              replace ee10 := keepOn zee10 HW9.out
              replace ee11 := keepOn zee11 HW9.out
              have HVW := Lib.hid (belStep HW1.out HW9.out)
              have CT := Lib.hid (fun u (hu : Below V.heap.size V u) => ((sameS_iff r o L r o L).2 ⟨rfl, rfl, rfl⟩) ▸ sref_SameS r aT L.length cT o L r a k c o L u rfl ((own_rowS HT3.out).later hu) HLN.out (HR.out.later (belStep HVW.out hu)))
              have CRW := Lib.hid (fun u (hu : Below V.heap.size V u) => HRA.out ▸ sref_With r a k c o L x u HLN.out (HR.out.later (belStep HVW.out hu)) (by omega))
              have CRO := Lib.hid (fun u (hu : Below V.heap.size V u) => HRB.out ▸ sref_Without r a k c o L x.pod.id u HLN.out (HR.out.later (belStep HVW.out hu)) (by omega))
              have CSA := Lib.hid (fun u b d (hu : Below V.heap.size V u) (hr : Row u b LA.length d 12 (LA.flatMap EntV.cells)) => ((sameS_iff r o LA r o LA).2 ⟨rfl, rfl, rfl⟩) ▸ sref_SameS r aA LA.length cA o LA r b LA.length d o LA u rfl ((own_rowS HA3.out).later hu) rfl hr)
              have CSB := Lib.hid (fun u b d (hu : Below V.heap.size V u) (hr : Row u b LB.length d 12 (LB.flatMap EntV.cells)) => ((sameS_iff r o LB r o LB).2 ⟨rfl, rfl, rfl⟩) ▸ sref_SameS r aB9 LB.length cB9 o LB r b LB.length d o LB u rfl ((own_rowS HB3.out).later hu) rfl hr)
              go_upto_region 18 with fail
              refine wp_region_held_drew (S := fun u => Below V.heap.size V u) (by kernel_rfl) (by exact (show Below V.heap.size V _ by repeat (first | assumption | exact Below.refl _ _ | refine belDrew ?_ | refine belAlloc ?_ _ | refine belStep ?_ (by assumption)))) (fun hHeld => ?_)
              refine wpAnyH_take (i := 0) (oi := ?oi_k8) (v := ?v_k8) ?hi_k8 (by kernel_rfl) ?hf_k8 ?hr_k8 ?hQ_k8 (Or.inl ⟨?hw_k8, ?hy_k8⟩) (by assumption) ?rest_k8
              case hi_k8 => ((simp only [List.getElem?_toArray, List.getElem?_cons_succ, List.getElem?_cons_zero]); rfl)
              case hf_k8 => kernel_rfl
              case hr_k8 => kernel_rfl
              case hQ_k8 => exact fun _ _ _ h => h
              case hw_k8 => rfl
              case hy_k8 => ((intro w hSw; (try dsimp only at hSw); go_simp); all_goals (with_reducible rfl))
              try simp only [Act.put, List.setIfInBounds_toArray, List.set_cons_zero, List.set_cons_succ]
              refine wpAnyH_take (i := 1) (oi := ?oi_k9) (v := ?v_k9) ?hi_k9 (by kernel_rfl) ?hf_k9 ?hr_k9 ?hQ_k9 (Or.inl ⟨?hw_k9, ?hy_k9⟩) (by assumption) ?rest_k9
              case hi_k9 => ((simp only [List.getElem?_toArray, List.getElem?_cons_succ, List.getElem?_cons_zero]); rfl)
              case hf_k9 => kernel_rfl
              case hr_k9 => kernel_rfl
              case hQ_k9 => exact fun _ _ _ h => h
              case hw_k9 => rfl
              case hy_k9 => ((intro w hSw; (try dsimp only at hSw); go_simp); all_goals (with_reducible rfl))
              try simp only [Act.put, List.setIfInBounds_toArray, List.set_cons_zero, List.set_cons_succ]
              refine wpAnyH_take (i := 2) (oi := ?oi_k10) (v := ?v_k10) ?hi_k10 (by kernel_rfl) ?hf_k10 ?hr_k10 ?hQ_k10 (Or.inl ⟨?hw_k10, ?hy_k10⟩) (by assumption) ?rest_k10
              case hi_k10 => ((simp only [List.getElem?_toArray, List.getElem?_cons_succ, List.getElem?_cons_zero]); rfl)
              case hf_k10 => kernel_rfl
              case hr_k10 => kernel_rfl
              case hQ_k10 => exact fun _ _ _ h => h
              case hw_k10 => rfl
              case hy_k10 => ((intro w hSw; (try dsimp only at hSw); go_simp); all_goals (with_reducible rfl))
              try simp only [Act.put, List.setIfInBounds_toArray, List.set_cons_zero, List.set_cons_succ]
              refine wpAnyH_take (i := 3) (oi := ?oi_k11) (v := ?v_k11) ?hi_k11 (by kernel_rfl) ?hf_k11 ?hr_k11 ?hQ_k11 (Or.inl ⟨?hw_k11, ?hy_k11⟩) (by assumption) ?rest_k11
              case hi_k11 => ((simp only [List.getElem?_toArray, List.getElem?_cons_succ, List.getElem?_cons_zero]); rfl)
              case hf_k11 => kernel_rfl
              case hr_k11 => kernel_rfl
              case hQ_k11 => exact fun _ _ _ h => h
              case hw_k11 => rfl
              case hy_k11 => ((intro w hSw; (try dsimp only at hSw); go_simp); all_goals (with_reducible rfl))
              try simp only [Act.put, List.setIfInBounds_toArray, List.set_cons_zero, List.set_cons_succ]
              refine wpAnyH_take (i := 4) (oi := ?oi_k12) (v := ?v_k12) ?hi_k12 (by kernel_rfl) ?hf_k12 ?hr_k12 ?hQ_k12 (Or.inl ⟨?hw_k12, ?hy_k12⟩) (by assumption) ?rest_k12
              case hi_k12 => ((simp only [List.getElem?_toArray, List.getElem?_cons_succ, List.getElem?_cons_zero]); rfl)
              case hf_k12 => kernel_rfl
              case hr_k12 => kernel_rfl
              case hQ_k12 => exact fun _ _ _ h => h
              case hw_k12 => rfl
              case hy_k12 => ((intro w hSw; (try dsimp only at hSw); go_simp); all_goals (with_reducible rfl))
              try simp only [Act.put, List.setIfInBounds_toArray, List.set_cons_zero, List.set_cons_succ]
              refine wpAnyH_ready (rs := [5]) (by kernel_rfl) (by simp) ?_
              refine AllReadyH.cons (o := ?o1_k13) ?hi_k13 (fun K hK => ?rest_k13) AllReadyH.nil
              case hi_k13 => ((simp only [List.getElem?_toArray, List.getElem?_cons_succ, List.getElem?_cons_zero]); rfl)
              go_simp
              (go_at_call 20; (with_reducible refine (CT.out _ hHeld).mono ?_); rintro e wq5 ⟨rfl, hbq⟩)
              have hu5 : Below V.heap.size V wq5 := belStep hHeld hbq
              clear hbq
              try go_simp
              refine hK.out _ _ (by exact hu5) (fun hHeld => ?_)
              clear hK K
              try simp only [Act.put, List.setIfInBounds_toArray, List.set_cons_zero, List.set_cons_succ]
              refine wpAnyH_take (i := 6) (oi := ?oi_k14) (v := ?v_k14) ?hi_k14 (by kernel_rfl) ?hf_k14 ?hr_k14 ?hQ_k14 (Or.inl ⟨?hw_k14, ?hy_k14⟩) (by assumption) ?rest_k14
              case hi_k14 => ((simp only [List.getElem?_toArray, List.getElem?_cons_succ, List.getElem?_cons_zero]); rfl)
              case hf_k14 => kernel_rfl
              case hr_k14 => kernel_rfl
              case hQ_k14 => exact fun _ _ _ h => h
              case hw_k14 => rfl
              case hy_k14 => ((intro w hSw; (try dsimp only at hSw); go_simp); all_goals (with_reducible rfl))
              try simp only [Act.put, List.setIfInBounds_toArray, List.set_cons_zero, List.set_cons_succ]
              refine wpAnyH_take (i := 7) (oi := ?oi_k15) (v := ?v_k15) ?hi_k15 (by kernel_rfl) ?hf_k15 ?hr_k15 ?hQ_k15 (Or.inl ⟨?hw_k15, ?hy_k15⟩) (by assumption) ?rest_k15
              case hi_k15 => ((simp only [List.getElem?_toArray, List.getElem?_cons_succ, List.getElem?_cons_zero]); rfl)
              case hf_k15 => kernel_rfl
              case hr_k15 => kernel_rfl
              case hQ_k15 => exact fun _ _ _ h => h
              case hw_k15 => rfl
              case hy_k15 => ((intro w hSw; (try dsimp only at hSw); go_simp); all_goals (with_reducible rfl))
              try simp only [Act.put, List.setIfInBounds_toArray, List.set_cons_zero, List.set_cons_succ]
              refine wpAnyH_take (i := 8) (oi := ?oi_k16) (v := ?v_k16) ?hi_k16 (by kernel_rfl) ?hf_k16 ?hr_k16 ?hQ_k16 (Or.inl ⟨?hw_k16, ?hy_k16⟩) (by assumption) ?rest_k16
              case hi_k16 => ((simp only [List.getElem?_toArray, List.getElem?_cons_succ, List.getElem?_cons_zero]); rfl)
              case hf_k16 => kernel_rfl
              case hr_k16 => kernel_rfl
              case hQ_k16 => exact fun _ _ _ h => h
              case hw_k16 => rfl
              case hy_k16 => ((intro w hSw; (try dsimp only at hSw); go_simp); all_goals (with_reducible rfl))
              try simp only [Act.put, List.setIfInBounds_toArray, List.set_cons_zero, List.set_cons_succ]
              refine wpAnyH_take (i := 9) (oi := ?oi_k17) (v := ?v_k17) ?hi_k17 (by kernel_rfl) ?hf_k17 ?hr_k17 ?hQ_k17 (Or.inl ⟨?hw_k17, ?hy_k17⟩) (by assumption) ?rest_k17
              case hi_k17 => ((simp only [List.getElem?_toArray, List.getElem?_cons_succ, List.getElem?_cons_zero]); rfl)
              case hf_k17 => kernel_rfl
              case hr_k17 => kernel_rfl
              case hQ_k17 => exact fun _ _ _ h => h
              case hw_k17 => rfl
              case hy_k17 => ((intro w hSw; (try dsimp only at hSw); go_simp); all_goals (with_reducible rfl))
              try simp only [Act.put, List.setIfInBounds_toArray, List.set_cons_zero, List.set_cons_succ]
              refine wpAnyH_take (i := 10) (oi := ?oi_k18) (v := ?v_k18) ?hi_k18 (by kernel_rfl) ?hf_k18 ?hr_k18 ?hQ_k18 (Or.inl ⟨?hw_k18, ?hy_k18⟩) (by assumption) ?rest_k18
              case hi_k18 => ((simp only [List.getElem?_toArray, List.getElem?_cons_succ, List.getElem?_cons_zero]); rfl)
              case hf_k18 => kernel_rfl
              case hr_k18 => kernel_rfl
              case hQ_k18 => exact fun _ _ _ h => h
              case hw_k18 => rfl
              case hy_k18 => ((intro w hSw; (try dsimp only at hSw); go_simp); all_goals (with_reducible rfl))
              try simp only [Act.put, List.setIfInBounds_toArray, List.set_cons_zero, List.set_cons_succ]
              refine wpAnyH_ready (rs := [11]) (by kernel_rfl) (by simp) ?_
              refine AllReadyH.cons (o := ?o1_k19) ?hi_k19 (fun K hK => ?rest_k19) AllReadyH.nil
              case hi_k19 => ((simp only [List.getElem?_toArray, List.getElem?_cons_succ, List.getElem?_cons_zero]); rfl)
              go_simp
              (go_at_call 27; (with_reducible refine (CRW.out _ hHeld).mono ?_); rintro e wq11 ⟨q9, rfl, ho9, hbq⟩)
              obtain ⟨a9, c9, rfl, hr9⟩ := rowR_of_own ho9
              have hu11 : Below V.heap.size V wq11 := belStep hHeld hbq
              clear hbq
              try go_simp
              refine hK.out _ _ (by exact hu11) (fun hHeld => ?_)
              clear hK K
              try simp only [Act.put, List.setIfInBounds_toArray, List.set_cons_zero, List.set_cons_succ]
              refine wpAnyH_ready (rs := [12]) (by kernel_rfl) (by simp) ?_
              refine AllReadyH.cons (o := ?o1_k20) ?hi_k20 (fun K hK => ?rest_k20) AllReadyH.nil
              case hi_k20 => ((simp only [List.getElem?_toArray, List.getElem?_cons_succ, List.getElem?_cons_zero]); rfl)
              go_simp
              (go_at_call 20; (with_reducible refine (CSA.out _ a9 c9 hHeld hr9).mono ?_); rintro e wq12 ⟨rfl, hbq⟩)
              have hu12 : Below V.heap.size V wq12 := belStep hHeld hbq
              clear hbq
              try go_simp
              refine hK.out _ _ (by exact hu12) (fun hHeld => ?_)
              clear hK K
              try simp only [Act.put, List.setIfInBounds_toArray, List.set_cons_zero, List.set_cons_succ]
              refine wpAnyH_take (i := 13) (oi := ?oi_k21) (v := ?v_k21) ?hi_k21 (by kernel_rfl) ?hf_k21 ?hr_k21 ?hQ_k21 (Or.inl ⟨?hw_k21, ?hy_k21⟩) (by assumption) ?rest_k21
              case hi_k21 => ((simp only [List.getElem?_toArray, List.getElem?_cons_succ, List.getElem?_cons_zero]); rfl)
              case hf_k21 => kernel_rfl
              case hr_k21 => kernel_rfl
              case hQ_k21 => exact fun _ _ _ h => h
              case hw_k21 => rfl
              case hy_k21 => ((intro w hSw; (try dsimp only at hSw); go_simp); all_goals (with_reducible rfl))
              try simp only [Act.put, List.setIfInBounds_toArray, List.set_cons_zero, List.set_cons_succ]
              refine wpAnyH_take (i := 14) (oi := ?oi_k22) (v := ?v_k22) ?hi_k22 (by kernel_rfl) ?hf_k22 ?hr_k22 ?hQ_k22 (Or.inl ⟨?hw_k22, ?hy_k22⟩) (by assumption) ?rest_k22
              case hi_k22 => ((simp only [List.getElem?_toArray, List.getElem?_cons_succ, List.getElem?_cons_zero]); rfl)
              case hf_k22 => kernel_rfl
              case hr_k22 => kernel_rfl
              case hQ_k22 => exact fun _ _ _ h => h
              case hw_k22 => rfl
              case hy_k22 => ((intro w hSw; (try dsimp only at hSw); go_simp); all_goals (with_reducible rfl))
              try simp only [Act.put, List.setIfInBounds_toArray, List.set_cons_zero, List.set_cons_succ]
              refine wpAnyH_take (i := 15) (oi := ?oi_k23) (v := ?v_k23) ?hi_k23 (by kernel_rfl) ?hf_k23 ?hr_k23 ?hQ_k23 (Or.inl ⟨?hw_k23, ?hy_k23⟩) (by assumption) ?rest_k23
              case hi_k23 => ((simp only [List.getElem?_toArray, List.getElem?_cons_succ, List.getElem?_cons_zero]); rfl)
              case hf_k23 => kernel_rfl
              case hr_k23 => kernel_rfl
              case hQ_k23 => exact fun _ _ _ h => h
              case hw_k23 => rfl
              case hy_k23 => ((intro w hSw; (try dsimp only at hSw); go_simp); all_goals (with_reducible rfl))
              try simp only [Act.put, List.setIfInBounds_toArray, List.set_cons_zero, List.set_cons_succ]
              refine wpAnyH_take (i := 16) (oi := ?oi_k24) (v := ?v_k24) ?hi_k24 (by kernel_rfl) ?hf_k24 ?hr_k24 ?hQ_k24 (Or.inl ⟨?hw_k24, ?hy_k24⟩) (by assumption) ?rest_k24
              case hi_k24 => ((simp only [List.getElem?_toArray, List.getElem?_cons_succ, List.getElem?_cons_zero]); rfl)
              case hf_k24 => kernel_rfl
              case hr_k24 => kernel_rfl
              case hQ_k24 => exact fun _ _ _ h => h
              case hw_k24 => rfl
              case hy_k24 => ((intro w hSw; (try dsimp only at hSw); go_simp); all_goals (with_reducible rfl))
              try simp only [Act.put, List.setIfInBounds_toArray, List.set_cons_zero, List.set_cons_succ]
              refine wpAnyH_take (i := 17) (oi := ?oi_k25) (v := ?v_k25) ?hi_k25 (by kernel_rfl) ?hf_k25 ?hr_k25 ?hQ_k25 (Or.inl ⟨?hw_k25, ?hy_k25⟩) (by assumption) ?rest_k25
              case hi_k25 => ((simp only [List.getElem?_toArray, List.getElem?_cons_succ, List.getElem?_cons_zero]); rfl)
              case hf_k25 => kernel_rfl
              case hr_k25 => kernel_rfl
              case hQ_k25 => exact fun _ _ _ h => h
              case hw_k25 => rfl
              case hy_k25 => ((intro w hSw; (try dsimp only at hSw); go_simp); all_goals (with_reducible rfl))
              try simp only [Act.put, List.setIfInBounds_toArray, List.set_cons_zero, List.set_cons_succ]
              refine wpAnyH_take (i := 18) (oi := ?oi_k26) (v := ?v_k26) ?hi_k26 (by kernel_rfl) ?hf_k26 ?hr_k26 ?hQ_k26 (Or.inl ⟨?hw_k26, ?hy_k26⟩) (by assumption) ?rest_k26
              case hi_k26 => ((simp only [List.getElem?_toArray, List.getElem?_cons_succ, List.getElem?_cons_zero]); rfl)
              case hf_k26 => kernel_rfl
              case hr_k26 => kernel_rfl
              case hQ_k26 => exact fun _ _ _ h => h
              case hw_k26 => rfl
              case hy_k26 => ((intro w hSw; (try dsimp only at hSw); go_simp); all_goals (with_reducible rfl))
              try simp only [Act.put, List.setIfInBounds_toArray, List.set_cons_zero, List.set_cons_succ]
              refine wpAnyH_take (i := 19) (oi := ?oi_k27) (v := ?v_k27) ?hi_k27 (by kernel_rfl) ?hf_k27 ?hr_k27 ?hQ_k27 (Or.inl ⟨?hw_k27, ?hy_k27⟩) (by assumption) ?rest_k27
              case hi_k27 => ((simp only [List.getElem?_toArray, List.getElem?_cons_succ, List.getElem?_cons_zero]); rfl)
              case hf_k27 => kernel_rfl
              case hr_k27 => kernel_rfl
              case hQ_k27 => exact fun _ _ _ h => h
              case hw_k27 => rfl
              case hy_k27 => ((intro w hSw; (try dsimp only at hSw); go_simp); all_goals (with_reducible rfl))
              try simp only [Act.put, List.setIfInBounds_toArray, List.set_cons_zero, List.set_cons_succ]
              refine wpAnyH_ready (rs := [20]) (by kernel_rfl) (by simp) ?_
              refine AllReadyH.cons (o := ?o1_k28) ?hi_k28 (fun K hK => ?rest_k28) AllReadyH.nil
              case hi_k28 => ((simp only [List.getElem?_toArray, List.getElem?_cons_succ, List.getElem?_cons_zero]); rfl)
              go_simp
              (go_at_call 28; (with_reducible refine (CRO.out _ hHeld).mono ?_); rintro e wq20 ⟨q10, rfl, ho10, hbq⟩)
              obtain ⟨a10, c10, rfl, hr10⟩ := rowR_of_own ho10
              have hu20 : Below V.heap.size V wq20 := belStep hHeld hbq
              clear hbq
              try go_simp
              refine hK.out _ _ (by exact hu20) (fun hHeld => ?_)
              clear hK K
              try simp only [Act.put, List.setIfInBounds_toArray, List.set_cons_zero, List.set_cons_succ]
              refine wpAnyH_ready (rs := [21]) (by kernel_rfl) (by simp) ?_
              refine AllReadyH.cons (o := ?o1_k29) ?hi_k29 (fun K hK => ?rest_k29) AllReadyH.nil
              case hi_k29 => ((simp only [List.getElem?_toArray, List.getElem?_cons_succ, List.getElem?_cons_zero]); rfl)
              go_simp
              (go_at_call 20; (with_reducible refine (CSB.out _ a10 c10 hHeld hr10).mono ?_); rintro e wq21 ⟨rfl, hbq⟩)
              have hu21 : Below V.heap.size V wq21 := belStep hHeld hbq
              clear hbq
              try go_simp
              refine hK.out _ _ (by exact hu21) (fun hHeld => ?_)
              clear hK K
              try simp only [Act.put, List.setIfInBounds_toArray, List.set_cons_zero, List.set_cons_succ]
              refine wpAnyH_take (i := 22) (oi := ?oi_k30) (v := ?v_k30) ?hi_k30 (by kernel_rfl) ?hf_k30 ?hr_k30 ?hQ_k30 (Or.inl ⟨?hw_k30, ?hy_k30⟩) (by assumption) ?rest_k30
              case hi_k30 => ((simp only [List.getElem?_toArray, List.getElem?_cons_succ, List.getElem?_cons_zero]); rfl)
              case hf_k30 => kernel_rfl
              case hr_k30 => kernel_rfl
              case hQ_k30 => exact fun _ _ _ h => h
              case hw_k30 => rfl
              case hy_k30 => ((intro w hSw; (try dsimp only at hSw); go_simp); all_goals (with_reducible rfl))
              try simp only [Act.put, List.setIfInBounds_toArray, List.set_cons_zero, List.set_cons_succ]
              refine wpAnyH_take (i := 23) (oi := ?oi_k31) (v := ?v_k31) ?hi_k31 (by kernel_rfl) ?hf_k31 ?hr_k31 ?hQ_k31 (Or.inl ⟨?hw_k31, ?hy_k31⟩) (by assumption) ?rest_k31
              case hi_k31 => ((simp only [List.getElem?_toArray, List.getElem?_cons_succ, List.getElem?_cons_zero]); rfl)
              case hf_k31 => kernel_rfl
              case hr_k31 => kernel_rfl
              case hQ_k31 => exact fun _ _ _ h => h
              case hw_k31 => rfl
              case hy_k31 => ((intro w hSw; (try dsimp only at hSw); go_simp); all_goals (with_reducible rfl))
              try simp only [Act.put, List.setIfInBounds_toArray, List.set_cons_zero, List.set_cons_succ]
              refine wpAnyH_done (by kernel_rfl) ?_ _
              go_wp2
              go_ret
              exact ⟨by simp, belStep HVW.out hHeld⟩

set_option maxRecDepth 100000 in
theorem lifted (os : Os) (started : os.Started) (H : Type) (enc : TypeId × Value → H) :
    ReturnsInHanded {} Try.checked os 10 .any (Rows.stateKeepsSpec.pre6 enc Try.prog Try.f10 Rows.stateKeepsRow.domain false) (Rows.stateKeepsSpec.post enc Try.prog Try.f10 false true false false) := by
  refine returnsInHanded_of_change (C := Try.checked) own started (by kernel_rfl) Try.func10
    (ChangeSpec.witness6 (enc := enc) (C := Try.checked) false ⟨#[], #[.agg #[.int .i64 0, .slice none 0 0, .bool false, .bool false, .bool false], .agg #[.string ByteArray.empty, .int .i64 0, .bool false, .int .i64 0, .int .i64 0, .int .i64 0, .int .i64 0, .int .i64 0, .int .i64 0, .string ByteArray.empty, .int .i64 0, .int .i64 0]], []⟩ 8 (by kernel_rfl) (by kernel_rfl) (by kernel_rfl) (by kernel_rfl)) ?_
  intro W base args ds gs before hval0 hW hcnd _
  have hval : ∀ (j : Nat) t v, Try.f10.params[j]? = some t → args[j]? = some v → Value.okWide Try.prog W .any base t v := hval0
  have hW' := hW
  obtain ⟨p, q, hA0, hV, rfl, hfz, hnd⟩ := hW
  have hA : DataW.TrodAll enc Try.prog W 0 (fun _ => true) true Try.f10.params.toList args.toList ds p := hA0
  rw [Try.params10] at hA hval
  obtain ⟨v0, vs0, d0, ds0, p0, q0, hargs, rfl, rfl, h0, r0⟩ := trodAll_cons hA
  obtain ⟨v1, vs1, d1, ds1, p1, q1, rfl, rfl, rfl, h1, r1⟩ := trodAll_cons r0
  obtain ⟨rfl, rfl, rfl⟩ := trodAll_nil r1
  obtain rfl : args = #[v0, v1] := by cases args; simp_all
  obtain ⟨rfl, rfl⟩ := trodVars_none hV
  have k0 := h0
  have lt0 : ∀ x ∈ p0, x.block < W.heap.size := by obtain ⟨m, hm⟩ := k0; exact DataW.trod_lt m _ _ _ hm
  have o0 : Value.okWide Try.prog W .any base 25 v0 := hval 0 25 v0 rfl rfl
  obtain ⟨xr0, xa0, xn0, xc0, xo0, xl0, rfl, fa0, fb0, fc0, fd0⟩ := open_state o0 h0
  have k1 := h1
  have lt1 : ∀ x ∈ p1, x.block < W.heap.size := by obtain ⟨m, hm⟩ := k1; exact DataW.trod_lt m _ _ _ hm
  have o1 : Value.okWide Try.prog W .any base 46 v1 := hval 1 46 v1 rfl rfl
  obtain ⟨xe1, rfl, fe1⟩ := open_ent o1 h1
  clear hA0 hval0
  refine (walk xr0 xa0 xn0 xc0 xo0 xl0 xe1 W fa0 fb0 fc0 fd0 fe1).mono fun e W' ⟨he, bel⟩ => ?_
  subst he
  exact ⟨_, rfl, _, _, _, [], _, [], hW', trodAll_mk1 (shut_bool Try.underlying4 _), (trodAll_cons_mk (Below.trod laidOut (by kernel_rfl) (of_decide_eq_true (by kernel_rfl)) k0 bel lt0) (trodAll_cons_mk (Below.trod laidOut (by kernel_rfl) (of_decide_eq_true (by kernel_rfl)) k1 bel lt1) trodAll_mk0)), rfl, bel.frame _, fun h => by cases h⟩

theorem over : Rows.stateKeepsRow.holds Try.pinned (OpenSpec.ofChange Rows.stateKeepsSpec) :=
  OpenClaim.holds_of_wide 10 Try.f10 rfl rfl rfl rfl rfl rfl rfl ⟨rfl, rfl, rfl, rfl, rfl⟩ rfl rfl rfl rfl rfl (by kernel_rfl) Try.func10 (by kernel_rfl)
    (of_decide_eq_true (by kernel_rfl)) (by unfold Func.isWrapper; first | (rw [if_pos (by decide +kernel)]; kernel_rfl) | (rw [if_neg (by decide +kernel)]; exact ⟨rfl, rfl⟩))
    (fun os started H enc _ => lifted os started H enc)

/-- The statement. -/
theorem proved : Rows.StateKeepsSaid := over
#print axioms proved

end Go.Proofs.Ytpmkhimmlpnbpaa.stateKeeps
