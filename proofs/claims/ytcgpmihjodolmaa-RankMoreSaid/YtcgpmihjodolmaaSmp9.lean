
/- bilgeref17.Few, bilgeref17.Same: contracts. -/
import Derived.Test.YtcgpmihjodolmaaSmp8
namespace Go.Proofs.Ytcgpmihjodolmaa
open Go.RowKit
set_option linter.unusedVariables false
set_option linter.unusedSimpArgs false
/-- Few: what is told of a sample that is found few. -/
def FewP (L : List UsgV) (e : Ending) : Prop := ∃ b : Bool, e = .returned (.bool b) ∧ (b = true → L.length ≤ 140)
theorem FewP.no (L : List UsgV) : FewP L (.returned (.bool false)) := ⟨false, rfl, fun h => by cases h⟩
theorem FewP.any {L : List UsgV} {b : Bool} (h : b = true → L.length ≤ 140) : FewP L (.returned (.bool b)) := ⟨b, rfl, h⟩
theorem eq3_any (e : Nat) (a b c x y z : Int) (v : World) : (Op.equalIn (e + 2) 29 (.agg #[.int .i64 a, .int .i64 b, .int .i64 c]) (.agg #[.int .i64 x, .int .i64 y, .int .i64 z])).run Try.prog v = .ok (a == x && (b == y && c == z)) v := by
  rw [Op.equalIn]
  simp [run_underlying Try.underlying29, go_sem]
  rw [show List.range' 0 3 = [0, 1, 2] from rfl]
  rcases Int.decEq a x with h1 | h1 <;> rcases Int.decEq b y with h2 | h2 <;> rcases Int.decEq c z with h3 | h3 <;> simp [List.forIn_cons, go_sem, h1, h2, h3]
def eqUse (p q : UseV) : Bool := p.id.toList == q.id.toList && (p.a == q.a && (p.b == q.b && p.c == q.c))
set_option maxHeartbeats 1000000 in
theorem eq_use (p q : UseV) (w : World) : (Op.equalIn 10000 51 (.agg #[.string p.id, .int .i64 p.a, .int .i64 p.b, .int .i64 p.c]) (.agg #[.string q.id, .int .i64 q.a, .int .i64 q.b, .int .i64 q.c])).run Try.prog w = .ok (eqUse p q) w := by
  have hs : Try.prog.fieldsOf 51 = #[{ name := "Id", type := 9, offset := 0, embedded := false, tag := "", pkgPath := "", byteOffset := 0 }, { name := "Amount", type := 29, offset := 1, embedded := false, tag := "", pkgPath := "", byteOffset := 16 }] := by kernel_rfl
  rw [run_equalIn_struct _ _ _ _ _ (by kernel_rfl) (by kernel_rfl), hs]
  unfold eqUse
  simp [go_sem, eq3_any]
  by_cases a1 : p.id.toList = q.id.toList
  · rw [if_pos a1]
    rcases Int.decEq p.a q.a with h1 | h1 <;> rcases Int.decEq p.b q.b with h2 | h2 <;> rcases Int.decEq p.c q.c with h3 | h3 <;> simp_all
  · simp [a1]
theorem eqUse_refl (p : UseV) : eqUse p p = true := by unfold eqUse; simp
set_option maxRecDepth 100000 in
set_option maxHeartbeats 16000000 in
theorem sref_Few (r : RawV) (a : Option Addr) (len cap : Nat) (L : List UsgV) (w : World) (hl : L.length = len) (hR : Row w a len cap 4 (L.flatMap UsgV.cells)) :
    Calls Try.prog 19 #[.agg #[.int .i64 r.t, .float .f64 r.x, .float .f64 r.y, .float .f64 r.z, .slice a len cap]] w fun e w' => FewP L e ∧ Below w.heap.size w w' := by
  have hw : Below w.heap.size w w := Below.refl _ _
  have hbel := hw
  have hbd_a : len ≤ cap ∧ cap ≤ 9223372036854775807 := by obtain ⟨_, h1, h2, _⟩ := hR; unfold maxLen at h2; exact ⟨h1, h2⟩
  obtain ⟨hbd1_a, hbd2_a⟩ := hbd_a
  have HR := Lib.hid hR
  clear hR
  subst hl
  go_enter Try.func19, Try.ntmps19
  go_upto_region 1 with fail
  have rw0 : (w.alloc (.cells #[.int .i64 r.t, .float .f64 r.x, .float .f64 r.y, .float .f64 r.z, .slice a L.length cap] 26)).cell? ⟨w.heap.size, 0, none⟩ = some (.int .i64 r.t) := by first | (simp; done) | (rw [World.cell?_alloc_at _ _ _ _ (by simp)]; rfl) | (rw [World.cell?_alloc_past _ _ _ (by simp <;> omega), World.cell?_alloc_at _ _ _ _ (by simp)]; rfl) | (rw [World.cell?_alloc_past _ _ _ (by simp <;> omega), World.cell?_alloc_past _ _ _ (by simp <;> omega), World.cell?_alloc_at _ _ _ _ (by simp)]; rfl)
  have rw1 : (w.alloc (.cells #[.int .i64 r.t, .float .f64 r.x, .float .f64 r.y, .float .f64 r.z, .slice a L.length cap] 26)).cell? ⟨w.heap.size, 1, none⟩ = some (.float .f64 r.x) := by first | (simp; done) | (rw [World.cell?_alloc_at _ _ _ _ (by simp)]; rfl) | (rw [World.cell?_alloc_past _ _ _ (by simp <;> omega), World.cell?_alloc_at _ _ _ _ (by simp)]; rfl) | (rw [World.cell?_alloc_past _ _ _ (by simp <;> omega), World.cell?_alloc_past _ _ _ (by simp <;> omega), World.cell?_alloc_at _ _ _ _ (by simp)]; rfl)
  have rw2 : (w.alloc (.cells #[.int .i64 r.t, .float .f64 r.x, .float .f64 r.y, .float .f64 r.z, .slice a L.length cap] 26)).cell? ⟨w.heap.size, 2, none⟩ = some (.float .f64 r.y) := by first | (simp; done) | (rw [World.cell?_alloc_at _ _ _ _ (by simp)]; rfl) | (rw [World.cell?_alloc_past _ _ _ (by simp <;> omega), World.cell?_alloc_at _ _ _ _ (by simp)]; rfl) | (rw [World.cell?_alloc_past _ _ _ (by simp <;> omega), World.cell?_alloc_past _ _ _ (by simp <;> omega), World.cell?_alloc_at _ _ _ _ (by simp)]; rfl)
  have rw3 : (w.alloc (.cells #[.int .i64 r.t, .float .f64 r.x, .float .f64 r.y, .float .f64 r.z, .slice a L.length cap] 26)).cell? ⟨w.heap.size, 3, none⟩ = some (.float .f64 r.z) := by first | (simp; done) | (rw [World.cell?_alloc_at _ _ _ _ (by simp)]; rfl) | (rw [World.cell?_alloc_past _ _ _ (by simp <;> omega), World.cell?_alloc_at _ _ _ _ (by simp)]; rfl) | (rw [World.cell?_alloc_past _ _ _ (by simp <;> omega), World.cell?_alloc_past _ _ _ (by simp <;> omega), World.cell?_alloc_at _ _ _ _ (by simp)]; rfl)
  have rw4 : (w.alloc (.cells #[.int .i64 r.t, .float .f64 r.x, .float .f64 r.y, .float .f64 r.z, .slice a L.length cap] 26)).cell? ⟨w.heap.size, 4, none⟩ = some (.slice a L.length cap) := by first | (simp; done) | (rw [World.cell?_alloc_at _ _ _ _ (by simp)]; rfl) | (rw [World.cell?_alloc_past _ _ _ (by simp <;> omega), World.cell?_alloc_at _ _ _ _ (by simp)]; rfl) | (rw [World.cell?_alloc_past _ _ _ (by simp <;> omega), World.cell?_alloc_past _ _ _ (by simp <;> omega), World.cell?_alloc_at _ _ _ _ (by simp)]; rfl)
  have hb2 := (by repeat (first | exact hbel | refine belAlloc ?_ _ | refine belDrew ?_ | refine belSet ?_ _ _ (by simp)) : Below w.heap.size w (w.alloc (.cells #[.int .i64 r.t, .float .f64 r.x, .float .f64 r.y, .float .f64 r.z, .slice a L.length cap] 26)))
  replace hw := belStep hw hb2
  clear hb2 hbel
  generalize w.alloc (.cells #[.int .i64 r.t, .float .f64 r.x, .float .f64 r.y, .float .f64 r.z, .slice a L.length cap] 26) = W1 at *
  replace rw0 := keep rw0
  replace rw1 := keep rw1
  replace rw2 := keep rw2
  replace rw3 := keep rw3
  replace rw4 := keep rw4
  have hbel : Below W1.heap.size W1 W1 := Below.refl _ _
  skip
  have HRL := Lib.hid (fun u (hu : Below W1.heap.size W1 u) => HR.out.later (belStep hw hu))
  go_wp2
  go_loopw [3] (fun i wr => ∃ k : Nat, k ≤ L.length ∧ i = .int .i64 k ∧ W1 = wr) (fun i _ => L.length - (intOf i).toNat)
  case atStart => exact ⟨0, Nat.zero_le _, rfl, rfl⟩
  case round =>
    obtain ⟨k, hk, rfl, rfl⟩ := hrel
    by_cases hlt : k < L.length
    · obtain ⟨x, hx⟩ : ∃ x, L[k]? = some x := ⟨L[k], List.getElem?_eq_getElem hlt⟩
      obtain ⟨bc, oc, ec, _, hcc⟩ := (HRL.out _ hbel).elem UsgV.cells_len (by omega) hx
      subst ec
      have c0 := keep (hcc 0 _ rfl)
      have c1 := keep (hcc 1 _ rfl)
      have c2 := keep (hcc 2 _ rfl)
      have c3 := keep (hcc 3 _ rfl)
      rw [Nat.add_zero] at c0
      have hki : (k : Int) < (L.length : Int) := by omega
      clear hx hcc
      by_cases h200 : k < 200
      · have h200i : (k : Int) < 200 := by omega
        by_cases h60 : x.id.size ≤ 60
        · have h60i : ¬ (60 : Int) < (x.id.size : Int) := by omega
          clear h60
          go_wp2
          go_roundw
          case rel => exact ⟨k + 1, by omega, by push_cast; rfl, by first | rfl | trivial⟩
          case measure => simp [intOf] <;> omega
        · have h60i : (60 : Int) < (x.id.size : Int) := by omega
          clear h60
          go_wp2
          go_ret
          exact ⟨FewP.no L, hw⟩
      · have h200i : ¬ (k : Int) < 200 := by omega
        go_wp2
        go_ret
        exact ⟨FewP.any (fun h => by have := of_decide_eq_true h; omega), hw⟩
    · obtain rfl : k = L.length := by omega
      have hki : ¬ (L.length : Int) < (L.length : Int) := by omega
      go_wp2
      go_ret
      exact ⟨FewP.any (fun h => by have := of_decide_eq_true h; omega), hw⟩
set_option maxRecDepth 100000 in
set_option maxHeartbeats 16000000 in
theorem sref_Same (S : SmpV) (a : Option Addr) (cap : Nat) (b : Option Addr) (cap2 : Nat) (w : World) (hR : Row w a S.use.length cap 4 (S.use.flatMap UseV.cells)) (hQ : Row w b S.use.length cap2 4 (S.use.flatMap UseV.cells)) :
    Calls Try.prog 23 #[.agg #[.int .i64 S.t, .int .i64 S.a, .int .i64 S.b, .int .i64 S.c, .slice a S.use.length cap], .agg #[.int .i64 S.t, .int .i64 S.a, .int .i64 S.b, .int .i64 S.c, .slice b S.use.length cap2]] w fun e w' => e = .returned (.bool true) ∧ Below w.heap.size w w' := by
  have hw : Below w.heap.size w w := Below.refl _ _
  have hbel := hw
  have hbd_a : S.use.length ≤ cap ∧ cap ≤ 9223372036854775807 := by obtain ⟨_, h1, h2, _⟩ := hR; unfold maxLen at h2; exact ⟨h1, h2⟩
  obtain ⟨hbd1_a, hbd2_a⟩ := hbd_a
  have hbd_b : S.use.length ≤ cap2 ∧ cap2 ≤ 9223372036854775807 := by obtain ⟨_, h1, h2, _⟩ := hQ; unfold maxLen at h2; exact ⟨h1, h2⟩
  obtain ⟨hbd1_b, hbd2_b⟩ := hbd_b
  have HR := Lib.hid hR
  have HQ := Lib.hid hQ
  clear hR hQ
  go_enter Try.func23, Try.ntmps23
  go_upto_region 1 with fail
  have sa0 : ((w.alloc (.cells #[.int .i64 S.t, .int .i64 S.a, .int .i64 S.b, .int .i64 S.c, .slice a S.use.length cap] 32)).alloc (.cells #[.int .i64 S.t, .int .i64 S.a, .int .i64 S.b, .int .i64 S.c, .slice b S.use.length cap2] 32)).cell? ⟨w.heap.size, 0, none⟩ = some (.int .i64 S.t) := by first | (simp; done) | (rw [World.cell?_alloc_at _ _ _ _ (by simp)]; rfl) | (rw [World.cell?_alloc_past _ _ _ (by simp <;> omega), World.cell?_alloc_at _ _ _ _ (by simp)]; rfl) | (rw [World.cell?_alloc_past _ _ _ (by simp <;> omega), World.cell?_alloc_past _ _ _ (by simp <;> omega), World.cell?_alloc_at _ _ _ _ (by simp)]; rfl)
  have sa1 : ((w.alloc (.cells #[.int .i64 S.t, .int .i64 S.a, .int .i64 S.b, .int .i64 S.c, .slice a S.use.length cap] 32)).alloc (.cells #[.int .i64 S.t, .int .i64 S.a, .int .i64 S.b, .int .i64 S.c, .slice b S.use.length cap2] 32)).cell? ⟨w.heap.size, 1, none⟩ = some (.int .i64 S.a) := by first | (simp; done) | (rw [World.cell?_alloc_at _ _ _ _ (by simp)]; rfl) | (rw [World.cell?_alloc_past _ _ _ (by simp <;> omega), World.cell?_alloc_at _ _ _ _ (by simp)]; rfl) | (rw [World.cell?_alloc_past _ _ _ (by simp <;> omega), World.cell?_alloc_past _ _ _ (by simp <;> omega), World.cell?_alloc_at _ _ _ _ (by simp)]; rfl)
  have sa2 : ((w.alloc (.cells #[.int .i64 S.t, .int .i64 S.a, .int .i64 S.b, .int .i64 S.c, .slice a S.use.length cap] 32)).alloc (.cells #[.int .i64 S.t, .int .i64 S.a, .int .i64 S.b, .int .i64 S.c, .slice b S.use.length cap2] 32)).cell? ⟨w.heap.size, 2, none⟩ = some (.int .i64 S.b) := by first | (simp; done) | (rw [World.cell?_alloc_at _ _ _ _ (by simp)]; rfl) | (rw [World.cell?_alloc_past _ _ _ (by simp <;> omega), World.cell?_alloc_at _ _ _ _ (by simp)]; rfl) | (rw [World.cell?_alloc_past _ _ _ (by simp <;> omega), World.cell?_alloc_past _ _ _ (by simp <;> omega), World.cell?_alloc_at _ _ _ _ (by simp)]; rfl)
  have sa3 : ((w.alloc (.cells #[.int .i64 S.t, .int .i64 S.a, .int .i64 S.b, .int .i64 S.c, .slice a S.use.length cap] 32)).alloc (.cells #[.int .i64 S.t, .int .i64 S.a, .int .i64 S.b, .int .i64 S.c, .slice b S.use.length cap2] 32)).cell? ⟨w.heap.size, 3, none⟩ = some (.int .i64 S.c) := by first | (simp; done) | (rw [World.cell?_alloc_at _ _ _ _ (by simp)]; rfl) | (rw [World.cell?_alloc_past _ _ _ (by simp <;> omega), World.cell?_alloc_at _ _ _ _ (by simp)]; rfl) | (rw [World.cell?_alloc_past _ _ _ (by simp <;> omega), World.cell?_alloc_past _ _ _ (by simp <;> omega), World.cell?_alloc_at _ _ _ _ (by simp)]; rfl)
  have sa4 : ((w.alloc (.cells #[.int .i64 S.t, .int .i64 S.a, .int .i64 S.b, .int .i64 S.c, .slice a S.use.length cap] 32)).alloc (.cells #[.int .i64 S.t, .int .i64 S.a, .int .i64 S.b, .int .i64 S.c, .slice b S.use.length cap2] 32)).cell? ⟨w.heap.size, 4, none⟩ = some (.slice a S.use.length cap) := by first | (simp; done) | (rw [World.cell?_alloc_at _ _ _ _ (by simp)]; rfl) | (rw [World.cell?_alloc_past _ _ _ (by simp <;> omega), World.cell?_alloc_at _ _ _ _ (by simp)]; rfl) | (rw [World.cell?_alloc_past _ _ _ (by simp <;> omega), World.cell?_alloc_past _ _ _ (by simp <;> omega), World.cell?_alloc_at _ _ _ _ (by simp)]; rfl)
  have sb0 : ((w.alloc (.cells #[.int .i64 S.t, .int .i64 S.a, .int .i64 S.b, .int .i64 S.c, .slice a S.use.length cap] 32)).alloc (.cells #[.int .i64 S.t, .int .i64 S.a, .int .i64 S.b, .int .i64 S.c, .slice b S.use.length cap2] 32)).cell? ⟨w.heap.size + 1, 0, none⟩ = some (.int .i64 S.t) := by first | (simp; done) | (rw [World.cell?_alloc_at _ _ _ _ (by simp)]; rfl) | (rw [World.cell?_alloc_past _ _ _ (by simp <;> omega), World.cell?_alloc_at _ _ _ _ (by simp)]; rfl) | (rw [World.cell?_alloc_past _ _ _ (by simp <;> omega), World.cell?_alloc_past _ _ _ (by simp <;> omega), World.cell?_alloc_at _ _ _ _ (by simp)]; rfl)
  have sb1 : ((w.alloc (.cells #[.int .i64 S.t, .int .i64 S.a, .int .i64 S.b, .int .i64 S.c, .slice a S.use.length cap] 32)).alloc (.cells #[.int .i64 S.t, .int .i64 S.a, .int .i64 S.b, .int .i64 S.c, .slice b S.use.length cap2] 32)).cell? ⟨w.heap.size + 1, 1, none⟩ = some (.int .i64 S.a) := by first | (simp; done) | (rw [World.cell?_alloc_at _ _ _ _ (by simp)]; rfl) | (rw [World.cell?_alloc_past _ _ _ (by simp <;> omega), World.cell?_alloc_at _ _ _ _ (by simp)]; rfl) | (rw [World.cell?_alloc_past _ _ _ (by simp <;> omega), World.cell?_alloc_past _ _ _ (by simp <;> omega), World.cell?_alloc_at _ _ _ _ (by simp)]; rfl)
  have sb2 : ((w.alloc (.cells #[.int .i64 S.t, .int .i64 S.a, .int .i64 S.b, .int .i64 S.c, .slice a S.use.length cap] 32)).alloc (.cells #[.int .i64 S.t, .int .i64 S.a, .int .i64 S.b, .int .i64 S.c, .slice b S.use.length cap2] 32)).cell? ⟨w.heap.size + 1, 2, none⟩ = some (.int .i64 S.b) := by first | (simp; done) | (rw [World.cell?_alloc_at _ _ _ _ (by simp)]; rfl) | (rw [World.cell?_alloc_past _ _ _ (by simp <;> omega), World.cell?_alloc_at _ _ _ _ (by simp)]; rfl) | (rw [World.cell?_alloc_past _ _ _ (by simp <;> omega), World.cell?_alloc_past _ _ _ (by simp <;> omega), World.cell?_alloc_at _ _ _ _ (by simp)]; rfl)
  have sb3 : ((w.alloc (.cells #[.int .i64 S.t, .int .i64 S.a, .int .i64 S.b, .int .i64 S.c, .slice a S.use.length cap] 32)).alloc (.cells #[.int .i64 S.t, .int .i64 S.a, .int .i64 S.b, .int .i64 S.c, .slice b S.use.length cap2] 32)).cell? ⟨w.heap.size + 1, 3, none⟩ = some (.int .i64 S.c) := by first | (simp; done) | (rw [World.cell?_alloc_at _ _ _ _ (by simp)]; rfl) | (rw [World.cell?_alloc_past _ _ _ (by simp <;> omega), World.cell?_alloc_at _ _ _ _ (by simp)]; rfl) | (rw [World.cell?_alloc_past _ _ _ (by simp <;> omega), World.cell?_alloc_past _ _ _ (by simp <;> omega), World.cell?_alloc_at _ _ _ _ (by simp)]; rfl)
  have sb4 : ((w.alloc (.cells #[.int .i64 S.t, .int .i64 S.a, .int .i64 S.b, .int .i64 S.c, .slice a S.use.length cap] 32)).alloc (.cells #[.int .i64 S.t, .int .i64 S.a, .int .i64 S.b, .int .i64 S.c, .slice b S.use.length cap2] 32)).cell? ⟨w.heap.size + 1, 4, none⟩ = some (.slice b S.use.length cap2) := by first | (simp; done) | (rw [World.cell?_alloc_at _ _ _ _ (by simp)]; rfl) | (rw [World.cell?_alloc_past _ _ _ (by simp <;> omega), World.cell?_alloc_at _ _ _ _ (by simp)]; rfl) | (rw [World.cell?_alloc_past _ _ _ (by simp <;> omega), World.cell?_alloc_past _ _ _ (by simp <;> omega), World.cell?_alloc_at _ _ _ _ (by simp)]; rfl)
  have hb2 := (by repeat (first | exact hbel | refine belAlloc ?_ _ | refine belDrew ?_ | refine belSet ?_ _ _ (by simp)) : Below w.heap.size w ((w.alloc (.cells #[.int .i64 S.t, .int .i64 S.a, .int .i64 S.b, .int .i64 S.c, .slice a S.use.length cap] 32)).alloc (.cells #[.int .i64 S.t, .int .i64 S.a, .int .i64 S.b, .int .i64 S.c, .slice b S.use.length cap2] 32)))
  replace hw := belStep hw hb2
  clear hb2 hbel
  generalize (w.alloc (.cells #[.int .i64 S.t, .int .i64 S.a, .int .i64 S.b, .int .i64 S.c, .slice a S.use.length cap] 32)).alloc (.cells #[.int .i64 S.t, .int .i64 S.a, .int .i64 S.b, .int .i64 S.c, .slice b S.use.length cap2] 32) = W1 at *
  replace sa0 := keep sa0
  replace sa1 := keep sa1
  replace sa2 := keep sa2
  replace sa3 := keep sa3
  replace sa4 := keep sa4
  replace sb0 := keep sb0
  replace sb1 := keep sb1
  replace sb2 := keep sb2
  replace sb3 := keep sb3
  replace sb4 := keep sb4
  have hbel : Below W1.heap.size W1 W1 := Below.refl _ _
  skip
  have HRL := Lib.hid (fun u (hu : Below W1.heap.size W1 u) => HR.out.later (belStep hw hu))
  have HQL := Lib.hid (fun u (hu : Below W1.heap.size W1 u) => HQ.out.later (belStep hw hu))
  have hE3 : ∀ u, (Op.equalIn 10000 29 (.agg #[.int .i64 S.a, .int .i64 S.b, .int .i64 S.c]) (.agg #[.int .i64 S.a, .int .i64 S.b, .int .i64 S.c])).run Try.prog u = .ok true u := fun u => by rw [eq3_any 9998]; simp
  go_wp2
  clear hE3
  have HB := Lib.hid hbel
  clear hbel
  go_loopw [5] (fun i wr => ∃ k : Nat, k ≤ S.use.length ∧ i = .int .i64 k ∧ Below W1.heap.size W1 wr) (fun i _ => S.use.length - (intOf i).toNat)
  case atStart => exact ⟨0, Nat.zero_le _, rfl, HB.out⟩
  case round =>
    obtain ⟨k, hk, rfl, hbel⟩ := hrel
    clear HB
    by_cases hlt : k < S.use.length
    · obtain ⟨x, hx⟩ : ∃ x, S.use[k]? = some x := ⟨S.use[k], List.getElem?_eq_getElem hlt⟩
      obtain ⟨bc, oc, ec, _, hcc⟩ := (HRL.out _ hbel).elem UseV.cells_len (by omega) hx
      subst ec
      have c0 := keep (hcc 0 _ rfl)
      have c1 := keep (hcc 1 _ rfl)
      have c2 := keep (hcc 2 _ rfl)
      have c3 := keep (hcc 3 _ rfl)
      rw [Nat.add_zero] at c0
      obtain ⟨be, oe, ee, _, hce⟩ := (HQL.out _ hbel).elem UseV.cells_len (by omega) hx
      subst ee
      have e0 := keep (hce 0 _ rfl)
      have e1 := keep (hce 1 _ rfl)
      have e2 := keep (hce 2 _ rfl)
      have e3 := keep (hce 3 _ rfl)
      rw [Nat.add_zero] at e0
      have hki : (k : Int) < (S.use.length : Int) := by omega
      have hk0 : (0 : Int) ≤ (k : Int) := by omega
      clear hx hcc hce
      have HBW := Lib.hid hbel
      replace sa0 := keepOnP sa0 hbel
      replace sa1 := keepOnP sa1 hbel
      replace sa2 := keepOnP sa2 hbel
      replace sa3 := keepOnP sa3 hbel
      replace sa4 := keepOnP sa4 hbel
      replace sb0 := keepOnP sb0 hbel
      replace sb1 := keepOnP sb1 hbel
      replace sb2 := keepOnP sb2 hbel
      replace sb3 := keepOnP sb3 hbel
      replace sb4 := keepOnP sb4 hbel
      replace hw := belStep hw hbel
      clear hbel
      generalize wr = W2 at *
      have hbel : Below W2.heap.size W2 W2 := Below.refl _ _
      have hE : ∀ u, (Op.equalIn 10000 51 (.agg #[.string x.id, .int .i64 x.a, .int .i64 x.b, .int .i64 x.c]) (.agg #[.string x.id, .int .i64 x.a, .int .i64 x.b, .int .i64 x.c])).run Try.prog u = .ok true u := fun u => by rw [eq_use, eqUse_refl]
      go_wp2
      have kk := fun d os => belStep hbel (below_regrown _ d os)
      refine wp_region_quiet_below (by kernel_rfl) (by kernel_rfl) ?_
      repeat ((with_reducible refine wpQuiet_step (fun K hK => ?_)); go_simp; (try (rw [if_neg]; rotate_left; · decide)); first | ((with_reducible refine hK _ ?_); clear hK K) | (apply Exists.intro; refine ⟨fun _ => ?_, hK _ ?_⟩; (fail); clear hK K))
      refine wpQuiet_nil (fun w1 hw1 => ?_)
      replace hbel := belStep hbel (bel_of_class hw1)
      clear hw1 kk
      go_wp2
      go_roundw
      case rel => exact ⟨k + 1, by omega, by push_cast; rfl, belStep HBW.out hbel⟩
      case measure => simp [intOf] <;> omega
    · obtain rfl : k = S.use.length := by omega
      have hki : ¬ (S.use.length : Int) < (S.use.length : Int) := by omega
      go_wp2
      go_ret
      exact ⟨rfl, belStep hw hbel⟩
end Go.Proofs.Ytcgpmihjodolmaa
