
/- bilgeref23.Pods, state.Fits: contracts. -/
import Derived.Test.YtpmkhimmlpnbpaaStFit
import Derived.Test.YtpmkhimmlpnbpaaStCfg
namespace Go.Proofs.Ytpmkhimmlpnbpaa
open Go.RowKit
set_option linter.unusedVariables false
set_option linter.unusedSimpArgs false
def podsOf (T : List EntV) : List PodV := T.map EntV.pod
theorem podsOf_len (T : List EntV) : (podsOf T).length = T.length := List.length_map _
theorem podsOf_next {T : List EntV} {k : Nat} {x : EntV} (h : T[k]? = some x) : podsOf (T.take (k + 1)) = podsOf (T.take k) ++ [x.pod] := by
  unfold podsOf
  rw [List.take_add_one, h, List.map_append]; rfl
theorem podsOf_get {T : List EntV} {k : Nat} {y : PodV} (h : (podsOf T)[k]? = some y) : ∃ x, T[k]? = some x ∧ x.pod = y := by
  unfold podsOf at h
  rw [List.getElem?_map] at h
  cases hx : T[k]? with
  | none => rw [hx] at h; cases h
  | some x => rw [hx] at h; exact ⟨x, rfl, by simpa using h⟩
theorem own_snocP {w : World} {B : Nat} {v : Value} {N : List PodV} {x : PodV} (h : OwnR w B 44 11 v (N.length + 1) (N.flatMap PodV.cells ++ x.cells)) : OwnR w B 44 11 v (N ++ [x]).length ((N ++ [x]).flatMap PodV.cells) := own_snocG h
theorem podsOf_ok {T : List EntV} (h : ∀ x ∈ T, x.ok) : ∀ y ∈ podsOf T, y.ok := by
  intro y hy
  unfold podsOf at hy
  obtain ⟨x, hx, rfl⟩ := List.mem_map.1 hy
  exact (h x hx).1
set_option maxRecDepth 100000 in
set_option maxHeartbeats 16000000 in
theorem aref_Pods (a : Option Addr) (len cap : Nat) (T : List EntV) (w : World) (hl : T.length = len) (hR : Row w a len cap 12 (T.flatMap EntV.cells)) (hlen : len ≤ 100) :
    Calls Try.prog 32 #[.slice a len cap] w fun e w' => ∃ v, e = .returned v ∧ OwnR w' w.heap.size 44 11 v (podsOf T).length ((podsOf T).flatMap PodV.cells) ∧ Below w.heap.size w w' := by
  have hbd_t : len ≤ cap ∧ cap ≤ 9223372036854775807 := by obtain ⟨_, h1, h2, _⟩ := hR; unfold maxLen at h2; exact ⟨h1, h2⟩
  obtain ⟨hbd1_t, hbd2_t⟩ := hbd_t
  have HR := Lib.hid hR
  clear hR
  subst hl
  go_enter Try.func32, Try.ntmps32
  have HB : Hid (Below w.heap.size w w) := Lib.hid (Below.refl _ _)
  go_wp2
  go_loopw [3, 4] (fun s i wr => ∃ k : Nat, k ≤ T.length ∧ i = .int .i64 k ∧ OwnR wr w.heap.size 44 11 s (podsOf (T.take k)).length ((podsOf (T.take k)).flatMap PodV.cells) ∧ Below w.heap.size w wr) (fun _ i _ => T.length - (intOf i).toNat)
  case atStart => exact ⟨0, Nat.zero_le _, rfl, OwnR.nil _ _ _ _, HB.out⟩
  case round =>
    obtain ⟨k, hk, rfl, hS, hbel⟩ := hrel
    clear HB
    by_cases hlt : k < T.length
    · obtain ⟨x, hx⟩ : ∃ x, T[k]? = some x := ⟨T[k], List.getElem?_eq_getElem hlt⟩
      obtain ⟨bc, oc, ec, _, hcc⟩ := (HR.out).elem EntV.cells_len (by omega) hx
      subst ec
      have c0 := keep (hcc 0 _ rfl)
      have c1 := keep (hcc 1 _ rfl)
      have c2 := keep (hcc 2 _ rfl)
      have c3 := keep (hcc 3 _ rfl)
      have c4 := keep (hcc 4 _ rfl)
      have c5 := keep (hcc 5 _ rfl)
      have c6 := keep (hcc 6 _ rfl)
      have c7 := keep (hcc 7 _ rfl)
      have c8 := keep (hcc 8 _ rfl)
      have c9 := keep (hcc 9 _ rfl)
      have c10 := keep (hcc 10 _ rfl)
      have c11 := keep (hcc 11 _ rfl)
      rw [Nat.add_zero] at c0
      have hd : decide ((k : Int) < (T.length : Int)) = true := decide_eq_true (by omega)
      have HN := Lib.hid (podsOf_next hx)
      have hpl : (podsOf (T.take k)).length ≤ 1000 := by rw [podsOf_len, List.length_take]; omega
      obtain ⟨N, hN⟩ : ∃ N, podsOf (T.take k) = N := ⟨_, rfl⟩
      rw [hN] at hS HN hpl
      clear hx hcc hN
      have HS2 := Lib.hid (OwnR.alloc hS (.cells #[.string x.pod.id, .int .i64 x.pod.prio, .bool x.pod.crit, .int .i64 x.pod.r0, .int .i64 x.pod.r1, .int .i64 x.pod.r2, .int .i64 x.pod.l0, .int .i64 x.pod.l1, .int .i64 x.pod.l2, .string x.pod.img, .int .i64 x.pod.size] 44))
      have HRX := Lib.hid (row_new wr (x.pod).cells 44 1 11 rfl (by unfold maxLen; omega))
      clear hS
      go_wp2_with (at_builtin; refine wpList_app_row rfl _ _ 61 rfl w.heap.size 44 _ 11 104 Try.underlying61 info_pod rfl (by decide) _ _ _ rfl HS2.out _ 1 1 (x.pod).cells rfl HRX.out (pod_one _) ?c1 ?c2 ?c3 ?_)
      case c1 => simp only [maxLen]; omega
      case c2 => omega
      case c3 => have h2 := hbel.size; simp; omega
      intro v' w2 ho' hb' _
      have HO2 := Lib.hid (own_snocP ho')
      have HB2 := Lib.hid ((belAlloc hbel (.cells #[.string x.pod.id, .int .i64 x.pod.prio, .bool x.pod.crit, .int .i64 x.pod.r0, .int .i64 x.pod.r1, .int .i64 x.pod.r2, .int .i64 x.pod.l0, .int .i64 x.pod.l1, .int .i64 x.pod.l2, .string x.pod.img, .int .i64 x.pod.size] 44)).trans hb')
      clear ho' hb' hbel
      go_wp2
      go_roundw
      case rel => exact ⟨k + 1, by omega, by push_cast; rfl, by rw [HN.out]; exact HO2.out, HB2.out⟩
      case measure => simp [intOf] <;> omega
    · obtain rfl : k = T.length := by omega
      have hd : decide ((T.length : Int) < (T.length : Int)) = false := decide_eq_false (by omega)
      rw [List.take_length] at hS
      have HS := Lib.hid hS
      clear hS
      go_wp2
      go_ret
      exact ⟨_, rfl, HS.out, hbel⟩
set_option maxRecDepth 100000 in
set_option maxHeartbeats 16000000 in
theorem st_Fits (r : Int) (a : Option Addr) (n c : Nat) (o : On) (L : List EntV) (q : CfgV) (w : World) (hl : L.length = n) (hok : ∀ x ∈ L, x.ok) (hn : n ≤ 100000) (hR : Row w a n c 12 (L.flatMap EntV.cells)) :
    Calls Try.prog 30 #[.agg #[.int .i64 r, .slice a n c, .bool o.a, .bool o.b, .bool o.c], .agg #[.int .i64 q.k0, .int .i64 q.k1, .int .i64 q.k2, .int .i64 q.a0, .int .i64 q.a1, .int .i64 q.a2, .slice q.ta q.tl q.tc, .int .i64 q.per, .int .i64 q.ret, .int .i64 q.age, .int .i64 q.dead]] w fun e w' => e = .returned (.bool (fitsB ⟨q.a0, q.a1, q.a2⟩ (podsOf L))) ∧ Below w.heap.size w w' := by
  have HOK := Lib.hid hok
  have hbd : n ≤ c ∧ c ≤ 9223372036854775807 := by obtain ⟨_, h1, h2, _⟩ := hR; unfold maxLen at h2; exact ⟨h1, h2⟩
  obtain ⟨hbd1, hbd2⟩ := hbd
  have HR := Lib.hid hR
  subst hl
  clear hR
  have hw : Below w.heap.size w w := Below.refl _ _
  have hbel := hw
  go_enter Try.func30, Try.ntmps30
  go_upto_region 1 with fail
  have ss0 : ((w.alloc (.cells #[.int .i64 r, .slice a L.length c, .bool o.a, .bool o.b, .bool o.c] 25)).alloc (.cells #[.int .i64 q.k0, .int .i64 q.k1, .int .i64 q.k2, .int .i64 q.a0, .int .i64 q.a1, .int .i64 q.a2, .slice q.ta q.tl q.tc, .int .i64 q.per, .int .i64 q.ret, .int .i64 q.age, .int .i64 q.dead] 57)).cell? ⟨w.heap.size, 0, none⟩ = some (.int .i64 r) := by first | (simp; done) | (rw [World.cell?_alloc_at _ _ _ _ (by simp)]; rfl) | (rw [World.cell?_alloc_past _ _ _ (by simp <;> omega), World.cell?_alloc_at _ _ _ _ (by simp)]; rfl) | (rw [World.cell?_alloc_past _ _ _ (by simp <;> omega), World.cell?_alloc_past _ _ _ (by simp <;> omega), World.cell?_alloc_at _ _ _ _ (by simp)]; rfl)
  have ss1 : ((w.alloc (.cells #[.int .i64 r, .slice a L.length c, .bool o.a, .bool o.b, .bool o.c] 25)).alloc (.cells #[.int .i64 q.k0, .int .i64 q.k1, .int .i64 q.k2, .int .i64 q.a0, .int .i64 q.a1, .int .i64 q.a2, .slice q.ta q.tl q.tc, .int .i64 q.per, .int .i64 q.ret, .int .i64 q.age, .int .i64 q.dead] 57)).cell? ⟨w.heap.size, 1, none⟩ = some (.slice a L.length c) := by first | (simp; done) | (rw [World.cell?_alloc_at _ _ _ _ (by simp)]; rfl) | (rw [World.cell?_alloc_past _ _ _ (by simp <;> omega), World.cell?_alloc_at _ _ _ _ (by simp)]; rfl) | (rw [World.cell?_alloc_past _ _ _ (by simp <;> omega), World.cell?_alloc_past _ _ _ (by simp <;> omega), World.cell?_alloc_at _ _ _ _ (by simp)]; rfl)
  have ss2 : ((w.alloc (.cells #[.int .i64 r, .slice a L.length c, .bool o.a, .bool o.b, .bool o.c] 25)).alloc (.cells #[.int .i64 q.k0, .int .i64 q.k1, .int .i64 q.k2, .int .i64 q.a0, .int .i64 q.a1, .int .i64 q.a2, .slice q.ta q.tl q.tc, .int .i64 q.per, .int .i64 q.ret, .int .i64 q.age, .int .i64 q.dead] 57)).cell? ⟨w.heap.size, 2, none⟩ = some (.bool o.a) := by first | (simp; done) | (rw [World.cell?_alloc_at _ _ _ _ (by simp)]; rfl) | (rw [World.cell?_alloc_past _ _ _ (by simp <;> omega), World.cell?_alloc_at _ _ _ _ (by simp)]; rfl) | (rw [World.cell?_alloc_past _ _ _ (by simp <;> omega), World.cell?_alloc_past _ _ _ (by simp <;> omega), World.cell?_alloc_at _ _ _ _ (by simp)]; rfl)
  have ss3 : ((w.alloc (.cells #[.int .i64 r, .slice a L.length c, .bool o.a, .bool o.b, .bool o.c] 25)).alloc (.cells #[.int .i64 q.k0, .int .i64 q.k1, .int .i64 q.k2, .int .i64 q.a0, .int .i64 q.a1, .int .i64 q.a2, .slice q.ta q.tl q.tc, .int .i64 q.per, .int .i64 q.ret, .int .i64 q.age, .int .i64 q.dead] 57)).cell? ⟨w.heap.size, 3, none⟩ = some (.bool o.b) := by first | (simp; done) | (rw [World.cell?_alloc_at _ _ _ _ (by simp)]; rfl) | (rw [World.cell?_alloc_past _ _ _ (by simp <;> omega), World.cell?_alloc_at _ _ _ _ (by simp)]; rfl) | (rw [World.cell?_alloc_past _ _ _ (by simp <;> omega), World.cell?_alloc_past _ _ _ (by simp <;> omega), World.cell?_alloc_at _ _ _ _ (by simp)]; rfl)
  have ss4 : ((w.alloc (.cells #[.int .i64 r, .slice a L.length c, .bool o.a, .bool o.b, .bool o.c] 25)).alloc (.cells #[.int .i64 q.k0, .int .i64 q.k1, .int .i64 q.k2, .int .i64 q.a0, .int .i64 q.a1, .int .i64 q.a2, .slice q.ta q.tl q.tc, .int .i64 q.per, .int .i64 q.ret, .int .i64 q.age, .int .i64 q.dead] 57)).cell? ⟨w.heap.size, 4, none⟩ = some (.bool o.c) := by first | (simp; done) | (rw [World.cell?_alloc_at _ _ _ _ (by simp)]; rfl) | (rw [World.cell?_alloc_past _ _ _ (by simp <;> omega), World.cell?_alloc_at _ _ _ _ (by simp)]; rfl) | (rw [World.cell?_alloc_past _ _ _ (by simp <;> omega), World.cell?_alloc_past _ _ _ (by simp <;> omega), World.cell?_alloc_at _ _ _ _ (by simp)]; rfl)
  have cc0 : ((w.alloc (.cells #[.int .i64 r, .slice a L.length c, .bool o.a, .bool o.b, .bool o.c] 25)).alloc (.cells #[.int .i64 q.k0, .int .i64 q.k1, .int .i64 q.k2, .int .i64 q.a0, .int .i64 q.a1, .int .i64 q.a2, .slice q.ta q.tl q.tc, .int .i64 q.per, .int .i64 q.ret, .int .i64 q.age, .int .i64 q.dead] 57)).cell? ⟨w.heap.size + 1, 0, none⟩ = some (.int .i64 q.k0) := by first | (simp; done) | (rw [World.cell?_alloc_at _ _ _ _ (by simp)]; rfl) | (rw [World.cell?_alloc_past _ _ _ (by simp <;> omega), World.cell?_alloc_at _ _ _ _ (by simp)]; rfl) | (rw [World.cell?_alloc_past _ _ _ (by simp <;> omega), World.cell?_alloc_past _ _ _ (by simp <;> omega), World.cell?_alloc_at _ _ _ _ (by simp)]; rfl)
  have cc1 : ((w.alloc (.cells #[.int .i64 r, .slice a L.length c, .bool o.a, .bool o.b, .bool o.c] 25)).alloc (.cells #[.int .i64 q.k0, .int .i64 q.k1, .int .i64 q.k2, .int .i64 q.a0, .int .i64 q.a1, .int .i64 q.a2, .slice q.ta q.tl q.tc, .int .i64 q.per, .int .i64 q.ret, .int .i64 q.age, .int .i64 q.dead] 57)).cell? ⟨w.heap.size + 1, 1, none⟩ = some (.int .i64 q.k1) := by first | (simp; done) | (rw [World.cell?_alloc_at _ _ _ _ (by simp)]; rfl) | (rw [World.cell?_alloc_past _ _ _ (by simp <;> omega), World.cell?_alloc_at _ _ _ _ (by simp)]; rfl) | (rw [World.cell?_alloc_past _ _ _ (by simp <;> omega), World.cell?_alloc_past _ _ _ (by simp <;> omega), World.cell?_alloc_at _ _ _ _ (by simp)]; rfl)
  have cc2 : ((w.alloc (.cells #[.int .i64 r, .slice a L.length c, .bool o.a, .bool o.b, .bool o.c] 25)).alloc (.cells #[.int .i64 q.k0, .int .i64 q.k1, .int .i64 q.k2, .int .i64 q.a0, .int .i64 q.a1, .int .i64 q.a2, .slice q.ta q.tl q.tc, .int .i64 q.per, .int .i64 q.ret, .int .i64 q.age, .int .i64 q.dead] 57)).cell? ⟨w.heap.size + 1, 2, none⟩ = some (.int .i64 q.k2) := by first | (simp; done) | (rw [World.cell?_alloc_at _ _ _ _ (by simp)]; rfl) | (rw [World.cell?_alloc_past _ _ _ (by simp <;> omega), World.cell?_alloc_at _ _ _ _ (by simp)]; rfl) | (rw [World.cell?_alloc_past _ _ _ (by simp <;> omega), World.cell?_alloc_past _ _ _ (by simp <;> omega), World.cell?_alloc_at _ _ _ _ (by simp)]; rfl)
  have cc3 : ((w.alloc (.cells #[.int .i64 r, .slice a L.length c, .bool o.a, .bool o.b, .bool o.c] 25)).alloc (.cells #[.int .i64 q.k0, .int .i64 q.k1, .int .i64 q.k2, .int .i64 q.a0, .int .i64 q.a1, .int .i64 q.a2, .slice q.ta q.tl q.tc, .int .i64 q.per, .int .i64 q.ret, .int .i64 q.age, .int .i64 q.dead] 57)).cell? ⟨w.heap.size + 1, 3, none⟩ = some (.int .i64 q.a0) := by first | (simp; done) | (rw [World.cell?_alloc_at _ _ _ _ (by simp)]; rfl) | (rw [World.cell?_alloc_past _ _ _ (by simp <;> omega), World.cell?_alloc_at _ _ _ _ (by simp)]; rfl) | (rw [World.cell?_alloc_past _ _ _ (by simp <;> omega), World.cell?_alloc_past _ _ _ (by simp <;> omega), World.cell?_alloc_at _ _ _ _ (by simp)]; rfl)
  have cc4 : ((w.alloc (.cells #[.int .i64 r, .slice a L.length c, .bool o.a, .bool o.b, .bool o.c] 25)).alloc (.cells #[.int .i64 q.k0, .int .i64 q.k1, .int .i64 q.k2, .int .i64 q.a0, .int .i64 q.a1, .int .i64 q.a2, .slice q.ta q.tl q.tc, .int .i64 q.per, .int .i64 q.ret, .int .i64 q.age, .int .i64 q.dead] 57)).cell? ⟨w.heap.size + 1, 4, none⟩ = some (.int .i64 q.a1) := by first | (simp; done) | (rw [World.cell?_alloc_at _ _ _ _ (by simp)]; rfl) | (rw [World.cell?_alloc_past _ _ _ (by simp <;> omega), World.cell?_alloc_at _ _ _ _ (by simp)]; rfl) | (rw [World.cell?_alloc_past _ _ _ (by simp <;> omega), World.cell?_alloc_past _ _ _ (by simp <;> omega), World.cell?_alloc_at _ _ _ _ (by simp)]; rfl)
  have cc5 : ((w.alloc (.cells #[.int .i64 r, .slice a L.length c, .bool o.a, .bool o.b, .bool o.c] 25)).alloc (.cells #[.int .i64 q.k0, .int .i64 q.k1, .int .i64 q.k2, .int .i64 q.a0, .int .i64 q.a1, .int .i64 q.a2, .slice q.ta q.tl q.tc, .int .i64 q.per, .int .i64 q.ret, .int .i64 q.age, .int .i64 q.dead] 57)).cell? ⟨w.heap.size + 1, 5, none⟩ = some (.int .i64 q.a2) := by first | (simp; done) | (rw [World.cell?_alloc_at _ _ _ _ (by simp)]; rfl) | (rw [World.cell?_alloc_past _ _ _ (by simp <;> omega), World.cell?_alloc_at _ _ _ _ (by simp)]; rfl) | (rw [World.cell?_alloc_past _ _ _ (by simp <;> omega), World.cell?_alloc_past _ _ _ (by simp <;> omega), World.cell?_alloc_at _ _ _ _ (by simp)]; rfl)
  have cc6 : ((w.alloc (.cells #[.int .i64 r, .slice a L.length c, .bool o.a, .bool o.b, .bool o.c] 25)).alloc (.cells #[.int .i64 q.k0, .int .i64 q.k1, .int .i64 q.k2, .int .i64 q.a0, .int .i64 q.a1, .int .i64 q.a2, .slice q.ta q.tl q.tc, .int .i64 q.per, .int .i64 q.ret, .int .i64 q.age, .int .i64 q.dead] 57)).cell? ⟨w.heap.size + 1, 6, none⟩ = some (.slice q.ta q.tl q.tc) := by first | (simp; done) | (rw [World.cell?_alloc_at _ _ _ _ (by simp)]; rfl) | (rw [World.cell?_alloc_past _ _ _ (by simp <;> omega), World.cell?_alloc_at _ _ _ _ (by simp)]; rfl) | (rw [World.cell?_alloc_past _ _ _ (by simp <;> omega), World.cell?_alloc_past _ _ _ (by simp <;> omega), World.cell?_alloc_at _ _ _ _ (by simp)]; rfl)
  have cc7 : ((w.alloc (.cells #[.int .i64 r, .slice a L.length c, .bool o.a, .bool o.b, .bool o.c] 25)).alloc (.cells #[.int .i64 q.k0, .int .i64 q.k1, .int .i64 q.k2, .int .i64 q.a0, .int .i64 q.a1, .int .i64 q.a2, .slice q.ta q.tl q.tc, .int .i64 q.per, .int .i64 q.ret, .int .i64 q.age, .int .i64 q.dead] 57)).cell? ⟨w.heap.size + 1, 7, none⟩ = some (.int .i64 q.per) := by first | (simp; done) | (rw [World.cell?_alloc_at _ _ _ _ (by simp)]; rfl) | (rw [World.cell?_alloc_past _ _ _ (by simp <;> omega), World.cell?_alloc_at _ _ _ _ (by simp)]; rfl) | (rw [World.cell?_alloc_past _ _ _ (by simp <;> omega), World.cell?_alloc_past _ _ _ (by simp <;> omega), World.cell?_alloc_at _ _ _ _ (by simp)]; rfl)
  have cc8 : ((w.alloc (.cells #[.int .i64 r, .slice a L.length c, .bool o.a, .bool o.b, .bool o.c] 25)).alloc (.cells #[.int .i64 q.k0, .int .i64 q.k1, .int .i64 q.k2, .int .i64 q.a0, .int .i64 q.a1, .int .i64 q.a2, .slice q.ta q.tl q.tc, .int .i64 q.per, .int .i64 q.ret, .int .i64 q.age, .int .i64 q.dead] 57)).cell? ⟨w.heap.size + 1, 8, none⟩ = some (.int .i64 q.ret) := by first | (simp; done) | (rw [World.cell?_alloc_at _ _ _ _ (by simp)]; rfl) | (rw [World.cell?_alloc_past _ _ _ (by simp <;> omega), World.cell?_alloc_at _ _ _ _ (by simp)]; rfl) | (rw [World.cell?_alloc_past _ _ _ (by simp <;> omega), World.cell?_alloc_past _ _ _ (by simp <;> omega), World.cell?_alloc_at _ _ _ _ (by simp)]; rfl)
  have cc9 : ((w.alloc (.cells #[.int .i64 r, .slice a L.length c, .bool o.a, .bool o.b, .bool o.c] 25)).alloc (.cells #[.int .i64 q.k0, .int .i64 q.k1, .int .i64 q.k2, .int .i64 q.a0, .int .i64 q.a1, .int .i64 q.a2, .slice q.ta q.tl q.tc, .int .i64 q.per, .int .i64 q.ret, .int .i64 q.age, .int .i64 q.dead] 57)).cell? ⟨w.heap.size + 1, 9, none⟩ = some (.int .i64 q.age) := by first | (simp; done) | (rw [World.cell?_alloc_at _ _ _ _ (by simp)]; rfl) | (rw [World.cell?_alloc_past _ _ _ (by simp <;> omega), World.cell?_alloc_at _ _ _ _ (by simp)]; rfl) | (rw [World.cell?_alloc_past _ _ _ (by simp <;> omega), World.cell?_alloc_past _ _ _ (by simp <;> omega), World.cell?_alloc_at _ _ _ _ (by simp)]; rfl)
  have cc10 : ((w.alloc (.cells #[.int .i64 r, .slice a L.length c, .bool o.a, .bool o.b, .bool o.c] 25)).alloc (.cells #[.int .i64 q.k0, .int .i64 q.k1, .int .i64 q.k2, .int .i64 q.a0, .int .i64 q.a1, .int .i64 q.a2, .slice q.ta q.tl q.tc, .int .i64 q.per, .int .i64 q.ret, .int .i64 q.age, .int .i64 q.dead] 57)).cell? ⟨w.heap.size + 1, 10, none⟩ = some (.int .i64 q.dead) := by first | (simp; done) | (rw [World.cell?_alloc_at _ _ _ _ (by simp)]; rfl) | (rw [World.cell?_alloc_past _ _ _ (by simp <;> omega), World.cell?_alloc_at _ _ _ _ (by simp)]; rfl) | (rw [World.cell?_alloc_past _ _ _ (by simp <;> omega), World.cell?_alloc_past _ _ _ (by simp <;> omega), World.cell?_alloc_at _ _ _ _ (by simp)]; rfl)
  have hb2 := (by repeat (first | exact hbel | refine belAlloc ?_ _ | refine belDrew ?_ | refine belSet ?_ _ _ (by simp)) : Below w.heap.size w ((w.alloc (.cells #[.int .i64 r, .slice a L.length c, .bool o.a, .bool o.b, .bool o.c] 25)).alloc (.cells #[.int .i64 q.k0, .int .i64 q.k1, .int .i64 q.k2, .int .i64 q.a0, .int .i64 q.a1, .int .i64 q.a2, .slice q.ta q.tl q.tc, .int .i64 q.per, .int .i64 q.ret, .int .i64 q.age, .int .i64 q.dead] 57)))
  replace hw := belStep hw hb2
  clear hb2 hbel
  generalize (w.alloc (.cells #[.int .i64 r, .slice a L.length c, .bool o.a, .bool o.b, .bool o.c] 25)).alloc (.cells #[.int .i64 q.k0, .int .i64 q.k1, .int .i64 q.k2, .int .i64 q.a0, .int .i64 q.a1, .int .i64 q.a2, .slice q.ta q.tl q.tc, .int .i64 q.per, .int .i64 q.ret, .int .i64 q.age, .int .i64 q.dead] 57) = W1 at *
  replace ss0 := keep ss0
  replace ss1 := keep ss1
  replace ss2 := keep ss2
  replace ss3 := keep ss3
  replace ss4 := keep ss4
  replace cc0 := keep cc0
  replace cc1 := keep cc1
  replace cc2 := keep cc2
  replace cc3 := keep cc3
  replace cc4 := keep cc4
  replace cc5 := keep cc5
  replace cc6 := keep cc6
  replace cc7 := keep cc7
  replace cc8 := keep cc8
  replace cc9 := keep cc9
  replace cc10 := keep cc10
  have hbel : Below W1.heap.size W1 W1 := Below.refl _ _
  skip
  have HW1 := Lib.hid hw
  clear hw
  have hb0 : Below W1.heap.size W1 W1 := Below.refl _ _
  go_wp2
  clear hbel cc0 cc1 cc2 cc6 cc7 cc8 cc9 cc10
  go_loopw [5, 11] (fun s i wr => ∃ k : Nat, k ≤ L.length ∧ i = .int .i64 k ∧ OwnR wr W1.heap.size 44 11 s (podsOf (L.take k)).length ((podsOf (L.take k)).flatMap PodV.cells) ∧ Below W1.heap.size W1 wr) (fun _ i _ => L.length - (intOf i).toNat)
  case atStart => exact ⟨0, Nat.zero_le _, rfl, OwnR.nil _ _ _ _, hb0⟩
  case round =>
    obtain ⟨k, hk, rfl, hS, hbr⟩ := hrel
    clear hb0
    have HRW := Lib.hid (HR.out.later (belStep HW1.out hbr))
    have s1 := keepOn ss1 hbr
    have c39 := keepOn cc3 hbr
    have c49 := keepOn cc4 hbr
    have c59 := keepOn cc5 hbr
    have hbel : Below wr.heap.size wr wr := Below.refl _ _
    have hw := hbel
    have HB9 := Lib.hid hbr
    clear hbr
    by_cases hlt : k < L.length
    · have hd : decide ((k : Int) < (L.length : Int)) = true := decide_eq_true (by omega)
      have hki : (k : Int) < (L.length : Int) := by omega
      have hk0 : (0 : Int) ≤ (k : Int) := by omega
      obtain ⟨x, hx⟩ : ∃ x, L[k]? = some x := ⟨L[k]'(hlt), List.getElem?_eq_getElem _⟩
      obtain ⟨bc, oc, ec, _, hcc⟩ := (HRW.out).elem EntV.cells_len (by omega) hx
      subst ec
      have c0 := keep (hcc 0 _ rfl)
      have c1 := keep (hcc 1 _ rfl)
      have c2 := keep (hcc 2 _ rfl)
      have c3 := keep (hcc 3 _ rfl)
      have c4 := keep (hcc 4 _ rfl)
      have c5 := keep (hcc 5 _ rfl)
      have c6 := keep (hcc 6 _ rfl)
      have c7 := keep (hcc 7 _ rfl)
      have c8 := keep (hcc 8 _ rfl)
      have c9 := keep (hcc 9 _ rfl)
      have c10 := keep (hcc 10 _ rfl)
      have c11 := keep (hcc 11 _ rfl)
      rw [Nat.add_zero] at c0
      clear hcc
      have HN := Lib.hid (podsOf_next hx)
      have hpl : (podsOf (L.take k)).length ≤ 100000 := by rw [podsOf_len, List.length_take]; omega
      obtain ⟨N, hN⟩ : ∃ N, podsOf (L.take k) = N := ⟨_, rfl⟩
      rw [hN] at hS HN hpl
      have HS0 := Lib.hid hS
      clear hx hN hS
      go_upto_region 5 with fail
      have ee0 : (wr.alloc (.cells #[.string x.pod.id, .int .i64 x.pod.prio, .bool x.pod.crit, .int .i64 x.pod.r0, .int .i64 x.pod.r1, .int .i64 x.pod.r2, .int .i64 x.pod.l0, .int .i64 x.pod.l1, .int .i64 x.pod.l2, .string x.pod.img, .int .i64 x.pod.size, .int .i64 x.phase] 46)).cell? ⟨wr.heap.size, 0, none⟩ = some (.string x.pod.id) := by first | (simp; done) | (rw [World.cell?_alloc_at _ _ _ _ (by simp)]; rfl) | (rw [World.cell?_alloc_past _ _ _ (by simp <;> omega), World.cell?_alloc_at _ _ _ _ (by simp)]; rfl) | (rw [World.cell?_alloc_past _ _ _ (by simp <;> omega), World.cell?_alloc_past _ _ _ (by simp <;> omega), World.cell?_alloc_at _ _ _ _ (by simp)]; rfl)
      have ee1 : (wr.alloc (.cells #[.string x.pod.id, .int .i64 x.pod.prio, .bool x.pod.crit, .int .i64 x.pod.r0, .int .i64 x.pod.r1, .int .i64 x.pod.r2, .int .i64 x.pod.l0, .int .i64 x.pod.l1, .int .i64 x.pod.l2, .string x.pod.img, .int .i64 x.pod.size, .int .i64 x.phase] 46)).cell? ⟨wr.heap.size, 1, none⟩ = some (.int .i64 x.pod.prio) := by first | (simp; done) | (rw [World.cell?_alloc_at _ _ _ _ (by simp)]; rfl) | (rw [World.cell?_alloc_past _ _ _ (by simp <;> omega), World.cell?_alloc_at _ _ _ _ (by simp)]; rfl) | (rw [World.cell?_alloc_past _ _ _ (by simp <;> omega), World.cell?_alloc_past _ _ _ (by simp <;> omega), World.cell?_alloc_at _ _ _ _ (by simp)]; rfl)
      have ee2 : (wr.alloc (.cells #[.string x.pod.id, .int .i64 x.pod.prio, .bool x.pod.crit, .int .i64 x.pod.r0, .int .i64 x.pod.r1, .int .i64 x.pod.r2, .int .i64 x.pod.l0, .int .i64 x.pod.l1, .int .i64 x.pod.l2, .string x.pod.img, .int .i64 x.pod.size, .int .i64 x.phase] 46)).cell? ⟨wr.heap.size, 2, none⟩ = some (.bool x.pod.crit) := by first | (simp; done) | (rw [World.cell?_alloc_at _ _ _ _ (by simp)]; rfl) | (rw [World.cell?_alloc_past _ _ _ (by simp <;> omega), World.cell?_alloc_at _ _ _ _ (by simp)]; rfl) | (rw [World.cell?_alloc_past _ _ _ (by simp <;> omega), World.cell?_alloc_past _ _ _ (by simp <;> omega), World.cell?_alloc_at _ _ _ _ (by simp)]; rfl)
      have ee3 : (wr.alloc (.cells #[.string x.pod.id, .int .i64 x.pod.prio, .bool x.pod.crit, .int .i64 x.pod.r0, .int .i64 x.pod.r1, .int .i64 x.pod.r2, .int .i64 x.pod.l0, .int .i64 x.pod.l1, .int .i64 x.pod.l2, .string x.pod.img, .int .i64 x.pod.size, .int .i64 x.phase] 46)).cell? ⟨wr.heap.size, 3, none⟩ = some (.int .i64 x.pod.r0) := by first | (simp; done) | (rw [World.cell?_alloc_at _ _ _ _ (by simp)]; rfl) | (rw [World.cell?_alloc_past _ _ _ (by simp <;> omega), World.cell?_alloc_at _ _ _ _ (by simp)]; rfl) | (rw [World.cell?_alloc_past _ _ _ (by simp <;> omega), World.cell?_alloc_past _ _ _ (by simp <;> omega), World.cell?_alloc_at _ _ _ _ (by simp)]; rfl)
      have ee4 : (wr.alloc (.cells #[.string x.pod.id, .int .i64 x.pod.prio, .bool x.pod.crit, .int .i64 x.pod.r0, .int .i64 x.pod.r1, .int .i64 x.pod.r2, .int .i64 x.pod.l0, .int .i64 x.pod.l1, .int .i64 x.pod.l2, .string x.pod.img, .int .i64 x.pod.size, .int .i64 x.phase] 46)).cell? ⟨wr.heap.size, 4, none⟩ = some (.int .i64 x.pod.r1) := by first | (simp; done) | (rw [World.cell?_alloc_at _ _ _ _ (by simp)]; rfl) | (rw [World.cell?_alloc_past _ _ _ (by simp <;> omega), World.cell?_alloc_at _ _ _ _ (by simp)]; rfl) | (rw [World.cell?_alloc_past _ _ _ (by simp <;> omega), World.cell?_alloc_past _ _ _ (by simp <;> omega), World.cell?_alloc_at _ _ _ _ (by simp)]; rfl)
      have ee5 : (wr.alloc (.cells #[.string x.pod.id, .int .i64 x.pod.prio, .bool x.pod.crit, .int .i64 x.pod.r0, .int .i64 x.pod.r1, .int .i64 x.pod.r2, .int .i64 x.pod.l0, .int .i64 x.pod.l1, .int .i64 x.pod.l2, .string x.pod.img, .int .i64 x.pod.size, .int .i64 x.phase] 46)).cell? ⟨wr.heap.size, 5, none⟩ = some (.int .i64 x.pod.r2) := by first | (simp; done) | (rw [World.cell?_alloc_at _ _ _ _ (by simp)]; rfl) | (rw [World.cell?_alloc_past _ _ _ (by simp <;> omega), World.cell?_alloc_at _ _ _ _ (by simp)]; rfl) | (rw [World.cell?_alloc_past _ _ _ (by simp <;> omega), World.cell?_alloc_past _ _ _ (by simp <;> omega), World.cell?_alloc_at _ _ _ _ (by simp)]; rfl)
      have ee6 : (wr.alloc (.cells #[.string x.pod.id, .int .i64 x.pod.prio, .bool x.pod.crit, .int .i64 x.pod.r0, .int .i64 x.pod.r1, .int .i64 x.pod.r2, .int .i64 x.pod.l0, .int .i64 x.pod.l1, .int .i64 x.pod.l2, .string x.pod.img, .int .i64 x.pod.size, .int .i64 x.phase] 46)).cell? ⟨wr.heap.size, 6, none⟩ = some (.int .i64 x.pod.l0) := by first | (simp; done) | (rw [World.cell?_alloc_at _ _ _ _ (by simp)]; rfl) | (rw [World.cell?_alloc_past _ _ _ (by simp <;> omega), World.cell?_alloc_at _ _ _ _ (by simp)]; rfl) | (rw [World.cell?_alloc_past _ _ _ (by simp <;> omega), World.cell?_alloc_past _ _ _ (by simp <;> omega), World.cell?_alloc_at _ _ _ _ (by simp)]; rfl)
      have ee7 : (wr.alloc (.cells #[.string x.pod.id, .int .i64 x.pod.prio, .bool x.pod.crit, .int .i64 x.pod.r0, .int .i64 x.pod.r1, .int .i64 x.pod.r2, .int .i64 x.pod.l0, .int .i64 x.pod.l1, .int .i64 x.pod.l2, .string x.pod.img, .int .i64 x.pod.size, .int .i64 x.phase] 46)).cell? ⟨wr.heap.size, 7, none⟩ = some (.int .i64 x.pod.l1) := by first | (simp; done) | (rw [World.cell?_alloc_at _ _ _ _ (by simp)]; rfl) | (rw [World.cell?_alloc_past _ _ _ (by simp <;> omega), World.cell?_alloc_at _ _ _ _ (by simp)]; rfl) | (rw [World.cell?_alloc_past _ _ _ (by simp <;> omega), World.cell?_alloc_past _ _ _ (by simp <;> omega), World.cell?_alloc_at _ _ _ _ (by simp)]; rfl)
      have ee8 : (wr.alloc (.cells #[.string x.pod.id, .int .i64 x.pod.prio, .bool x.pod.crit, .int .i64 x.pod.r0, .int .i64 x.pod.r1, .int .i64 x.pod.r2, .int .i64 x.pod.l0, .int .i64 x.pod.l1, .int .i64 x.pod.l2, .string x.pod.img, .int .i64 x.pod.size, .int .i64 x.phase] 46)).cell? ⟨wr.heap.size, 8, none⟩ = some (.int .i64 x.pod.l2) := by first | (simp; done) | (rw [World.cell?_alloc_at _ _ _ _ (by simp)]; rfl) | (rw [World.cell?_alloc_past _ _ _ (by simp <;> omega), World.cell?_alloc_at _ _ _ _ (by simp)]; rfl) | (rw [World.cell?_alloc_past _ _ _ (by simp <;> omega), World.cell?_alloc_past _ _ _ (by simp <;> omega), World.cell?_alloc_at _ _ _ _ (by simp)]; rfl)
      have ee9 : (wr.alloc (.cells #[.string x.pod.id, .int .i64 x.pod.prio, .bool x.pod.crit, .int .i64 x.pod.r0, .int .i64 x.pod.r1, .int .i64 x.pod.r2, .int .i64 x.pod.l0, .int .i64 x.pod.l1, .int .i64 x.pod.l2, .string x.pod.img, .int .i64 x.pod.size, .int .i64 x.phase] 46)).cell? ⟨wr.heap.size, 9, none⟩ = some (.string x.pod.img) := by first | (simp; done) | (rw [World.cell?_alloc_at _ _ _ _ (by simp)]; rfl) | (rw [World.cell?_alloc_past _ _ _ (by simp <;> omega), World.cell?_alloc_at _ _ _ _ (by simp)]; rfl) | (rw [World.cell?_alloc_past _ _ _ (by simp <;> omega), World.cell?_alloc_past _ _ _ (by simp <;> omega), World.cell?_alloc_at _ _ _ _ (by simp)]; rfl)
      have ee10 : (wr.alloc (.cells #[.string x.pod.id, .int .i64 x.pod.prio, .bool x.pod.crit, .int .i64 x.pod.r0, .int .i64 x.pod.r1, .int .i64 x.pod.r2, .int .i64 x.pod.l0, .int .i64 x.pod.l1, .int .i64 x.pod.l2, .string x.pod.img, .int .i64 x.pod.size, .int .i64 x.phase] 46)).cell? ⟨wr.heap.size, 10, none⟩ = some (.int .i64 x.pod.size) := by first | (simp; done) | (rw [World.cell?_alloc_at _ _ _ _ (by simp)]; rfl) | (rw [World.cell?_alloc_past _ _ _ (by simp <;> omega), World.cell?_alloc_at _ _ _ _ (by simp)]; rfl) | (rw [World.cell?_alloc_past _ _ _ (by simp <;> omega), World.cell?_alloc_past _ _ _ (by simp <;> omega), World.cell?_alloc_at _ _ _ _ (by simp)]; rfl)
      have ee11 : (wr.alloc (.cells #[.string x.pod.id, .int .i64 x.pod.prio, .bool x.pod.crit, .int .i64 x.pod.r0, .int .i64 x.pod.r1, .int .i64 x.pod.r2, .int .i64 x.pod.l0, .int .i64 x.pod.l1, .int .i64 x.pod.l2, .string x.pod.img, .int .i64 x.pod.size, .int .i64 x.phase] 46)).cell? ⟨wr.heap.size, 11, none⟩ = some (.int .i64 x.phase) := by first | (simp; done) | (rw [World.cell?_alloc_at _ _ _ _ (by simp)]; rfl) | (rw [World.cell?_alloc_past _ _ _ (by simp <;> omega), World.cell?_alloc_at _ _ _ _ (by simp)]; rfl) | (rw [World.cell?_alloc_past _ _ _ (by simp <;> omega), World.cell?_alloc_past _ _ _ (by simp <;> omega), World.cell?_alloc_at _ _ _ _ (by simp)]; rfl)
      have hb2 := (by repeat (first | exact hbel | refine belAlloc ?_ _ | refine belDrew ?_ | refine belSet ?_ _ _ (by simp)) : Below wr.heap.size wr (wr.alloc (.cells #[.string x.pod.id, .int .i64 x.pod.prio, .bool x.pod.crit, .int .i64 x.pod.r0, .int .i64 x.pod.r1, .int .i64 x.pod.r2, .int .i64 x.pod.l0, .int .i64 x.pod.l1, .int .i64 x.pod.l2, .string x.pod.img, .int .i64 x.pod.size, .int .i64 x.phase] 46)))
      replace hw := belStep hw hb2
      clear hb2 hbel
      generalize wr.alloc (.cells #[.string x.pod.id, .int .i64 x.pod.prio, .bool x.pod.crit, .int .i64 x.pod.r0, .int .i64 x.pod.r1, .int .i64 x.pod.r2, .int .i64 x.pod.l0, .int .i64 x.pod.l1, .int .i64 x.pod.l2, .string x.pod.img, .int .i64 x.pod.size, .int .i64 x.phase] 46) = W2 at *
      replace ee0 := keep ee0
      replace ee1 := keep ee1
      replace ee2 := keep ee2
      replace ee3 := keep ee3
      replace ee4 := keep ee4
      replace ee5 := keep ee5
      replace ee6 := keep ee6
      replace ee7 := keep ee7
      replace ee8 := keep ee8
      replace ee9 := keep ee9
      replace ee10 := keep ee10
      replace ee11 := keep ee11
      have hbel : Below W2.heap.size W2 W2 := Below.refl _ _
      skip
      have HW2 := Lib.hid hw
      have HS1 := Lib.hid (HS0.out.later hw)
      have hbw2 : W1.heap.size ≤ W2.heap.size := by have h1 := HB9.out.size; have h2 := hw.size; omega
      have HS2 := Lib.hid (OwnR.alloc HS1.out (.cells #[.string x.pod.id, .int .i64 x.pod.prio, .bool x.pod.crit, .int .i64 x.pod.r0, .int .i64 x.pod.r1, .int .i64 x.pod.r2, .int .i64 x.pod.l0, .int .i64 x.pod.l1, .int .i64 x.pod.l2, .string x.pod.img, .int .i64 x.pod.size] 44))
      have HRX := Lib.hid (row_new W2 (x.pod).cells 44 1 11 rfl (by unfold maxLen; omega))
      clear hw
      go_wp2_with (at_builtin; refine wpList_app_row rfl _ _ 61 rfl W1.heap.size 44 _ 11 104 Try.underlying61 info_pod rfl (by decide) _ _ _ rfl HS2.out _ 1 1 (x.pod).cells rfl HRX.out (pod_one _) ?c1 ?c2 ?c3 ?_)
      case c1 => simp only [maxLen]; omega
      case c2 => omega
      case c3 => simp; omega
      intro v' w2 ho' hb' _
      have HO2 := Lib.hid (own_snocP ho')
      have HB2 := Lib.hid ((HB9.out.trans (HW2.out.mono HB9.out.size)).trans (((belAlloc (Below.refl _ _) (.cells #[.string x.pod.id, .int .i64 x.pod.prio, .bool x.pod.crit, .int .i64 x.pod.r0, .int .i64 x.pod.r1, .int .i64 x.pod.r2, .int .i64 x.pod.l0, .int .i64 x.pod.l1, .int .i64 x.pod.l2, .string x.pod.img, .int .i64 x.pod.size] 44)).mono hbw2).trans hb'))
      clear ho' hb'
      go_wp2
      go_roundw
      case rel => exact ⟨k + 1, by omega, by push_cast; rfl, by rw [HN.out]; exact HO2.out, HB2.out⟩
      case measure => simp [intOf] <;> omega
    · obtain rfl : k = L.length := by omega
      have hd : decide ((L.length : Int) < (L.length : Int)) = false := decide_eq_false (by omega)
      rw [List.take_length] at hS
      obtain ⟨sa, sC, rfl, hrow⟩ := rowR_of_own hS
      have CF := Lib.hid (vic_Fits ⟨q.a0, q.a1, q.a2⟩ sa (podsOf L).length sC (podsOf L) wr rfl (podsOf_ok HOK.out) hrow)
      clear hS hrow
      go_wp2_with (go_at_call 48; (with_reducible refine (CF.out).mono ?_); rintro e w5 ⟨rfl, hb5⟩)
      go_ret
      exact ⟨rfl, belStep HW1.out (belStep HB9.out hb5)⟩
end Go.Proofs.Ytpmkhimmlpnbpaa
