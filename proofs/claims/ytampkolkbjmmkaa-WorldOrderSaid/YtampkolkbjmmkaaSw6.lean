
/- Stage 22: sweep.up, down; slices.IndexFunc, DeleteFunc at containers: contracts. -/
import Derived.Test.YtampkolkbjmmkaaSw4
namespace Go.Proofs.Ytampkolkbjmmkaa
open Go.RowKit Go.Sort
set_option linter.unusedVariables false
set_option linter.unusedSimpArgs false
def upB (x : ContV) : Bool := x.state == 3
def fstP (p : ContV → Bool) (L : List ContV) : Int := if L.any p then ((L.takeWhile fun x => !p x).length : Int) else -1
theorem any_next {p : ContV → Bool} {L : List ContV} {k : Nat} {x : ContV} (h : L[k]? = some x) : (L.take (k + 1)).any p = ((L.take k).any p || p x) := by
  rw [List.take_add_one, h, List.any_append]; simp
theorem fst_at {p : ContV → Bool} {L : List ContV} {k : Nat} {x : ContV} (hx : L[k]? = some x) (he : p x = true) (hlo : (L.take k).any p = false) : fstP p L = (k : Int) := by
  have ht : L.any p = true := List.any_eq_true.2 ⟨x, List.mem_of_getElem? hx, he⟩
  have hk := (List.getElem?_eq_some_iff.1 hx).1
  unfold fstP
  rw [if_pos ht]
  congr 1
  conv => lhs; rw [← List.take_append_drop k L]
  rw [List.takeWhile_append_of_pos, List.length_append, List.length_take, Nat.min_eq_left (by omega), List.drop_eq_getElem_cons hk, (List.getElem?_eq_some_iff.1 hx).2, List.takeWhile_cons_of_neg (by rw [he]; simp)]
  · rfl
  · intro y hy
    have := List.any_eq_false.1 hlo y hy
    simpa using this
theorem fst_no {p : ContV → Bool} {L : List ContV} (h : L.any p = false) : fstP p L = -1 := by unfold fstP; rw [if_neg (by rw [h]; simp)]
/-- The first one: where it stands; those ahead are kept. -/
theorem fst_split {p : ContV → Bool} : ∀ {L : List ContV}, L.any p = true → ∃ k x, L[k]? = some x ∧ p x = true ∧ (L.take k).any p = false
  | [], h => by cases h
  | a :: L, h => by
    cases ha : p a with
    | true => exact ⟨0, a, rfl, ha, rfl⟩
    | false =>
      rw [List.any_cons, ha, Bool.false_or] at h
      obtain ⟨k, x, h1, h2, h3⟩ := fst_split h
      exact ⟨k + 1, x, h1, h2, by rw [List.take_succ_cons, List.any_cons, ha, h3]; rfl⟩
theorem own_setC {w : World} {B g n cap i : Nat} {L : List ContV} {x z : ContV} (h : OwnR w B 35 4 (.slice (some ⟨g, 0, none⟩) n cap) n (L.flatMap ContV.cells)) (hz : L[i]? = some z) :
    OwnR ((((w.setCell ⟨g, i * 4, none⟩ (.string x.id)).setCell ⟨g, i * 4 + 1, none⟩ (.int .i64 x.state)).setCell ⟨g, i * 4 + 2, none⟩ (.int .i64 x.tries)).setCell ⟨g, i * 4 + 3, none⟩ (.int .i64 x.last)) B 35 4 (.slice (some ⟨g, 0, none⟩) n cap) n ((L.set i x).flatMap ContV.cells) := by
  have hi := (List.getElem?_eq_some_iff.1 hz).1
  have at_ : ∀ (y : ContV) (M : List ContV), M.length = L.length → (M.set i y)[i]? = some y := fun y M hM => by rw [List.getElem?_set_self (by omega)]
  have h1 := (World.ownsRow.stored h (i * 4 + 0) (.string x.id)).1
  rw [flat_setc ContV.cells_len (by omega) (y := { z with id := x.id }) rfl hz] at h1
  have h2 := (World.ownsRow.stored h1 (i * 4 + 1) (.int .i64 x.state)).1
  rw [flat_setc ContV.cells_len (by omega) (x := { z with id := x.id }) (y := { z with id := x.id, state := x.state }) rfl (at_ _ L rfl), List.set_set] at h2
  have h3 := (World.ownsRow.stored h2 (i * 4 + 2) (.int .i64 x.tries)).1
  rw [flat_setc ContV.cells_len (by omega) (x := { z with id := x.id, state := x.state }) (y := { z with id := x.id, state := x.state, tries := x.tries }) rfl (at_ _ L rfl), List.set_set] at h3
  have h4 := (World.ownsRow.stored h3 (i * 4 + 3) (.int .i64 x.last)).1
  rw [flat_setc ContV.cells_len (by omega) (x := { z with id := x.id, state := x.state, tries := x.tries }) (y := x) rfl (at_ _ L rfl), List.set_set] at h4
  exact h4
theorem take_set_one {L : List ContV} {i : Nat} {x : ContV} (h : i < L.length) : (L.set i x).take (i + 1) = L.take i ++ [x] := by
  rw [List.take_add_one, List.getElem?_set_self h, List.take_set_of_le (Nat.le_refl _)]; rfl
theorem own_frozenC {w : World} {B g n cap : Nat} {cs : List Value} (h : OwnR w B 35 4 (.slice (some ⟨g, 0, none⟩) n cap) n cs) (q : Nat) : w.frozen? ⟨g, q, none⟩ = false := by
  rcases own_open h with ⟨h0, _, _⟩ | ⟨g2, cap2, C2, h0, _, h2, _⟩
  · cases h0
  · simp only [Value.slice.injEq, Option.some.injEq, Addr.mk.injEq, and_true, true_and] at h0
    obtain ⟨rfl, _⟩ := h0
    exact Blk.frozen h2 q
set_option maxRecDepth 100000 in
set_option maxHeartbeats 16000000 in
theorem sw_up (x : ContV) (w : World) :
    Calls Try.prog 58 #[.agg #[.string x.id, .int .i64 x.state, .int .i64 x.tries, .int .i64 x.last]] w fun e w' => e = .returned (.bool (upB x)) ∧ Below w.heap.size w w' := by
  have hw : Below w.heap.size w w := Below.refl _ _
  have hbel := hw
  have HS := Lib.hid (show upB x = (x.state == 3) from rfl)
  go_enter Try.func58, Try.ntmps58
  go_upto_region 1 with fail
  have cc0 : (w.alloc (.cells #[.string x.id, .int .i64 x.state, .int .i64 x.tries, .int .i64 x.last] 35)).cell? ⟨w.heap.size, 0, none⟩ = some (.string x.id) := by first | (simp; done) | (rw [World.cell?_alloc_at _ _ _ _ (by simp)]; rfl) | (rw [World.cell?_alloc_past _ _ _ (by simp <;> omega), World.cell?_alloc_at _ _ _ _ (by simp)]; rfl) | (rw [World.cell?_alloc_past _ _ _ (by simp <;> omega), World.cell?_alloc_past _ _ _ (by simp <;> omega), World.cell?_alloc_at _ _ _ _ (by simp)]; rfl)
  have cc1 : (w.alloc (.cells #[.string x.id, .int .i64 x.state, .int .i64 x.tries, .int .i64 x.last] 35)).cell? ⟨w.heap.size, 1, none⟩ = some (.int .i64 x.state) := by first | (simp; done) | (rw [World.cell?_alloc_at _ _ _ _ (by simp)]; rfl) | (rw [World.cell?_alloc_past _ _ _ (by simp <;> omega), World.cell?_alloc_at _ _ _ _ (by simp)]; rfl) | (rw [World.cell?_alloc_past _ _ _ (by simp <;> omega), World.cell?_alloc_past _ _ _ (by simp <;> omega), World.cell?_alloc_at _ _ _ _ (by simp)]; rfl)
  have cc2 : (w.alloc (.cells #[.string x.id, .int .i64 x.state, .int .i64 x.tries, .int .i64 x.last] 35)).cell? ⟨w.heap.size, 2, none⟩ = some (.int .i64 x.tries) := by first | (simp; done) | (rw [World.cell?_alloc_at _ _ _ _ (by simp)]; rfl) | (rw [World.cell?_alloc_past _ _ _ (by simp <;> omega), World.cell?_alloc_at _ _ _ _ (by simp)]; rfl) | (rw [World.cell?_alloc_past _ _ _ (by simp <;> omega), World.cell?_alloc_past _ _ _ (by simp <;> omega), World.cell?_alloc_at _ _ _ _ (by simp)]; rfl)
  have cc3 : (w.alloc (.cells #[.string x.id, .int .i64 x.state, .int .i64 x.tries, .int .i64 x.last] 35)).cell? ⟨w.heap.size, 3, none⟩ = some (.int .i64 x.last) := by first | (simp; done) | (rw [World.cell?_alloc_at _ _ _ _ (by simp)]; rfl) | (rw [World.cell?_alloc_past _ _ _ (by simp <;> omega), World.cell?_alloc_at _ _ _ _ (by simp)]; rfl) | (rw [World.cell?_alloc_past _ _ _ (by simp <;> omega), World.cell?_alloc_past _ _ _ (by simp <;> omega), World.cell?_alloc_at _ _ _ _ (by simp)]; rfl)
  have hb2 := (by repeat (first | exact hbel | refine belAlloc ?_ _ | refine belDrew ?_ | refine belSet ?_ _ _ (by simp)) : Below w.heap.size w (w.alloc (.cells #[.string x.id, .int .i64 x.state, .int .i64 x.tries, .int .i64 x.last] 35)))
  replace hw := belStep hw hb2
  clear hb2 hbel
  generalize w.alloc (.cells #[.string x.id, .int .i64 x.state, .int .i64 x.tries, .int .i64 x.last] 35) = W1 at *
  replace cc0 := keep cc0
  replace cc1 := keep cc1
  replace cc2 := keep cc2
  replace cc3 := keep cc3
  have hbel : Below W1.heap.size W1 W1 := Below.refl _ _
  skip
  go_wp2
  go_ret
  exact ⟨by rw [HS.out] <;> rfl, belStep hw hbel⟩
set_option maxRecDepth 100000 in
set_option maxHeartbeats 16000000 in
theorem sw_down (x : ContV) (w : World) :
    Calls Try.prog 56 #[.agg #[.string x.id, .int .i64 x.state, .int .i64 x.tries, .int .i64 x.last]] w fun e w' => e = .returned (.bool (!upB x)) ∧ Below w.heap.size w w' := by
  have hw : Below w.heap.size w w := Below.refl _ _
  have hbel := hw
  have CU := Lib.hid (fun u => sw_up x u)
  obtain ⟨p, hp⟩ : ∃ p, upB x = p := ⟨_, rfl⟩
  rw [hp] at CU
  have HP := Lib.hid hp
  clear hp
  go_enter Try.func56, Try.ntmps56
  go_upto_region 1 with fail
  have cc0 : (w.alloc (.cells #[.string x.id, .int .i64 x.state, .int .i64 x.tries, .int .i64 x.last] 35)).cell? ⟨w.heap.size, 0, none⟩ = some (.string x.id) := by first | (simp; done) | (rw [World.cell?_alloc_at _ _ _ _ (by simp)]; rfl) | (rw [World.cell?_alloc_past _ _ _ (by simp <;> omega), World.cell?_alloc_at _ _ _ _ (by simp)]; rfl) | (rw [World.cell?_alloc_past _ _ _ (by simp <;> omega), World.cell?_alloc_past _ _ _ (by simp <;> omega), World.cell?_alloc_at _ _ _ _ (by simp)]; rfl)
  have cc1 : (w.alloc (.cells #[.string x.id, .int .i64 x.state, .int .i64 x.tries, .int .i64 x.last] 35)).cell? ⟨w.heap.size, 1, none⟩ = some (.int .i64 x.state) := by first | (simp; done) | (rw [World.cell?_alloc_at _ _ _ _ (by simp)]; rfl) | (rw [World.cell?_alloc_past _ _ _ (by simp <;> omega), World.cell?_alloc_at _ _ _ _ (by simp)]; rfl) | (rw [World.cell?_alloc_past _ _ _ (by simp <;> omega), World.cell?_alloc_past _ _ _ (by simp <;> omega), World.cell?_alloc_at _ _ _ _ (by simp)]; rfl)
  have cc2 : (w.alloc (.cells #[.string x.id, .int .i64 x.state, .int .i64 x.tries, .int .i64 x.last] 35)).cell? ⟨w.heap.size, 2, none⟩ = some (.int .i64 x.tries) := by first | (simp; done) | (rw [World.cell?_alloc_at _ _ _ _ (by simp)]; rfl) | (rw [World.cell?_alloc_past _ _ _ (by simp <;> omega), World.cell?_alloc_at _ _ _ _ (by simp)]; rfl) | (rw [World.cell?_alloc_past _ _ _ (by simp <;> omega), World.cell?_alloc_past _ _ _ (by simp <;> omega), World.cell?_alloc_at _ _ _ _ (by simp)]; rfl)
  have cc3 : (w.alloc (.cells #[.string x.id, .int .i64 x.state, .int .i64 x.tries, .int .i64 x.last] 35)).cell? ⟨w.heap.size, 3, none⟩ = some (.int .i64 x.last) := by first | (simp; done) | (rw [World.cell?_alloc_at _ _ _ _ (by simp)]; rfl) | (rw [World.cell?_alloc_past _ _ _ (by simp <;> omega), World.cell?_alloc_at _ _ _ _ (by simp)]; rfl) | (rw [World.cell?_alloc_past _ _ _ (by simp <;> omega), World.cell?_alloc_past _ _ _ (by simp <;> omega), World.cell?_alloc_at _ _ _ _ (by simp)]; rfl)
  have hb2 := (by repeat (first | exact hbel | refine belAlloc ?_ _ | refine belDrew ?_ | refine belSet ?_ _ _ (by simp)) : Below w.heap.size w (w.alloc (.cells #[.string x.id, .int .i64 x.state, .int .i64 x.tries, .int .i64 x.last] 35)))
  replace hw := belStep hw hb2
  clear hb2 hbel
  generalize w.alloc (.cells #[.string x.id, .int .i64 x.state, .int .i64 x.tries, .int .i64 x.last] 35) = W1 at *
  replace cc0 := keep cc0
  replace cc1 := keep cc1
  replace cc2 := keep cc2
  replace cc3 := keep cc3
  have hbel : Below W1.heap.size W1 W1 := Below.refl _ _
  skip
  go_wp2_with (go_at_call 58; (with_reducible refine (CU.out _).mono ?_); rintro e w1 ⟨rfl, hb1⟩; replace hbel := belStep hbel hb1; clear hb1)
  go_ret
  exact ⟨by rw [HP.out] <;> rfl, belStep hw hbel⟩
set_option maxRecDepth 100000 in
set_option maxHeartbeats 16000000 in
theorem sw_Index_up (a : Option Addr) (len cap : Nat) (L : List ContV) (w : World) (hl : L.length = len) (hR : Row w a len cap 4 (L.flatMap ContV.cells)) :
    Calls Try.prog 89 #[.slice a len cap, .func (.func 58) #[] #[]] w fun e w' => e = .returned (.int .i64 (fstP upB L)) ∧ Below w.heap.size w w' := by
  have hw : Below w.heap.size w w := Below.refl _ _
  have hbd_a : len ≤ cap ∧ cap ≤ 9223372036854775807 := by obtain ⟨_, h1, h2, _⟩ := hR; unfold maxLen at h2; exact ⟨h1, h2⟩
  obtain ⟨hbd1_a, hbd2_a⟩ := hbd_a
  have HR := Lib.hid hR
  clear hR
  subst hl
  go_enter Try.func89, Try.ntmps89
  go_wp2
  go_loopw [8] (fun iv wr => ∃ k : Nat, k ≤ L.length ∧ iv = .int .i64 k ∧ Hid ((L.take k).any upB = false) ∧ Below w.heap.size w wr) (fun iv _ => L.length - (intOf iv).toNat)
  case atStart => exact ⟨0, Nat.zero_le _, rfl, Lib.hid rfl, hw⟩
  case round =>
    clear hw
    obtain ⟨k, hk, rfl, HNO, hbel⟩ := hrel
    by_cases hlt : k < L.length
    · have hd : decide ((k : Int) < (L.length : Int)) = true := decide_eq_true (by omega)
      have hki : (k : Int) < (L.length : Int) := by omega
      have hk0 : (0 : Int) ≤ (k : Int) := by omega
      obtain ⟨x, hx⟩ : ∃ x, L[k]? = some x := ⟨L[k], List.getElem?_eq_getElem hlt⟩
      obtain ⟨bc, oc, ec, _, hcc⟩ := (HR.out).elem ContV.cells_len (by omega) hx
      subst ec
      have c0 := keep (hcc 0 _ rfl)
      have c1 := keep (hcc 1 _ rfl)
      have c2 := keep (hcc 2 _ rfl)
      have c3 := keep (hcc 3 _ rfl)
      rw [Nat.add_zero] at c0
      have HX := Lib.hid hx
      have hn := any_next (p := upB) hx
      rw [HNO.out, Bool.false_or] at hn
      have HN := Lib.hid hn
      clear hx hcc hn
      have CU := Lib.hid (fun u => sw_up x u)
      obtain ⟨p, hp⟩ : ∃ p, upB x = p := ⟨_, rfl⟩
      rw [hp] at CU
      have HP := Lib.hid hp
      clear hp
      skip
      cases p with
      | true =>
        have HF := Lib.hid (fst_at HX.out HP.out HNO.out)
        go_wp2_with (go_at_call 58; (with_reducible refine (CU.out _).mono ?_); rintro e w1 ⟨rfl, hb1⟩; replace hbel := belStep hbel hb1; clear hb1)
        go_ret
        exact ⟨by rw [HF.out]; rfl, hbel⟩
      | false =>
        have HM := Lib.hid (HN.out.trans HP.out)
        go_wp2_with (go_at_call 58; (with_reducible refine (CU.out _).mono ?_); rintro e w1 ⟨rfl, hb1⟩; replace hbel := belStep hbel hb1; clear hb1)
        go_roundw
        case rel => exact ⟨k + 1, by omega, by push_cast; rfl, HM, hbel⟩
        case measure => simp [intOf] <;> omega
    · obtain rfl : k = L.length := by omega
      have hd : decide ((L.length : Int) < (L.length : Int)) = false := decide_eq_false (by omega)
      have HF := Lib.hid (fst_no (show L.any upB = false by have h := HNO.out; rwa [List.take_length] at h))
      go_wp2
      go_ret
      exact ⟨by rw [HF.out]; rfl, hbel⟩
set_option maxRecDepth 100000 in
set_option maxHeartbeats 16000000 in
theorem sw_Index_down (a : Option Addr) (len cap : Nat) (L : List ContV) (w : World) (hl : L.length = len) (hR : Row w a len cap 4 (L.flatMap ContV.cells)) :
    Calls Try.prog 89 #[.slice a len cap, .func (.func 56) #[] #[]] w fun e w' => e = .returned (.int .i64 (fstP (fun x => !upB x) L)) ∧ Below w.heap.size w w' := by
  have hw : Below w.heap.size w w := Below.refl _ _
  have hbd_a : len ≤ cap ∧ cap ≤ 9223372036854775807 := by obtain ⟨_, h1, h2, _⟩ := hR; unfold maxLen at h2; exact ⟨h1, h2⟩
  obtain ⟨hbd1_a, hbd2_a⟩ := hbd_a
  have HR := Lib.hid hR
  clear hR
  subst hl
  go_enter Try.func89, Try.ntmps89
  go_wp2
  go_loopw [8] (fun iv wr => ∃ k : Nat, k ≤ L.length ∧ iv = .int .i64 k ∧ Hid ((L.take k).any (fun x => !upB x) = false) ∧ Below w.heap.size w wr) (fun iv _ => L.length - (intOf iv).toNat)
  case atStart => exact ⟨0, Nat.zero_le _, rfl, Lib.hid rfl, hw⟩
  case round =>
    clear hw
    obtain ⟨k, hk, rfl, HNO, hbel⟩ := hrel
    by_cases hlt : k < L.length
    · have hd : decide ((k : Int) < (L.length : Int)) = true := decide_eq_true (by omega)
      have hki : (k : Int) < (L.length : Int) := by omega
      have hk0 : (0 : Int) ≤ (k : Int) := by omega
      obtain ⟨x, hx⟩ : ∃ x, L[k]? = some x := ⟨L[k], List.getElem?_eq_getElem hlt⟩
      obtain ⟨bc, oc, ec, _, hcc⟩ := (HR.out).elem ContV.cells_len (by omega) hx
      subst ec
      have c0 := keep (hcc 0 _ rfl)
      have c1 := keep (hcc 1 _ rfl)
      have c2 := keep (hcc 2 _ rfl)
      have c3 := keep (hcc 3 _ rfl)
      rw [Nat.add_zero] at c0
      have HX := Lib.hid hx
      have hn := any_next (p := (fun x => !upB x)) hx
      rw [HNO.out, Bool.false_or] at hn
      have HN := Lib.hid hn
      clear hx hcc hn
      have CU := Lib.hid (fun u => sw_down x u)
      obtain ⟨p, hp⟩ : ∃ p, (fun x => !upB x) x = p := ⟨_, rfl⟩
      have hp2 : (!upB x) = p := hp
      rw [hp2] at CU
      have HP := Lib.hid hp2
      clear hp2 hp
      skip
      cases p with
      | true =>
        have HF := Lib.hid (fst_at HX.out HP.out HNO.out)
        go_wp2_with (go_at_call 56; (with_reducible refine (CU.out _).mono ?_); rintro e w1 ⟨rfl, hb1⟩; replace hbel := belStep hbel hb1; clear hb1)
        go_ret
        exact ⟨by rw [HF.out]; rfl, hbel⟩
      | false =>
        have HM := Lib.hid (HN.out.trans HP.out)
        go_wp2_with (go_at_call 56; (with_reducible refine (CU.out _).mono ?_); rintro e w1 ⟨rfl, hb1⟩; replace hbel := belStep hbel hb1; clear hb1)
        go_roundw
        case rel => exact ⟨k + 1, by omega, by push_cast; rfl, HM, hbel⟩
        case measure => simp [intOf] <;> omega
    · obtain rfl : k = L.length := by omega
      have hd : decide ((L.length : Int) < (L.length : Int)) = false := decide_eq_false (by omega)
      have HF := Lib.hid (fst_no (show L.any (fun x => !upB x) = false by have h := HNO.out; rwa [List.take_length] at h))
      go_wp2
      go_ret
      exact ⟨by rw [HF.out]; rfl, hbel⟩
set_option maxRecDepth 100000 in
set_option maxHeartbeats 16000000 in
theorem sw_Delete_up (B n : Nat) (v : Value) (L : List ContV) (w : World) (ho : OwnR w B 35 4 v n (L.flatMap ContV.cells)) (hl : L.length = n) (hn : n ≤ 100000) (hB : B ≤ w.heap.size) :
    Calls Try.prog 54 #[v, .func (.func 58) #[] #[]] w fun e w' => ∃ v', e = .returned v' ∧ OwnR w' B 35 4 v' ((L.filter (fun x => !upB x))).length (((L.filter (fun x => !upB x))).flatMap ContV.cells) ∧ Below B w w' := by
  have bt : ∀ (u u2 : World), Below B w u → Below u.heap.size u u2 → Below B w u2 := fun _ _ h h2 => h.trans (h2.mono (Nat.le_trans hB h.size))
  have BT := Lib.hid bt
  clear bt
  obtain ⟨a, cap, e9, hrow⟩ := rowR_of_own ho
  have CI := Lib.hid (sw_Index_up a n cap L w hl hrow)
  cases hany : L.any upB with
  | false =>
    rw [fst_no hany] at CI
    have hfil : (L.filter (fun x => !upB x)) = L := List.filter_eq_self.2 (fun x hx => by have h := List.any_eq_false.1 hany x hx; simpa using h)
    have HFIL := Lib.hid hfil
    subst e9
    have HO := Lib.hid ho
    have HHL := Lib.hid hl
    clear hfil hany ho hl hrow
    go_enter Try.func54, Try.ntmps54
    go_wp2_with (go_at_call 89; (with_reducible refine (CI.out).mono ?_); rintro e w1 ⟨rfl, hb1⟩)
    go_ret
    exact ⟨_, rfl, by rw [HFIL.out, HHL.out]; exact HO.out.later hb1, hb1.mono hB⟩
  | true =>
    obtain ⟨k0, y0, hy0, hpy, hlo⟩ := fst_split hany
    rw [fst_at hy0 hpy hlo] at CI
    have hk0n : k0 < n := by have := (List.getElem?_eq_some_iff.1 hy0).1; omega
    obtain ⟨g, C, ea, hBg, hBlk, hnc, hcm, hCl, hCt⟩ : ∃ g C, a = some ⟨g, 0, none⟩ ∧ B ≤ g ∧ Blk w g C 35 ∧ n ≤ cap ∧ cap ≤ maxLen ∧ C.length = cap * 4 ∧ C.take (n * 4) = L.flatMap ContV.cells := by
      rcases own_open ho with ⟨hv, h0, _⟩ | ⟨g, cap2, C, hv, h1, h2, h3, h4, h5, h6⟩
      · omega
      · rw [e9] at hv; simp only [Value.slice.injEq, true_and] at hv; obtain ⟨h7, rfl⟩ := hv; exact ⟨g, C, h7, h1, h2, h3, h4, h5, h6⟩
    subst ea
    subst e9
    have HS0 := Lib.hid (show L.take k0 = (L.take (k0 + 1)).filter (fun x => !upB x) by rw [filtG_same hy0 (by show (!_) = false; rw [hpy]; rfl)]; exact (List.filter_eq_self.2 (fun x hx => by have h := List.any_eq_false.1 hlo x hx; simpa using h)).symm)
    have HO0 := Lib.hid ho
    have hcap : cap ≤ 9223372036854775807 := by unfold maxLen at hcm; exact hcm
    have HCM := Lib.hid hcm
    clear hy0 hpy hlo hany ho hrow hBlk hCl hCt hcm C y0
    have hne1 : ((k0 : Int) == -1) = false := beq_eq_false_iff_ne.2 (by omega)
    go_enter Try.func54, Try.ntmps54
    go_wp2_with (go_at_call 89; (with_reducible refine (CI.out).mono ?_); rintro e w1 ⟨rfl, hb1⟩)
    have HO1 := Lib.hid (HO0.out.later hb1)
    have HB1 := Lib.hid (hb1.mono hB)
    clear HO0 hb1 CI
    go_loopw [5, 6] (fun iv jv wr => ∃ (i j : Nat) (dk : List ContV), iv = .int .i64 i ∧ jv = .int .i64 j ∧ i < j ∧ j ≤ n ∧ dk.length = n ∧ Hid (dk.take i = (L.take j).filter (fun x => !upB x)) ∧ Hid (∀ q, j ≤ q → dk[q]? = L[q]?) ∧ Hid (OwnR wr B 35 4 (.slice (some ⟨g, 0, none⟩) n cap) n (dk.flatMap ContV.cells)) ∧ Hid (Below B w wr)) (fun _ jv _ => n - (intOf jv).toNat)
    case atStart => exact ⟨k0, k0 + 1, L, rfl, by go_num, by omega, by omega, hl, HS0, Lib.hid (fun _ _ => rfl), HO1, HB1⟩
    case round =>
      clear HS0 HO1 HB1 hne1
      obtain ⟨i, j, dk, rfl, rfl, hij, hjn, hdl, HTK, HHI, HO, HB⟩ := hrel
      obtain ⟨_, _, e9, hrow⟩ := rowR_of_own HO.out
      simp only [Value.slice.injEq] at e9
      obtain ⟨rfl, _, rfl⟩ := e9
      have hin : i < n := by omega
      by_cases hlt : j < n
      · have hd : decide ((j : Int) < (n : Int)) = true := decide_eq_true (by omega)
        have hji : (j : Int) < (n : Int) := by omega
        have hj0 : (0 : Int) ≤ (j : Int) := by omega
        have hii : (i : Int) < (n : Int) := by omega
        have hi0 : (0 : Int) ≤ (i : Int) := by omega
        obtain ⟨x, hx⟩ : ∃ x, dk[j]? = some x := ⟨dk[j]'(by omega), List.getElem?_eq_getElem (by omega)⟩
        obtain ⟨z, hz⟩ : ∃ z, dk[i]? = some z := ⟨dk[i]'(by omega), List.getElem?_eq_getElem (by omega)⟩
        have HX := Lib.hid (show L[j]? = some x from (HHI.out j (Nat.le_refl _)).symm.trans hx)
        have HZ := Lib.hid hz
        obtain ⟨bc, oc, ec, _, hcc⟩ := (hrow).elem ContV.cells_len (by omega) hx
        simp only [Option.some.injEq, Addr.mk.injEq, and_true] at ec
        obtain ⟨rfl, rfl⟩ := ec
        have c0 := keep (hcc 0 _ rfl)
        have c1 := keep (hcc 1 _ rfl)
        have c2 := keep (hcc 2 _ rfl)
        have c3 := keep (hcc 3 _ rfl)
        rw [Nat.add_zero] at c0
        simp only [Nat.zero_add] at c0 c1 c2 c3
        have hbel : Below wr.heap.size wr wr := Below.refl _ _
        clear hx hcc hrow hz
        go_upto_region 8 with fail
        clear hbel
        have k1 : Below wr.heap.size wr (wr.alloc (.cells #[.string x.id, .int .i64 x.state, .int .i64 x.tries, .int .i64 x.last] 35)) := belAlloc (Below.refl _ _) _
        have HXB := Lib.hid (show Blk (wr.alloc (.cells #[.string x.id, .int .i64 x.state, .int .i64 x.tries, .int .i64 x.last] 35)) wr.heap.size [.string x.id, .int .i64 x.state, .int .i64 x.tries, .int .i64 x.last] 35 from Blk.new wr [.string x.id, .int .i64 x.state, .int .i64 x.tries, .int .i64 x.last] 35)
        have HO5 := Lib.hid (OwnR.alloc HO.out (.cells #[.string x.id, .int .i64 x.state, .int .i64 x.tries, .int .i64 x.last] 35))
        have HB5 := Lib.hid (BT.out _ _ HB.out k1)
        clear HO HB k1 c0 c1 c2 c3
        generalize wr.alloc (.cells #[.string x.id, .int .i64 x.state, .int .i64 x.tries, .int .i64 x.last] 35) = W5 at *
        have x0 := HXB.out.cell (j := 0) rfl
        have x1 := HXB.out.cell (j := 1) rfl
        have x2 := HXB.out.cell (j := 2) rfl
        have x3 := HXB.out.cell (j := 3) rfl
        have CU := Lib.hid (fun u => sw_up x u)
        obtain ⟨p, hp⟩ : ∃ p, upB x = p := ⟨_, rfl⟩
        rw [hp] at CU
        have HP := Lib.hid hp
        clear hp
        skip
        cases p with
        | true =>
          have HT2 := Lib.hid (HTK.out.trans (filtG_same (f := (fun x => !upB x)) HX.out (by show (!_) = false; rw [HP.out]; rfl)).symm)
          go_wp2_with (go_at_call 58; (with_reducible refine (CU.out _).mono ?_); rintro e w6 ⟨rfl, hb6⟩; have HO6 := Lib.hid (HO5.out.later hb6); have HX6 := Lib.hid (HXB.out.later hb6); have HB6 := Lib.hid (BT.out _ _ HB5.out hb6); clear hb6)
          go_roundw
          case rel => exact ⟨i, j + 1, dk, rfl, by push_cast; rfl, by omega, by omega, hdl, HT2, Lib.hid (fun q hq => HHI.out q (by omega)), HO6, HB6⟩
          case measure => simp [intOf] <;> omega
        | false =>
          have HT2 := Lib.hid (show (dk.set i x).take (i + 1) = (L.take (j + 1)).filter (fun x => !upB x) by rw [take_set_one (by omega), HTK.out]; exact (filtG_next (f := (fun x => !upB x)) HX.out (by show (!_) = true; rw [HP.out]; rfl)).symm)
          have HH2 := Lib.hid (show ∀ q, j + 1 ≤ q → (dk.set i x)[q]? = L[q]? from fun q hq => by rw [List.getElem?_set_ne (by omega)]; exact HHI.out q (by omega))
          go_upto_region 9 with (go_at_call 58; (with_reducible refine (CU.out _).mono ?_); rintro e w6 ⟨rfl, hb6⟩; have HO6 := Lib.hid (HO5.out.later hb6); have HX6 := Lib.hid (HXB.out.later hb6); have HB6 := Lib.hid (BT.out _ _ HB5.out hb6); clear hb6)
          generalize w6 = W6 at *
          clear x0 x1 x2 x3 HO5 HB5 HXB
          have x0 := HX6.out.cell (j := 0) rfl
          have x1 := HX6.out.cell (j := 1) rfl
          have x2 := HX6.out.cell (j := 2) rfl
          have x3 := HX6.out.cell (j := 3) rfl
          have HO7 := Lib.hid (own_setC (x := x) HO6.out HZ.out)
          have HB7 := Lib.hid (show Below B w ((((W6.setCell ⟨g, i * 4, none⟩ (.string x.id)).setCell ⟨g, i * 4 + 1, none⟩ (.int .i64 x.state)).setCell ⟨g, i * 4 + 2, none⟩ (.int .i64 x.tries)).setCell ⟨g, i * 4 + 3, none⟩ (.int .i64 x.last)) from (((HB6.out.setCell hBg _).setCell hBg _).setCell hBg _).setCell hBg _)
          obtain ⟨_, _, e9, hrow⟩ := rowR_of_own HO6.out
          simp only [Value.slice.injEq] at e9
          obtain ⟨rfl, _, rfl⟩ := e9
          obtain ⟨b8, o8, e8, _, hc8⟩ := hrow.elem ContV.cells_len (by omega) HZ.out
          simp only [Option.some.injEq, Addr.mk.injEq, and_true] at e8
          obtain ⟨rfl, rfl⟩ := e8
          have z0 := hc8 0 _ rfl
          have z1 := hc8 1 _ rfl
          have z2 := hc8 2 _ rfl
          have z3 := hc8 3 _ rfl
          simp only [Nat.zero_add, Nat.add_zero] at z0 z1 z2 z3
          have hfz := own_frozenC HO6.out
          clear hc8 hrow
          go_wp2
          go_roundw
          case rel => exact ⟨i + 1, j + 1, dk.set i x, by push_cast; rfl, by push_cast; rfl, by omega, by omega, by rw [List.length_set]; exact hdl, HT2, HH2, HO7, HB7⟩
          case measure => simp [intOf] <;> omega
      · obtain rfl : j = n := by omega
        have hd : decide ((j : Int) < (j : Int)) = false := decide_eq_false (by omega)
        obtain ⟨C, hBlk, hCl, hCt⟩ : ∃ C, Blk wr g C 35 ∧ C.length = cap * 4 ∧ C.take (j * 4) = dk.flatMap ContV.cells := by
          rcases own_open HO.out with ⟨h0, _, _⟩ | ⟨g2, cap2, C2, h0, _, h2, _, _, h5, h6⟩
          · cases h0
          · simp only [Value.slice.injEq, Option.some.injEq, Addr.mk.injEq, and_true, true_and] at h0; obtain ⟨rfl, rfl⟩ := h0; exact ⟨C2, h2, h5, h6⟩
        have hzl : (Builtin.zeroCells (.agg #[.string ⟨#[]⟩, .int .i64 0, .int .i64 0, .int .i64 0] : Value).cells (j - i)).toList.length = (j - i) * 4 := by rw [zeroCells_len]; rfl
        have hz1 : ∀ u ∈ (Builtin.zeroCells (.agg #[.string ⟨#[]⟩, .int .i64 0, .int .i64 0, .int .i64 0] : Value).cells (j - i)).toList, u.oneCell' = true := zeroCells_one _ _ (by decide)
        have hfit : i * 4 + (Builtin.zeroCells (.agg #[.string ⟨#[]⟩, .int .i64 0, .int .i64 0, .int .i64 0] : Value).cells (j - i)).toList.length ≤ C.length := by rw [hzl, hCl]; omega
        have HCL := Lib.hid (fun ty => run_clearK (P := Try.prog) wr 22 35 ty _ Try.underlying22 Try.zeroValue35 g (i * 4) (j - i) (cap - i) C 35 (by omega) hBlk (by rw [hCl]; show i * 4 + (j - i) * 4 ≤ cap * 4; omega) hz1)
        have HFIN := Lib.hid (show OwnR (wr.setRow g (spl C (i * 4) (Builtin.zeroCells (.agg #[.string ⟨#[]⟩, .int .i64 0, .int .i64 0, .int .i64 0] : Value).cells (j - i)).toList).toArray) B 35 4 (.slice (some ⟨g, 0, none⟩) i cap) ((L.filter (fun x => !upB x))).length (((L.filter (fun x => !upB x))).flatMap ContV.cells) by
          have hres : (L.filter (fun x => !upB x)) = dk.take i := by rw [HTK.out, ← hl, List.take_length]
          rw [hres, show (dk.take i).length = i by rw [List.length_take]; omega]
          refine own_of hBg (hBlk.row _) (by omega) HCM.out (by rw [spl_len hfit, hCl]) ?_
          rw [spl_take_lo hfit (Nat.le_refl _), flat_takeE ContV.cells_len dk i (by omega), ← hCt, List.take_take, Nat.min_eq_left (by omega)])
        have HBF := Lib.hid (show Below B w (wr.setRow g (spl C (i * 4) (Builtin.zeroCells (.agg #[.string ⟨#[]⟩, .int .i64 0, .int .i64 0, .int .i64 0] : Value).cells (j - i)).toList).toArray) from HB.out.grown (grownBy_setRow wr g _) (Nat.le_trans hB HB.out.size) (fun q hq => by cases hq; exact hBg))
        clear hBlk hCt hfit hz1 hzl hrow HO HB HTK HHI
        have hii : (i : Int) < (j : Int) := by omega
        have hi0 : (0 : Int) ≤ (i : Int) := by omega
        have hic : ¬ cap = i := by omega
        have hicI : (i : Int) ≤ (cap : Int) := by omega
        have hijI : (i : Int) ≤ (j : Int) := by omega
        have hjcI : (j : Int) ≤ (cap : Int) := by omega
        have hcl := HCL.out
        go_wp2
        go_ret
        exact ⟨_, rfl, HFIN.out, HBF.out⟩
set_option maxRecDepth 100000 in
set_option maxHeartbeats 16000000 in
theorem sw_Delete_down (B n : Nat) (v : Value) (L : List ContV) (w : World) (ho : OwnR w B 35 4 v n (L.flatMap ContV.cells)) (hl : L.length = n) (hn : n ≤ 100000) (hB : B ≤ w.heap.size) :
    Calls Try.prog 54 #[v, .func (.func 56) #[] #[]] w fun e w' => ∃ v', e = .returned v' ∧ OwnR w' B 35 4 v' ((L.filter (fun x => !(!upB x)))).length (((L.filter (fun x => !(!upB x)))).flatMap ContV.cells) ∧ Below B w w' := by
  have bt : ∀ (u u2 : World), Below B w u → Below u.heap.size u u2 → Below B w u2 := fun _ _ h h2 => h.trans (h2.mono (Nat.le_trans hB h.size))
  have BT := Lib.hid bt
  clear bt
  obtain ⟨a, cap, e9, hrow⟩ := rowR_of_own ho
  have CI := Lib.hid (sw_Index_down a n cap L w hl hrow)
  cases hany : L.any (fun x => !upB x) with
  | false =>
    rw [fst_no hany] at CI
    have hfil : (L.filter (fun x => !(!upB x))) = L := List.filter_eq_self.2 (fun x hx => by have h := List.any_eq_false.1 hany x hx; simpa using h)
    have HFIL := Lib.hid hfil
    subst e9
    have HO := Lib.hid ho
    have HHL := Lib.hid hl
    clear hfil hany ho hl hrow
    go_enter Try.func54, Try.ntmps54
    go_wp2_with (go_at_call 89; (with_reducible refine (CI.out).mono ?_); rintro e w1 ⟨rfl, hb1⟩)
    go_ret
    exact ⟨_, rfl, by rw [HFIL.out, HHL.out]; exact HO.out.later hb1, hb1.mono hB⟩
  | true =>
    obtain ⟨k0, y0, hy0, hpy, hlo⟩ := fst_split hany
    rw [fst_at hy0 hpy hlo] at CI
    have hk0n : k0 < n := by have := (List.getElem?_eq_some_iff.1 hy0).1; omega
    obtain ⟨g, C, ea, hBg, hBlk, hnc, hcm, hCl, hCt⟩ : ∃ g C, a = some ⟨g, 0, none⟩ ∧ B ≤ g ∧ Blk w g C 35 ∧ n ≤ cap ∧ cap ≤ maxLen ∧ C.length = cap * 4 ∧ C.take (n * 4) = L.flatMap ContV.cells := by
      rcases own_open ho with ⟨hv, h0, _⟩ | ⟨g, cap2, C, hv, h1, h2, h3, h4, h5, h6⟩
      · omega
      · rw [e9] at hv; simp only [Value.slice.injEq, true_and] at hv; obtain ⟨h7, rfl⟩ := hv; exact ⟨g, C, h7, h1, h2, h3, h4, h5, h6⟩
    subst ea
    subst e9
    have HS0 := Lib.hid (show L.take k0 = (L.take (k0 + 1)).filter (fun x => !(!upB x)) by rw [filtG_same hy0 (by show (!_) = false; rw [hpy]; rfl)]; exact (List.filter_eq_self.2 (fun x hx => by have h := List.any_eq_false.1 hlo x hx; simpa using h)).symm)
    have HO0 := Lib.hid ho
    have hcap : cap ≤ 9223372036854775807 := by unfold maxLen at hcm; exact hcm
    have HCM := Lib.hid hcm
    clear hy0 hpy hlo hany ho hrow hBlk hCl hCt hcm C y0
    have hne1 : ((k0 : Int) == -1) = false := beq_eq_false_iff_ne.2 (by omega)
    go_enter Try.func54, Try.ntmps54
    go_wp2_with (go_at_call 89; (with_reducible refine (CI.out).mono ?_); rintro e w1 ⟨rfl, hb1⟩)
    have HO1 := Lib.hid (HO0.out.later hb1)
    have HB1 := Lib.hid (hb1.mono hB)
    clear HO0 hb1 CI
    go_loopw [5, 6] (fun iv jv wr => ∃ (i j : Nat) (dk : List ContV), iv = .int .i64 i ∧ jv = .int .i64 j ∧ i < j ∧ j ≤ n ∧ dk.length = n ∧ Hid (dk.take i = (L.take j).filter (fun x => !(!upB x))) ∧ Hid (∀ q, j ≤ q → dk[q]? = L[q]?) ∧ Hid (OwnR wr B 35 4 (.slice (some ⟨g, 0, none⟩) n cap) n (dk.flatMap ContV.cells)) ∧ Hid (Below B w wr)) (fun _ jv _ => n - (intOf jv).toNat)
    case atStart => exact ⟨k0, k0 + 1, L, rfl, by go_num, by omega, by omega, hl, HS0, Lib.hid (fun _ _ => rfl), HO1, HB1⟩
    case round =>
      clear HS0 HO1 HB1 hne1
      obtain ⟨i, j, dk, rfl, rfl, hij, hjn, hdl, HTK, HHI, HO, HB⟩ := hrel
      obtain ⟨_, _, e9, hrow⟩ := rowR_of_own HO.out
      simp only [Value.slice.injEq] at e9
      obtain ⟨rfl, _, rfl⟩ := e9
      have hin : i < n := by omega
      by_cases hlt : j < n
      · have hd : decide ((j : Int) < (n : Int)) = true := decide_eq_true (by omega)
        have hji : (j : Int) < (n : Int) := by omega
        have hj0 : (0 : Int) ≤ (j : Int) := by omega
        have hii : (i : Int) < (n : Int) := by omega
        have hi0 : (0 : Int) ≤ (i : Int) := by omega
        obtain ⟨x, hx⟩ : ∃ x, dk[j]? = some x := ⟨dk[j]'(by omega), List.getElem?_eq_getElem (by omega)⟩
        obtain ⟨z, hz⟩ : ∃ z, dk[i]? = some z := ⟨dk[i]'(by omega), List.getElem?_eq_getElem (by omega)⟩
        have HX := Lib.hid (show L[j]? = some x from (HHI.out j (Nat.le_refl _)).symm.trans hx)
        have HZ := Lib.hid hz
        obtain ⟨bc, oc, ec, _, hcc⟩ := (hrow).elem ContV.cells_len (by omega) hx
        simp only [Option.some.injEq, Addr.mk.injEq, and_true] at ec
        obtain ⟨rfl, rfl⟩ := ec
        have c0 := keep (hcc 0 _ rfl)
        have c1 := keep (hcc 1 _ rfl)
        have c2 := keep (hcc 2 _ rfl)
        have c3 := keep (hcc 3 _ rfl)
        rw [Nat.add_zero] at c0
        simp only [Nat.zero_add] at c0 c1 c2 c3
        have hbel : Below wr.heap.size wr wr := Below.refl _ _
        clear hx hcc hrow hz
        go_upto_region 8 with fail
        clear hbel
        have k1 : Below wr.heap.size wr (wr.alloc (.cells #[.string x.id, .int .i64 x.state, .int .i64 x.tries, .int .i64 x.last] 35)) := belAlloc (Below.refl _ _) _
        have HXB := Lib.hid (show Blk (wr.alloc (.cells #[.string x.id, .int .i64 x.state, .int .i64 x.tries, .int .i64 x.last] 35)) wr.heap.size [.string x.id, .int .i64 x.state, .int .i64 x.tries, .int .i64 x.last] 35 from Blk.new wr [.string x.id, .int .i64 x.state, .int .i64 x.tries, .int .i64 x.last] 35)
        have HO5 := Lib.hid (OwnR.alloc HO.out (.cells #[.string x.id, .int .i64 x.state, .int .i64 x.tries, .int .i64 x.last] 35))
        have HB5 := Lib.hid (BT.out _ _ HB.out k1)
        clear HO HB k1 c0 c1 c2 c3
        generalize wr.alloc (.cells #[.string x.id, .int .i64 x.state, .int .i64 x.tries, .int .i64 x.last] 35) = W5 at *
        have x0 := HXB.out.cell (j := 0) rfl
        have x1 := HXB.out.cell (j := 1) rfl
        have x2 := HXB.out.cell (j := 2) rfl
        have x3 := HXB.out.cell (j := 3) rfl
        have CU := Lib.hid (fun u => sw_down x u)
        obtain ⟨p, hp⟩ : ∃ p, (fun x => !upB x) x = p := ⟨_, rfl⟩
        have hp2 : (!upB x) = p := hp
        rw [hp2] at CU
        have HP := Lib.hid hp2
        clear hp2 hp
        skip
        cases p with
        | true =>
          have HT2 := Lib.hid (HTK.out.trans (filtG_same (f := (fun x => !(!upB x))) HX.out (by show (!_) = false; rw [HP.out]; rfl)).symm)
          go_wp2_with (go_at_call 56; (with_reducible refine (CU.out _).mono ?_); rintro e w6 ⟨rfl, hb6⟩; have HO6 := Lib.hid (HO5.out.later hb6); have HX6 := Lib.hid (HXB.out.later hb6); have HB6 := Lib.hid (BT.out _ _ HB5.out hb6); clear hb6)
          go_roundw
          case rel => exact ⟨i, j + 1, dk, rfl, by push_cast; rfl, by omega, by omega, hdl, HT2, Lib.hid (fun q hq => HHI.out q (by omega)), HO6, HB6⟩
          case measure => simp [intOf] <;> omega
        | false =>
          have HT2 := Lib.hid (show (dk.set i x).take (i + 1) = (L.take (j + 1)).filter (fun x => !(!upB x)) by rw [take_set_one (by omega), HTK.out]; exact (filtG_next (f := (fun x => !(!upB x))) HX.out (by show (!_) = true; rw [HP.out]; rfl)).symm)
          have HH2 := Lib.hid (show ∀ q, j + 1 ≤ q → (dk.set i x)[q]? = L[q]? from fun q hq => by rw [List.getElem?_set_ne (by omega)]; exact HHI.out q (by omega))
          go_upto_region 9 with (go_at_call 56; (with_reducible refine (CU.out _).mono ?_); rintro e w6 ⟨rfl, hb6⟩; have HO6 := Lib.hid (HO5.out.later hb6); have HX6 := Lib.hid (HXB.out.later hb6); have HB6 := Lib.hid (BT.out _ _ HB5.out hb6); clear hb6)
          generalize w6 = W6 at *
          clear x0 x1 x2 x3 HO5 HB5 HXB
          have x0 := HX6.out.cell (j := 0) rfl
          have x1 := HX6.out.cell (j := 1) rfl
          have x2 := HX6.out.cell (j := 2) rfl
          have x3 := HX6.out.cell (j := 3) rfl
          have HO7 := Lib.hid (own_setC (x := x) HO6.out HZ.out)
          have HB7 := Lib.hid (show Below B w ((((W6.setCell ⟨g, i * 4, none⟩ (.string x.id)).setCell ⟨g, i * 4 + 1, none⟩ (.int .i64 x.state)).setCell ⟨g, i * 4 + 2, none⟩ (.int .i64 x.tries)).setCell ⟨g, i * 4 + 3, none⟩ (.int .i64 x.last)) from (((HB6.out.setCell hBg _).setCell hBg _).setCell hBg _).setCell hBg _)
          obtain ⟨_, _, e9, hrow⟩ := rowR_of_own HO6.out
          simp only [Value.slice.injEq] at e9
          obtain ⟨rfl, _, rfl⟩ := e9
          obtain ⟨b8, o8, e8, _, hc8⟩ := hrow.elem ContV.cells_len (by omega) HZ.out
          simp only [Option.some.injEq, Addr.mk.injEq, and_true] at e8
          obtain ⟨rfl, rfl⟩ := e8
          have z0 := hc8 0 _ rfl
          have z1 := hc8 1 _ rfl
          have z2 := hc8 2 _ rfl
          have z3 := hc8 3 _ rfl
          simp only [Nat.zero_add, Nat.add_zero] at z0 z1 z2 z3
          have hfz := own_frozenC HO6.out
          clear hc8 hrow
          go_wp2
          go_roundw
          case rel => exact ⟨i + 1, j + 1, dk.set i x, by push_cast; rfl, by push_cast; rfl, by omega, by omega, by rw [List.length_set]; exact hdl, HT2, HH2, HO7, HB7⟩
          case measure => simp [intOf] <;> omega
      · obtain rfl : j = n := by omega
        have hd : decide ((j : Int) < (j : Int)) = false := decide_eq_false (by omega)
        obtain ⟨C, hBlk, hCl, hCt⟩ : ∃ C, Blk wr g C 35 ∧ C.length = cap * 4 ∧ C.take (j * 4) = dk.flatMap ContV.cells := by
          rcases own_open HO.out with ⟨h0, _, _⟩ | ⟨g2, cap2, C2, h0, _, h2, _, _, h5, h6⟩
          · cases h0
          · simp only [Value.slice.injEq, Option.some.injEq, Addr.mk.injEq, and_true, true_and] at h0; obtain ⟨rfl, rfl⟩ := h0; exact ⟨C2, h2, h5, h6⟩
        have hzl : (Builtin.zeroCells (.agg #[.string ⟨#[]⟩, .int .i64 0, .int .i64 0, .int .i64 0] : Value).cells (j - i)).toList.length = (j - i) * 4 := by rw [zeroCells_len]; rfl
        have hz1 : ∀ u ∈ (Builtin.zeroCells (.agg #[.string ⟨#[]⟩, .int .i64 0, .int .i64 0, .int .i64 0] : Value).cells (j - i)).toList, u.oneCell' = true := zeroCells_one _ _ (by decide)
        have hfit : i * 4 + (Builtin.zeroCells (.agg #[.string ⟨#[]⟩, .int .i64 0, .int .i64 0, .int .i64 0] : Value).cells (j - i)).toList.length ≤ C.length := by rw [hzl, hCl]; omega
        have HCL := Lib.hid (fun ty => run_clearK (P := Try.prog) wr 22 35 ty _ Try.underlying22 Try.zeroValue35 g (i * 4) (j - i) (cap - i) C 35 (by omega) hBlk (by rw [hCl]; show i * 4 + (j - i) * 4 ≤ cap * 4; omega) hz1)
        have HFIN := Lib.hid (show OwnR (wr.setRow g (spl C (i * 4) (Builtin.zeroCells (.agg #[.string ⟨#[]⟩, .int .i64 0, .int .i64 0, .int .i64 0] : Value).cells (j - i)).toList).toArray) B 35 4 (.slice (some ⟨g, 0, none⟩) i cap) ((L.filter (fun x => !(!upB x)))).length (((L.filter (fun x => !(!upB x)))).flatMap ContV.cells) by
          have hres : (L.filter (fun x => !(!upB x))) = dk.take i := by rw [HTK.out, ← hl, List.take_length]
          rw [hres, show (dk.take i).length = i by rw [List.length_take]; omega]
          refine own_of hBg (hBlk.row _) (by omega) HCM.out (by rw [spl_len hfit, hCl]) ?_
          rw [spl_take_lo hfit (Nat.le_refl _), flat_takeE ContV.cells_len dk i (by omega), ← hCt, List.take_take, Nat.min_eq_left (by omega)])
        have HBF := Lib.hid (show Below B w (wr.setRow g (spl C (i * 4) (Builtin.zeroCells (.agg #[.string ⟨#[]⟩, .int .i64 0, .int .i64 0, .int .i64 0] : Value).cells (j - i)).toList).toArray) from HB.out.grown (grownBy_setRow wr g _) (Nat.le_trans hB HB.out.size) (fun q hq => by cases hq; exact hBg))
        clear hBlk hCt hfit hz1 hzl hrow HO HB HTK HHI
        have hii : (i : Int) < (j : Int) := by omega
        have hi0 : (0 : Int) ≤ (i : Int) := by omega
        have hic : ¬ cap = i := by omega
        have hicI : (i : Int) ≤ (cap : Int) := by omega
        have hijI : (i : Int) ≤ (j : Int) := by omega
        have hjcI : (j : Int) ≤ (cap : Int) := by omega
        have hcl := HCL.out
        go_wp2
        go_ret
        exact ⟨_, rfl, HFIN.out, HBF.out⟩
end Go.Proofs.Ytampkolkbjmmkaa
