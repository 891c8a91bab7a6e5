
/- bilgeref24.Find, Without: contracts. -/
import Derived.Test.YtpmkhimmlpnbpaaSt9
import Derived.Laws.Cover1
namespace Go.Proofs.Ytpmkhimmlpnbpaa
open Go.RowKit
set_option linter.unusedVariables false
set_option linter.unusedSimpArgs false
/-- The reference's answers as lists. -/
def fndF (L : List EntV) (s : ByteArray) : Nat := (L.takeWhile (fun x => !(x.pod.id.toList == s.toList))).length
def fndI (L : List EntV) (s : ByteArray) : Int := if fndF L s < L.length then (fndF L s : Int) else -1
def keepF (s : ByteArray) (x : EntV) : Bool := !(x.pod.id.toList == s.toList)
def gtS (s : ByteArray) (x : EntV) : Bool := Op.bytesLess s.toList x.pod.id.toList
def pgF (L : List EntV) (s : ByteArray) : Nat := (L.takeWhile (fun x => !gtS s x)).length
def withR (L : List EntV) (e : EntV) : List EntV := (L.filter (keepF e.pod.id)).take (pgF (L.filter (keepF e.pod.id)) e.pod.id) ++ e :: (L.filter (keepF e.pod.id)).drop (pgF (L.filter (keepF e.pod.id)) e.pod.id)
theorem tw_at {p : EntV → Bool} {L : List EntV} {k : Nat} (hk : k ≤ L.length) (hlo : (L.take k).all p = true) (hhi : ∀ x, L[k]? = some x → p x = false) : (L.takeWhile p).length = k := by
  have h : L = L.take k ++ L.drop k := (List.take_append_drop k L).symm
  rw [h, List.takeWhile_append_of_pos (fun x hx => List.all_eq_true.1 hlo x hx), List.length_append, List.length_take, Nat.min_eq_left hk]
  rcases Nat.lt_or_ge k L.length with q | q
  · rw [List.drop_eq_getElem_cons q, List.takeWhile_cons_of_neg (by rw [hhi _ (List.getElem?_eq_getElem q)]; simp)]
    rfl
  · rw [List.drop_of_length_le q]; rfl
theorem tw_le (p : EntV → Bool) (L : List EntV) : (L.takeWhile p).length ≤ L.length := List.Sublist.length_le (List.takeWhile_sublist _)
theorem tw_lo {p : EntV → Bool} {L : List EntV} {k : Nat} {x : EntV} (hk : k < (L.takeWhile p).length) (h : L[k]? = some x) : p x = true := by
  have e : L = L.takeWhile p ++ L.dropWhile p := (List.takeWhile_append_dropWhile).symm
  rw [e, List.getElem?_append_left hk] at h
  have := List.all_eq_true.1 (List.all_takeWhile (p := p) (l := L)) x (List.mem_of_getElem? h)
  exact this
theorem tw_hi {p : EntV → Bool} {L : List EntV} {x : EntV} (h : L[(L.takeWhile p).length]? = some x) : p x = false := by
  have e : L = L.takeWhile p ++ L.dropWhile p := (List.takeWhile_append_dropWhile).symm
  rw [e, List.getElem?_append_right (by rw [← e]; exact Nat.le_refl _), ← e, Nat.sub_self] at h
  cases hd : L.dropWhile p with
  | nil => rw [hd] at h; cases h
  | cons y t =>
    rw [hd] at h
    simp only [List.getElem?_cons_zero, Option.some.injEq] at h
    subst h
    have := List.head_dropWhile_not (p := p) (l := L) (by rw [hd]; simp)
    simp only [hd, List.head_cons] at this
    exact this
theorem ins_done {l : List EntV} {e x : EntV} {p k : Nat} (hp : p < k) (hx : l[k]? = some x) : (l.take p ++ e :: (l.take (k + 1)).drop p) = (l.take p ++ e :: (l.take k).drop p) ++ [x] := by
  have hk : k < l.length := (List.getElem?_eq_some_iff.1 hx).1
  rw [takeG_next hx, List.drop_append_of_le_length (by rw [List.length_take]; omega)]
  simp
theorem ins_here {l : List EntV} {e x : EntV} {p : Nat} (hx : l[p]? = some x) : (l.take p ++ e :: (l.take (p + 1)).drop p) = (l.take p ++ [e]) ++ [x] := by
  have hk : p < l.length := (List.getElem?_eq_some_iff.1 hx).1
  rw [takeG_next hx, List.drop_left' (by rw [List.length_take]; omega)]
  simp
set_option maxRecDepth 100000 in
set_option maxHeartbeats 16000000 in
theorem sref_Find (r : Int) (a : Option Addr) (n c : Nat) (o : On) (L : List EntV) (s : ByteArray) (w : World) (hl : L.length = n) (hR : Row w a n c 12 (L.flatMap EntV.cells)) :
    Calls Try.prog 26 #[.agg #[.int .i64 r, .slice a n c, .bool o.a, .bool o.b, .bool o.c], .string s] w fun e w' => e = .returned (.int .i64 (fndI L s)) ∧ Below w.heap.size w w' := by
  have hbd : n ≤ c ∧ c ≤ 9223372036854775807 := by obtain ⟨_, h1, h2, _⟩ := hR; unfold maxLen at h2; exact ⟨h1, h2⟩
  obtain ⟨hbd1, hbd2⟩ := hbd
  have HR := Lib.hid hR
  subst hl
  clear hR
  have hw : Below w.heap.size w w := Below.refl _ _
  have hbel := hw
  go_enter Try.func26, Try.ntmps26
  go_upto_region 1 with fail
  have ss0 : (w.alloc (.cells #[.int .i64 r, .slice a L.length c, .bool o.a, .bool o.b, .bool o.c] 25)).cell? ⟨w.heap.size, 0, none⟩ = some (.int .i64 r) := by first | (simp; done) | (rw [World.cell?_alloc_at _ _ _ _ (by simp)]; rfl) | (rw [World.cell?_alloc_past _ _ _ (by simp <;> omega), World.cell?_alloc_at _ _ _ _ (by simp)]; rfl) | (rw [World.cell?_alloc_past _ _ _ (by simp <;> omega), World.cell?_alloc_past _ _ _ (by simp <;> omega), World.cell?_alloc_at _ _ _ _ (by simp)]; rfl)
  have ss1 : (w.alloc (.cells #[.int .i64 r, .slice a L.length c, .bool o.a, .bool o.b, .bool o.c] 25)).cell? ⟨w.heap.size, 1, none⟩ = some (.slice a L.length c) := by first | (simp; done) | (rw [World.cell?_alloc_at _ _ _ _ (by simp)]; rfl) | (rw [World.cell?_alloc_past _ _ _ (by simp <;> omega), World.cell?_alloc_at _ _ _ _ (by simp)]; rfl) | (rw [World.cell?_alloc_past _ _ _ (by simp <;> omega), World.cell?_alloc_past _ _ _ (by simp <;> omega), World.cell?_alloc_at _ _ _ _ (by simp)]; rfl)
  have ss2 : (w.alloc (.cells #[.int .i64 r, .slice a L.length c, .bool o.a, .bool o.b, .bool o.c] 25)).cell? ⟨w.heap.size, 2, none⟩ = some (.bool o.a) := by first | (simp; done) | (rw [World.cell?_alloc_at _ _ _ _ (by simp)]; rfl) | (rw [World.cell?_alloc_past _ _ _ (by simp <;> omega), World.cell?_alloc_at _ _ _ _ (by simp)]; rfl) | (rw [World.cell?_alloc_past _ _ _ (by simp <;> omega), World.cell?_alloc_past _ _ _ (by simp <;> omega), World.cell?_alloc_at _ _ _ _ (by simp)]; rfl)
  have ss3 : (w.alloc (.cells #[.int .i64 r, .slice a L.length c, .bool o.a, .bool o.b, .bool o.c] 25)).cell? ⟨w.heap.size, 3, none⟩ = some (.bool o.b) := by first | (simp; done) | (rw [World.cell?_alloc_at _ _ _ _ (by simp)]; rfl) | (rw [World.cell?_alloc_past _ _ _ (by simp <;> omega), World.cell?_alloc_at _ _ _ _ (by simp)]; rfl) | (rw [World.cell?_alloc_past _ _ _ (by simp <;> omega), World.cell?_alloc_past _ _ _ (by simp <;> omega), World.cell?_alloc_at _ _ _ _ (by simp)]; rfl)
  have ss4 : (w.alloc (.cells #[.int .i64 r, .slice a L.length c, .bool o.a, .bool o.b, .bool o.c] 25)).cell? ⟨w.heap.size, 4, none⟩ = some (.bool o.c) := by first | (simp; done) | (rw [World.cell?_alloc_at _ _ _ _ (by simp)]; rfl) | (rw [World.cell?_alloc_past _ _ _ (by simp <;> omega), World.cell?_alloc_at _ _ _ _ (by simp)]; rfl) | (rw [World.cell?_alloc_past _ _ _ (by simp <;> omega), World.cell?_alloc_past _ _ _ (by simp <;> omega), World.cell?_alloc_at _ _ _ _ (by simp)]; rfl)
  have hb2 := (by repeat (first | exact hbel | refine belAlloc ?_ _ | refine belDrew ?_ | refine belSet ?_ _ _ (by simp)) : Below w.heap.size w (w.alloc (.cells #[.int .i64 r, .slice a L.length c, .bool o.a, .bool o.b, .bool o.c] 25)))
  replace hw := belStep hw hb2
  clear hb2 hbel
  generalize w.alloc (.cells #[.int .i64 r, .slice a L.length c, .bool o.a, .bool o.b, .bool o.c] 25) = W1 at *
  replace ss0 := keep ss0
  replace ss1 := keep ss1
  replace ss2 := keep ss2
  replace ss3 := keep ss3
  replace ss4 := keep ss4
  have hbel : Below W1.heap.size W1 W1 := Below.refl _ _
  skip
  have HW1 := Lib.hid hw
  clear hw
  have hb0 : Below W1.heap.size W1 W1 := Below.refl _ _
  go_wp2
  clear hbel
  go_loopw [5] (fun i wr => ∃ k : Nat, k ≤ L.length ∧ i = .int .i64 k ∧ Hid ((L.take k).all (fun x => !(x.pod.id.toList == s.toList)) = true) ∧ Below W1.heap.size W1 wr) (fun i _ => L.length - (intOf i).toNat)
  case atStart => exact ⟨0, Nat.zero_le _, rfl, Lib.hid rfl, hb0⟩
  case round =>
    obtain ⟨k, hk, rfl, HC, hbr⟩ := hrel
    clear hb0
    have HRW := Lib.hid (HR.out.later (belStep HW1.out hbr))
    have s1 := keepOn ss1 hbr
    have hbel : Below wr.heap.size wr wr := Below.refl _ _
    have HB9 := Lib.hid hbr
    clear hbr
    by_cases hlt : k < L.length
    · have hd : decide ((k : Int) < (L.length : Int)) = true := decide_eq_true (by omega)
      have hki : (k : Int) < (L.length : Int) := by omega
      have hk0 : (0 : Int) ≤ (k : Int) := by omega
      obtain ⟨x, hx⟩ : ∃ x, L[k]? = some x := ⟨L[k]'(hlt), List.getElem?_eq_getElem _⟩
      obtain ⟨bc, oc, ec, _, hcc⟩ := (HRW.out).elem EntV.cells_len (by omega) hx
      subst ec
      have c0 := keep (hcc 0 _ rfl)
      have c1 := keep (hcc 1 _ rfl)
      have c2 := keep (hcc 2 _ rfl)
      have c3 := keep (hcc 3 _ rfl)
      have c4 := keep (hcc 4 _ rfl)
      have c5 := keep (hcc 5 _ rfl)
      have c6 := keep (hcc 6 _ rfl)
      have c7 := keep (hcc 7 _ rfl)
      have c8 := keep (hcc 8 _ rfl)
      have c9 := keep (hcc 9 _ rfl)
      have c10 := keep (hcc 10 _ rfl)
      have c11 := keep (hcc 11 _ rfl)
      rw [Nat.add_zero] at c0
      clear hcc
      clear c1 c2 c3 c4 c5 c6 c7 c8 c9 c10 c11
      have HX := Lib.hid hx
      clear hx
      cases heb : (x.pod.id.toList == s.toList) with
      | false =>
        have HS := Lib.hid (show (L.take (k + 1)).all (fun x => !(x.pod.id.toList == s.toList)) = true by rw [alls_next _ L HX.out, HC.out, heb]; rfl)
        go_wp2
        go_roundw
        case rel => exact ⟨k + 1, by omega, by push_cast; rfl, HS, belStep HB9.out hbel⟩
        case measure => simp [intOf] <;> omega
      | true =>
        have HP := Lib.hid (show fndF L s = k from tw_at (by omega) HC.out (fun y hy => by have := HX.out.symm.trans hy; cases this; simp [heb]))
        go_wp2
        go_ret
        exact ⟨by unfold fndI; rw [HP.out, if_pos hlt]; rfl, belStep HW1.out (belStep HB9.out hbel)⟩
    · obtain rfl : k = L.length := by omega
      have hd : decide ((L.length : Int) < (L.length : Int)) = false := decide_eq_false (by omega)
      have HP := Lib.hid (show fndF L s = L.length from tw_at (Nat.le_refl _) HC.out (fun y hy => by rw [List.getElem?_eq_none (Nat.le_refl _)] at hy; cases hy))
      go_wp2
      go_ret
      exact ⟨by unfold fndI; rw [HP.out, if_neg (Nat.lt_irrefl _)]; rfl, belStep HW1.out (belStep HB9.out hbel)⟩
theorem rwout_ret (W : World) (R : Nat) (tm : Array Value) (r : Int) (s : Value) (x y z : Bool) (Q : Ending → World → Prop) (h2 : tm.getD 4 undef = .pointer (some ⟨R, 0, none⟩)) (hb : Blk W R [.int .i64 r, s, .bool x, .bool y, .bool z] 25) (hR : Q (.returned (.agg #[.int .i64 r, s, .bool x, .bool y, .bool z])) W) :
    bodyPost Try.prog Try.f28 Q Exit.ret { tmps := tm, defers := [] } W := by
  have z0 := hb.cell (j := 0) rfl
  have z1 := hb.cell (j := 1) rfl
  have z2 := hb.cell (j := 2) rfl
  have z3 := hb.cell (j := 3) rfl
  have z4 := hb.cell (j := 4) rfl
  refine bodyPost_ret (v := .agg #[.int .i64 r, s, .bool x, .bool y, .bool z]) ?_ rfl hR
  simp only [Array.getD_eq_getD_getElem?] at h2
  simp [results, Try.results28, go_sem, h2, z0, z1, z2, z3, z4]
set_option maxRecDepth 100000 in
set_option maxHeartbeats 16000000 in
theorem sref_Without (r : Int) (a : Option Addr) (n c : Nat) (o : On) (L : List EntV) (s : ByteArray) (w : World) (hl : L.length = n) (hR : Row w a n c 12 (L.flatMap EntV.cells)) (hn : n ≤ 100000) :
    Calls Try.prog 28 #[.agg #[.int .i64 r, .slice a n c, .bool o.a, .bool o.b, .bool o.c], .string s] w fun e w' => ∃ v, e = .returned (.agg #[.int .i64 r, v, .bool o.a, .bool o.b, .bool o.c]) ∧ OwnR w' w.heap.size 46 12 v (L.filter (keepF s)).length ((L.filter (keepF s)).flatMap EntV.cells) ∧ Below w.heap.size w w' := by
  have hbd : n ≤ c ∧ c ≤ 9223372036854775807 := by obtain ⟨_, h1, h2, _⟩ := hR; unfold maxLen at h2; exact ⟨h1, h2⟩
  obtain ⟨hbd1, hbd2⟩ := hbd
  have HR := Lib.hid hR
  subst hl
  clear hR
  have hw : Below w.heap.size w w := Below.refl _ _
  have hbel := hw
  go_enter Try.func28, Try.ntmps28
  go_upto_region 1 with fail
  have k1 : Below w.heap.size w (w.alloc (.cells #[.int .i64 r, .slice a L.length c, .bool o.a, .bool o.b, .bool o.c] 25)) := belAlloc (Below.refl _ _) _
  have k2 : Below (w.alloc (.cells #[.int .i64 r, .slice a L.length c, .bool o.a, .bool o.b, .bool o.c] 25)).heap.size (w.alloc (.cells #[.int .i64 r, .slice a L.length c, .bool o.a, .bool o.b, .bool o.c] 25)) ((w.alloc (.cells #[.int .i64 r, .slice a L.length c, .bool o.a, .bool o.b, .bool o.c] 25)).alloc (.cells #[.int .i64 0, .slice none 0 0, .bool false, .bool false, .bool false] 25)) := belAlloc (Below.refl _ _) _
  have HS := Lib.hid ((Blk.new w [.int .i64 r, .slice a L.length c, .bool o.a, .bool o.b, .bool o.c] 25).later k2)
  have HZ := Lib.hid (show Blk ((w.alloc (.cells #[.int .i64 r, .slice a L.length c, .bool o.a, .bool o.b, .bool o.c] 25)).alloc (.cells #[.int .i64 0, .slice none 0 0, .bool false, .bool false, .bool false] 25)) (w.heap.size + 1) [.int .i64 0, .slice none 0 0, .bool false, .bool false, .bool false] 25 from Blk.at (C := [.int .i64 0, .slice none 0 0, .bool false, .bool false, .bool false]) (by simp))
  have HW1 := Lib.hid (belStep k1 k2)
  clear k1 k2 hw hbel
  generalize ((w.alloc (.cells #[.int .i64 r, .slice a L.length c, .bool o.a, .bool o.b, .bool o.c] 25)).alloc (.cells #[.int .i64 0, .slice none 0 0, .bool false, .bool false, .bool false] 25)) = W1 at *
  have hb0 : Below W1.heap.size W1 W1 := Below.refl _ _
  have hz1 : w.heap.size + 2 ≤ W1.heap.size := by have := HZ.out.lt; omega
  have ss1 := keep (HS.out.cell (j := 1) rfl)
  have hbel := hb0
  go_wp2
  clear hbel
  go_loopw [5, 6] (fun s9 i wr => ∃ k : Nat, k ≤ L.length ∧ i = .int .i64 k ∧ OwnR wr W1.heap.size 46 12 s9 ((L.take k).filter (keepF s)).length (((L.take k).filter (keepF s)).flatMap EntV.cells) ∧ Below W1.heap.size W1 wr) (fun _ i _ => L.length - (intOf i).toNat)
  case atStart => exact ⟨0, Nat.zero_le _, rfl, OwnR.nil _ _ _ _, hb0⟩
  case round =>
    obtain ⟨k, hk, rfl, hO, hbr⟩ := hrel
    clear hb0
    have HRW := Lib.hid (HR.out.later (belStep HW1.out hbr))
    have s1 := keepOn ss1 hbr
    have hbel : Below wr.heap.size wr wr := Below.refl _ _
    have HB9 := Lib.hid hbr
    clear hbr
    by_cases hlt : k < L.length
    · have hd : decide ((k : Int) < (L.length : Int)) = true := decide_eq_true (by omega)
      have hki : (k : Int) < (L.length : Int) := by omega
      have hk0 : (0 : Int) ≤ (k : Int) := by omega
      obtain ⟨x, hx⟩ : ∃ x, L[k]? = some x := ⟨L[k]'(hlt), List.getElem?_eq_getElem _⟩
      obtain ⟨bc, oc, ec, _, hcc⟩ := (HRW.out).elem EntV.cells_len (by omega) hx
      subst ec
      have c0 := keep (hcc 0 _ rfl)
      have c1 := keep (hcc 1 _ rfl)
      have c2 := keep (hcc 2 _ rfl)
      have c3 := keep (hcc 3 _ rfl)
      have c4 := keep (hcc 4 _ rfl)
      have c5 := keep (hcc 5 _ rfl)
      have c6 := keep (hcc 6 _ rfl)
      have c7 := keep (hcc 7 _ rfl)
      have c8 := keep (hcc 8 _ rfl)
      have c9 := keep (hcc 9 _ rfl)
      have c10 := keep (hcc 10 _ rfl)
      have c11 := keep (hcc 11 _ rfl)
      rw [Nat.add_zero] at c0
      clear hcc
      have HX := Lib.hid hx
      clear hx
      have hfl := filtG_len (keepF s) L k
      cases heb : (x.pod.id.toList == s.toList) with
      | true =>
        have hne : (x.pod.id.toList != s.toList) = false := by simp [bne, heb]
        have HN := Lib.hid (filtG_same (f := keepF s) HX.out (by simp [keepF, heb]))
        have HO := Lib.hid hO
        clear hO
        go_wp2
        go_roundw
        case rel => exact ⟨k + 1, by omega, by push_cast; rfl, by rw [HN.out]; exact HO.out, belStep HB9.out hbel⟩
        case measure => simp [intOf] <;> omega
      | false =>
        have hne : (x.pod.id.toList != s.toList) = true := by simp [bne, heb]
        have HN := Lib.hid (filtG_next (f := keepF s) HX.out (by simp [keepF, heb]))
        obtain ⟨N, hN⟩ : ∃ N, (L.take k).filter (keepF s) = N := ⟨_, rfl⟩
        rw [hN] at hO HN hfl
        clear hN
        have HSA := Lib.hid (OwnR.alloc hO (.cells #[.string x.pod.id, .int .i64 x.pod.prio, .bool x.pod.crit, .int .i64 x.pod.r0, .int .i64 x.pod.r1, .int .i64 x.pod.r2, .int .i64 x.pod.l0, .int .i64 x.pod.l1, .int .i64 x.pod.l2, .string x.pod.img, .int .i64 x.pod.size, .int .i64 x.phase] 46))
        have HRXA := Lib.hid (row_new wr x.cells 46 1 12 rfl (by unfold maxLen; omega))
        clear hO
        go_wp2_with (at_builtin; refine wpList_app_row rfl _ _ 22 rfl W1.heap.size 46 _ 12 112 Try.underlying22 info_entI rfl (by decide) _ _ _ rfl HSA.out _ 1 1 x.cells rfl HRXA.out (one_entI x) ?c1 ?c2 ?c3 ?_)
        case c1 => simp only [maxLen]; omega
        case c2 => omega
        case c3 => have := HB9.out.size; simp; omega
        intro v' w2 ho' hb' _
        have HO2 := Lib.hid (own_snocG ho')
        have HB2 := Lib.hid ((HB9.out.trans ((belAlloc (Below.refl _ _) _ : Below wr.heap.size wr (wr.alloc (.cells #[.string x.pod.id, .int .i64 x.pod.prio, .bool x.pod.crit, .int .i64 x.pod.r0, .int .i64 x.pod.r1, .int .i64 x.pod.r2, .int .i64 x.pod.l0, .int .i64 x.pod.l1, .int .i64 x.pod.l2, .string x.pod.img, .int .i64 x.pod.size, .int .i64 x.phase] 46))).mono HB9.out.size)).trans hb')
        clear ho' hb'
        go_wp2
        go_roundw
        case rel => exact ⟨k + 1, by omega, by push_cast; rfl, by rw [HN.out]; exact HO2.out, HB2.out⟩
        case measure => simp [intOf] <;> omega
    · obtain rfl : k = L.length := by omega
      have hd : decide ((L.length : Int) < (L.length : Int)) = false := decide_eq_false (by omega)
      rw [List.take_length] at hO
      obtain ⟨sa, sC, rfl, _⟩ := rowR_of_own hO
      have HS4 := Lib.hid ((HS.out.later HB9.out).set 1 (.slice sa (L.filter (keepF s)).length sC))
      have HZ4 := Lib.hid ((HZ.out.later HB9.out).far (a := ⟨w.heap.size, 1, none⟩) (show w.heap.size ≠ (w.heap.size + 1) by omega) (.slice sa (L.filter (keepF s)).length sC))
      have HO4 := Lib.hid (OwnR.setCell hO (a := ⟨w.heap.size, 1, none⟩) (show w.heap.size < W1.heap.size by omega) (.slice sa (L.filter (keepF s)).length sC))
      have HB4 := Lib.hid (belSet (belStep HW1.out HB9.out) ⟨w.heap.size, 1, none⟩ (.slice sa (L.filter (keepF s)).length sC) (Nat.le_refl _))
      have sf := (HS.out.later HB9.out).frozen
      clear s1
      obtain ⟨N, hN⟩ : ∃ N, L.filter (keepF s) = N := ⟨_, rfl⟩
      rw [hN] at HS4 HZ4 HO4 HB4 hO ⊢
      have HNN := Lib.hid hN
      clear hN
      have s1 := (HS.out.later HB9.out).cell (j := 1) rfl
      go_upto_region 8 with fail
      clear s1 sf hbel hO
      generalize wr.setCell ⟨w.heap.size, 1, none⟩ (.slice sa N.length sC) = W4 at *
      have hbel : Below W4.heap.size W4 W4 := Below.refl _ _
      have z0 := HZ4.out.cell (j := 0) rfl
      have z1 := HZ4.out.cell (j := 1) rfl
      have z2 := HZ4.out.cell (j := 2) rfl
      have z3 := HZ4.out.cell (j := 3) rfl
      have z4 := HZ4.out.cell (j := 4) rfl
      have zf := HZ4.out.frozen
      have s0 := HS4.out.cell (j := 0) rfl
      have s1 := HS4.out.cell (j := 1) rfl
      have s2 := HS4.out.cell (j := 2) rfl
      have s3 := HS4.out.cell (j := 3) rfl
      have s4 := HS4.out.cell (j := 4) rfl
      go_wp2
      refine rwout_ret _ (w.heap.size + 1) _ r ((.slice sa N.length sC)) o.a o.b o.c _ rfl (((((HZ4.out.set 0 (.int .i64 r)).set 1 ((.slice sa N.length sC))).set 2 (.bool o.a)).set 3 (.bool o.b)).set 4 (.bool o.c)) ⟨(.slice sa N.length sC), rfl, ?_, (belSet (belSet (belSet (belSet (belSet HB4.out ⟨(w.heap.size + 1), 0, none⟩ (.int .i64 r) (show w.heap.size ≤ (w.heap.size + 1) by omega)) ⟨(w.heap.size + 1), 1, none⟩ ((.slice sa N.length sC)) (show w.heap.size ≤ (w.heap.size + 1) by omega)) ⟨(w.heap.size + 1), 2, none⟩ (.bool o.a) (show w.heap.size ≤ (w.heap.size + 1) by omega)) ⟨(w.heap.size + 1), 3, none⟩ (.bool o.b) (show w.heap.size ≤ (w.heap.size + 1) by omega)) ⟨(w.heap.size + 1), 4, none⟩ (.bool o.c) (show w.heap.size ≤ (w.heap.size + 1) by omega))⟩
      rw [HNN.out]
      refine OwnR.mono (B := W1.heap.size) ?_ (by omega)
      exact (OwnR.setCell (OwnR.setCell (OwnR.setCell (OwnR.setCell (OwnR.setCell HO4.out (a := ⟨(w.heap.size + 1), 0, none⟩) (show (w.heap.size + 1) < W1.heap.size by omega) (.int .i64 r)) (a := ⟨(w.heap.size + 1), 1, none⟩) (show (w.heap.size + 1) < W1.heap.size by omega) ((.slice sa N.length sC))) (a := ⟨(w.heap.size + 1), 2, none⟩) (show (w.heap.size + 1) < W1.heap.size by omega) (.bool o.a)) (a := ⟨(w.heap.size + 1), 3, none⟩) (show (w.heap.size + 1) < W1.heap.size by omega) (.bool o.b)) (a := ⟨(w.heap.size + 1), 4, none⟩) (show (w.heap.size + 1) < W1.heap.size by omega) (.bool o.c))
end Go.Proofs.Ytpmkhimmlpnbpaa
