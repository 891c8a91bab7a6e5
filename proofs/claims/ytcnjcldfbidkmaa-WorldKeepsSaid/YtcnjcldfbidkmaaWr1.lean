
/- The reference of stage 16: SameOuts, SameBoxes, Place. -/
import Derived.Test.YtcnjcldfbidkmaaWlM
namespace Go.Proofs.Ytcnjcldfbidkmaa
open Go.RowKit Go.Sort
set_option linter.unusedVariables false
set_option linter.unusedSimpArgs false
def sameV (G H : List Bool) : Bool := decide (G = H)
theorem sameV_refl (G : List Bool) : sameV G G = true := decide_eq_true rfl
theorem sameV_len {G H : List Bool} (h : G.length ≠ H.length) : sameV G H = false := by unfold sameV; exact decide_eq_false (fun e => h (congrArg List.length e))
theorem sameV_no {G H : List Bool} {k : Nat} {s t : Bool} (hs : G[k]? = some s) (ht : H[k]? = some t) (h : s ≠ t) : sameV G H = false := by
  unfold sameV
  refine decide_eq_false (fun e => ?_)
  rw [e] at hs
  rw [hs] at ht
  cases ht
  exact h rfl
theorem sameV_next {G H : List Bool} {k : Nat} {s : Bool} (hs : G[k]? = some s) (ht : H[k]? = some s) (hk : G.take k = H.take k) : G.take (k + 1) = H.take (k + 1) := by
  rw [List.take_add_one, List.take_add_one, hs, ht, hk]
set_option maxRecDepth 100000 in
set_option maxHeartbeats 16000000 in
theorem outs_any (a b : Option Addr) (n1 n2 c1 c2 : Nat) (G H : List Bool) (w : World) (hn : G.length = n1) (hm : H.length = n2) (h1 : Row w a n1 c1 1 (G.map Value.bool)) (h2 : Row w b n2 c2 1 (H.map Value.bool)) :
    Calls Try.prog 28 #[.slice a n1 c1, .slice b n2 c2] w fun e w' => e = .returned (.bool (sameV G H)) ∧ Below w.heap.size w w' := by
  have hbd_x : n1 ≤ c1 ∧ c1 ≤ 9223372036854775807 := by obtain ⟨_, h1, h2, _⟩ := h1; unfold maxLen at h2; exact ⟨h1, h2⟩
  obtain ⟨hbd1_x, hbd2_x⟩ := hbd_x
  have hbd_y : n2 ≤ c2 ∧ c2 ≤ 9223372036854775807 := by obtain ⟨_, h1, h2, _⟩ := h2; unfold maxLen at h2; exact ⟨h1, h2⟩
  obtain ⟨hbd1_y, hbd2_y⟩ := hbd_y
  have H1 := Lib.hid h1
  have H2 := Lib.hid h2
  clear h1 h2
  subst hn hm
  have hbel : Below w.heap.size w w := Below.refl _ _
  by_cases hle : G.length = H.length
  · have hq : ((G.length : Int) != (H.length : Int)) = false := by simp [hle]
    have hq2 : ((G.length : Int) == (H.length : Int)) = true := by simp [hle]
    have HLE := Lib.hid hle
    clear hle
    go_enter Try.func28, Try.ntmps28
    go_wp2
    clear hq hq2
    have HB := Lib.hid hbel
    clear hbel
    go_loopw [5] (fun i wr => ∃ k : Nat, k ≤ G.length ∧ i = .int .i64 k ∧ G.take k = H.take k ∧ Below w.heap.size w wr) (fun i _ => G.length - (intOf i).toNat)
    case atStart => exact ⟨0, Nat.zero_le _, rfl, rfl, HB.out⟩
    case round =>
      obtain ⟨k, hk, rfl, htk, hbel⟩ := hrel
      by_cases hlt : k < G.length
      · have hlt2 : k < H.length := by rw [← HLE.out]; exact hlt
        obtain ⟨s, hs⟩ : ∃ s, G[k]? = some s := ⟨G[k], List.getElem?_eq_getElem hlt⟩
        obtain ⟨t, ht⟩ : ∃ t, H[k]? = some t := ⟨H[k], List.getElem?_eq_getElem hlt2⟩
        obtain ⟨ab, ao, rfl, ca⟩ := bool_cell H1.out hs
        obtain ⟨bb, bo, rfl, cb⟩ := bool_cell H2.out ht
        have x0 := keep ca
        have y0 := keep cb
        have hd : decide ((k : Int) < (G.length : Int)) = true := decide_eq_true (by omega)
        have HT := Lib.hid htk
        have HS := Lib.hid hs
        have HTT := Lib.hid ht
        clear hs ht ca cb htk
        cases s <;> cases t
        · have HN := Lib.hid (sameV_next HS.out HTT.out HT.out)
          go_upto_region 6 with fail
          have kk := fun d os => belStep hbel (below_regrown _ d os)
          refine wp_region_quiet_below (by kernel_rfl) (by kernel_rfl) ?_
          repeat ((with_reducible refine wpQuiet_step (fun K hK => ?_)); go_simp; (try (rw [if_neg]; rotate_left; · decide)); first | ((with_reducible refine hK _ ?_); clear hK K) | (apply Exists.intro; refine ⟨fun _ => ?_, hK _ ?_⟩; (fail); clear hK K))
          refine wpQuiet_nil (fun w1 hw1 => ?_)
          replace hbel := belStep hbel (bel_of_class hw1)
          clear hw1 kk
          go_wp2
          go_roundw
          case rel => exact ⟨k + 1, by omega, by push_cast; rfl, HN.out, hbel⟩
          case measure => simp [intOf] <;> omega
        · have HN := Lib.hid (sameV_no HS.out HTT.out (by decide))
          go_upto_region 6 with fail
          have kk := fun d os => belStep hbel (below_regrown _ d os)
          refine wp_region_quiet_below (by kernel_rfl) (by kernel_rfl) ?_
          repeat ((with_reducible refine wpQuiet_step (fun K hK => ?_)); go_simp; (try (rw [if_neg]; rotate_left; · decide)); first | ((with_reducible refine hK _ ?_); clear hK K) | (apply Exists.intro; refine ⟨fun _ => ?_, hK _ ?_⟩; (fail); clear hK K))
          refine wpQuiet_nil (fun w1 hw1 => ?_)
          replace hbel := belStep hbel (bel_of_class hw1)
          clear hw1 kk
          go_wp2
          go_ret
          exact ⟨by rw [HN.out]; rfl, hbel⟩
        · have HN := Lib.hid (sameV_no HS.out HTT.out (by decide))
          go_upto_region 6 with fail
          have kk := fun d os => belStep hbel (below_regrown _ d os)
          refine wp_region_quiet_below (by kernel_rfl) (by kernel_rfl) ?_
          repeat ((with_reducible refine wpQuiet_step (fun K hK => ?_)); go_simp; (try (rw [if_neg]; rotate_left; · decide)); first | ((with_reducible refine hK _ ?_); clear hK K) | (apply Exists.intro; refine ⟨fun _ => ?_, hK _ ?_⟩; (fail); clear hK K))
          refine wpQuiet_nil (fun w1 hw1 => ?_)
          replace hbel := belStep hbel (bel_of_class hw1)
          clear hw1 kk
          go_wp2
          go_ret
          exact ⟨by rw [HN.out]; rfl, hbel⟩
        · have HN := Lib.hid (sameV_next HS.out HTT.out HT.out)
          go_upto_region 6 with fail
          have kk := fun d os => belStep hbel (below_regrown _ d os)
          refine wp_region_quiet_below (by kernel_rfl) (by kernel_rfl) ?_
          repeat ((with_reducible refine wpQuiet_step (fun K hK => ?_)); go_simp; (try (rw [if_neg]; rotate_left; · decide)); first | ((with_reducible refine hK _ ?_); clear hK K) | (apply Exists.intro; refine ⟨fun _ => ?_, hK _ ?_⟩; (fail); clear hK K))
          refine wpQuiet_nil (fun w1 hw1 => ?_)
          replace hbel := belStep hbel (bel_of_class hw1)
          clear hw1 kk
          go_wp2
          go_roundw
          case rel => exact ⟨k + 1, by omega, by push_cast; rfl, HN.out, hbel⟩
          case measure => simp [intOf] <;> omega
      · obtain rfl : k = G.length := by omega
        have hd : decide ((G.length : Int) < (G.length : Int)) = false := decide_eq_false (by omega)
        have HN := Lib.hid (show sameV G H = true by unfold sameV; refine decide_eq_true ?_; rw [List.take_length] at htk; rw [htk, HLE.out, List.take_length])
        clear htk
        go_wp2
        go_ret
        exact ⟨by rw [HN.out]; rfl, hbel⟩
  · have hq : ((G.length : Int) != (H.length : Int)) = true := by simp; omega
    have hq2 : ((G.length : Int) == (H.length : Int)) = false := by simp; omega
    have HN := Lib.hid (sameV_len hle)
    clear hle
    go_enter Try.func28, Try.ntmps28
    go_wp2
    go_ret
    exact ⟨by rw [HN.out]; rfl, hbel⟩
def eqCont (x y : ContV) : Bool := x.id.toList == y.id.toList && ((x.state == y.state && x.tries == y.tries) && x.last == y.last)
theorem cont_ext {x y : ContV} (h1 : x.id.toList = y.id.toList) (h2 : x.state = y.state) (h3 : x.tries = y.tries) (h4 : x.last = y.last) : x = y := by
  cases x; cases y
  simp only at h1 h2 h3 h4
  rw [str_extG h1, h2, h3, h4]
theorem eqCont_iff (x y : ContV) : eqCont x y = true ↔ x = y := by
  unfold eqCont
  rw [Bool.and_eq_true, Bool.and_eq_true, Bool.and_eq_true, beq_iff_eq, beq_iff_eq, beq_iff_eq, beq_iff_eq]
  exact ⟨fun ⟨h1, ⟨h2, h3⟩, h4⟩ => cont_ext h1 h2 h3 h4, fun h => by subst h; exact ⟨rfl, ⟨rfl, rfl⟩, rfl⟩⟩
set_option maxHeartbeats 1000000 in
theorem eq_cont (x y : ContV) (w : World) : (Op.equalIn 10000 44 (.agg #[.string x.id, .int .i64 x.state, .int .i64 x.tries, .int .i64 x.last]) (.agg #[.string y.id, .int .i64 y.state, .int .i64 y.tries, .int .i64 y.last])).run Try.prog w = .ok (eqCont x y) w := by
  have hs : Try.prog.fieldsOf 38 = #[{ name := "State", type := 3, offset := 0, embedded := false, tag := "", pkgPath := "", byteOffset := 0 }, { name := "Tries", type := 3, offset := 1, embedded := false, tag := "", pkgPath := "", byteOffset := 8 }] := by kernel_rfl
  have ht : Try.prog.fieldsOf 44 = #[{ name := "Id", type := 9, offset := 0, embedded := false, tag := "", pkgPath := "", byteOffset := 0 }, { name := "Box", type := 38, offset := 1, embedded := false, tag := "", pkgPath := "", byteOffset := 16 }, { name := "Last", type := 3, offset := 3, embedded := false, tag := "", pkgPath := "", byteOffset := 32 }] := by kernel_rfl
  have hp : ∀ v : World, (Op.equalIn 9999 38 (.agg #[.int .i64 x.state, .int .i64 x.tries]) (.agg #[.int .i64 y.state, .int .i64 y.tries])).run Try.prog v = .ok (x.state == y.state && x.tries == y.tries) v := by
    intro v
    rw [run_equalIn_struct _ _ _ _ _ (by kernel_rfl) (by kernel_rfl), hs]
    by_cases h2 : x.state = y.state <;> by_cases h3 : x.tries = y.tries <;> simp [go_sem, h2, h3]
  rw [run_equalIn_struct _ _ _ _ _ (by kernel_rfl) (by kernel_rfl), ht]
  unfold eqCont
  by_cases h1 : x.id.toList = y.id.toList <;> by_cases h2 : x.state = y.state <;> by_cases h3 : x.tries = y.tries <;> by_cases h4 : x.last = y.last <;> simp [go_sem, hp, h1, h2, h3, h4]
def sameNC (L M : List ContV) : Nat → Bool
  | 0 => true
  | k + 1 => sameNC L M k && (match L[k]?, M[k]? with | some x, some y => eqCont x y | _, _ => true)
def sameC (L M : List ContV) : Bool := L.length == M.length && sameNC L M L.length
theorem sameNC_no {L M : List ContV} {k n : Nat} {x y : ContV} (hx : L[k]? = some x) (hy : M[k]? = some y) (h : eqCont x y = false) (hk : k < n) : sameNC L M n = false := by
  induction n with
  | zero => omega
  | succ n ih =>
    unfold sameNC
    by_cases e : k = n
    · subst e; rw [hx, hy]; simp [h]
    · rw [ih (by omega), Bool.false_and]
theorem sameNC_at {L M : List ContV} {n : Nat} (h : sameNC L M n = true) : ∀ k, k < n → ∀ x y, L[k]? = some x → M[k]? = some y → x = y := by
  induction n with
  | zero => intro k hk; omega
  | succ n ih =>
    unfold sameNC at h
    rw [Bool.and_eq_true] at h
    intro k hk x y hx hy
    by_cases e : k = n
    · subst e
      have h2 := h.2
      rw [hx, hy] at h2
      exact (eqCont_iff x y).1 h2
    · exact ih h.1 k (by omega) x y hx hy
theorem sameC_iff (L M : List ContV) : sameC L M = true ↔ L = M := by
  unfold sameC
  rw [Bool.and_eq_true, beq_iff_eq]
  constructor
  · rintro ⟨h1, h2⟩
    apply List.ext_getElem h1
    intro i hi hj
    exact sameNC_at h2 i hi _ _ (List.getElem?_eq_getElem hi) (List.getElem?_eq_getElem hj)
  · rintro rfl
    refine ⟨rfl, ?_⟩
    have : ∀ n, sameNC L L n = true := by
      intro n
      induction n with
      | zero => rfl
      | succ n ih =>
        unfold sameNC
        rw [ih]
        cases L[n]? with
        | none => rfl
        | some x => exact (eqCont_iff x x).2 rfl
    exact this _
def placeRC (L : List ContV) (s : ByteArray) : Int := if thereC L s then ((L.takeWhile fun x => !(x.id.toList == s.toList)).length : Int) else -1
theorem thereC_next {L : List ContV} {k : Nat} {x : ContV} {s : ByteArray} (h : L[k]? = some x) : thereC (L.take (k + 1)) s = (thereC (L.take k) s || (x.id.toList == s.toList)) := by
  unfold thereC
  rw [List.take_add_one, h, List.any_append]; simp
theorem placeRC_at {L : List ContV} {k : Nat} {x : ContV} {s : ByteArray} (hx : L[k]? = some x) (he : (x.id.toList == s.toList) = true) (hlo : thereC (L.take k) s = false) : placeRC L s = (k : Int) := by
  have ht : thereC L s = true := List.any_eq_true.2 ⟨x, List.mem_of_getElem? hx, he⟩
  have hk := (List.getElem?_eq_some_iff.1 hx).1
  unfold placeRC
  rw [if_pos ht]
  congr 1
  conv => lhs; rw [← List.take_append_drop k L]
  rw [List.takeWhile_append_of_pos, List.length_append, List.length_take, Nat.min_eq_left (by omega), List.drop_eq_getElem_cons hk, (List.getElem?_eq_some_iff.1 hx).2, List.takeWhile_cons_of_neg (by rw [he]; simp)]
  · rfl
  · intro y hy
    have := List.any_eq_false.1 (show ((L.take k).any fun x => x.id.toList == s.toList) = false from hlo) y hy
    simpa using this
theorem placeRC_no {L : List ContV} {s : ByteArray} (h : thereC L s = false) : placeRC L s = -1 := by unfold placeRC; rw [if_neg (by rw [h]; simp)]
set_option maxRecDepth 100000 in
set_option maxHeartbeats 16000000 in
theorem r16_SameBoxes (a : Option Addr) (len cap : Nat) (L : List ContV) (c : Option Addr) (m mc : Nat) (M : List ContV) (w : World) (hl : L.length = len) (hR : Row w a len cap 4 (L.flatMap ContV.cells)) (hm : M.length = m) (hR2 : Row w c m mc 4 (M.flatMap ContV.cells)) :
    Calls Try.prog 105 #[.slice a len cap, .slice c m mc] w fun e w' => e = .returned (.bool (sameC L M)) ∧ Below w.heap.size w w' := by
  have hw : Below w.heap.size w w := Below.refl _ _
  have hbd_a : len ≤ cap ∧ cap ≤ 9223372036854775807 := by obtain ⟨_, h1, h2, _⟩ := hR; unfold maxLen at h2; exact ⟨h1, h2⟩
  obtain ⟨hbd1_a, hbd2_a⟩ := hbd_a
  have hbd_c : m ≤ mc ∧ mc ≤ 9223372036854775807 := by obtain ⟨_, h1, h2, _⟩ := hR2; unfold maxLen at h2; exact ⟨h1, h2⟩
  obtain ⟨hbd1_c, hbd2_c⟩ := hbd_c
  have HR := Lib.hid hR
  have HR2 := Lib.hid hR2
  clear hR hR2
  subst hl hm
  go_enter Try.func105, Try.ntmps105
  by_cases hlm : L.length = M.length
  rotate_left
  · have HRES := Lib.hid (show sameC L M = false by unfold sameC; rw [show (L.length == M.length) = false by rw [beq_eq_false_iff_ne]; exact hlm]; rfl)
    have hne : ((L.length : Int) != (M.length : Int)) = true := by rw [bne_iff_ne]; omega
    have hne2 : ¬ (L.length : Int) = (M.length : Int) := by omega
    have hne3 : ((L.length : Int) == (M.length : Int)) = false := by rw [beq_eq_false_iff_ne]; omega
    go_wp2
    go_ret
    exact ⟨by rw [HRES.out]; rfl, hw⟩
  · have hne : ((L.length : Int) != (M.length : Int)) = false := by rw [hlm]; simp
    have hne2 : (L.length : Int) = (M.length : Int) := by omega
    have HLM := Lib.hid hlm
    go_wp2
    clear hne hne2 hlm
    go_loopw [5] (fun i wr => ∃ k : Nat, k ≤ L.length ∧ i = .int .i64 k ∧ Hid (sameNC L M k = true) ∧ Below w.heap.size w wr) (fun i _ => L.length - (intOf i).toNat)
    case atStart => exact ⟨0, Nat.zero_le _, rfl, Lib.hid rfl, hw⟩
    case round =>
      clear hw
      obtain ⟨k, hk, rfl, HC, hbel⟩ := hrel
      by_cases hlt : k < L.length
      · have hd : decide ((k : Int) < (L.length : Int)) = true := decide_eq_true (by omega)
        have hkm : k < M.length := by have := HLM.out; omega
        have hki : (k : Int) < (L.length : Int) := by omega
        have hki2 : (k : Int) < (M.length : Int) := by omega
        have hk0 : (0 : Int) ≤ (k : Int) := by omega
        obtain ⟨x, hx⟩ : ∃ x, L[k]? = some x := ⟨L[k], List.getElem?_eq_getElem hlt⟩
        obtain ⟨bc, oc, ec, _, hcc⟩ := (HR.out).elem ContV.cells_len (by omega) hx
        subst ec
        have c0 := keep (hcc 0 _ rfl)
        have c1 := keep (hcc 1 _ rfl)
        have c2 := keep (hcc 2 _ rfl)
        have c3 := keep (hcc 3 _ rfl)
        rw [Nat.add_zero] at c0
        obtain ⟨y, hy⟩ : ∃ y, M[k]? = some y := ⟨M[k], List.getElem?_eq_getElem hkm⟩
        obtain ⟨be, oe, ee, _, hce⟩ := (HR2.out).elem ContV.cells_len (by omega) hy
        subst ee
        have e0 := keep (hce 0 _ rfl)
        have e1 := keep (hce 1 _ rfl)
        have e2 := keep (hce 2 _ rfl)
        have e3 := keep (hce 3 _ rfl)
        rw [Nat.add_zero] at e0
        have HX := Lib.hid hx
        have HY := Lib.hid hy
        clear hx hy hcc hce
        have heq := fun u : World => eq_cont x y u
        cases hq : eqCont x y with
        | false =>
          rw [hq] at heq
          have HRES := Lib.hid (show sameC L M = false by unfold sameC; rw [sameNC_no HX.out HY.out hq hlt, Bool.and_false])
          clear hq
          have hw : Below w.heap.size w w := Below.refl _ _
          go_wp2
          have kk := fun d os => belStep hbel (below_regrown _ d os)
          refine wp_region_quiet_below (by kernel_rfl) (by kernel_rfl) ?_
          repeat ((with_reducible refine wpQuiet_step (fun K hK => ?_)); go_simp; (try (rw [if_neg]; rotate_left; · decide)); first | ((with_reducible refine hK _ ?_); clear hK K) | (apply Exists.intro; refine ⟨fun _ => ?_, hK _ ?_⟩; (fail); clear hK K))
          refine wpQuiet_nil (fun w1 hw1 => ?_)
          replace hbel := belStep hbel (bel_of_class hw1)
          clear hw1 kk
          go_wp2
          go_ret
          exact ⟨by rw [HRES.out]; rfl, hbel⟩
        | true =>
          rw [hq] at heq
          have HS := Lib.hid (show sameNC L M (k + 1) = true by unfold sameNC; rw [HC.out, HX.out, HY.out]; simp [hq])
          clear hq
          have hw : Below w.heap.size w w := Below.refl _ _
          go_wp2
          have kk := fun d os => belStep hbel (below_regrown _ d os)
          refine wp_region_quiet_below (by kernel_rfl) (by kernel_rfl) ?_
          repeat ((with_reducible refine wpQuiet_step (fun K hK => ?_)); go_simp; (try (rw [if_neg]; rotate_left; · decide)); first | ((with_reducible refine hK _ ?_); clear hK K) | (apply Exists.intro; refine ⟨fun _ => ?_, hK _ ?_⟩; (fail); clear hK K))
          refine wpQuiet_nil (fun w1 hw1 => ?_)
          replace hbel := belStep hbel (bel_of_class hw1)
          clear hw1 kk
          go_wp2
          go_roundw
          case rel => exact ⟨k + 1, by omega, by push_cast; rfl, HS, hbel⟩
          case measure => simp [intOf] <;> omega
      · obtain rfl : k = L.length := by omega
        have hd : decide ((L.length : Int) < (L.length : Int)) = false := decide_eq_false (by omega)
        have HRES := Lib.hid (show sameC L M = true by unfold sameC; rw [HC.out, HLM.out]; simp)
        go_wp2
        go_ret
        exact ⟨by rw [HRES.out]; rfl, hbel⟩
set_option maxRecDepth 100000 in
set_option maxHeartbeats 16000000 in
theorem r16_Place (a : Option Addr) (len cap : Nat) (L : List ContV) (s : ByteArray) (w : World) (hl : L.length = len) (hR : Row w a len cap 4 (L.flatMap ContV.cells)) :
    Calls Try.prog 21 #[.slice a len cap, .string s] w fun e w' => e = .returned (.int .i64 (placeRC L s)) ∧ Below w.heap.size w w' := by
  have hw : Below w.heap.size w w := Below.refl _ _
  have hbd_a : len ≤ cap ∧ cap ≤ 9223372036854775807 := by obtain ⟨_, h1, h2, _⟩ := hR; unfold maxLen at h2; exact ⟨h1, h2⟩
  obtain ⟨hbd1_a, hbd2_a⟩ := hbd_a
  have HR := Lib.hid hR
  clear hR
  subst hl
  go_enter Try.func21, Try.ntmps21
  go_wp2
  go_loopw [5] (fun i wr => ∃ k : Nat, k ≤ L.length ∧ i = .int .i64 k ∧ Hid (thereC (L.take k) s = false) ∧ Below w.heap.size w wr) (fun i _ => L.length - (intOf i).toNat)
  case atStart => exact ⟨0, Nat.zero_le _, rfl, Lib.hid rfl, hw⟩
  case round =>
    clear hw
    obtain ⟨k, hk, rfl, HNO, hbel⟩ := hrel
    by_cases hlt : k < L.length
    · have hd : decide ((k : Int) < (L.length : Int)) = true := decide_eq_true (by omega)
      obtain ⟨x, hx⟩ : ∃ x, L[k]? = some x := ⟨L[k], List.getElem?_eq_getElem hlt⟩
      obtain ⟨bc, oc, ec, _, hcc⟩ := (HR.out).elem ContV.cells_len (by omega) hx
      subst ec
      have c0 := keep (hcc 0 _ rfl)
      have c1 := keep (hcc 1 _ rfl)
      have c2 := keep (hcc 2 _ rfl)
      have c3 := keep (hcc 3 _ rfl)
      rw [Nat.add_zero] at c0
      have hn := thereC_next (s := s) hx
      rw [HNO.out, Bool.false_or] at hn
      have HX := Lib.hid hx
      clear hx hcc
      cases he : (x.id.toList == s.toList) with
      | true =>
        have HY := Lib.hid (placeRC_at HX.out he HNO.out)
        clear hn
        go_wp2
        go_ret
        exact ⟨by rw [HY.out]; rfl, hbel⟩
      | false =>
        rw [he] at hn
        have HN := Lib.hid hn
        clear hn
        go_wp2
        go_roundw
        case rel => exact ⟨k + 1, by omega, by push_cast; rfl, HN, hbel⟩
        case measure => simp [intOf] <;> omega
    · obtain rfl : k = L.length := by omega
      have hd : decide ((L.length : Int) < (L.length : Int)) = false := decide_eq_false (by omega)
      have HN := Lib.hid (placeRC_no (show thereC L s = false by have h := HNO.out; rwa [List.take_length] at h))
      go_wp2
      go_ret
      exact ⟨by rw [HN.out]; rfl, hbel⟩
end Go.Proofs.Ytcnjcldfbidkmaa
