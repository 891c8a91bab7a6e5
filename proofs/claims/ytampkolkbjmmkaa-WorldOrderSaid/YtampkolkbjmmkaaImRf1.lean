
/- The reference: Has, Place, Few, Names, Same, Right. -/
import Derived.Test.YtampkolkbjmmkaaIm4
namespace Go.Proofs.Ytampkolkbjmmkaa
open Go.RowKit
set_option linter.unusedVariables false
set_option linter.unusedSimpArgs false
def eqImg (x y : ImgV) : Bool := x.name.toList == y.name.toList && (x.size == y.size && x.last == y.last)
theorem eqImg_iff (x y : ImgV) : eqImg x y = true ↔ x = y := by
  unfold eqImg
  rw [Bool.and_eq_true, Bool.and_eq_true, beq_iff_eq, beq_iff_eq, beq_iff_eq]
  exact ⟨fun ⟨h1, h2, h3⟩ => img_ext h1 h2 h3, fun h => by subst h; exact ⟨rfl, rfl, rfl⟩⟩
set_option maxHeartbeats 1000000 in
theorem eq_img (x y : ImgV) (w : World) : (Op.equalIn 10000 46 (.agg #[.string x.name, .int .i64 x.size, .int .i64 x.last]) (.agg #[.string y.name, .int .i64 y.size, .int .i64 y.last])).run Try.prog w = .ok (eqImg x y) w := by
  have ht : Try.prog.fieldsOf 46 = #[{ name := "Name", type := 9, offset := 0, embedded := false, tag := "", pkgPath := "", byteOffset := 0 }, { name := "Size", type := 3, offset := 1, embedded := false, tag := "", pkgPath := "", byteOffset := 16 }, { name := "Last", type := 3, offset := 2, embedded := false, tag := "", pkgPath := "", byteOffset := 24 }] := by kernel_rfl
  rw [run_equalIn_struct _ _ _ _ _ (by kernel_rfl) (by kernel_rfl), ht]
  unfold eqImg
  by_cases h1 : x.name.toList = y.name.toList <;> by_cases h2 : x.size = y.size <;> by_cases h3 : x.last = y.last <;> simp [go_sem, h1, h2, h3]
def sameNI (L M : List ImgV) : Nat → Bool
  | 0 => true
  | k + 1 => sameNI L M k && (match L[k]?, M[k]? with | some x, some y => eqImg x y | _, _ => true)
def sameI (L M : List ImgV) : Bool := L.length == M.length && sameNI L M L.length
theorem sameNI_no {L M : List ImgV} {k n : Nat} {x y : ImgV} (hx : L[k]? = some x) (hy : M[k]? = some y) (h : eqImg x y = false) (hk : k < n) : sameNI L M n = false := by
  induction n with
  | zero => omega
  | succ n ih =>
    unfold sameNI
    by_cases e : k = n
    · subst e; rw [hx, hy]; simp [h]
    · rw [ih (by omega), Bool.false_and]
theorem sameNI_at {L M : List ImgV} {n : Nat} (h : sameNI L M n = true) : ∀ k, k < n → ∀ x y, L[k]? = some x → M[k]? = some y → x = y := by
  induction n with
  | zero => intro k hk; omega
  | succ n ih =>
    unfold sameNI at h
    rw [Bool.and_eq_true] at h
    intro k hk x y hx hy
    by_cases e : k = n
    · subst e
      have h2 := h.2
      rw [hx, hy] at h2
      exact (eqImg_iff x y).1 h2
    · exact ih h.1 k (by omega) x y hx hy
theorem sameI_iff (L M : List ImgV) : sameI L M = true ↔ L = M := by
  unfold sameI
  rw [Bool.and_eq_true, beq_iff_eq]
  constructor
  · rintro ⟨h1, h2⟩
    apply List.ext_getElem h1
    intro i hi hj
    exact sameNI_at h2 i hi _ _ (List.getElem?_eq_getElem hi) (List.getElem?_eq_getElem hj)
  · rintro rfl
    refine ⟨rfl, ?_⟩
    have : ∀ n, sameNI L L n = true := by
      intro n
      induction n with
      | zero => rfl
      | succ n ih =>
        unfold sameNI
        rw [ih]
        cases L[n]? with
        | none => rfl
        | some x => exact (eqImg_iff x x).2 rfl
    exact this _
def placeR (L : List ImgV) (s : ByteArray) : Int := if thereB L s then ((L.takeWhile fun x => !(x.name.toList == s.toList)).length : Int) else -1
theorem there_next {L : List ImgV} {k : Nat} {x : ImgV} {s : ByteArray} (h : L[k]? = some x) : thereB (L.take (k + 1)) s = (thereB (L.take k) s || (x.name.toList == s.toList)) := by
  unfold thereB
  rw [List.take_add_one, h, List.any_append]; simp
theorem placeR_at {L : List ImgV} {k : Nat} {x : ImgV} {s : ByteArray} (hx : L[k]? = some x) (he : (x.name.toList == s.toList) = true) (hlo : thereB (L.take k) s = false) : placeR L s = (k : Int) := by
  have ht : thereB L s = true := List.any_eq_true.2 ⟨x, List.mem_of_getElem? hx, he⟩
  have hk := (List.getElem?_eq_some_iff.1 hx).1
  unfold placeR
  rw [if_pos ht]
  congr 1
  conv => lhs; rw [← List.take_append_drop k L]
  rw [List.takeWhile_append_of_pos, List.length_append, List.length_take, Nat.min_eq_left (by omega), List.drop_eq_getElem_cons hk, (List.getElem?_eq_some_iff.1 hx).2, List.takeWhile_cons_of_neg (by rw [he]; simp)]
  · rfl
  · intro y hy
    have := List.any_eq_false.1 (show ((L.take k).any fun x => x.name.toList == s.toList) = false from hlo) y hy
    simpa using this
theorem placeR_no {L : List ImgV} {s : ByteArray} (h : thereB L s = false) : placeR L s = -1 := by unfold placeR; rw [if_neg (by rw [h]; simp)]
def shortI (x : ImgV) : Bool := decide (x.name.size ≤ 60)
def fewI (L : List ImgV) : Bool := (L.take 100).all shortI && decide (L.length ≤ 60)
def shortT (s : ByteArray) : Bool := decide (s.size ≤ 60)
def fewT (U : List ByteArray) : Bool := (U.take 100).all shortT && decide (U.length ≤ 60)
theorem allG_next {α : Type} {f : α → Bool} {L : List α} {k : Nat} {x : α} (h : L[k]? = some x) : (L.take (k + 1)).all f = ((L.take k).all f && f x) := by
  rw [List.take_add_one, h, List.all_append]; simp
theorem allG_not {α : Type} {f : α → Bool} {L : List α} {k m : Nat} {x : α} (h : L[k]? = some x) (hf : f x = false) (hk : k < m) : (L.take m).all f = false := by
  rw [List.all_eq_false]
  refine ⟨x, ?_, by rw [hf]; simp⟩
  exact List.mem_of_getElem? (i := k) (by rw [List.getElem?_take_of_lt hk]; exact h)
theorem few_len {L : List ImgV} (h : fewI L = true) : L.length ≤ 60 := by unfold fewI at h; rw [Bool.and_eq_true] at h; exact of_decide_eq_true h.2
theorem few_lenT {L : List ByteArray} (h : fewT L = true) : L.length ≤ 60 := by unfold fewT at h; rw [Bool.and_eq_true] at h; exact of_decide_eq_true h.2
def stepI (L : List ImgV) (k : Nat) : Bool := match L[k]? with
  | none => true
  | some x => (decide (0 ≤ x.size) && decide (0 ≤ x.last)) && (match k with | 0 => true | j + 1 => match L[j]? with | none => true | some y => Op.bytesLess y.name.toList x.name.toList)
def chkI (L : List ImgV) : Nat → Bool
  | 0 => true
  | k + 1 => chkI L k && stepI L k
def rightI (L : List ImgV) : Bool := chkI L L.length
theorem chkI_no {L : List ImgV} {k n : Nat} (hk : k < n) (h : stepI L k = false) : chkI L n = false := by
  induction n with
  | zero => omega
  | succ n ih =>
    unfold chkI
    by_cases e : k = n
    · subst e; rw [h, Bool.and_false]
    · rw [ih (by omega), Bool.false_and]
theorem chkI_at {L : List ImgV} : ∀ {n : Nat}, chkI L n = true → ∀ k, k < n → stepI L k = true := by
  intro n
  induction n with
  | zero => intro h k hk; omega
  | succ n ih =>
    intro h k hk
    unfold chkI at h
    rw [Bool.and_eq_true] at h
    by_cases e : k = n
    · subst e; exact h.2
    · exact ih h.1 k (by omega)
theorem stepI_0 {L : List ImgV} {x : ImgV} (h : L[0]? = some x) : stepI L 0 = (decide (0 ≤ x.size) && decide (0 ≤ x.last)) := by unfold stepI; rw [h]; simp
theorem stepI_s {L : List ImgV} {k : Nat} {x y : ImgV} (h : L[k + 1]? = some x) (hy : L[k]? = some y) : stepI L (k + 1) = ((decide (0 ≤ x.size) && decide (0 ≤ x.last)) && Op.bytesLess y.name.toList x.name.toList) := by unfold stepI; rw [h]; simp [hy]
theorem stepI_bad {L : List ImgV} {k : Nat} {x : ImgV} (h : L[k]? = some x) (hb : (decide (0 ≤ x.size) && decide (0 ≤ x.last)) = false) : stepI L k = false := by unfold stepI; rw [h]; simp only [hb, Bool.false_and]
theorem right_rises {L : List ImgV} (h : rightI L = true) : Rises L := by
  have key : ∀ i j (hi : i < L.length) (hj : j < L.length), i < j → L[i].name.toList < L[j].name.toList := by
    intro i j hi hj hij
    induction j with
    | zero => omega
    | succ j ih =>
      have h2 := chkI_at h (j + 1) hj
      rw [stepI_s (List.getElem?_eq_getElem hj) (List.getElem?_eq_getElem (show j < L.length by omega)), Bool.and_eq_true, bytesLess_iff] at h2
      have h3 := of_decide_eq_true h2.2
      by_cases e : i = j
      · subst e; exact h3
      · exact List.lt_trans (ih (by omega) (by omega)) h3
  exact List.pairwise_iff_getElem.2 (fun i j hi hj hij => key i j hi hj hij)
theorem right_nums {L : List ImgV} (h : rightI L = true) : ∀ x ∈ L, 0 ≤ x.size ∧ 0 ≤ x.last := by
  intro x hx
  obtain ⟨k, hk⟩ := List.getElem?_of_mem hx
  have hl := (List.getElem?_eq_some_iff.1 hk).1
  have h2 := chkI_at h k hl
  cases hb : (decide (0 ≤ x.size) && decide (0 ≤ x.last)) with
  | false => rw [stepI_bad hk hb] at h2; cases h2
  | true => simpa using hb
theorem rises_right {L : List ImgV} (h : Rises L) (hn : ∀ x ∈ L, 0 ≤ x.size ∧ 0 ≤ x.last) : rightI L = true := by
  unfold rightI
  have : ∀ n, n ≤ L.length → chkI L n = true := by
    intro n
    induction n with
    | zero => intro _; rfl
    | succ n ih =>
      intro hn2
      unfold chkI
      rw [ih (by omega), Bool.true_and]
      have hx := List.getElem?_eq_getElem (show n < L.length by omega)
      have hq := hn _ (List.mem_of_getElem? hx)
      have hq2 : (decide (0 ≤ L[n].size) && decide (0 ≤ L[n].last)) = true := by simp [hq.1, hq.2]
      cases n with
      | zero => rw [stepI_0 hx, hq2]
      | succ m =>
        rw [stepI_s hx (List.getElem?_eq_getElem (show m < L.length by omega)), hq2, Bool.true_and, bytesLess_iff]
        exact decide_eq_true (h.lt (List.getElem?_eq_getElem (show m < L.length by omega)) hx (by omega))
  exact this _ (Nat.le_refl _)
set_option maxRecDepth 100000 in
set_option maxHeartbeats 16000000 in
theorem iref_Has (b : Option Addr) (ul uc : Nat) (U : List ByteArray) (s : ByteArray) (w : World) (hu : U.length = ul) (hRU : Row w b ul uc 1 (U.map Value.string)) :
    Calls Try.prog 29 #[.slice b ul uc, .string s] w fun e w' => e = .returned (.bool (hasU U s)) ∧ Below w.heap.size w w' := by
  have hw : Below w.heap.size w w := Below.refl _ _
  have hbd_u : ul ≤ uc ∧ uc ≤ 9223372036854775807 := by obtain ⟨_, h1, h2, _⟩ := hRU; unfold maxLen at h2; exact ⟨h1, h2⟩
  obtain ⟨hbd1_u, hbd2_u⟩ := hbd_u
  have HRU := Lib.hid hRU
  clear hRU
  subst hu
  go_enter Try.func29, Try.ntmps29
  go_wp2
  go_loopw [5] (fun i wr => ∃ k : Nat, k ≤ U.length ∧ i = .int .i64 k ∧ Hid (hasU (U.take k) s = false) ∧ Below w.heap.size w wr) (fun i _ => U.length - (intOf i).toNat)
  case atStart => exact ⟨0, Nat.zero_le _, rfl, Lib.hid rfl, hw⟩
  case round =>
    clear hw
    obtain ⟨k, hk, rfl, HNO, hbel⟩ := hrel
    by_cases hlt : k < U.length
    · have hd : decide ((k : Int) < (U.length : Int)) = true := decide_eq_true (by omega)
      obtain ⟨t, ht⟩ : ∃ t, U[k]? = some t := ⟨U[k], List.getElem?_eq_getElem hlt⟩
      obtain ⟨bu, ou, eu, cu⟩ := text_cell (HRU.out) ht
      subst eu
      have y0 := keep cu
      clear cu
      have hn := hasU_next (s := s) ht
      rw [HNO.out, Bool.false_or] at hn
      cases he : (t.toList == s.toList) with
      | true =>
        have HY := Lib.hid (hasU_now ht he)
        clear hn ht
        go_wp2
        go_ret
        exact ⟨by rw [HY.out]; rfl, hbel⟩
      | false =>
        rw [he] at hn
        have HN := Lib.hid hn
        clear hn ht
        go_wp2
        go_roundw
        case rel => exact ⟨k + 1, by omega, by push_cast; rfl, HN, hbel⟩
        case measure => simp [intOf] <;> omega
    · obtain rfl : k = U.length := by omega
      have hd : decide ((U.length : Int) < (U.length : Int)) = false := decide_eq_false (by omega)
      have HN := Lib.hid (show hasU U s = false by have h := HNO.out; rwa [List.take_length] at h)
      go_wp2
      go_ret
      exact ⟨by rw [HN.out]; rfl, hbel⟩
set_option maxRecDepth 100000 in
set_option maxHeartbeats 16000000 in
theorem iref_Place (a : Option Addr) (len cap : Nat) (L : List ImgV) (s : ByteArray) (w : World) (hl : L.length = len) (hR : Row w a len cap 3 (L.flatMap ImgV.cells)) :
    Calls Try.prog 35 #[.slice a len cap, .string s] w fun e w' => e = .returned (.int .i64 (placeR L s)) ∧ Below w.heap.size w w' := by
  have hw : Below w.heap.size w w := Below.refl _ _
  have hbd_a : len ≤ cap ∧ cap ≤ 9223372036854775807 := by obtain ⟨_, h1, h2, _⟩ := hR; unfold maxLen at h2; exact ⟨h1, h2⟩
  obtain ⟨hbd1_a, hbd2_a⟩ := hbd_a
  have HR := Lib.hid hR
  clear hR
  subst hl
  go_enter Try.func35, Try.ntmps35
  go_wp2
  go_loopw [5] (fun i wr => ∃ k : Nat, k ≤ L.length ∧ i = .int .i64 k ∧ Hid (thereB (L.take k) s = false) ∧ Below w.heap.size w wr) (fun i _ => L.length - (intOf i).toNat)
  case atStart => exact ⟨0, Nat.zero_le _, rfl, Lib.hid rfl, hw⟩
  case round =>
    clear hw
    obtain ⟨k, hk, rfl, HNO, hbel⟩ := hrel
    by_cases hlt : k < L.length
    · have hd : decide ((k : Int) < (L.length : Int)) = true := decide_eq_true (by omega)
      obtain ⟨x, hx⟩ : ∃ x, L[k]? = some x := ⟨L[k], List.getElem?_eq_getElem hlt⟩
      obtain ⟨bc, oc, ec, _, hcc⟩ := (HR.out).elem ImgV.cells_len (by omega) hx
      subst ec
      have c0 := keep (hcc 0 _ rfl)
      have c1 := keep (hcc 1 _ rfl)
      have c2 := keep (hcc 2 _ rfl)
      rw [Nat.add_zero] at c0
      have hn := there_next (s := s) hx
      rw [HNO.out, Bool.false_or] at hn
      have HX := Lib.hid hx
      clear hx hcc
      cases he : (x.name.toList == s.toList) with
      | true =>
        have HY := Lib.hid (placeR_at HX.out he HNO.out)
        clear hn
        go_wp2
        go_ret
        exact ⟨by rw [HY.out]; rfl, hbel⟩
      | false =>
        rw [he] at hn
        have HN := Lib.hid hn
        clear hn
        go_wp2
        go_roundw
        case rel => exact ⟨k + 1, by omega, by push_cast; rfl, HN, hbel⟩
        case measure => simp [intOf] <;> omega
    · obtain rfl : k = L.length := by omega
      have hd : decide ((L.length : Int) < (L.length : Int)) = false := decide_eq_false (by omega)
      have HN := Lib.hid (placeR_no (show thereB L s = false by have h := HNO.out; rwa [List.take_length] at h))
      go_wp2
      go_ret
      exact ⟨by rw [HN.out]; rfl, hbel⟩
set_option maxRecDepth 100000 in
set_option maxHeartbeats 16000000 in
theorem iref_Few (a : Option Addr) (len cap : Nat) (L : List ImgV) (w : World) (hl : L.length = len) (hR : Row w a len cap 3 (L.flatMap ImgV.cells)) (hok : ∀ x ∈ L, x.ok) :
    Calls Try.prog 31 #[.slice a len cap] w fun e w' => e = .returned (.bool (fewI L)) ∧ Below w.heap.size w w' := by
  have hw : Below w.heap.size w w := Below.refl _ _
  have hbd_a : len ≤ cap ∧ cap ≤ 9223372036854775807 := by obtain ⟨_, h1, h2, _⟩ := hR; unfold maxLen at h2; exact ⟨h1, h2⟩
  obtain ⟨hbd1_a, hbd2_a⟩ := hbd_a
  have HR := Lib.hid hR
  clear hR
  subst hl
  have HOK := Lib.hid hok
  clear hok
  go_enter Try.func31, Try.ntmps31
  go_wp2
  go_loopw [3] (fun i wr => ∃ k : Nat, k ≤ L.length ∧ k ≤ 100 ∧ i = .int .i64 k ∧ Hid ((L.take k).all shortI = true) ∧ Below w.heap.size w wr) (fun i _ => L.length - (intOf i).toNat)
  case atStart => exact ⟨0, Nat.zero_le _, by omega, rfl, Lib.hid rfl, hw⟩
  case round =>
    clear hw
    obtain ⟨k, hk, hk2, rfl, HC, hbel⟩ := hrel
    by_cases hlt2 : k < min L.length 100
    · have hlt : k < L.length := by omega
      have hd : decide ((k : Int) < (L.length : Int)) = true := decide_eq_true (by omega)
      have hki : (k : Int) < (L.length : Int) := by omega
      have hd2 : decide ((k : Int) < 100) = true := decide_eq_true (by omega)
      have hd3 : (k : Int) < 100 := by omega
      obtain ⟨x, hx⟩ : ∃ x, L[k]? = some x := ⟨L[k], List.getElem?_eq_getElem hlt⟩
      obtain ⟨bc, oc, ec, _, hcc⟩ := (HR.out).elem ImgV.cells_len (by omega) hx
      subst ec
      have c0 := keep (hcc 0 _ rfl)
      have c1 := keep (hcc 1 _ rfl)
      have c2 := keep (hcc 2 _ rfl)
      rw [Nat.add_zero] at c0
      have HX := Lib.hid hx
      have hmx := HOK.out _ (List.mem_of_getElem? hx)
      have hsz0 : x.name.size ≤ 9223372036854775807 := by have := hmx.1; unfold maxLen at this; omega
      clear hx hmx hcc
      by_cases h60 : 60 < x.name.size
      · have HN := Lib.hid (show fewI L = false by unfold fewI; rw [allG_not HX.out (show shortI x = false from decide_eq_false (by omega)) (show k < 100 by omega)]; rfl)
        have d1 : decide ((60 : Int) < (x.name.size : Int)) = true := decide_eq_true (by omega)
        have d2 : (60 : Int) < (x.name.size : Int) := by omega
        go_wp2
        go_ret
        exact ⟨by rw [HN.out]; rfl, hbel⟩
      · have HN := Lib.hid (show (L.take (k + 1)).all shortI = true by rw [allG_next HX.out, HC.out, show shortI x = true from decide_eq_true (by omega)]; rfl)
        have d1 : decide ((60 : Int) < (x.name.size : Int)) = false := decide_eq_false (by omega)
        have d2 : ¬ (60 : Int) < (x.name.size : Int) := by omega
        go_wp2
        go_roundw
        case rel => exact ⟨k + 1, by omega, by omega, by push_cast; rfl, HN, hbel⟩
        case measure => simp [intOf] <;> omega
    · obtain rfl : k = min L.length 100 := by omega
      by_cases h100 : L.length < 100
      · have hmi : min L.length 100 = L.length := by omega
        rw [hmi] at HC ⊢
        have HF := Lib.hid (show fewI L = decide (L.length ≤ 60) by unfold fewI; rw [List.take_of_length_le (by omega)]; rw [List.take_length] at HC; rw [HC.out]; rfl)
        have hd : decide ((L.length : Int) < (L.length : Int)) = false := decide_eq_false (by omega)
        have k10 : decide ((L.length : Int) ≤ 60) = decide (L.length ≤ 60) := decide_eq_decide.2 (by omega)
        go_wp2
        go_ret
        exact ⟨by rw [HF.out]; first | rfl | (rw [← k10]; rfl), hbel⟩
      · have hmi : min L.length 100 = 100 := by omega
        rw [hmi] at HC ⊢
        have HF := Lib.hid (show fewI L = false by unfold fewI; rw [show decide (L.length ≤ 60) = false from decide_eq_false (by omega), Bool.and_false])
        have k10 : decide ((L.length : Int) ≤ 60) = false := decide_eq_false (by omega)
        have k11 : ¬ (L.length : Int) ≤ 60 := by omega
        by_cases h9 : L.length = 100
        · have hd : decide (((100 : Nat) : Int) < (L.length : Int)) = false := decide_eq_false (by omega)
          have hd4 : decide ((100 : Int) < (L.length : Int)) = false := decide_eq_false (by omega)
          go_wp2
          go_ret
          exact ⟨by rw [HF.out]; rfl, hbel⟩
        · have hd : decide (((100 : Nat) : Int) < (L.length : Int)) = true := decide_eq_true (by omega)
          have hd4 : decide ((100 : Int) < (L.length : Int)) = true := decide_eq_true (by omega)
          have hd5 : (100 : Int) < (L.length : Int) := by omega
          go_wp2
          go_ret
          exact ⟨by rw [HF.out]; rfl, hbel⟩
set_option maxRecDepth 100000 in
set_option maxHeartbeats 16000000 in
theorem iref_Names (b : Option Addr) (ul uc : Nat) (U : List ByteArray) (w : World) (hu : U.length = ul) (hRU : Row w b ul uc 1 (U.map Value.string)) (hok : ∀ s ∈ U, s.size ≤ maxLen) :
    Calls Try.prog 21 #[.slice b ul uc] w fun e w' => e = .returned (.bool (fewT U)) ∧ Below w.heap.size w w' := by
  have hw : Below w.heap.size w w := Below.refl _ _
  have hbd_u : ul ≤ uc ∧ uc ≤ 9223372036854775807 := by obtain ⟨_, h1, h2, _⟩ := hRU; unfold maxLen at h2; exact ⟨h1, h2⟩
  obtain ⟨hbd1_u, hbd2_u⟩ := hbd_u
  have HR := Lib.hid hRU
  clear hRU
  subst hu
  have HOK := Lib.hid hok
  clear hok
  go_enter Try.func21, Try.ntmps21
  go_wp2
  go_loopw [3] (fun i wr => ∃ k : Nat, k ≤ U.length ∧ k ≤ 100 ∧ i = .int .i64 k ∧ Hid ((U.take k).all shortT = true) ∧ Below w.heap.size w wr) (fun i _ => U.length - (intOf i).toNat)
  case atStart => exact ⟨0, Nat.zero_le _, by omega, rfl, Lib.hid rfl, hw⟩
  case round =>
    clear hw
    obtain ⟨k, hk, hk2, rfl, HC, hbel⟩ := hrel
    by_cases hlt2 : k < min U.length 100
    · have hlt : k < U.length := by omega
      have hd : decide ((k : Int) < (U.length : Int)) = true := decide_eq_true (by omega)
      have hki : (k : Int) < (U.length : Int) := by omega
      have hd2 : decide ((k : Int) < 100) = true := decide_eq_true (by omega)
      have hd3 : (k : Int) < 100 := by omega
      obtain ⟨t, ht⟩ : ∃ t, U[k]? = some t := ⟨U[k], List.getElem?_eq_getElem hlt⟩
      obtain ⟨bu, ou, eu, cu⟩ := text_cell (HR.out) ht
      subst eu
      have y0 := keep cu
      clear cu
      have HT := Lib.hid ht
      have hmx := HOK.out _ (List.mem_of_getElem? ht)
      have hsz0 : t.size ≤ 9223372036854775807 := by unfold maxLen at hmx; omega
      clear ht hmx
      by_cases h60 : 60 < t.size
      · have HN := Lib.hid (show fewT U = false by unfold fewT; rw [allG_not HT.out (show shortT t = false from decide_eq_false (by omega)) (show k < 100 by omega)]; rfl)
        have d1 : decide ((60 : Int) < (t.size : Int)) = true := decide_eq_true (by omega)
        have d2 : (60 : Int) < (t.size : Int) := by omega
        go_wp2
        go_ret
        exact ⟨by rw [HN.out]; rfl, hbel⟩
      · have HN := Lib.hid (show (U.take (k + 1)).all shortT = true by rw [allG_next HT.out, HC.out, show shortT t = true from decide_eq_true (by omega)]; rfl)
        have d1 : decide ((60 : Int) < (t.size : Int)) = false := decide_eq_false (by omega)
        have d2 : ¬ (60 : Int) < (t.size : Int) := by omega
        go_wp2
        go_roundw
        case rel => exact ⟨k + 1, by omega, by omega, by push_cast; rfl, HN, hbel⟩
        case measure => simp [intOf] <;> omega
    · obtain rfl : k = min U.length 100 := by omega
      by_cases h100 : U.length < 100
      · have hmi : min U.length 100 = U.length := by omega
        rw [hmi] at HC ⊢
        have HF := Lib.hid (show fewT U = decide (U.length ≤ 60) by unfold fewT; rw [List.take_of_length_le (by omega)]; rw [List.take_length] at HC; rw [HC.out]; rfl)
        have hd : decide ((U.length : Int) < (U.length : Int)) = false := decide_eq_false (by omega)
        have k10 : decide ((U.length : Int) ≤ 60) = decide (U.length ≤ 60) := decide_eq_decide.2 (by omega)
        go_wp2
        go_ret
        exact ⟨by rw [HF.out]; first | rfl | (rw [← k10]; rfl), hbel⟩
      · have hmi : min U.length 100 = 100 := by omega
        rw [hmi] at HC ⊢
        have HF := Lib.hid (show fewT U = false by unfold fewT; rw [show decide (U.length ≤ 60) = false from decide_eq_false (by omega), Bool.and_false])
        have k10 : decide ((U.length : Int) ≤ 60) = false := decide_eq_false (by omega)
        have k11 : ¬ (U.length : Int) ≤ 60 := by omega
        by_cases h9 : U.length = 100
        · have hd : decide (((100 : Nat) : Int) < (U.length : Int)) = false := decide_eq_false (by omega)
          have hd4 : decide ((100 : Int) < (U.length : Int)) = false := decide_eq_false (by omega)
          go_wp2
          go_ret
          exact ⟨by rw [HF.out]; rfl, hbel⟩
        · have hd : decide (((100 : Nat) : Int) < (U.length : Int)) = true := decide_eq_true (by omega)
          have hd4 : decide ((100 : Int) < (U.length : Int)) = true := decide_eq_true (by omega)
          have hd5 : (100 : Int) < (U.length : Int) := by omega
          go_wp2
          go_ret
          exact ⟨by rw [HF.out]; rfl, hbel⟩
set_option maxRecDepth 100000 in
set_option maxHeartbeats 16000000 in
theorem iref_Same (a : Option Addr) (len cap : Nat) (L : List ImgV) (c : Option Addr) (m mc : Nat) (M : List ImgV) (w : World) (hl : L.length = len) (hR : Row w a len cap 3 (L.flatMap ImgV.cells)) (hm : M.length = m) (hR2 : Row w c m mc 3 (M.flatMap ImgV.cells)) :
    Calls Try.prog 36 #[.slice a len cap, .slice c m mc] w fun e w' => e = .returned (.bool (sameI L M)) ∧ Below w.heap.size w w' := by
  have hw : Below w.heap.size w w := Below.refl _ _
  have hbd_a : len ≤ cap ∧ cap ≤ 9223372036854775807 := by obtain ⟨_, h1, h2, _⟩ := hR; unfold maxLen at h2; exact ⟨h1, h2⟩
  obtain ⟨hbd1_a, hbd2_a⟩ := hbd_a
  have hbd_c : m ≤ mc ∧ mc ≤ 9223372036854775807 := by obtain ⟨_, h1, h2, _⟩ := hR2; unfold maxLen at h2; exact ⟨h1, h2⟩
  obtain ⟨hbd1_c, hbd2_c⟩ := hbd_c
  have HR := Lib.hid hR
  have HR2 := Lib.hid hR2
  clear hR hR2
  subst hl hm
  go_enter Try.func36, Try.ntmps36
  by_cases hlm : L.length = M.length
  rotate_left
  · have HRES := Lib.hid (show sameI L M = false by unfold sameI; rw [show (L.length == M.length) = false by rw [beq_eq_false_iff_ne]; exact hlm]; rfl)
    have hne : ((L.length : Int) != (M.length : Int)) = true := by rw [bne_iff_ne]; omega
    have hne2 : ¬ (L.length : Int) = (M.length : Int) := by omega
    have hne3 : ((L.length : Int) == (M.length : Int)) = false := by rw [beq_eq_false_iff_ne]; omega
    go_wp2
    go_ret
    exact ⟨by rw [HRES.out]; rfl, hw⟩
  · have hne : ((L.length : Int) != (M.length : Int)) = false := by rw [hlm]; simp
    have hne2 : (L.length : Int) = (M.length : Int) := by omega
    have HLM := Lib.hid hlm
    go_wp2
    clear hne hne2 hlm
    go_loopw [5] (fun i wr => ∃ k : Nat, k ≤ L.length ∧ i = .int .i64 k ∧ Hid (sameNI L M k = true) ∧ Below w.heap.size w wr) (fun i _ => L.length - (intOf i).toNat)
    case atStart => exact ⟨0, Nat.zero_le _, rfl, Lib.hid rfl, hw⟩
    case round =>
      clear hw
      obtain ⟨k, hk, rfl, HC, hbel⟩ := hrel
      by_cases hlt : k < L.length
      · have hd : decide ((k : Int) < (L.length : Int)) = true := decide_eq_true (by omega)
        have hkm : k < M.length := by have := HLM.out; omega
        have hki : (k : Int) < (L.length : Int) := by omega
        have hki2 : (k : Int) < (M.length : Int) := by omega
        have hk0 : (0 : Int) ≤ (k : Int) := by omega
        obtain ⟨x, hx⟩ : ∃ x, L[k]? = some x := ⟨L[k], List.getElem?_eq_getElem hlt⟩
        obtain ⟨bc, oc, ec, _, hcc⟩ := (HR.out).elem ImgV.cells_len (by omega) hx
        subst ec
        have c0 := keep (hcc 0 _ rfl)
        have c1 := keep (hcc 1 _ rfl)
        have c2 := keep (hcc 2 _ rfl)
        rw [Nat.add_zero] at c0
        obtain ⟨y, hy⟩ : ∃ y, M[k]? = some y := ⟨M[k], List.getElem?_eq_getElem hkm⟩
        obtain ⟨be, oe, ee, _, hce⟩ := (HR2.out).elem ImgV.cells_len (by omega) hy
        subst ee
        have e0 := keep (hce 0 _ rfl)
        have e1 := keep (hce 1 _ rfl)
        have e2 := keep (hce 2 _ rfl)
        rw [Nat.add_zero] at e0
        have HX := Lib.hid hx
        have HY := Lib.hid hy
        clear hx hy hcc hce
        have heq := fun u : World => eq_img x y u
        cases hq : eqImg x y with
        | false =>
          rw [hq] at heq
          have HRES := Lib.hid (show sameI L M = false by unfold sameI; rw [sameNI_no HX.out HY.out hq hlt, Bool.and_false])
          clear hq
          have hw : Below w.heap.size w w := Below.refl _ _
          go_wp2
          have kk := fun d os => belStep hbel (below_regrown _ d os)
          refine wp_region_quiet_below (by kernel_rfl) (by kernel_rfl) ?_
          repeat ((with_reducible refine wpQuiet_step (fun K hK => ?_)); go_simp; (try (rw [if_neg]; rotate_left; · decide)); first | ((with_reducible refine hK _ ?_); clear hK K) | (apply Exists.intro; refine ⟨fun _ => ?_, hK _ ?_⟩; (fail); clear hK K))
          refine wpQuiet_nil (fun w1 hw1 => ?_)
          replace hbel := belStep hbel (bel_of_class hw1)
          clear hw1 kk
          go_wp2
          go_ret
          exact ⟨by rw [HRES.out]; rfl, hbel⟩
        | true =>
          rw [hq] at heq
          have HS := Lib.hid (show sameNI L M (k + 1) = true by unfold sameNI; rw [HC.out, HX.out, HY.out]; simp [hq])
          clear hq
          have hw : Below w.heap.size w w := Below.refl _ _
          go_wp2
          have kk := fun d os => belStep hbel (below_regrown _ d os)
          refine wp_region_quiet_below (by kernel_rfl) (by kernel_rfl) ?_
          repeat ((with_reducible refine wpQuiet_step (fun K hK => ?_)); go_simp; (try (rw [if_neg]; rotate_left; · decide)); first | ((with_reducible refine hK _ ?_); clear hK K) | (apply Exists.intro; refine ⟨fun _ => ?_, hK _ ?_⟩; (fail); clear hK K))
          refine wpQuiet_nil (fun w1 hw1 => ?_)
          replace hbel := belStep hbel (bel_of_class hw1)
          clear hw1 kk
          go_wp2
          go_roundw
          case rel => exact ⟨k + 1, by omega, by push_cast; rfl, HS, hbel⟩
          case measure => simp [intOf] <;> omega
      · obtain rfl : k = L.length := by omega
        have hd : decide ((L.length : Int) < (L.length : Int)) = false := decide_eq_false (by omega)
        have HRES := Lib.hid (show sameI L M = true by unfold sameI; rw [HC.out, HLM.out]; simp)
        go_wp2
        go_ret
        exact ⟨by rw [HRES.out]; rfl, hbel⟩
set_option maxRecDepth 100000 in
set_option maxHeartbeats 16000000 in
theorem iref_Right (a : Option Addr) (len cap : Nat) (L : List ImgV) (w : World) (hl : L.length = len) (hR : Row w a len cap 3 (L.flatMap ImgV.cells)) :
    Calls Try.prog 32 #[.slice a len cap] w fun e w' => e = .returned (.bool (rightI L)) ∧ Below w.heap.size w w' := by
  have hw : Below w.heap.size w w := Below.refl _ _
  have hbd_a : len ≤ cap ∧ cap ≤ 9223372036854775807 := by obtain ⟨_, h1, h2, _⟩ := hR; unfold maxLen at h2; exact ⟨h1, h2⟩
  obtain ⟨hbd1_a, hbd2_a⟩ := hbd_a
  have HR := Lib.hid hR
  clear hR
  subst hl
  go_enter Try.func32, Try.ntmps32
  go_wp2
  go_loopw [3] (fun i wr => ∃ k : Nat, k ≤ L.length ∧ i = .int .i64 k ∧ Hid (chkI L k = true) ∧ Below w.heap.size w wr) (fun i _ => L.length - (intOf i).toNat)
  case atStart => exact ⟨0, Nat.zero_le _, rfl, Lib.hid rfl, hw⟩
  case round =>
    clear hw
    obtain ⟨k, hk, rfl, HC, hbr⟩ := hrel
    by_cases hlt : k < L.length
    · have hd : decide ((k : Int) < (L.length : Int)) = true := decide_eq_true (by omega)
      have hki : (k : Int) < (L.length : Int) := by omega
      have hk0 : (0 : Int) ≤ (k : Int) := by omega
      obtain ⟨x, hx⟩ : ∃ x, L[k]? = some x := ⟨L[k], List.getElem?_eq_getElem hlt⟩
      obtain ⟨bc, oc, ec, _, hcc⟩ := (HR.out.later hbr).elem ImgV.cells_len (by omega) hx
      subst ec
      have c0 := keep (hcc 0 _ rfl)
      have c1 := keep (hcc 1 _ rfl)
      have c2 := keep (hcc 2 _ rfl)
      rw [Nat.add_zero] at c0
      have HX := Lib.hid hx
      clear hx hcc
      have HBR := Lib.hid hbr
      clear hbr
      have hbel : Below wr.heap.size wr wr := Below.refl _ _
      have hw : Below wr.heap.size wr wr := Below.refl _ _
      by_cases hs : x.size < 0
      · have HB := Lib.hid (show (decide (0 ≤ x.size) && decide (0 ≤ x.last)) = false by rw [decide_eq_false (by omega)]; rfl)
        have d1 : decide (x.size < (0 : Int)) = true := decide_eq_true hs
        have HRES := Lib.hid (show rightI L = false from chkI_no hlt (stepI_bad HX.out HB.out))
        go_wp2
        have kk := fun d os => belStep hbel (below_regrown _ d os)
        refine wp_region_quiet_below (by kernel_rfl) (by kernel_rfl) ?_
        repeat ((with_reducible refine wpQuiet_step (fun K hK => ?_)); go_simp; (try (rw [if_neg]; rotate_left; · decide)); first | ((with_reducible refine hK _ ?_); clear hK K) | (apply Exists.intro; refine ⟨fun _ => ?_, hK _ ?_⟩; (fail); clear hK K))
        refine wpQuiet_nil (fun w1 hw1 => ?_)
        replace hbel := belStep hbel (bel_of_class hw1)
        clear hw1 kk
        go_wp2
        go_ret
        exact ⟨by rw [HRES.out]; rfl, belStep HBR.out hbel⟩
      have d1 : decide (x.size < (0 : Int)) = false := decide_eq_false hs
      by_cases hz : x.last < 0
      · have HB := Lib.hid (show (decide (0 ≤ x.size) && decide (0 ≤ x.last)) = false by rw [show decide (0 ≤ x.last) = false from decide_eq_false (by omega), Bool.and_false])
        have d2 : decide (x.last < (0 : Int)) = true := decide_eq_true hz
        have HRES := Lib.hid (show rightI L = false from chkI_no hlt (stepI_bad HX.out HB.out))
        go_wp2
        have kk := fun d os => belStep hbel (below_regrown _ d os)
        refine wp_region_quiet_below (by kernel_rfl) (by kernel_rfl) ?_
        repeat ((with_reducible refine wpQuiet_step (fun K hK => ?_)); go_simp; (try (rw [if_neg]; rotate_left; · decide)); first | ((with_reducible refine hK _ ?_); clear hK K) | (apply Exists.intro; refine ⟨fun _ => ?_, hK _ ?_⟩; (fail); clear hK K))
        refine wpQuiet_nil (fun w1 hw1 => ?_)
        replace hbel := belStep hbel (bel_of_class hw1)
        clear hw1 kk
        go_wp2
        go_ret
        exact ⟨by rw [HRES.out]; rfl, belStep HBR.out hbel⟩
      have d2 : decide (x.last < (0 : Int)) = false := decide_eq_false hz
      have HB := Lib.hid (show (decide (0 ≤ x.size) && decide (0 ≤ x.last)) = true by rw [decide_eq_true (show 0 ≤ x.size by omega), decide_eq_true (show 0 ≤ x.last by omega)]; rfl)
      by_cases hk9 : k = 0
      · have hg : decide ((0 : Int) < (k : Int)) = false := decide_eq_false (by omega)
        have hg2 : ¬ (0 : Int) < (k : Int) := by omega
        have hg3 : ¬ 0 < k := by omega
        have HK9 := Lib.hid hk9
        clear hk9
        have HS := Lib.hid (show chkI L (k + 1) = true by unfold chkI; rw [HC.out, Bool.true_and]; exact (by have hx2 := HX.out; rw [HK9.out] at hx2 ⊢; rw [stepI_0 hx2]; exact HB.out))
        go_wp2
        have kk := fun d os => belStep hbel (below_regrown _ d os)
        refine wp_region_quiet_below (by kernel_rfl) (by kernel_rfl) ?_
        repeat ((with_reducible refine wpQuiet_step (fun K hK => ?_)); go_simp; (try (rw [if_neg]; rotate_left; · decide)); first | ((with_reducible refine hK _ ?_); clear hK K) | (apply Exists.intro; refine ⟨fun _ => ?_, hK _ ?_⟩; (fail); clear hK K))
        refine wpQuiet_nil (fun w1 hw1 => ?_)
        replace hbel := belStep hbel (bel_of_class hw1)
        clear hw1 kk
        go_wp2
        go_roundw
        case rel => exact ⟨k + 1, by omega, by push_cast; rfl, HS, belStep HBR.out hbel⟩
        case measure => simp [intOf] <;> omega
      · obtain ⟨j, hj9⟩ : ∃ j, k = j + 1 := ⟨k - 1, by omega⟩
        have hg : decide ((0 : Int) < (k : Int)) = true := decide_eq_true (by omega)
        have hg2 : (0 : Int) < (k : Int) := by omega
        have hg3 : 0 < k := by omega
        have hj1 : IntKind.i64.wrap ((k : Int) - 1) = (j : Int) := by rw [show (k : Int) - 1 = (j : Int) by omega]; exact IntWalk.i64_in _ (by omega)
        have hj0 : (k : Int) - 1 = (j : Int) := by omega
        have hj4 : IntKind.i64.wrap (j : Int) = (j : Int) := IntWalk.i64_in _ (by omega)
        have hj2 : (j : Int) < (L.length : Int) := by omega
        have hj3 : (0 : Int) ≤ (j : Int) := by omega
        have hjl : j < L.length := by omega
        obtain ⟨y, hy⟩ : ∃ y, L[j]? = some y := ⟨L[j], List.getElem?_eq_getElem hjl⟩
        obtain ⟨be, oe, ee, _, hce⟩ := (HR.out.later HBR.out).elem ImgV.cells_len (by omega) hy
        simp only [Option.some.injEq, Addr.mk.injEq, and_true] at ee
        obtain ⟨rfl, rfl⟩ := ee
        have e0 := keep (hce 0 _ rfl)
        have e1 := keep (hce 1 _ rfl)
        have e2 := keep (hce 2 _ rfl)
        rw [Nat.add_zero] at e0
        have HY := Lib.hid hy
        have HX2 := Lib.hid (show L[j + 1]? = some x from hj9 ▸ HX.out)
        have HJ9 := Lib.hid hj9
        clear hj9 hy hce
        cases hlb : Op.bytesLess y.name.toList x.name.toList with
        | false =>
          have HLB := Lib.hid hlb
          have HRES := Lib.hid (show rightI L = false from chkI_no hlt (by rw [HJ9.out, stepI_s HX2.out HY.out, HLB.out]; simp))
          go_wp2
          have kk := fun d os => belStep hbel (below_regrown _ d os)
          refine wp_region_quiet_below (by kernel_rfl) (by kernel_rfl) ?_
          repeat ((with_reducible refine wpQuiet_step (fun K hK => ?_)); go_simp; (try (rw [if_neg]; rotate_left; · decide)); first | ((with_reducible refine hK _ ?_); clear hK K) | (apply Exists.intro; refine ⟨fun _ => ?_, hK _ ?_⟩; (fail); clear hK K))
          refine wpQuiet_nil (fun w1 hw1 => ?_)
          replace hbel := belStep hbel (bel_of_class hw1)
          clear hw1 kk
          go_wp2
          go_ret
          exact ⟨by rw [HRES.out]; rfl, belStep HBR.out hbel⟩
        | true =>
          have HLB := Lib.hid hlb
          have HS := Lib.hid (show chkI L (k + 1) = true by unfold chkI; rw [HC.out, Bool.true_and]; exact (by rw [HJ9.out, stepI_s HX2.out HY.out, HB.out, HLB.out]; rfl))
          go_wp2
          have kk := fun d os => belStep hbel (below_regrown _ d os)
          refine wp_region_quiet_below (by kernel_rfl) (by kernel_rfl) ?_
          repeat ((with_reducible refine wpQuiet_step (fun K hK => ?_)); go_simp; (try (rw [if_neg]; rotate_left; · decide)); first | ((with_reducible refine hK _ ?_); clear hK K) | (apply Exists.intro; refine ⟨fun _ => ?_, hK _ ?_⟩; (fail); clear hK K))
          refine wpQuiet_nil (fun w1 hw1 => ?_)
          replace hbel := belStep hbel (bel_of_class hw1)
          clear hw1 kk
          go_wp2
          go_roundw
          case rel => exact ⟨k + 1, by omega, by push_cast; rfl, HS, belStep HBR.out hbel⟩
          case measure => simp [intOf] <;> omega
    · obtain rfl : k = L.length := by omega
      have hd : decide ((L.length : Int) < (L.length : Int)) = false := decide_eq_false (by omega)
      go_wp2
      go_ret
      exact ⟨by rw [show rightI L = true from HC.out]; rfl, hbr⟩
end Go.Proofs.Ytampkolkbjmmkaa
