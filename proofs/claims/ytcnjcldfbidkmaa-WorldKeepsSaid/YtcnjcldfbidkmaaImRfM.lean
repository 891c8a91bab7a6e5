
/- The reference: Has, Place, Few, Names, Same, Right. The reference: Drop, Touch. The reference: Put, Total, Ahead, Order. -/
import Derived.Test.YtcnjcldfbidkmaaIm4
namespace Go.Proofs.Ytcnjcldfbidkmaa
open Go.RowKit
set_option linter.unusedVariables false
set_option linter.unusedSimpArgs false
def eqImg (x y : ImgV) : Bool := x.name.toList == y.name.toList && (x.size == y.size && x.last == y.last)
theorem eqImg_iff (x y : ImgV) : eqImg x y = true ↔ x = y := by
  unfold eqImg
  rw [Bool.and_eq_true, Bool.and_eq_true, beq_iff_eq, beq_iff_eq, beq_iff_eq]
  exact ⟨fun ⟨h1, h2, h3⟩ => img_ext h1 h2 h3, fun h => by subst h; exact ⟨rfl, rfl, rfl⟩⟩
set_option maxHeartbeats 1000000 in
theorem eq_img (x y : ImgV) (w : World) : (Op.equalIn 10000 58 (.agg #[.string x.name, .int .i64 x.size, .int .i64 x.last]) (.agg #[.string y.name, .int .i64 y.size, .int .i64 y.last])).run Try.prog w = .ok (eqImg x y) w := by
  have ht : Try.prog.fieldsOf 58 = #[{ name := "Name", type := 9, offset := 0, embedded := false, tag := "", pkgPath := "", byteOffset := 0 }, { name := "Size", type := 3, offset := 1, embedded := false, tag := "", pkgPath := "", byteOffset := 16 }, { name := "Last", type := 3, offset := 2, embedded := false, tag := "", pkgPath := "", byteOffset := 24 }] := by kernel_rfl
  rw [run_equalIn_struct _ _ _ _ _ (by kernel_rfl) (by kernel_rfl), ht]
  unfold eqImg
  by_cases h1 : x.name.toList = y.name.toList <;> by_cases h2 : x.size = y.size <;> by_cases h3 : x.last = y.last <;> simp [go_sem, h1, h2, h3]
def sameNI (L M : List ImgV) : Nat → Bool
  | 0 => true
  | k + 1 => sameNI L M k && (match L[k]?, M[k]? with | some x, some y => eqImg x y | _, _ => true)
def sameI (L M : List ImgV) : Bool := L.length == M.length && sameNI L M L.length
theorem sameNI_no {L M : List ImgV} {k n : Nat} {x y : ImgV} (hx : L[k]? = some x) (hy : M[k]? = some y) (h : eqImg x y = false) (hk : k < n) : sameNI L M n = false := by
  induction n with
  | zero => omega
  | succ n ih =>
    unfold sameNI
    by_cases e : k = n
    · subst e; rw [hx, hy]; simp [h]
    · rw [ih (by omega), Bool.false_and]
theorem sameNI_at {L M : List ImgV} {n : Nat} (h : sameNI L M n = true) : ∀ k, k < n → ∀ x y, L[k]? = some x → M[k]? = some y → x = y := by
  induction n with
  | zero => intro k hk; omega
  | succ n ih =>
    unfold sameNI at h
    rw [Bool.and_eq_true] at h
    intro k hk x y hx hy
    by_cases e : k = n
    · subst e
      have h2 := h.2
      rw [hx, hy] at h2
      exact (eqImg_iff x y).1 h2
    · exact ih h.1 k (by omega) x y hx hy
theorem sameI_iff (L M : List ImgV) : sameI L M = true ↔ L = M := by
  unfold sameI
  rw [Bool.and_eq_true, beq_iff_eq]
  constructor
  · rintro ⟨h1, h2⟩
    apply List.ext_getElem h1
    intro i hi hj
    exact sameNI_at h2 i hi _ _ (List.getElem?_eq_getElem hi) (List.getElem?_eq_getElem hj)
  · rintro rfl
    refine ⟨rfl, ?_⟩
    have : ∀ n, sameNI L L n = true := by
      intro n
      induction n with
      | zero => rfl
      | succ n ih =>
        unfold sameNI
        rw [ih]
        cases L[n]? with
        | none => rfl
        | some x => exact (eqImg_iff x x).2 rfl
    exact this _
def placeR (L : List ImgV) (s : ByteArray) : Int := if thereB L s then ((L.takeWhile fun x => !(x.name.toList == s.toList)).length : Int) else -1
theorem there_next {L : List ImgV} {k : Nat} {x : ImgV} {s : ByteArray} (h : L[k]? = some x) : thereB (L.take (k + 1)) s = (thereB (L.take k) s || (x.name.toList == s.toList)) := by
  unfold thereB
  rw [List.take_add_one, h, List.any_append]; simp
theorem placeR_at {L : List ImgV} {k : Nat} {x : ImgV} {s : ByteArray} (hx : L[k]? = some x) (he : (x.name.toList == s.toList) = true) (hlo : thereB (L.take k) s = false) : placeR L s = (k : Int) := by
  have ht : thereB L s = true := List.any_eq_true.2 ⟨x, List.mem_of_getElem? hx, he⟩
  have hk := (List.getElem?_eq_some_iff.1 hx).1
  unfold placeR
  rw [if_pos ht]
  congr 1
  conv => lhs; rw [← List.take_append_drop k L]
  rw [List.takeWhile_append_of_pos, List.length_append, List.length_take, Nat.min_eq_left (by omega), List.drop_eq_getElem_cons hk, (List.getElem?_eq_some_iff.1 hx).2, List.takeWhile_cons_of_neg (by rw [he]; simp)]
  · rfl
  · intro y hy
    have := List.any_eq_false.1 (show ((L.take k).any fun x => x.name.toList == s.toList) = false from hlo) y hy
    simpa using this
theorem placeR_no {L : List ImgV} {s : ByteArray} (h : thereB L s = false) : placeR L s = -1 := by unfold placeR; rw [if_neg (by rw [h]; simp)]
def shortI (x : ImgV) : Bool := decide (x.name.size ≤ 60)
def fewI (L : List ImgV) : Bool := (L.take 100).all shortI && decide (L.length ≤ 60)
def shortT (s : ByteArray) : Bool := decide (s.size ≤ 60)
def fewT (U : List ByteArray) : Bool := (U.take 100).all shortT && decide (U.length ≤ 60)
theorem allG_next {α : Type} {f : α → Bool} {L : List α} {k : Nat} {x : α} (h : L[k]? = some x) : (L.take (k + 1)).all f = ((L.take k).all f && f x) := by
  rw [List.take_add_one, h, List.all_append]; simp
theorem allG_not {α : Type} {f : α → Bool} {L : List α} {k m : Nat} {x : α} (h : L[k]? = some x) (hf : f x = false) (hk : k < m) : (L.take m).all f = false := by
  rw [List.all_eq_false]
  refine ⟨x, ?_, by rw [hf]; simp⟩
  exact List.mem_of_getElem? (i := k) (by rw [List.getElem?_take_of_lt hk]; exact h)
theorem few_len {L : List ImgV} (h : fewI L = true) : L.length ≤ 60 := by unfold fewI at h; rw [Bool.and_eq_true] at h; exact of_decide_eq_true h.2
theorem few_lenT {L : List ByteArray} (h : fewT L = true) : L.length ≤ 60 := by unfold fewT at h; rw [Bool.and_eq_true] at h; exact of_decide_eq_true h.2
def stepI (L : List ImgV) (k : Nat) : Bool := match L[k]? with
  | none => true
  | some x => (decide (0 ≤ x.size) && decide (0 ≤ x.last)) && (match k with | 0 => true | j + 1 => match L[j]? with | none => true | some y => Op.bytesLess y.name.toList x.name.toList)
def chkI (L : List ImgV) : Nat → Bool
  | 0 => true
  | k + 1 => chkI L k && stepI L k
def rightI (L : List ImgV) : Bool := chkI L L.length
theorem chkI_no {L : List ImgV} {k n : Nat} (hk : k < n) (h : stepI L k = false) : chkI L n = false := by
  induction n with
  | zero => omega
  | succ n ih =>
    unfold chkI
    by_cases e : k = n
    · subst e; rw [h, Bool.and_false]
    · rw [ih (by omega), Bool.false_and]
theorem chkI_at {L : List ImgV} : ∀ {n : Nat}, chkI L n = true → ∀ k, k < n → stepI L k = true := by
  intro n
  induction n with
  | zero => intro h k hk; omega
  | succ n ih =>
    intro h k hk
    unfold chkI at h
    rw [Bool.and_eq_true] at h
    by_cases e : k = n
    · subst e; exact h.2
    · exact ih h.1 k (by omega)
theorem stepI_0 {L : List ImgV} {x : ImgV} (h : L[0]? = some x) : stepI L 0 = (decide (0 ≤ x.size) && decide (0 ≤ x.last)) := by unfold stepI; rw [h]; simp
theorem stepI_s {L : List ImgV} {k : Nat} {x y : ImgV} (h : L[k + 1]? = some x) (hy : L[k]? = some y) : stepI L (k + 1) = ((decide (0 ≤ x.size) && decide (0 ≤ x.last)) && Op.bytesLess y.name.toList x.name.toList) := by unfold stepI; rw [h]; simp [hy]
theorem stepI_bad {L : List ImgV} {k : Nat} {x : ImgV} (h : L[k]? = some x) (hb : (decide (0 ≤ x.size) && decide (0 ≤ x.last)) = false) : stepI L k = false := by unfold stepI; rw [h]; simp only [hb, Bool.false_and]
theorem right_rises {L : List ImgV} (h : rightI L = true) : Rises L := by
  have key : ∀ i j (hi : i < L.length) (hj : j < L.length), i < j → L[i].name.toList < L[j].name.toList := by
    intro i j hi hj hij
    induction j with
    | zero => omega
    | succ j ih =>
      have h2 := chkI_at h (j + 1) hj
      rw [stepI_s (List.getElem?_eq_getElem hj) (List.getElem?_eq_getElem (show j < L.length by omega)), Bool.and_eq_true, bytesLess_iff] at h2
      have h3 := of_decide_eq_true h2.2
      by_cases e : i = j
      · subst e; exact h3
      · exact List.lt_trans (ih (by omega) (by omega)) h3
  exact List.pairwise_iff_getElem.2 (fun i j hi hj hij => key i j hi hj hij)
theorem right_nums {L : List ImgV} (h : rightI L = true) : ∀ x ∈ L, 0 ≤ x.size ∧ 0 ≤ x.last := by
  intro x hx
  obtain ⟨k, hk⟩ := List.getElem?_of_mem hx
  have hl := (List.getElem?_eq_some_iff.1 hk).1
  have h2 := chkI_at h k hl
  cases hb : (decide (0 ≤ x.size) && decide (0 ≤ x.last)) with
  | false => rw [stepI_bad hk hb] at h2; cases h2
  | true => simpa using hb
theorem rises_right {L : List ImgV} (h : Rises L) (hn : ∀ x ∈ L, 0 ≤ x.size ∧ 0 ≤ x.last) : rightI L = true := by
  unfold rightI
  have : ∀ n, n ≤ L.length → chkI L n = true := by
    intro n
    induction n with
    | zero => intro _; rfl
    | succ n ih =>
      intro hn2
      unfold chkI
      rw [ih (by omega), Bool.true_and]
      have hx := List.getElem?_eq_getElem (show n < L.length by omega)
      have hq := hn _ (List.mem_of_getElem? hx)
      have hq2 : (decide (0 ≤ L[n].size) && decide (0 ≤ L[n].last)) = true := by simp [hq.1, hq.2]
      cases n with
      | zero => rw [stepI_0 hx, hq2]
      | succ m =>
        rw [stepI_s hx (List.getElem?_eq_getElem (show m < L.length by omega)), hq2, Bool.true_and, bytesLess_iff]
        exact decide_eq_true (h.lt (List.getElem?_eq_getElem (show m < L.length by omega)) hx (by omega))
  exact this _ (Nat.le_refl _)
set_option maxRecDepth 100000 in
set_option maxHeartbeats 16000000 in
theorem iref_Has (b : Option Addr) (ul uc : Nat) (U : List ByteArray) (s : ByteArray) (w : World) (hu : U.length = ul) (hRU : Row w b ul uc 1 (U.map Value.string)) :
    Calls Try.prog 133 #[.slice b ul uc, .string s] w fun e w' => e = .returned (.bool (hasU U s)) ∧ Below w.heap.size w w' := by
  have hw : Below w.heap.size w w := Below.refl _ _
  have hbd_u : ul ≤ uc ∧ uc ≤ 9223372036854775807 := by obtain ⟨_, h1, h2, _⟩ := hRU; unfold maxLen at h2; exact ⟨h1, h2⟩
  obtain ⟨hbd1_u, hbd2_u⟩ := hbd_u
  have HRU := Lib.hid hRU
  clear hRU
  subst hu
  go_enter Try.func133, Try.ntmps133
  go_wp2
  go_loopw [5] (fun i wr => ∃ k : Nat, k ≤ U.length ∧ i = .int .i64 k ∧ Hid (hasU (U.take k) s = false) ∧ Below w.heap.size w wr) (fun i _ => U.length - (intOf i).toNat)
  case atStart => exact ⟨0, Nat.zero_le _, rfl, Lib.hid rfl, hw⟩
  case round =>
    clear hw
    obtain ⟨k, hk, rfl, HNO, hbel⟩ := hrel
    by_cases hlt : k < U.length
    · have hd : decide ((k : Int) < (U.length : Int)) = true := decide_eq_true (by omega)
      obtain ⟨t, ht⟩ : ∃ t, U[k]? = some t := ⟨U[k], List.getElem?_eq_getElem hlt⟩
      obtain ⟨bu, ou, eu, cu⟩ := text_cell (HRU.out) ht
      subst eu
      have y0 := keep cu
      clear cu
      have hn := hasU_next (s := s) ht
      rw [HNO.out, Bool.false_or] at hn
      cases he : (t.toList == s.toList) with
      | true =>
        have HY := Lib.hid (hasU_now ht he)
        clear hn ht
        go_wp2
        go_ret
        exact ⟨by rw [HY.out]; rfl, hbel⟩
      | false =>
        rw [he] at hn
        have HN := Lib.hid hn
        clear hn ht
        go_wp2
        go_roundw
        case rel => exact ⟨k + 1, by omega, by push_cast; rfl, HN, hbel⟩
        case measure => simp [intOf] <;> omega
    · obtain rfl : k = U.length := by omega
      have hd : decide ((U.length : Int) < (U.length : Int)) = false := decide_eq_false (by omega)
      have HN := Lib.hid (show hasU U s = false by have h := HNO.out; rwa [List.take_length] at h)
      go_wp2
      go_ret
      exact ⟨by rw [HN.out]; rfl, hbel⟩
set_option maxRecDepth 100000 in
set_option maxHeartbeats 16000000 in
theorem iref_Place (a : Option Addr) (len cap : Nat) (L : List ImgV) (s : ByteArray) (w : World) (hl : L.length = len) (hR : Row w a len cap 3 (L.flatMap ImgV.cells)) :
    Calls Try.prog 97 #[.slice a len cap, .string s] w fun e w' => e = .returned (.int .i64 (placeR L s)) ∧ Below w.heap.size w w' := by
  have hw : Below w.heap.size w w := Below.refl _ _
  have hbd_a : len ≤ cap ∧ cap ≤ 9223372036854775807 := by obtain ⟨_, h1, h2, _⟩ := hR; unfold maxLen at h2; exact ⟨h1, h2⟩
  obtain ⟨hbd1_a, hbd2_a⟩ := hbd_a
  have HR := Lib.hid hR
  clear hR
  subst hl
  go_enter Try.func97, Try.ntmps97
  go_wp2
  go_loopw [5] (fun i wr => ∃ k : Nat, k ≤ L.length ∧ i = .int .i64 k ∧ Hid (thereB (L.take k) s = false) ∧ Below w.heap.size w wr) (fun i _ => L.length - (intOf i).toNat)
  case atStart => exact ⟨0, Nat.zero_le _, rfl, Lib.hid rfl, hw⟩
  case round =>
    clear hw
    obtain ⟨k, hk, rfl, HNO, hbel⟩ := hrel
    by_cases hlt : k < L.length
    · have hd : decide ((k : Int) < (L.length : Int)) = true := decide_eq_true (by omega)
      obtain ⟨x, hx⟩ : ∃ x, L[k]? = some x := ⟨L[k], List.getElem?_eq_getElem hlt⟩
      obtain ⟨bc, oc, ec, _, hcc⟩ := (HR.out).elem ImgV.cells_len (by omega) hx
      subst ec
      have c0 := keep (hcc 0 _ rfl)
      have c1 := keep (hcc 1 _ rfl)
      have c2 := keep (hcc 2 _ rfl)
      rw [Nat.add_zero] at c0
      have hn := there_next (s := s) hx
      rw [HNO.out, Bool.false_or] at hn
      have HX := Lib.hid hx
      clear hx hcc
      cases he : (x.name.toList == s.toList) with
      | true =>
        have HY := Lib.hid (placeR_at HX.out he HNO.out)
        clear hn
        go_wp2
        go_ret
        exact ⟨by rw [HY.out]; rfl, hbel⟩
      | false =>
        rw [he] at hn
        have HN := Lib.hid hn
        clear hn
        go_wp2
        go_roundw
        case rel => exact ⟨k + 1, by omega, by push_cast; rfl, HN, hbel⟩
        case measure => simp [intOf] <;> omega
    · obtain rfl : k = L.length := by omega
      have hd : decide ((L.length : Int) < (L.length : Int)) = false := decide_eq_false (by omega)
      have HN := Lib.hid (placeR_no (show thereB L s = false by have h := HNO.out; rwa [List.take_length] at h))
      go_wp2
      go_ret
      exact ⟨by rw [HN.out]; rfl, hbel⟩
set_option maxRecDepth 100000 in
set_option maxHeartbeats 16000000 in
theorem iref_Names (b : Option Addr) (ul uc : Nat) (U : List ByteArray) (w : World) (hu : U.length = ul) (hRU : Row w b ul uc 1 (U.map Value.string)) (hok : ∀ s ∈ U, s.size ≤ maxLen) :
    Calls Try.prog 57 #[.slice b ul uc] w fun e w' => e = .returned (.bool (fewT U)) ∧ Below w.heap.size w w' := by
  have hw : Below w.heap.size w w := Below.refl _ _
  have hbd_u : ul ≤ uc ∧ uc ≤ 9223372036854775807 := by obtain ⟨_, h1, h2, _⟩ := hRU; unfold maxLen at h2; exact ⟨h1, h2⟩
  obtain ⟨hbd1_u, hbd2_u⟩ := hbd_u
  have HR := Lib.hid hRU
  clear hRU
  subst hu
  have HOK := Lib.hid hok
  clear hok
  go_enter Try.func57, Try.ntmps57
  go_wp2
  go_loopw [3] (fun i wr => ∃ k : Nat, k ≤ U.length ∧ k ≤ 100 ∧ i = .int .i64 k ∧ Hid ((U.take k).all shortT = true) ∧ Below w.heap.size w wr) (fun i _ => U.length - (intOf i).toNat)
  case atStart => exact ⟨0, Nat.zero_le _, by omega, rfl, Lib.hid rfl, hw⟩
  case round =>
    clear hw
    obtain ⟨k, hk, hk2, rfl, HC, hbel⟩ := hrel
    by_cases hlt2 : k < min U.length 100
    · have hlt : k < U.length := by omega
      have hd : decide ((k : Int) < (U.length : Int)) = true := decide_eq_true (by omega)
      have hki : (k : Int) < (U.length : Int) := by omega
      have hd2 : decide ((k : Int) < 100) = true := decide_eq_true (by omega)
      have hd3 : (k : Int) < 100 := by omega
      obtain ⟨t, ht⟩ : ∃ t, U[k]? = some t := ⟨U[k], List.getElem?_eq_getElem hlt⟩
      obtain ⟨bu, ou, eu, cu⟩ := text_cell (HR.out) ht
      subst eu
      have y0 := keep cu
      clear cu
      have HT := Lib.hid ht
      have hmx := HOK.out _ (List.mem_of_getElem? ht)
      have hsz0 : t.size ≤ 9223372036854775807 := by unfold maxLen at hmx; omega
      clear ht hmx
      by_cases h60 : 60 < t.size
      · have HN := Lib.hid (show fewT U = false by unfold fewT; rw [allG_not HT.out (show shortT t = false from decide_eq_false (by omega)) (show k < 100 by omega)]; rfl)
        have d1 : decide ((60 : Int) < (t.size : Int)) = true := decide_eq_true (by omega)
        have d2 : (60 : Int) < (t.size : Int) := by omega
        go_wp2
        go_ret
        exact ⟨by rw [HN.out]; rfl, hbel⟩
      · have HN := Lib.hid (show (U.take (k + 1)).all shortT = true by rw [allG_next HT.out, HC.out, show shortT t = true from decide_eq_true (by omega)]; rfl)
        have d1 : decide ((60 : Int) < (t.size : Int)) = false := decide_eq_false (by omega)
        have d2 : ¬ (60 : Int) < (t.size : Int) := by omega
        go_wp2
        go_roundw
        case rel => exact ⟨k + 1, by omega, by omega, by push_cast; rfl, HN, hbel⟩
        case measure => simp [intOf] <;> omega
    · obtain rfl : k = min U.length 100 := by omega
      by_cases h100 : U.length < 100
      · have hmi : min U.length 100 = U.length := by omega
        rw [hmi] at HC ⊢
        have HF := Lib.hid (show fewT U = decide (U.length ≤ 60) by unfold fewT; rw [List.take_of_length_le (by omega)]; rw [List.take_length] at HC; rw [HC.out]; rfl)
        have hd : decide ((U.length : Int) < (U.length : Int)) = false := decide_eq_false (by omega)
        have k10 : decide ((U.length : Int) ≤ 60) = decide (U.length ≤ 60) := decide_eq_decide.2 (by omega)
        go_wp2
        go_ret
        exact ⟨by rw [HF.out]; first | rfl | (rw [← k10]; rfl), hbel⟩
      · have hmi : min U.length 100 = 100 := by omega
        rw [hmi] at HC ⊢
        have HF := Lib.hid (show fewT U = false by unfold fewT; rw [show decide (U.length ≤ 60) = false from decide_eq_false (by omega), Bool.and_false])
        have k10 : decide ((U.length : Int) ≤ 60) = false := decide_eq_false (by omega)
        have k11 : ¬ (U.length : Int) ≤ 60 := by omega
        by_cases h9 : U.length = 100
        · have hd : decide (((100 : Nat) : Int) < (U.length : Int)) = false := decide_eq_false (by omega)
          have hd4 : decide ((100 : Int) < (U.length : Int)) = false := decide_eq_false (by omega)
          go_wp2
          go_ret
          exact ⟨by rw [HF.out]; rfl, hbel⟩
        · have hd : decide (((100 : Nat) : Int) < (U.length : Int)) = true := decide_eq_true (by omega)
          have hd4 : decide ((100 : Int) < (U.length : Int)) = true := decide_eq_true (by omega)
          have hd5 : (100 : Int) < (U.length : Int) := by omega
          go_wp2
          go_ret
          exact ⟨by rw [HF.out]; rfl, hbel⟩
set_option maxRecDepth 100000 in
set_option maxHeartbeats 16000000 in
theorem iref_Same (a : Option Addr) (len cap : Nat) (L : List ImgV) (c : Option Addr) (m mc : Nat) (M : List ImgV) (w : World) (hl : L.length = len) (hR : Row w a len cap 3 (L.flatMap ImgV.cells)) (hm : M.length = m) (hR2 : Row w c m mc 3 (M.flatMap ImgV.cells)) :
    Calls Try.prog 106 #[.slice a len cap, .slice c m mc] w fun e w' => e = .returned (.bool (sameI L M)) ∧ Below w.heap.size w w' := by
  have hw : Below w.heap.size w w := Below.refl _ _
  have hbd_a : len ≤ cap ∧ cap ≤ 9223372036854775807 := by obtain ⟨_, h1, h2, _⟩ := hR; unfold maxLen at h2; exact ⟨h1, h2⟩
  obtain ⟨hbd1_a, hbd2_a⟩ := hbd_a
  have hbd_c : m ≤ mc ∧ mc ≤ 9223372036854775807 := by obtain ⟨_, h1, h2, _⟩ := hR2; unfold maxLen at h2; exact ⟨h1, h2⟩
  obtain ⟨hbd1_c, hbd2_c⟩ := hbd_c
  have HR := Lib.hid hR
  have HR2 := Lib.hid hR2
  clear hR hR2
  subst hl hm
  go_enter Try.func106, Try.ntmps106
  by_cases hlm : L.length = M.length
  rotate_left
  · have HRES := Lib.hid (show sameI L M = false by unfold sameI; rw [show (L.length == M.length) = false by rw [beq_eq_false_iff_ne]; exact hlm]; rfl)
    have hne : ((L.length : Int) != (M.length : Int)) = true := by rw [bne_iff_ne]; omega
    have hne2 : ¬ (L.length : Int) = (M.length : Int) := by omega
    have hne3 : ((L.length : Int) == (M.length : Int)) = false := by rw [beq_eq_false_iff_ne]; omega
    go_wp2
    go_ret
    exact ⟨by rw [HRES.out]; rfl, hw⟩
  · have hne : ((L.length : Int) != (M.length : Int)) = false := by rw [hlm]; simp
    have hne2 : (L.length : Int) = (M.length : Int) := by omega
    have HLM := Lib.hid hlm
    go_wp2
    clear hne hne2 hlm
    go_loopw [5] (fun i wr => ∃ k : Nat, k ≤ L.length ∧ i = .int .i64 k ∧ Hid (sameNI L M k = true) ∧ Below w.heap.size w wr) (fun i _ => L.length - (intOf i).toNat)
    case atStart => exact ⟨0, Nat.zero_le _, rfl, Lib.hid rfl, hw⟩
    case round =>
      clear hw
      obtain ⟨k, hk, rfl, HC, hbel⟩ := hrel
      by_cases hlt : k < L.length
      · have hd : decide ((k : Int) < (L.length : Int)) = true := decide_eq_true (by omega)
        have hkm : k < M.length := by have := HLM.out; omega
        have hki : (k : Int) < (L.length : Int) := by omega
        have hki2 : (k : Int) < (M.length : Int) := by omega
        have hk0 : (0 : Int) ≤ (k : Int) := by omega
        obtain ⟨x, hx⟩ : ∃ x, L[k]? = some x := ⟨L[k], List.getElem?_eq_getElem hlt⟩
        obtain ⟨bc, oc, ec, _, hcc⟩ := (HR.out).elem ImgV.cells_len (by omega) hx
        subst ec
        have c0 := keep (hcc 0 _ rfl)
        have c1 := keep (hcc 1 _ rfl)
        have c2 := keep (hcc 2 _ rfl)
        rw [Nat.add_zero] at c0
        obtain ⟨y, hy⟩ : ∃ y, M[k]? = some y := ⟨M[k], List.getElem?_eq_getElem hkm⟩
        obtain ⟨be, oe, ee, _, hce⟩ := (HR2.out).elem ImgV.cells_len (by omega) hy
        subst ee
        have e0 := keep (hce 0 _ rfl)
        have e1 := keep (hce 1 _ rfl)
        have e2 := keep (hce 2 _ rfl)
        rw [Nat.add_zero] at e0
        have HX := Lib.hid hx
        have HY := Lib.hid hy
        clear hx hy hcc hce
        have heq := fun u : World => eq_img x y u
        cases hq : eqImg x y with
        | false =>
          rw [hq] at heq
          have HRES := Lib.hid (show sameI L M = false by unfold sameI; rw [sameNI_no HX.out HY.out hq hlt, Bool.and_false])
          clear hq
          have hw : Below w.heap.size w w := Below.refl _ _
          go_wp2
          have kk := fun d os => belStep hbel (below_regrown _ d os)
          refine wp_region_quiet_below (by kernel_rfl) (by kernel_rfl) ?_
          repeat ((with_reducible refine wpQuiet_step (fun K hK => ?_)); go_simp; (try (rw [if_neg]; rotate_left; · decide)); first | ((with_reducible refine hK _ ?_); clear hK K) | (apply Exists.intro; refine ⟨fun _ => ?_, hK _ ?_⟩; (fail); clear hK K))
          refine wpQuiet_nil (fun w1 hw1 => ?_)
          replace hbel := belStep hbel (bel_of_class hw1)
          clear hw1 kk
          go_wp2
          go_ret
          exact ⟨by rw [HRES.out]; rfl, hbel⟩
        | true =>
          rw [hq] at heq
          have HS := Lib.hid (show sameNI L M (k + 1) = true by unfold sameNI; rw [HC.out, HX.out, HY.out]; simp [hq])
          clear hq
          have hw : Below w.heap.size w w := Below.refl _ _
          go_wp2
          have kk := fun d os => belStep hbel (below_regrown _ d os)
          refine wp_region_quiet_below (by kernel_rfl) (by kernel_rfl) ?_
          repeat ((with_reducible refine wpQuiet_step (fun K hK => ?_)); go_simp; (try (rw [if_neg]; rotate_left; · decide)); first | ((with_reducible refine hK _ ?_); clear hK K) | (apply Exists.intro; refine ⟨fun _ => ?_, hK _ ?_⟩; (fail); clear hK K))
          refine wpQuiet_nil (fun w1 hw1 => ?_)
          replace hbel := belStep hbel (bel_of_class hw1)
          clear hw1 kk
          go_wp2
          go_roundw
          case rel => exact ⟨k + 1, by omega, by push_cast; rfl, HS, hbel⟩
          case measure => simp [intOf] <;> omega
      · obtain rfl : k = L.length := by omega
        have hd : decide ((L.length : Int) < (L.length : Int)) = false := decide_eq_false (by omega)
        have HRES := Lib.hid (show sameI L M = true by unfold sameI; rw [HC.out, HLM.out]; simp)
        go_wp2
        go_ret
        exact ⟨by rw [HRES.out]; rfl, hbel⟩
end Go.Proofs.Ytcnjcldfbidkmaa
namespace Go.Proofs.Ytcnjcldfbidkmaa
open Go.RowKit
set_option linter.unusedVariables false
set_option linter.unusedSimpArgs false
set_option maxRecDepth 100000 in
set_option maxHeartbeats 16000000 in
theorem iref_Drop (a : Option Addr) (len cap : Nat) (L : List ImgV) (s : ByteArray) (w : World) (hl : L.length = len) (hR : Row w a len cap 3 (L.flatMap ImgV.cells)) (hn : len ≤ 100000) :
    Calls Try.prog 99 #[.slice a len cap, .string s] w fun e w' => ∃ v, e = .returned v ∧ OwnR w' w.heap.size 58 3 v (dropI L s).length ((dropI L s).flatMap ImgV.cells) ∧ Below w.heap.size w w' := by
  have hw : Below w.heap.size w w := Below.refl _ _
  have hbd_a : len ≤ cap ∧ cap ≤ 9223372036854775807 := by obtain ⟨_, h1, h2, _⟩ := hR; unfold maxLen at h2; exact ⟨h1, h2⟩
  obtain ⟨hbd1_a, hbd2_a⟩ := hbd_a
  have HR := Lib.hid hR
  clear hR
  subst hl
  go_enter Try.func99, Try.ntmps99
  go_wp2
  go_loopw [5, 6] (fun v i wr => ∃ k : Nat, k ≤ L.length ∧ i = .int .i64 k ∧ OwnR wr w.heap.size 58 3 v ((L.take k).filter (fun x : ImgV => !(x.name.toList == s.toList))).length (((L.take k).filter (fun x : ImgV => !(x.name.toList == s.toList))).flatMap ImgV.cells) ∧ Below w.heap.size w wr) (fun _ i _ => L.length - (intOf i).toNat)
  case atStart => exact ⟨0, Nat.zero_le _, rfl, OwnR.nil _ _ _ _, hw⟩
  case round =>
    clear hw
    obtain ⟨k, hk, rfl, hO, hbr⟩ := hrel
    by_cases hlt : k < L.length
    · have hd : decide ((k : Int) < (L.length : Int)) = true := decide_eq_true (by omega)
      have hki : (k : Int) < (L.length : Int) := by omega
      have hk0 : (0 : Int) ≤ (k : Int) := by omega
      have hfl := filtG_len (fun x : ImgV => !(x.name.toList == s.toList)) L k
      obtain ⟨x, hx⟩ : ∃ x, L[k]? = some x := ⟨L[k], List.getElem?_eq_getElem hlt⟩
      obtain ⟨bc, oc, ec, _, hcc⟩ := (HR.out.later hbr).elem ImgV.cells_len (by omega) hx
      subst ec
      have c0 := keep (hcc 0 _ rfl)
      have c1 := keep (hcc 1 _ rfl)
      have c2 := keep (hcc 2 _ rfl)
      rw [Nat.add_zero] at c0
      have HX := Lib.hid hx
      clear hx hcc
      have HBR := Lib.hid hbr
      clear hbr
      have hbel : Below wr.heap.size wr wr := Below.refl _ _
      cases he : (x.name.toList == s.toList) with
      | true =>
        have HN := Lib.hid (filtG_same (f := (fun x : ImgV => !(x.name.toList == s.toList))) HX.out (by simp only [he]; rfl))
        have hne : (x.name.toList != s.toList) = false := by simp [bne, he]
        have HO := Lib.hid hO
        clear hO
        go_wp2
        go_roundw
        case rel => exact ⟨k + 1, by omega, by push_cast; rfl, by rw [HN.out]; exact HO.out, HBR.out⟩
        case measure => simp [intOf] <;> omega
      | false =>
        have HN := Lib.hid (filtG_next (f := (fun x : ImgV => !(x.name.toList == s.toList))) HX.out (by simp only [he]; rfl))
        have hne : (x.name.toList != s.toList) = true := by simp [bne, he]
        obtain ⟨N, hN⟩ : ∃ N, ((L.take k).filter (fun x : ImgV => !(x.name.toList == s.toList))) = N := ⟨_, rfl⟩
        rw [hN] at hO HN hfl
        clear hN
        have HOA := Lib.hid (OwnR.alloc hO (.cells #[.string x.name, .int .i64 x.size, .int .i64 x.last] 58))
        have HXA := Lib.hid (row_new wr [.string x.name, .int .i64 x.size, .int .i64 x.last] 58 1 3 rfl (by unfold maxLen; omega))
        clear hO
        go_wp2_with (at_builtin; go_loud (refine wpList_app_row rfl _ _ 29 rfl w.heap.size 58 _ 3 32 Try.underlying29 info_imgI rfl (by decide) _ _ _ rfl HOA.out _ 1 1 [.string x.name, .int .i64 x.size, .int .i64 x.last] rfl HXA.out (img_one x) ?c1 ?c2 ?c3 ?_))
        case c1 => simp only [maxLen]; omega
        case c2 => omega
        case c3 => have := HBR.out.size; simp; omega
        intro v' w6 ho' hb' _
        have HO2 := Lib.hid (own_snocG (enc := ImgV.cells) (x := x) ho')
        have HB2 := Lib.hid (((belAlloc HBR.out (.cells #[.string x.name, .int .i64 x.size, .int .i64 x.last] 58)).trans hb'))
        clear ho' hb'
        go_wp2
        go_roundw
        case rel => exact ⟨k + 1, by omega, by push_cast; rfl, by rw [HN.out]; exact HO2.out, HB2.out⟩
        case measure => simp [intOf] <;> omega
    · obtain rfl : k = L.length := by omega
      have hd : decide ((L.length : Int) < (L.length : Int)) = false := decide_eq_false (by omega)
      rw [List.take_length] at hO
      go_wp2
      go_ret
      exact ⟨_, rfl, hO, hbr⟩
set_option maxRecDepth 100000 in
set_option maxHeartbeats 16000000 in
theorem iref_Touch (a : Option Addr) (len cap : Nat) (L : List ImgV) (b : Option Addr) (ul uc : Nat) (U : List ByteArray) (round : Int) (w : World) (hl : L.length = len) (hR : Row w a len cap 3 (L.flatMap ImgV.cells)) (hu : U.length = ul) (hRU : Row w b ul uc 1 (U.map Value.string)) (hn : len ≤ 100000) :
    Calls Try.prog 101 #[.slice a len cap, .slice b ul uc, .int .i64 round] w fun e w' => ∃ v, e = .returned v ∧ OwnR w' w.heap.size 58 3 v (touchI L U round).length ((touchI L U round).flatMap ImgV.cells) ∧ Below w.heap.size w w' := by
  have hw : Below w.heap.size w w := Below.refl _ _
  have hbd_a : len ≤ cap ∧ cap ≤ 9223372036854775807 := by obtain ⟨_, h1, h2, _⟩ := hR; unfold maxLen at h2; exact ⟨h1, h2⟩
  obtain ⟨hbd1_a, hbd2_a⟩ := hbd_a
  have hbd_u : ul ≤ uc ∧ uc ≤ 9223372036854775807 := by obtain ⟨_, h1, h2, _⟩ := hRU; unfold maxLen at h2; exact ⟨h1, h2⟩
  obtain ⟨hbd1_u, hbd2_u⟩ := hbd_u
  have HR := Lib.hid hR
  have HRU := Lib.hid hRU
  clear hR hRU
  subst hl hu
  go_enter Try.func101, Try.ntmps101
  go_wp2
  go_loopw [7, 8] (fun v i wr => ∃ k : Nat, k ≤ L.length ∧ i = .int .i64 k ∧ OwnR wr w.heap.size 58 3 v ((L.take k).map (fun x : ImgV => if hasU U x.name then { x with last := round } else x)).length (((L.take k).map (fun x : ImgV => if hasU U x.name then { x with last := round } else x)).flatMap ImgV.cells) ∧ Below w.heap.size w wr) (fun _ i _ => L.length - (intOf i).toNat)
  case atStart => exact ⟨0, Nat.zero_le _, rfl, OwnR.nil _ _ _ _, hw⟩
  case round =>
    clear hw
    obtain ⟨k, hk, rfl, hO, hbr⟩ := hrel
    by_cases hlt : k < L.length
    · have hd : decide ((k : Int) < (L.length : Int)) = true := decide_eq_true (by omega)
      have hki : (k : Int) < (L.length : Int) := by omega
      have hk0 : (0 : Int) ≤ (k : Int) := by omega
      obtain ⟨x, hx⟩ : ∃ x, L[k]? = some x := ⟨L[k], List.getElem?_eq_getElem hlt⟩
      obtain ⟨bc, oc, ec, _, hcc⟩ := (HR.out.later hbr).elem ImgV.cells_len (by omega) hx
      subst ec
      have c0 := keep (hcc 0 _ rfl)
      have c1 := keep (hcc 1 _ rfl)
      have c2 := keep (hcc 2 _ rfl)
      rw [Nat.add_zero] at c0
      have HN := Lib.hid (mapG_next (f := (fun x : ImgV => if hasU U x.name then { x with last := round } else x)) hx)
      clear hx hcc
      obtain ⟨N, hN⟩ : ∃ N, ((L.take k).map (fun x : ImgV => if hasU U x.name then { x with last := round } else x)) = N := ⟨_, rfl⟩
      have hNl : N.length ≤ L.length := by rw [← hN]; simp; omega
      rw [hN] at hO HN
      clear hN
      have HBR := Lib.hid hbr
      clear hbr
      have hbel : Below wr.heap.size wr wr := Below.refl _ _
      go_upto_region 6 with fail
      have k1 : Below wr.heap.size wr (wr.alloc (.cells #[.string x.name, .int .i64 x.size, .int .i64 x.last] 58)) := belAlloc (Below.refl _ _) _
      have HXB := Lib.hid (show Blk (wr.alloc (.cells #[.string x.name, .int .i64 x.size, .int .i64 x.last] 58)) wr.heap.size [.string x.name, .int .i64 x.size, .int .i64 x.last] 58 from Blk.new wr [.string x.name, .int .i64 x.size, .int .i64 x.last] 58)
      have HO := Lib.hid (OwnR.alloc hO (.cells #[.string x.name, .int .i64 x.size, .int .i64 x.last] 58))
      have hnx := own_ne_new hO (Nat.le_refl _)
      have HB5 := Lib.hid (belStep HBR.out k1)
      clear hO hbel k1 c0 c1 c2
      have HHA := Lib.hid (fun u (hu : Below w.heap.size w u) => iref_Has b U.length uc U x.name u rfl (HRU.out.later hu))
      have hx1 : wr.heap.size < (wr.alloc (.cells #[.string x.name, .int .i64 x.size, .int .i64 x.last] 58)).heap.size := HXB.out.lt
      have hsr := HBR.out.size
      generalize wr.alloc (.cells #[.string x.name, .int .i64 x.size, .int .i64 x.last] 58) = W5 at *
      have hbel : Below W5.heap.size W5 W5 := Below.refl _ _
      have xx0 := keep (HXB.out.cell (j := 0) rfl)
      have xx1 := keep (HXB.out.cell (j := 1) rfl)
      have xx2 := keep (HXB.out.cell (j := 2) rfl)
      obtain ⟨h9, hh9⟩ : ∃ q, hasU U x.name = q := ⟨_, rfl⟩
      rw [hh9] at HHA
      have HH9 := Lib.hid hh9
      clear hh9
      cases h9 with
      | false =>
        have HN2 := Lib.hid (HN.out.trans (show N ++ [(fun x : ImgV => if hasU U x.name then { x with last := round } else x) x] = N ++ [x] by simp only [HH9.out]; rfl))
        go_upto_region 8 with (go_at_call 133; (with_reducible refine (HHA.out _ HB5.out).mono ?_); rintro e w6 ⟨rfl, hb6⟩; have HB6 := Lib.hid hb6; clear hbel; have hbel := hb6; clear hb6)
        have HOA := Lib.hid (OwnR.alloc (HO.out.later HB6.out) (.cells #[.string x.name, .int .i64 x.size, .int .i64 x.last] 58))
        have HXA := Lib.hid (row_new w6 [.string x.name, .int .i64 x.size, .int .i64 x.last] 58 1 3 rfl (by unfold maxLen; omega))
        clear HO
        go_wp2_with (at_builtin; go_loud (refine wpList_app_row rfl _ _ 29 rfl w.heap.size 58 _ 3 32 Try.underlying29 info_imgI rfl (by decide) _ _ _ rfl HOA.out _ 1 1 [.string x.name, .int .i64 x.size, .int .i64 x.last] rfl HXA.out (img_one x) ?c1 ?c2 ?c3 ?_))
        case c1 => simp only [maxLen]; omega
        case c2 => omega
        case c3 => have := (belStep HB5.out HB6.out).size; simp; omega
        intro v' w7 ho' hb' _
        have HO2 := Lib.hid (own_snocG (enc := ImgV.cells) (x := x) ho')
        have HB2 := Lib.hid (((belAlloc (belStep HB5.out HB6.out) (.cells #[.string x.name, .int .i64 x.size, .int .i64 x.last] 58)).trans hb'))
        clear ho' hb'
        go_wp2
        go_roundw
        case rel => exact ⟨k + 1, by omega, by push_cast; rfl, by rw [HN2.out]; exact HO2.out, HB2.out⟩
        case measure => simp [intOf] <;> omega
      | true =>
        have HN2 := Lib.hid (HN.out.trans (show N ++ [(fun x : ImgV => if hasU U x.name then { x with last := round } else x) x] = N ++ [(⟨x.name, x.size, round⟩ : ImgV)] by simp only [HH9.out]; rfl))
        go_upto_region 7 with (go_at_call 133; (with_reducible refine (HHA.out _ HB5.out).mono ?_); rintro e w6 ⟨rfl, hb6⟩; have HB6 := Lib.hid hb6; clear hbel; have hbel := hb6; clear hb6)
        have HX6 := Lib.hid (HXB.out.later HB6.out)
        have HO6 := Lib.hid (HO.out.later HB6.out)
        have c2 := HX6.out.cell (j := 2) rfl
        have cf := HX6.out.frozen
        have hHX := Lib.hid (HX6.out.set 2 (.int .i64 round))
        have HO7 := Lib.hid (own_apart HO6.out hnx 2 (.int .i64 round))
        have HB7 := Lib.hid (belSet (belStep HB5.out HB6.out) ⟨wr.heap.size, 2, none⟩ (.int .i64 round) hsr)
        clear xx0 xx1 xx2 HX6 HO6 HO
        go_upto_region 8 with fail
        clear c2 cf hbel
        generalize w6.setCell ⟨wr.heap.size, 2, none⟩ (.int .i64 round) = W7 at *
        have hbel : Below W7.heap.size W7 W7 := Below.refl _ _
        have xx0 := keep (hHX.out.cell (j := 0) rfl)
        have xx1 := keep (hHX.out.cell (j := 1) rfl)
        have xx2 := keep (hHX.out.cell (j := 2) rfl)
        have HOB := Lib.hid (OwnR.alloc HO7.out (.cells #[.string x.name, .int .i64 x.size, .int .i64 round] 58))
        have HXB := Lib.hid (row_new W7 [.string x.name, .int .i64 x.size, .int .i64 round] 58 1 3 rfl (by unfold maxLen; omega))
        go_wp2_with (at_builtin; go_loud (refine wpList_app_row rfl _ _ 29 rfl w.heap.size 58 _ 3 32 Try.underlying29 info_imgI rfl (by decide) _ _ _ rfl HOB.out _ 1 1 [.string x.name, .int .i64 x.size, .int .i64 round] rfl HXB.out (img_one (⟨x.name, x.size, round⟩ : ImgV)) ?c1 ?c2 ?c3 ?_))
        case c1 => simp only [maxLen]; omega
        case c2 => omega
        case c3 => have := HB7.out.size; simp; omega
        intro v' w8 ho' hb' _
        have HO2 := Lib.hid (own_snocG (enc := ImgV.cells) (x := ⟨x.name, x.size, round⟩) ho')
        have HB2 := Lib.hid (((belAlloc HB7.out (.cells #[.string x.name, .int .i64 x.size, .int .i64 round] 58)).trans hb'))
        clear ho' hb'
        go_wp2
        go_roundw
        case rel => exact ⟨k + 1, by omega, by push_cast; rfl, by rw [HN2.out]; exact HO2.out, HB2.out⟩
        case measure => simp [intOf] <;> omega
    · obtain rfl : k = L.length := by omega
      have hd : decide ((L.length : Int) < (L.length : Int)) = false := decide_eq_false (by omega)
      rw [List.take_length] at hO
      go_wp2
      go_ret
      exact ⟨_, rfl, hO, hbr⟩
end Go.Proofs.Ytcnjcldfbidkmaa
namespace Go.Proofs.Ytcnjcldfbidkmaa
open Go.RowKit Go.Sort
set_option linter.unusedVariables false
set_option linter.unusedSimpArgs false
theorem Blk.grown {w w' : World} {M : Nat} {C : List Value} {T : TypeId} {v : Value} (h : Blk w M C T) (hg : w.grownBy w' v.ownBlock) (hne : v.ownBlock ≠ some M) : Blk w' M C T := by
  have hl := h.lt
  unfold Blk at *
  rw [hg.block M hl (fun e => hne e.symm)]; exact h
theorem takeG_all {α : Type} {L : List α} {k : Nat} (h : L.length ≤ k) : L.take k = L := List.take_of_length_le h
def oG {α : Type} (l : List α) (x : α) (p k : Nat) : List α := if p < k then l.take p ++ x :: (l.take k).drop p else l.take k
theorem oG_len {α : Type} (l : List α) (x : α) (p k : Nat) : (oG l x p k).length ≤ l.length + 1 := by
  unfold oG
  split <;> simp <;> omega
theorem oG_done {α : Type} {l : List α} {x y : α} {p k : Nat} (h : p < k) (hy : l[k]? = some y) : oG l x p (k + 1) = oG l x p k ++ [y] := by
  have hk : k < l.length := (List.getElem?_eq_some_iff.1 hy).1
  unfold oG
  rw [if_pos h, if_pos (by omega), takeG_next hy, List.drop_append_of_le_length (by rw [List.length_take]; omega)]
  simp
theorem oG_not {α : Type} {l : List α} {x y : α} {p k : Nat} (h : k < p) (hy : l[k]? = some y) : oG l x p (k + 1) = oG l x p k ++ [y] := by
  unfold oG; rw [if_neg (by omega), if_neg (by omega)]; exact takeG_next hy
theorem oG_here {α : Type} {l : List α} {x y : α} {p : Nat} (hy : l[p]? = some y) : oG l x p (p + 1) = (oG l x p p ++ [x]) ++ [y] := by
  have hk : p < l.length := (List.getElem?_eq_some_iff.1 hy).1
  unfold oG
  rw [if_pos (by omega), if_neg (Nat.lt_irrefl _), takeG_next hy, List.drop_left' (by rw [List.length_take]; omega)]
  simp
theorem oG_end {α : Type} {l : List α} {x : α} {p : Nat} (h : p < l.length) : oG l x p l.length = l.take p ++ x :: l.drop p := by
  unfold oG; rw [if_pos h, List.take_length]
theorem oG_full {α : Type} {l : List α} {x : α} {p : Nat} (h : p = l.length) : oG l x p l.length ++ [x] = l.take p ++ x :: l.drop p := by
  unfold oG; rw [if_neg (by omega), h, List.take_length, List.drop_length]
theorem parts_less {L : List ImgV} (hri : Rises L) {s : ByteArray} {k : Nat} {x : ImgV} (hx : L[k]? = some x) : Op.bytesLess x.name.toList s.toList = decide (k < placeF L s) := by
  have hp := parts_of hri s
  rw [bytesLess_iff]
  by_cases h : k < placeF L s
  · rw [decide_eq_true h, decide_eq_true (hp.lo k x h hx)]
  · rw [decide_eq_false h, decide_eq_false (hp.hi k x (by omega) hx)]
theorem there_not {L : List ImgV} {s : ByteArray} (h : thereB L s = false) {k : Nat} {x : ImgV} (hx : L[k]? = some x) : (x.name.toList == s.toList) = false := by
  have := List.any_eq_false.1 (show (L.any fun x => x.name.toList == s.toList) = false from h) x (List.mem_of_getElem? hx)
  simpa using this
theorem sel_step {N : List ImgV} {b : Nat} {x : ImgV} (hr : Rises N) (hx : N[b]? = some x) (hm : ∀ y ∈ N, ltOf cfI y x = false) : sortBy (ltOf cfI) N = x :: sortBy (ltOf cfI) (dropI N x.name) := by
  have hb := (List.getElem?_eq_some_iff.1 hx).1
  have hd := drop_there hr hx rfl
  have e : N = N.take b ++ x :: N.drop (b + 1) := by
    rw [← (List.getElem?_eq_some_iff.1 hx).2, ← List.drop_eq_getElem_cons hb, List.take_append_drop]
  have hperm : (x :: dropI N x.name).Perm N := by
    rw [hd]
    conv => rhs; rw [e]
    exact List.perm_middle.symm
  refine (sortBy_unique swo_cfI (tied_cfI N) (((sortBy_perm (ltOf cfI) (dropI N x.name)).cons x).trans hperm) ?_).symm
  refine List.pairwise_cons.2 ⟨fun y hy => ?_, (sortBy_pw swo_cfI _).imp (fun h => by simpa using h)⟩
  exact hm y (hperm.mem_iff.1 (List.mem_cons_of_mem _ (sortBy_mem.1 hy)))
theorem drop_len {N : List ImgV} {b : Nat} {x : ImgV} (hr : Rises N) (hx : N[b]? = some x) : (dropI N x.name).length + 1 = N.length := by
  have hb := (List.getElem?_eq_some_iff.1 hx).1
  rw [drop_there hr hx rfl]; simp; omega
theorem filt_rises {L : List ImgV} (h : Rises L) (f : ImgV → Bool) : Rises (L.filter f) := List.Pairwise.sublist List.filter_sublist h
def lenV : Value → Nat
  | .slice _ n _ => n
  | _ => 0
theorem ah_1 {x y : ImgV} (h : ¬ x.last = y.last) : ltOf cfI x y = decide (x.last < y.last) := by
  unfold ltOf
  rw [cfI_eq]
  have h1 : cI x.last y.last ≠ 0 := fun e => h (cI_zero.1 e)
  show decide (orZ (cI x.last y.last) (orZ (cI y.size x.size) (cS x.name y.name)) < 0) = _
  rw [orZ_ne _ h1]
  exact decide_eq_decide.2 cI_neg
theorem ah_2 {x y : ImgV} (h : x.last = y.last) (h2 : ¬ x.size = y.size) : ltOf cfI x y = decide (y.size < x.size) := by
  unfold ltOf
  rw [cfI_eq]
  have h1 : cI x.last y.last = 0 := cI_zero.2 h
  have h3 : cI y.size x.size ≠ 0 := fun e => h2 (cI_zero.1 e).symm
  show decide (orZ (cI x.last y.last) (orZ (cI y.size x.size) (cS x.name y.name)) < 0) = _
  rw [h1, orZ_zero, orZ_ne _ h3]
  exact decide_eq_decide.2 cI_neg
theorem ah_3 {x y : ImgV} (h : x.last = y.last) (h2 : x.size = y.size) : ltOf cfI x y = Op.bytesLess x.name.toList y.name.toList := by
  unfold ltOf
  rw [cfI_eq]
  have h1 : cI x.last y.last = 0 := cI_zero.2 h
  have h3 : cI y.size x.size = 0 := cI_zero.2 h2.symm
  show decide (orZ (cI x.last y.last) (orZ (cI y.size x.size) (cS x.name y.name)) < 0) = _
  rw [h1, orZ_zero, h3, orZ_zero, bytesLess_iff]
  exact decide_eq_decide.2 cS_neg
set_option maxRecDepth 100000 in
set_option maxHeartbeats 16000000 in
theorem iref_Put (a : Option Addr) (len cap : Nat) (L : List ImgV) (s : ByteArray) (size round : Int) (w : World) (hl : L.length = len) (hR : Row w a len cap 3 (L.flatMap ImgV.cells)) (hri : Rises L) (hn : len ≤ 100000) :
    Calls Try.prog 98 #[.slice a len cap, .string s, .int .i64 size, .int .i64 round] w fun e w' => ∃ v, e = .returned v ∧ OwnR w' w.heap.size 58 3 v (putI L s size round).length ((putI L s size round).flatMap ImgV.cells) ∧ Below w.heap.size w w' := by
  have hw : Below w.heap.size w w := Below.refl _ _
  have hbd_a : len ≤ cap ∧ cap ≤ 9223372036854775807 := by obtain ⟨_, h1, h2, _⟩ := hR; unfold maxLen at h2; exact ⟨h1, h2⟩
  obtain ⟨hbd1_a, hbd2_a⟩ := hbd_a
  have HR := Lib.hid hR
  have HRI := Lib.hid hri
  clear hR hri
  subst hl
  obtain ⟨th, hth⟩ : ∃ t, thereB L s = t := ⟨_, rfl⟩
  obtain ⟨p, hp⟩ : ∃ q, placeF L s = q := ⟨_, rfl⟩
  have hple : p ≤ L.length := by rw [← hp]; exact place_le _ _
  have HLESS := Lib.hid (fun (k : Nat) (x : ImgV) (hx : L[k]? = some x) => hp ▸ parts_less HRI.out (s := s) hx)
  have HTH := Lib.hid hth
  have HPL := Lib.hid hp
  clear hth hp
  go_enter Try.func98, Try.ntmps98
  cases th with
  | false =>
    have HRES := Lib.hid (show putI L s size round = L.take p ++ (⟨s, size, round⟩ : ImgV) :: L.drop p from by rw [put_no HTH.out, HPL.out])
    go_wp2
    go_loopw [9, 10, 11] (fun v dn i wr => ∃ k : Nat, k ≤ L.length ∧ i = .int .i64 k ∧ dn = .bool (decide (p < k)) ∧ OwnR wr w.heap.size 58 3 v (oG L (⟨s, size, round⟩ : ImgV) p k).length ((oG L (⟨s, size, round⟩ : ImgV) p k).flatMap ImgV.cells) ∧ Below w.heap.size w wr) (fun _ _ i _ => L.length - (intOf i).toNat)
    case atStart => exact ⟨0, Nat.zero_le _, rfl, by rw [show decide (p < 0) = false from decide_eq_false (by omega)], OwnR.nil _ _ _ _, hw⟩
    case round =>
      clear hw
      obtain ⟨k, hk, rfl, rfl, hO, hbr⟩ := hrel
      by_cases hlt : k < L.length
      · have hd : decide ((k : Int) < (L.length : Int)) = true := decide_eq_true (by omega)
        have hki : (k : Int) < (L.length : Int) := by omega
        have hk0 : (0 : Int) ≤ (k : Int) := by omega
        obtain ⟨x, hx⟩ : ∃ x, L[k]? = some x := ⟨L[k], List.getElem?_eq_getElem hlt⟩
        obtain ⟨bc, oc, ec, _, hcc⟩ := (HR.out.later hbr).elem ImgV.cells_len (by omega) hx
        subst ec
        have c0 := keep (hcc 0 _ rfl)
        have c1 := keep (hcc 1 _ rfl)
        have c2 := keep (hcc 2 _ rfl)
        rw [Nat.add_zero] at c0
        have hless := HLESS.out k x hx
        have HX := Lib.hid hx
        clear hx hcc
        have HBR := Lib.hid hbr
        clear hbr
        have hbel : Below wr.heap.size wr wr := Below.refl _ _
        go_upto_region 7 with fail
        have k1 : Below wr.heap.size wr (wr.alloc (.cells #[.string x.name, .int .i64 x.size, .int .i64 x.last] 58)) := belAlloc (Below.refl _ _) _
        have HXB := Lib.hid (show Blk (wr.alloc (.cells #[.string x.name, .int .i64 x.size, .int .i64 x.last] 58)) wr.heap.size [.string x.name, .int .i64 x.size, .int .i64 x.last] 58 from Blk.new wr [.string x.name, .int .i64 x.size, .int .i64 x.last] 58)
        have HO := Lib.hid (OwnR.alloc hO (.cells #[.string x.name, .int .i64 x.size, .int .i64 x.last] 58))
        have hnx := own_ne_new hO (Nat.le_refl _)
        have HB5 := Lib.hid (belStep HBR.out k1)
        clear hO hbel k1 c0 c1 c2
        have hx1 : wr.heap.size < (wr.alloc (.cells #[.string x.name, .int .i64 x.size, .int .i64 x.last] 58)).heap.size := HXB.out.lt
        have hsr := HBR.out.size
        generalize wr.alloc (.cells #[.string x.name, .int .i64 x.size, .int .i64 x.last] 58) = W5 at *
        have hbel : Below W5.heap.size W5 W5 := Below.refl _ _
        have xx0 := keep (HXB.out.cell (j := 0) rfl)
        have xx1 := keep (HXB.out.cell (j := 1) rfl)
        have xx2 := keep (HXB.out.cell (j := 2) rfl)
        obtain ⟨N, hN⟩ : ∃ N, oG L (⟨s, size, round⟩ : ImgV) p k = N := ⟨_, rfl⟩
        rw [hN] at HO
        have HNN := Lib.hid hN
        have HNL := Lib.hid (show N.length ≤ L.length + 1 by rw [← HNN.out]; exact oG_len _ _ _ _)
        have key : p < k ∨ k < p ∨ k = p := by omega
        rcases key with h9 | h9 | h9
        · have hdn : decide (p < k) = true := decide_eq_true h9
          have hdk : decide (p < k + 1) = true := decide_eq_true (by omega)
          rw [show decide (k < p) = false from decide_eq_false (by omega)] at hless
          have HN := Lib.hid (oG_done (x := (⟨s, size, round⟩ : ImgV)) h9 HX.out)
          rw [HNN.out] at HN
          rw [hdn]
          clear hdn hN HNN
          have hNl := HNL.out
          have HOA := Lib.hid (OwnR.alloc HO.out (.cells #[.string x.name, .int .i64 x.size, .int .i64 x.last] 58))
          have HXA := Lib.hid (row_new W5 [.string x.name, .int .i64 x.size, .int .i64 x.last] 58 1 3 rfl (by unfold maxLen; omega))
          clear HO
          go_wp2_with (at_builtin; go_loud (refine wpList_app_row rfl _ _ 29 rfl w.heap.size 58 _ 3 32 Try.underlying29 info_imgI rfl (by decide) _ _ _ rfl HOA.out _ 1 1 [.string x.name, .int .i64 x.size, .int .i64 x.last] rfl HXA.out (img_one x) ?c1 ?c2 ?c3 ?_))
          case c1 => simp only [maxLen]; omega
          case c2 => omega
          case c3 => have := HB5.out.size; simp; omega
          intro v' w6 ho' hb' _
          have HO2 := Lib.hid (own_snocG (enc := ImgV.cells) (x := x) ho')
          have HB2 := Lib.hid (((belAlloc HB5.out (.cells #[.string x.name, .int .i64 x.size, .int .i64 x.last] 58)).trans hb'))
          clear ho' hb'
          go_wp2
          go_roundw
          case rel => exact ⟨k + 1, by omega, by push_cast; rfl, by rw [hdk], by rw [HN.out]; exact HO2.out, HB2.out⟩
          case measure => simp [intOf] <;> omega
        · have hdn : decide (p < k) = false := decide_eq_false (by omega)
          have hdk : decide (p < k + 1) = false := decide_eq_false (by omega)
          rw [show decide (k < p) = true from decide_eq_true h9] at hless
          have HN := Lib.hid (oG_not (x := (⟨s, size, round⟩ : ImgV)) h9 HX.out)
          rw [HNN.out] at HN
          rw [hdn]
          clear hdn hN HNN
          have hNl := HNL.out
          have HOA := Lib.hid (OwnR.alloc HO.out (.cells #[.string x.name, .int .i64 x.size, .int .i64 x.last] 58))
          have HXA := Lib.hid (row_new W5 [.string x.name, .int .i64 x.size, .int .i64 x.last] 58 1 3 rfl (by unfold maxLen; omega))
          clear HO
          go_wp2_with (at_builtin; go_loud (refine wpList_app_row rfl _ _ 29 rfl w.heap.size 58 _ 3 32 Try.underlying29 info_imgI rfl (by decide) _ _ _ rfl HOA.out _ 1 1 [.string x.name, .int .i64 x.size, .int .i64 x.last] rfl HXA.out (img_one x) ?c1 ?c2 ?c3 ?_))
          case c1 => simp only [maxLen]; omega
          case c2 => omega
          case c3 => have := HB5.out.size; simp; omega
          intro v' w6 ho' hb' _
          have HO2 := Lib.hid (own_snocG (enc := ImgV.cells) (x := x) ho')
          have HB2 := Lib.hid (((belAlloc HB5.out (.cells #[.string x.name, .int .i64 x.size, .int .i64 x.last] 58)).trans hb'))
          clear ho' hb'
          go_wp2
          go_roundw
          case rel => exact ⟨k + 1, by omega, by push_cast; rfl, by rw [hdk], by rw [HN.out]; exact HO2.out, HB2.out⟩
          case measure => simp [intOf] <;> omega
        · subst h9
          have heq := there_not HTH.out HX.out
          have hdn : decide (k < k) = false := decide_eq_false (by omega)
          have hdk : decide (k < k + 1) = true := decide_eq_true (by omega)
          rw [show decide (k < k) = false from hdn] at hless
          have HN := Lib.hid (oG_here (x := (⟨s, size, round⟩ : ImgV)) HX.out)
          rw [HNN.out] at HN
          rw [hdn]
          clear hdn hN HNN
          have hNl := HNL.out
          have HON := Lib.hid (OwnR.alloc HO.out (.cells #[.string s, .int .i64 size, .int .i64 round] 58))
          have HXN := Lib.hid (row_new W5 [.string s, .int .i64 size, .int .i64 round] 58 1 3 rfl (by unfold maxLen; omega))
          have HXK := Lib.hid (show Blk (W5.alloc (.cells #[.string s, .int .i64 size, .int .i64 round] 58)) wr.heap.size [.string x.name, .int .i64 x.size, .int .i64 x.last] 58 from HXB.out.later (belAlloc (Below.refl W5.heap.size W5) (.cells #[.string s, .int .i64 size, .int .i64 round] 58)))
          have hnx2 := hnx
          clear HO
          go_upto_region 12 with (at_builtin; go_loud (refine wpList_app_row rfl _ _ 29 rfl w.heap.size 58 _ 3 32 Try.underlying29 info_imgI rfl (by decide) _ _ _ rfl HON.out _ 1 1 [.string s, .int .i64 size, .int .i64 round] rfl HXN.out (img_one (⟨s, size, round⟩ : ImgV)) ?c1 ?c2 ?c3 ?_))
          case c1 => simp only [maxLen]; omega
          case c2 => omega
          case c3 => have := HB5.out.size; simp; omega
          intro v' w6 ho' hb' hg'
          have HO2 := Lib.hid (own_snocG (enc := ImgV.cells) (x := (⟨s, size, round⟩ : ImgV)) ho')
          have HB2 := Lib.hid ((belAlloc HB5.out (.cells #[.string s, .int .i64 size, .int .i64 round] 58)).trans hb')
          have HX6 := Lib.hid (HXK.out.grown hg' hnx2)
          clear ho' hb' hg' hbel xx0 xx1 xx2
          have hbel : Below w6.heap.size w6 w6 := Below.refl _ _
          have xx0 := keep (HX6.out.cell (j := 0) rfl)
          have xx1 := keep (HX6.out.cell (j := 1) rfl)
          have xx2 := keep (HX6.out.cell (j := 2) rfl)
          obtain ⟨N2, hN2⟩ : ∃ M, N ++ [(⟨s, size, round⟩ : ImgV)] = M := ⟨_, rfl⟩
          have hN2l : N2.length ≤ L.length + 2 := by rw [← hN2, List.length_append]; simp; omega
          rw [hN2] at HO2 HN
          clear hN2
          have HOX := Lib.hid (OwnR.alloc HO2.out (.cells #[.string x.name, .int .i64 x.size, .int .i64 x.last] 58))
          have HXX := Lib.hid (row_new w6 [.string x.name, .int .i64 x.size, .int .i64 x.last] 58 1 3 rfl (by unfold maxLen; omega))
          go_wp2_with (at_builtin; go_loud (refine wpList_app_row rfl _ _ 29 rfl w.heap.size 58 _ 3 32 Try.underlying29 info_imgI rfl (by decide) _ _ _ rfl HOX.out _ 1 1 [.string x.name, .int .i64 x.size, .int .i64 x.last] rfl HXX.out (img_one x) ?c1 ?c2 ?c3 ?_))
          case c1 => simp only [maxLen]; omega
          case c2 => omega
          case c3 => have := HB2.out.size; simp; omega
          intro v9 w9 ho9 hb9 _
          have HO9 := Lib.hid (own_snocG (enc := ImgV.cells) (x := x) ho9)
          have HB9 := Lib.hid ((belAlloc HB2.out (.cells #[.string x.name, .int .i64 x.size, .int .i64 x.last] 58)).trans hb9)
          clear ho9 hb9
          go_wp2
          go_roundw
          case rel => exact ⟨k + 1, by omega, by push_cast; rfl, by rw [hdk], by rw [HN.out]; exact HO9.out, HB9.out⟩
          case measure => simp [intOf] <;> omega
      · obtain rfl : k = L.length := by omega
        have hd : decide ((L.length : Int) < (L.length : Int)) = false := decide_eq_false (by omega)
        by_cases h9 : p < L.length
        · have hdn : decide (p < L.length) = true := decide_eq_true h9
          rw [hdn]
          rw [oG_end h9] at hO
          clear hdn
          go_wp2
          go_ret
          exact ⟨_, rfl, by rw [HRES.out]; exact hO, hbr⟩
        · have hdn : decide (p < L.length) = false := decide_eq_false h9
          rw [hdn]
          have HN := Lib.hid (oG_full (x := (⟨s, size, round⟩ : ImgV)) (show p = L.length by omega))
          have hNl := oG_len L (⟨s, size, round⟩ : ImgV) p L.length
          obtain ⟨N, hN⟩ : ∃ N, oG L (⟨s, size, round⟩ : ImgV) p L.length = N := ⟨_, rfl⟩
          rw [hN] at hO HN hNl
          clear hdn hN
          have HBR := Lib.hid hbr
          have HOE := Lib.hid (OwnR.alloc hO (.cells #[.string s, .int .i64 size, .int .i64 round] 58))
          have HXE := Lib.hid (row_new wr [.string s, .int .i64 size, .int .i64 round] 58 1 3 rfl (by unfold maxLen; omega))
          clear hO
          go_wp2_with (at_builtin; go_loud (refine wpList_app_row rfl _ _ 29 rfl w.heap.size 58 _ 3 32 Try.underlying29 info_imgI rfl (by decide) _ _ _ rfl HOE.out _ 1 1 [.string s, .int .i64 size, .int .i64 round] rfl HXE.out (img_one (⟨s, size, round⟩ : ImgV)) ?c1 ?c2 ?c3 ?_))
          case c1 => simp only [maxLen]; omega
          case c2 => omega
          case c3 => have := HBR.out.size; simp; omega
          intro v' w6 ho' hb' _
          have HO2 := Lib.hid (own_snocG (enc := ImgV.cells) (x := (⟨s, size, round⟩ : ImgV)) ho')
          have HB2 := Lib.hid ((belAlloc HBR.out (.cells #[.string s, .int .i64 size, .int .i64 round] 58)).trans hb')
          clear ho' hb'
          go_wp2
          go_ret
          exact ⟨_, rfl, by rw [HRES.out, ← HN.out]; exact HO2.out, HB2.out⟩
  | true =>
    obtain ⟨z, hz, he⟩ := there_at HRI.out HTH.out
    rw [HPL.out] at hz
    have HRES := Lib.hid (show putI L s size round = L.set p { z with last := round } from put_there HRI.out HTH.out hz he)
    have hpl : p < L.length := (List.getElem?_eq_some_iff.1 hz).1
    obtain ⟨M, hM⟩ : ∃ M, L.set p { z with last := round } = M := ⟨_, rfl⟩
    have HML := Lib.hid (show M.length = L.length by rw [← hM, List.length_set])
    have HMO := Lib.hid (fun (k : Nat) (x : ImgV) (hne : k ≠ p) (hx : L[k]? = some x) => show M[k]? = some x by rw [← hM, List.getElem?_set_ne (fun e => hne e.symm)]; exact hx)
    have HMP := Lib.hid (show M[p]? = some { z with last := round } by rw [← hM, List.getElem?_set_self hpl])
    rw [hM] at HRES
    have HZ := Lib.hid hz
    have HE := Lib.hid he
    clear hz he hM
    go_wp2
    go_loopw [9, 10, 11] (fun v dn i wr => ∃ k : Nat, k ≤ L.length ∧ i = .int .i64 k ∧ dn = .bool (decide (p < k)) ∧ OwnR wr w.heap.size 58 3 v (M.take k).length ((M.take k).flatMap ImgV.cells) ∧ Below w.heap.size w wr) (fun _ _ i _ => L.length - (intOf i).toNat)
    case atStart => exact ⟨0, Nat.zero_le _, rfl, rfl, OwnR.nil _ _ _ _, hw⟩
    case round =>
      clear hw
      obtain ⟨k, hk, rfl, rfl, hO, hbr⟩ := hrel
      by_cases hlt : k < L.length
      · have hd : decide ((k : Int) < (L.length : Int)) = true := decide_eq_true (by omega)
        have hki : (k : Int) < (L.length : Int) := by omega
        have hk0 : (0 : Int) ≤ (k : Int) := by omega
        obtain ⟨x, hx⟩ : ∃ x, L[k]? = some x := ⟨L[k], List.getElem?_eq_getElem hlt⟩
        obtain ⟨bc, oc, ec, _, hcc⟩ := (HR.out.later hbr).elem ImgV.cells_len (by omega) hx
        subst ec
        have c0 := keep (hcc 0 _ rfl)
        have c1 := keep (hcc 1 _ rfl)
        have c2 := keep (hcc 2 _ rfl)
        rw [Nat.add_zero] at c0
        have hless := HLESS.out k x hx
        have HX := Lib.hid hx
        clear hx hcc
        have HBR := Lib.hid hbr
        clear hbr
        have hbel : Below wr.heap.size wr wr := Below.refl _ _
        go_upto_region 7 with fail
        have k1 : Below wr.heap.size wr (wr.alloc (.cells #[.string x.name, .int .i64 x.size, .int .i64 x.last] 58)) := belAlloc (Below.refl _ _) _
        have HXB := Lib.hid (show Blk (wr.alloc (.cells #[.string x.name, .int .i64 x.size, .int .i64 x.last] 58)) wr.heap.size [.string x.name, .int .i64 x.size, .int .i64 x.last] 58 from Blk.new wr [.string x.name, .int .i64 x.size, .int .i64 x.last] 58)
        have HO := Lib.hid (OwnR.alloc hO (.cells #[.string x.name, .int .i64 x.size, .int .i64 x.last] 58))
        have hnx := own_ne_new hO (Nat.le_refl _)
        have HB5 := Lib.hid (belStep HBR.out k1)
        clear hO hbel k1 c0 c1 c2
        have hx1 : wr.heap.size < (wr.alloc (.cells #[.string x.name, .int .i64 x.size, .int .i64 x.last] 58)).heap.size := HXB.out.lt
        have hsr := HBR.out.size
        generalize wr.alloc (.cells #[.string x.name, .int .i64 x.size, .int .i64 x.last] 58) = W5 at *
        have hbel : Below W5.heap.size W5 W5 := Below.refl _ _
        have xx0 := keep (HXB.out.cell (j := 0) rfl)
        have xx1 := keep (HXB.out.cell (j := 1) rfl)
        have xx2 := keep (HXB.out.cell (j := 2) rfl)
        obtain ⟨N, hN⟩ : ∃ N, M.take k = N := ⟨_, rfl⟩
        rw [hN] at HO
        have HNN := Lib.hid hN
        have HNL := Lib.hid (show N.length ≤ L.length by rw [← HNN.out, List.length_take]; omega)
        have key : p < k ∨ k < p ∨ k = p := by omega
        rcases key with h9 | h9 | h9
        · have hdn : decide (p < k) = true := decide_eq_true h9
          have hdk : decide (p < k + 1) = true := decide_eq_true (by omega)
          rw [show decide (k < p) = false from decide_eq_false (by omega)] at hless
          have HN := Lib.hid (takeG_next (HMO.out k x (by omega) HX.out))
          rw [HNN.out] at HN
          rw [hdn]
          clear hdn hN HNN
          have hNl := HNL.out
          have HOA := Lib.hid (OwnR.alloc HO.out (.cells #[.string x.name, .int .i64 x.size, .int .i64 x.last] 58))
          have HXA := Lib.hid (row_new W5 [.string x.name, .int .i64 x.size, .int .i64 x.last] 58 1 3 rfl (by unfold maxLen; omega))
          clear HO
          go_wp2_with (at_builtin; go_loud (refine wpList_app_row rfl _ _ 29 rfl w.heap.size 58 _ 3 32 Try.underlying29 info_imgI rfl (by decide) _ _ _ rfl HOA.out _ 1 1 [.string x.name, .int .i64 x.size, .int .i64 x.last] rfl HXA.out (img_one x) ?c1 ?c2 ?c3 ?_))
          case c1 => simp only [maxLen]; omega
          case c2 => omega
          case c3 => have := HB5.out.size; simp; omega
          intro v' w6 ho' hb' _
          have HO2 := Lib.hid (own_snocG (enc := ImgV.cells) (x := x) ho')
          have HB2 := Lib.hid (((belAlloc HB5.out (.cells #[.string x.name, .int .i64 x.size, .int .i64 x.last] 58)).trans hb'))
          clear ho' hb'
          go_wp2
          go_roundw
          case rel => exact ⟨k + 1, by omega, by push_cast; rfl, by rw [hdk], by rw [HN.out]; exact HO2.out, HB2.out⟩
          case measure => simp [intOf] <;> omega
        · have hdn : decide (p < k) = false := decide_eq_false (by omega)
          have hdk : decide (p < k + 1) = false := decide_eq_false (by omega)
          rw [show decide (k < p) = true from decide_eq_true h9] at hless
          have HN := Lib.hid (takeG_next (HMO.out k x (by omega) HX.out))
          rw [HNN.out] at HN
          rw [hdn]
          clear hdn hN HNN
          have hNl := HNL.out
          have HOA := Lib.hid (OwnR.alloc HO.out (.cells #[.string x.name, .int .i64 x.size, .int .i64 x.last] 58))
          have HXA := Lib.hid (row_new W5 [.string x.name, .int .i64 x.size, .int .i64 x.last] 58 1 3 rfl (by unfold maxLen; omega))
          clear HO
          go_wp2_with (at_builtin; go_loud (refine wpList_app_row rfl _ _ 29 rfl w.heap.size 58 _ 3 32 Try.underlying29 info_imgI rfl (by decide) _ _ _ rfl HOA.out _ 1 1 [.string x.name, .int .i64 x.size, .int .i64 x.last] rfl HXA.out (img_one x) ?c1 ?c2 ?c3 ?_))
          case c1 => simp only [maxLen]; omega
          case c2 => omega
          case c3 => have := HB5.out.size; simp; omega
          intro v' w6 ho' hb' _
          have HO2 := Lib.hid (own_snocG (enc := ImgV.cells) (x := x) ho')
          have HB2 := Lib.hid (((belAlloc HB5.out (.cells #[.string x.name, .int .i64 x.size, .int .i64 x.last] 58)).trans hb'))
          clear ho' hb'
          go_wp2
          go_roundw
          case rel => exact ⟨k + 1, by omega, by push_cast; rfl, by rw [hdk], by rw [HN.out]; exact HO2.out, HB2.out⟩
          case measure => simp [intOf] <;> omega
        · subst h9
          obtain rfl : x = z := Option.some.inj (HX.out.symm.trans HZ.out)
          have heq : (x.name.toList == s.toList) = true := by rw [HE.out]; exact beq_self_eq_true _
          have hdn : decide (k < k) = false := decide_eq_false (by omega)
          have hdk : decide (k < k + 1) = true := decide_eq_true (by omega)
          rw [show decide (k < k) = false from hdn] at hless
          have HN := Lib.hid (takeG_next HMP.out)
          rw [HNN.out] at HN
          rw [hdn]
          clear hdn hN HNN
          have hNl := HNL.out
          have c2 := HXB.out.cell (j := 2) rfl
          have cf := HXB.out.frozen
          have hHX := Lib.hid (HXB.out.set 2 (.int .i64 round))
          have HO7 := Lib.hid (own_apart HO.out hnx 2 (.int .i64 round))
          have HB7 := Lib.hid (belSet HB5.out ⟨wr.heap.size, 2, none⟩ (.int .i64 round) hsr)
          clear HO
          go_upto_region 12 with fail
          clear c2 cf hbel xx0 xx1 xx2
          generalize W5.setCell ⟨wr.heap.size, 2, none⟩ (.int .i64 round) = W7 at *
          have hbel : Below W7.heap.size W7 W7 := Below.refl _ _
          have xx0 := keep (hHX.out.cell (j := 0) rfl)
          have xx1 := keep (hHX.out.cell (j := 1) rfl)
          have xx2 := keep (hHX.out.cell (j := 2) rfl)
          have HOB := Lib.hid (OwnR.alloc HO7.out (.cells #[.string x.name, .int .i64 x.size, .int .i64 round] 58))
          have HXB := Lib.hid (row_new W7 [.string x.name, .int .i64 x.size, .int .i64 round] 58 1 3 rfl (by unfold maxLen; omega))
          go_wp2_with (at_builtin; go_loud (refine wpList_app_row rfl _ _ 29 rfl w.heap.size 58 _ 3 32 Try.underlying29 info_imgI rfl (by decide) _ _ _ rfl HOB.out _ 1 1 [.string x.name, .int .i64 x.size, .int .i64 round] rfl HXB.out (img_one (⟨x.name, x.size, round⟩ : ImgV)) ?c1 ?c2 ?c3 ?_))
          case c1 => simp only [maxLen]; omega
          case c2 => omega
          case c3 => have := HB7.out.size; simp; omega
          intro v' w8 ho' hb' _
          have HO2 := Lib.hid (own_snocG (enc := ImgV.cells) (x := (⟨x.name, x.size, round⟩ : ImgV)) ho')
          have HB2 := Lib.hid (((belAlloc HB7.out (.cells #[.string x.name, .int .i64 x.size, .int .i64 round] 58)).trans hb'))
          clear ho' hb'
          go_wp2
          go_roundw
          case rel => exact ⟨k + 1, by omega, by push_cast; rfl, by rw [hdk], by rw [HN.out]; exact HO2.out, HB2.out⟩
          case measure => simp [intOf] <;> omega
      · obtain rfl : k = L.length := by omega
        have hd : decide ((L.length : Int) < (L.length : Int)) = false := decide_eq_false (by omega)
        have hdn : decide (p < L.length) = true := decide_eq_true hpl
        rw [hdn]
        have HO := Lib.hid (show OwnR wr w.heap.size 58 3 _ M.length (M.flatMap ImgV.cells) from by have h := hO; rwa [takeG_all (by rw [HML.out]; exact Nat.le_refl _)] at h)
        clear hO hdn
        go_wp2
        go_ret
        exact ⟨_, rfl, by rw [HRES.out]; exact HO.out, hbr⟩
end Go.Proofs.Ytcnjcldfbidkmaa
