
/- pod.take, pod.name, pod.number: contracts. -/
import Derived.Test.YtpmkhimmlpnbpaaPodPut
import Derived.Laws.BytesArg
import Derived.Shelf.Bytes.SlSmallAll
namespace Go.Proofs.Ytpmkhimmlpnbpaa
open Go.RowKit
set_option linter.unusedVariables false
set_option linter.unusedSimpArgs false

theorem Ints.take {k : IntKind} {w : World} {a : Option Addr} {len cap : Nat} {l : List Int} (h : Ints k w a len cap l) {n : Nat} (hn : n ≤ len) (ha : a ≠ none) : Ints k w a n cap (l.take n) := by
  obtain ⟨⟨h1, h2, h3, h4, h5⟩, hw⟩ := h
  simp at h1
  refine ⟨⟨by simp; omega, by omega, h3, fun e => absurd e ha, ?_⟩, fun m hm => hw m (List.mem_of_mem_take hm)⟩
  rcases h5 with h5 | ⟨b, off, e, hc⟩
  · left; simp at h5; subst h5; simp
  · right
    refine ⟨b, off, e, fun i hi => ?_⟩
    simp at hi
    rw [hc i (by simp; omega)]
    simp [hi]
theorem Ints.drop {k : IntKind} {w : World} {b off len cap : Nat} {l : List Int} (h : Ints k w (some ⟨b, off, none⟩) len cap l) {n : Nat} (hn : n ≤ len) : Ints k w (some ⟨b, off + n, none⟩) (len - n) (cap - n) (l.drop n) := by
  obtain ⟨⟨h1, h2, h3, h4, h5⟩, hw⟩ := h
  simp at h1
  refine ⟨⟨by simp; omega, by omega, by omega, (fun e => by cases e), ?_⟩, fun m hm => hw m (List.mem_of_mem_drop hm)⟩
  rcases h5 with h5 | ⟨b', off', e, hc⟩
  · simp at h5; subst h5; left; simp
  · right
    cases e
    refine ⟨b, off + n, rfl, fun i hi => ?_⟩
    simp at hi
    rw [Nat.add_assoc, hc (n + i) (by simp; omega)]
    simp [List.getElem?_drop]
theorem Ints.none_nil {k : IntKind} {w : World} {len cap : Nat} {l : List Int} (h : Ints k w none len cap l) : len = 0 ∧ cap = 0 ∧ l = [] := by
  obtain ⟨⟨h1, h2, h3, h4, h5⟩, hw⟩ := h
  obtain ⟨rfl, rfl⟩ := h4 rfl
  simp at h1
  exact ⟨rfl, rfl, h1⟩
theorem ints_nil (w : World) (k : IntKind) : Ints k w none 0 0 [] := ⟨⟨rfl, Nat.le_refl _, by unfold maxLen; omega, fun _ => ⟨rfl, rfl⟩, .inl rfl⟩, fun n hn => by cases hn⟩
theorem ints_zero (w : World) (k : IntKind) (b : Addr) (cap : Nat) (hc : cap ≤ 9223372036854775807) : Ints k w (some b) 0 cap [] := ⟨⟨rfl, by omega, by unfold maxLen; omega, (fun e => by cases e), .inl rfl⟩, fun n hn => by cases hn⟩
theorem Ints.shape {k : IntKind} {w : World} {a : Option Addr} {len cap : Nat} {l : List Int} (h : Ints k w a len cap l) : a = none ∨ (len = 0 ∧ ∃ b, a = some b) ∨ ∃ b off, a = some ⟨b, off, none⟩ := by
  cases a with
  | none => exact .inl rfl
  | some x =>
    by_cases h0 : len = 0
    · exact .inr (.inl ⟨h0, x, rfl⟩)
    · obtain ⟨b, off, e, _⟩ := h.opened (by omega)
      exact .inr (.inr ⟨b, off, e⟩)

/-- A slice's memory is another one's. -/
def Frm (a a2 : Option Addr) : Prop := ∀ x, a2 = some x → ∃ y, a = some y ∧ x.block = y.block
theorem Frm.refl (a : Option Addr) : Frm a a := fun x h => ⟨x, h, rfl⟩
theorem Frm.none (a : Option Addr) : Frm a none := fun x h => by cases h
theorem Frm.trans {a b c : Option Addr} (h : Frm a b) (k : Frm b c) : Frm a c := fun x hx => by
  obtain ⟨y, h1, h2⟩ := k x hx
  obtain ⟨z, h3, h4⟩ := h y h1
  exact ⟨z, h3, h2.trans h4⟩
theorem Frm.same {b b2 : Addr} (h : b2.block = b.block) : Frm (some b) (some b2) := fun x hx => by cases hx; exact ⟨b, rfl, h⟩
/-- What take answers. -/
def Took (a : Option Addr) (l : List Int) (len n : Nat) (e : Ending) (w' : World) : Prop :=
  ∃ a1 c1 a2 c2, e = .returned (.tuple #[.slice a1 n c1, .slice a2 (len - n) c2, .bool true]) ∧ Ints .u8 w' a1 n c1 (l.take n) ∧ Ints .u8 w' a2 (len - n) c2 (l.drop n) ∧ Frm a a2

set_option maxHeartbeats 2000000 in
theorem pod_take_no (a : Option Addr) (len cap n : Nat) (w : World) (hb : len ≤ cap ∧ cap ≤ 9223372036854775807) (hn : len < n) (hn2 : n ≤ 1000) :
    Calls Try.prog 65 #[.slice a len cap, .int .i64 n] w fun e w' => e = .returned (.tuple #[.slice none 0 0, .slice none 0 0, .bool false]) ∧ w = w' := by
  go_enter Try.func65, Try.ntmps65
  go_wp2
  go_ret3
  exact ⟨rfl, rfl⟩

set_option maxHeartbeats 4000000 in
theorem pod_take (a : Option Addr) (len cap n : Nat) (l : List Int) (w : World) (hl : Ints .u8 w a len cap l) (hn : n ≤ len) (hn2 : n ≤ 1000) :
    Calls Try.prog 65 #[.slice a len cap, .int .i64 n] w fun e w' => Took a l len n e w' ∧ Below w.heap.size w w' := by
  have hw : Below w.heap.size w w := Below.refl _ _
  have hbel := hw
  obtain ⟨hln, hb1, hb2⟩ := hl.bounds
  have HL := Lib.hid hl
  have HN := Lib.hid hln
  clear hln
  rcases hl.shape with rfl | ⟨h0, b, rfl⟩ | ⟨b, off, rfl⟩
  · obtain ⟨rfl, rfl, rfl⟩ := hl.none_nil
    obtain rfl : n = 0 := by omega
    clear hl HL HN
    go_enter Try.func65, Try.ntmps65
    go_wp2
    have kk := fun d os => belStep hbel (below_regrown _ d os)
    refine wp_region_quiet_below (by kernel_rfl) (by kernel_rfl) ?_
    repeat ((with_reducible refine wpQuiet_step (fun K hK => ?_)); go_simp; (try (rw [if_neg]; rotate_left; · decide)); first | ((with_reducible refine hK _ ?_); clear hK K) | (apply Exists.intro; refine ⟨fun _ => ?_, hK _ ?_⟩; (fail); clear hK K))
    refine wpQuiet_nil (fun w1 hw1 => ?_)
    replace hbel := belStep hbel (bel_of_class hw1)
    clear hw1 kk
    go_wp2
    go_ret3
    exact ⟨⟨_, _, _, _, rfl, ints_nil _ _, ints_nil _ _, Frm.none _⟩, hbel⟩
  · subst h0
    obtain rfl : n = 0 := by omega
    obtain rfl : l = [] := List.eq_nil_of_length_eq_zero HN.out
    clear hl HL HN
    have e1 : (0 : Int) ≤ (cap : Int) := by omega
    rcases (show cap = 0 ∨ (¬ cap = 0 ∧ ¬ (cap : Int) = 0) by omega) with hc | ⟨hc, hc2⟩
    · subst hc
      go_enter Try.func65, Try.ntmps65
      go_wp2
      have kk := fun d os => belStep hbel (below_regrown _ d os)
      refine wp_region_quiet_below (by kernel_rfl) (by kernel_rfl) ?_
      repeat ((with_reducible refine wpQuiet_step (fun K hK => ?_)); go_simp; (try (rw [if_neg]; rotate_left; · decide)); first | ((with_reducible refine hK _ ?_); clear hK K) | (apply Exists.intro; refine ⟨fun _ => ?_, hK _ ?_⟩; (fail); clear hK K))
      refine wpQuiet_nil (fun w1 hw1 => ?_)
      replace hbel := belStep hbel (bel_of_class hw1)
      clear hw1 kk
      go_wp2
      go_ret3
      exact ⟨⟨_, _, _, _, rfl, ints_zero _ _ _ _ (by omega), ints_zero _ _ _ _ (by omega), Frm.same rfl⟩, hbel⟩
    · go_enter Try.func65, Try.ntmps65
      go_wp2
      have kk := fun d os => belStep hbel (below_regrown _ d os)
      refine wp_region_quiet_below (by kernel_rfl) (by kernel_rfl) ?_
      repeat ((with_reducible refine wpQuiet_step (fun K hK => ?_)); go_simp; (try (rw [if_neg]; rotate_left; · decide)); first | ((with_reducible refine hK _ ?_); clear hK K) | (apply Exists.intro; refine ⟨fun _ => ?_, hK _ ?_⟩; (fail); clear hK K))
      refine wpQuiet_nil (fun w1 hw1 => ?_)
      replace hbel := belStep hbel (bel_of_class hw1)
      clear hw1 kk
      go_wp2
      go_ret3
      exact ⟨⟨_, _, _, _, rfl, ints_zero _ _ _ _ (by omega), ints_zero _ _ _ _ (by omega), Frm.same rfl⟩, hbel⟩
  · clear hl
    have h1 := Lib.hid (fun u (hu : Below w.heap.size w u) => (HL.out.later hu).take hn (by simp))
    have h2 := Lib.hid (fun u (hu : Below w.heap.size w u) => (HL.out.later hu).drop hn)
    have e1 : (n : Int) ≤ (cap : Int) := by omega
    have e2 : (n : Int) ≤ (len : Int) := by omega
    have e3 : (0 : Int) ≤ (n : Int) := by omega
    rcases (show cap = n ∨ (¬ cap = n ∧ ¬ (cap : Int) = (n : Int)) by omega) with hc | ⟨hc, hc2⟩
    · obtain rfl : len = n := by omega
      subst hc
      have h3 : l.drop cap = [] := List.drop_of_length_le (by rw [HN.out]; exact Nat.le_refl _)
      have H3 := Lib.hid h3
      clear h3
      go_enter Try.func65, Try.ntmps65
      go_wp2
      have kk := fun d os => belStep hbel (below_regrown _ d os)
      refine wp_region_quiet_below (by kernel_rfl) (by kernel_rfl) ?_
      repeat ((with_reducible refine wpQuiet_step (fun K hK => ?_)); go_simp; (try (rw [if_neg]; rotate_left; · decide)); first | ((with_reducible refine hK _ ?_); clear hK K) | (apply Exists.intro; refine ⟨fun _ => ?_, hK _ ?_⟩; (fail); clear hK K))
      refine wpQuiet_nil (fun w1 hw1 => ?_)
      replace hbel := belStep hbel (bel_of_class hw1)
      clear hw1 kk
      go_wp2
      go_ret3
      refine ⟨⟨some ⟨b, off, none⟩, cap, some ⟨b, off, none⟩, 0, by simp, h1.out _ hbel, ?_, Frm.same rfl⟩, hbel⟩
      rw [H3.out, Nat.sub_self]
      exact ints_zero _ _ _ _ (by omega)
    · go_enter Try.func65, Try.ntmps65
      go_wp2
      have kk := fun d os => belStep hbel (below_regrown _ d os)
      refine wp_region_quiet_below (by kernel_rfl) (by kernel_rfl) ?_
      repeat ((with_reducible refine wpQuiet_step (fun K hK => ?_)); go_simp; (try (rw [if_neg]; rotate_left; · decide)); first | ((with_reducible refine hK _ ?_); clear hK K) | (apply Exists.intro; refine ⟨fun _ => ?_, hK _ ?_⟩; (fail); clear hK K))
      refine wpQuiet_nil (fun w1 hw1 => ?_)
      replace hbel := belStep hbel (bel_of_class hw1)
      clear hw1 kk
      go_wp2
      go_ret3
      exact ⟨⟨_, _, _, _, rfl, h1.out _ hbel, h2.out _ hbel, Frm.same rfl⟩, hbel⟩

theorem or64 (a b : Nat) (ha : a < 9223372036854775808) (hb : b < 9223372036854775808) : bits .or .i64 (a : Int) (b : Int) = ((a ||| b : Nat) : Int) := by
  have hx : a ||| b < 9223372036854775808 := Nat.or_lt_two_pow (n := 63) ha hb
  have h1 : (BitVec.ofInt 64 (a : Int)).toNat = a := by rw [BitVec.ofInt_natCast, BitVec.toNat_ofNat]; exact Nat.mod_eq_of_lt (by omega)
  have h2 : (BitVec.ofInt 64 (b : Int)).toNat = b := by rw [BitVec.ofInt_natCast, BitVec.toNat_ofNat]; exact Nat.mod_eq_of_lt (by omega)
  show IntKind.i64.wrap ((BitVec.ofInt 64 (a : Int) ||| BitVec.ofInt 64 (b : Int)).toNat : Int) = _
  rw [BitVec.toNat_or, h1, h2, IntKind.wrap_i64]
  generalize a ||| b = m at *
  omega

/-- A name, cut off the front. -/
def nameF : List Int → Option (List Int × List Int)
  | [] => none
  | c :: r => if r.length < c.toNat then none else some (r.take c.toNat, r.drop c.toNat)
def Named (a0 : Option Addr) (l : List Int) (e : Ending) (w' : World) : Prop :=
  (∃ x r, nameF l = some (x, r) ∧ ∃ a n c, e = .returned (.tuple #[.string (strOfNums x), .slice a n c, .bool true]) ∧ Ints .u8 w' a n c r ∧ n ≤ 1000000 ∧ Frm a0 a) ∨
  (nameF l = none ∧ ∃ s a n c, e = .returned (.tuple #[.string s, .slice a n c, .bool false]))
/-- 'string(b)'. -/
theorem conv_str {w : World} {a : Option Addr} {len cap : Nat} {l : List Int} (h : Ints .u8 w a len cap l) : (convert 28 9 (.slice a len cap)).run Try.prog w = .ok (.string (strOfNums l)) w := by
  have hb := h.bounds
  by_cases h0 : len = 0
  · subst h0
    obtain rfl : l = [] := List.eq_nil_of_length_eq_zero hb.1
    exact run_convert_bytes_zero w _ _ Try.underlying28 Try.underlying5 a cap _ Try.underlying9
  · obtain ⟨b, off, rfl, _, hc⟩ := h.opened (by omega)
    exact run_convert_bytes_arg (P := Try.prog) w _ _ Try.underlying28 Try.underlying5 b off len cap l hb.1 hc _ Try.underlying9

set_option maxRecDepth 100000 in
set_option maxHeartbeats 4000000 in
theorem pod_name (a : Option Addr) (len cap : Nat) (l : List Int) (w : World) (hl : Ints .u8 w a len cap l) (hlen : len ≤ 1000000) :
    Calls Try.prog 63 #[.slice a len cap] w fun e w' => Named a l e w' ∧ Below w.heap.size w w' := by
  have hw : Below w.heap.size w w := Below.refl _ _
  have hbel := hw
  obtain ⟨hln, hb1, hb2⟩ := hl.bounds
  have hby := bytes_of hl
  by_cases h0 : len = 0
  · subst h0
    obtain rfl : l = [] := List.eq_nil_of_length_eq_zero hln
    have ct := pod_take_no a 0 cap 1 w ⟨hb1, hb2⟩ (by omega) (by omega)
    rw [show ((1 : Nat) : Int) = 1 from rfl] at ct
    have CT := Lib.hid ct
    clear ct hl hln
    go_enter Try.func63, Try.ntmps63
    go_wp2_with (go_at_call 65; (with_reducible refine CT.out.mono ?_); rintro e w1 ⟨rfl, rfl⟩)
    go_ret3
    exact ⟨.inr ⟨rfl, _, _, _, _, rfl⟩, hbel⟩
  · obtain ⟨c, r, rfl⟩ : ∃ c r, l = c :: r := by
      cases l with
      | nil => simp at hln; omega
      | cons c r => exact ⟨c, r, rfl⟩
    have hc := hby c List.mem_cons_self
    obtain ⟨n, rfl⟩ : ∃ n : Nat, c = n := ⟨c.toNat, by omega⟩
    have ct := pod_take a len cap 1 ((n : Int) :: r) w hl (by omega) (by omega)
    rw [show ((1 : Nat) : Int) = 1 from rfl] at ct
    have CT := Lib.hid ct
    have hr : r.length = len - 1 := by simp at hln; omega
    have HR := Lib.hid hr
    clear ct hl hln hby
    by_cases hs : len - 1 < n
    · have hnf : nameF ((n : Int) :: r) = none := by simp only [nameF]; rw [if_pos (by rw [hr, Int.toNat_natCast]; exact hs)]
      have HNF := Lib.hid hnf
      clear hr hnf
      go_enter Try.func63, Try.ntmps63
      go_wp2_with (first | (go_at_call 65; (with_reducible refine CT.out.mono ?_); rintro e w1 ⟨⟨a1, c1, a2, c2, rfl, hi1, hi2, hfr1⟩, hb3⟩; replace hbel := belStep hbel hb3; obtain ⟨g, off, rfl, _, hcc⟩ := hi1.opened (by omega); have x0 := hcc 0 (by omega); rw [show el (List.take 1 ((n : Int) :: r)) 0 = (n : Int) from rfl, Nat.add_zero] at x0; have h2b := hi2.bounds.2; have HFR1 := Lib.hid hfr1; clear hcc hi1 hi2 hb3 hfr1) | (go_at_call 65; (with_reducible refine (pod_take_no _ (len - 1) _ n _ h2b (by omega) (by omega)).mono ?_); rintro e w2 ⟨rfl, rfl⟩; have cs0 := conv_str (ints_nil w1 .u8)))
      go_ret3
      exact ⟨.inr ⟨HNF.out, _, _, _, _, rfl⟩, hbel⟩
    · have hnf : nameF ((n : Int) :: r) = some (r.take n, r.drop n) := by simp only [nameF]; rw [if_neg (by rw [hr, Int.toNat_natCast]; exact hs), Int.toNat_natCast]
      have HNF := Lib.hid hnf
      clear hr hnf
      go_enter Try.func63, Try.ntmps63
      go_wp2_with (first | (go_at_call 65; (with_reducible refine CT.out.mono ?_); rintro e w1 ⟨⟨a1, c1, a2, c2, rfl, hi1, hi2, hfr1⟩, hb3⟩; replace hbel := belStep hbel hb3; obtain ⟨g, off, rfl, _, hcc⟩ := hi1.opened (by omega); have x0 := hcc 0 (by omega); rw [show el (List.take 1 ((n : Int) :: r)) 0 = (n : Int) from rfl, Nat.add_zero] at x0; have CT2 := Lib.hid (pod_take a2 (len - 1) c2 n r w1 hi2 (by omega) (by omega)); have HFR1 := Lib.hid hfr1; clear hcc hi1 hi2 hb3 hfr1) | (go_at_call 65; (with_reducible refine CT2.out.mono ?_); rintro e w2 ⟨⟨a3, c3, a4, c4, rfl, hi3, hi4, hfr2⟩, hb5⟩; replace hbel := belStep hbel hb5; have cs := conv_str hi3; have HI4 := Lib.hid hi4; have HFR2 := Lib.hid hfr2; clear hi3 hi4 hb5 hfr2))
      go_ret3
      exact ⟨.inl ⟨_, _, HNF.out, _, _, _, rfl, HI4.out, by omega, HFR1.out.trans HFR2.out⟩, hbel⟩

theorem w64 (x : Int) : wrap64 x = IntKind.i64.wrap x := by rw [IntKind.wrap_i64]; first | rfl | (unfold wrap64; omega)
theorem wrap_ofInt (x : Int) : BitVec.ofInt 64 (IntKind.i64.wrap x) = BitVec.ofInt 64 x := by
  apply BitVec.eq_of_toInt_eq
  rw [BitVec.toInt_ofInt, BitVec.toInt_ofInt, IntKind.wrap_i64]
  simp only [Int.bmod_def]
  omega
theorem or_wrap (n c : Nat) (hn : n < 72057594037927936) (hc : c < 256) : bits .or .i64 (IntKind.i64.wrap ((n : Int) * 256)) (c : Int) = IntKind.i64.wrap ((n * 256 + c : Nat) : Int) := by
  have h1 : (BitVec.ofInt 64 (((n * 256 : Nat)) : Int)).toNat = n * 256 := by rw [BitVec.ofInt_natCast, BitVec.toNat_ofNat]; exact Nat.mod_eq_of_lt (by omega)
  have h2 : (BitVec.ofInt 64 (c : Int)).toNat = c := by rw [BitVec.ofInt_natCast, BitVec.toNat_ofNat]; exact Nat.mod_eq_of_lt (by omega)
  show IntKind.i64.wrap ((BitVec.ofInt 64 (IntKind.i64.wrap ((n : Int) * 256)) ||| BitVec.ofInt 64 (c : Int)).toNat : Int) = _
  rw [wrap_ofInt, show (n : Int) * 256 = ((n * 256 : Nat) : Int) by rw [Int.natCast_mul]; rfl, BitVec.toNat_or, h1, h2]
  have e := Nat.two_pow_add_eq_or_of_lt (i := 8) (b := c) (by omega) n
  rw [Nat.mul_comm n 256, show (256 : Nat) = 2 ^ 8 by rfl, ← e]
/-- A number, cut off the front. -/
def numF (l : List Int) : Option (Nat × List Int) := if l.length < 8 then none else if N8 (l.take 8) < 9223372036854775808 then some (N8 (l.take 8), l.drop 8) else none
def Numbered (a0 : Option Addr) (l : List Int) (e : Ending) (w' : World) : Prop :=
  (∃ x r, numF l = some (x, r) ∧ ∃ a n c, e = .returned (.tuple #[.int .i64 x, .slice a n c, .bool true]) ∧ Ints .u8 w' a n c r ∧ n ≤ 1000000 ∧ Frm a0 a) ∨
  (numF l = none ∧ ∃ x a n c, e = .returned (.tuple #[.int .i64 x, .slice a n c, .bool false]))
theorem N8_lt {l : List Int} (h : Bytes l) : N8 l < 256 ^ l.length := by
  obtain ⟨r, rfl⟩ : ∃ r, l = r.reverse := ⟨l.reverse, by simp⟩
  induction r with
  | nil => simp [N8]
  | cons c r ih =>
    have hc := h c (by simp)
    have := ih (fun x hx => h x (by simp at hx ⊢; first | exact .inl hx | exact .inr hx))
    have e : N8 ((c :: r).reverse) = N8 r.reverse * 256 + c.toNat := by rw [List.reverse_cons]; unfold N8; rw [List.foldl_append]; rfl
    rw [e, List.length_reverse, List.length_cons, Nat.pow_succ]
    rw [List.length_reverse] at this
    omega
theorem N8_snoc {l : List Int} {k : Nat} (h : k < l.length) : N8 (l.take (k + 1)) = N8 (l.take k) * 256 + (el l k).toNat := by
  rw [take_snoc h]; unfold N8; rw [List.foldl_append]; rfl
theorem Bytes.take {l : List Int} (h : Bytes l) (k : Nat) : Bytes (l.take k) := fun c hc => h c (List.mem_of_mem_take hc)
theorem Bytes.drop {l : List Int} (h : Bytes l) (k : Nat) : Bytes (l.drop k) := fun c hc => h c (List.mem_of_mem_drop hc)

set_option maxRecDepth 100000 in
set_option maxHeartbeats 4000000 in
theorem pod_number (a : Option Addr) (len cap : Nat) (l : List Int) (w : World) (hl : Ints .u8 w a len cap l) (hlen : len ≤ 1000000) :
    Calls Try.prog 64 #[.slice a len cap] w fun e w' => Numbered a l e w' ∧ Below w.heap.size w w' := by
  have hw : Below w.heap.size w w := Below.refl _ _
  have hbel := hw
  obtain ⟨hln, hb1, hb2⟩ := hl.bounds
  have hby := bytes_of hl
  by_cases h8 : len < 8
  · have ct := pod_take_no a len cap 8 w ⟨hb1, hb2⟩ (by omega) (by omega)
    rw [show ((8 : Nat) : Int) = 8 from rfl] at ct
    have CT := Lib.hid ct
    have HNF := Lib.hid (show numF l = none by unfold numF; rw [if_pos (by omega)])
    clear ct hl hln
    go_enter Try.func64, Try.ntmps64
    go_wp2_with (go_at_call 65; (with_reducible refine CT.out.mono ?_); rintro e w1 ⟨rfl, rfl⟩)
    go_loopw [7, 18] (fun x i wr => i = .int .i64 0 ∧ x = .int .i64 0 ∧ w = wr) (fun _ _ _ => 0)
    case atStart => exact ⟨rfl, rfl, rfl⟩
    case round =>
      obtain ⟨rfl, rfl, rfl⟩ := hrel
      go_wp2
      go_ret3
      exact ⟨.inr ⟨HNF.out, _, _, _, _, rfl⟩, hbel⟩
  · have ct := pod_take a len cap 8 l w hl (by omega) (by omega)
    rw [show ((8 : Nat) : Int) = 8 from rfl] at ct
    have CT := Lib.hid ct
    have h88 : (l.take 8).length = 8 := by simp; omega
    have hb8 := hby.take 8
    have hnf : numF l = if N8 (l.take 8) < 9223372036854775808 then some (N8 (l.take 8), l.drop 8) else none := by unfold numF; rw [if_neg (by omega)]
    have HNF := Lib.hid hnf
    have HL8 := Lib.hid h88
    clear ct hl hln hby h88 hnf
    go_enter Try.func64, Try.ntmps64
    go_wp2_with (go_at_call 65; (with_reducible refine CT.out.mono ?_); rintro e w1 ⟨⟨a1, c1, a2, c2, rfl, hi1, hi2, hfr1⟩, hb3⟩; replace hbel := belStep hbel hb3; obtain ⟨g, off, rfl, _, hcc⟩ := hi1.opened (by omega); have HC := Lib.hid hcc; have hcb := hi1.bounds.2; have HI2 := Lib.hid hi2; have HFR1 := Lib.hid hfr1; clear hcc hi1 hi2 hb3 hfr1)
    obtain ⟨q, eq⟩ : ∃ q, l.take 8 = q := ⟨_, rfl⟩
    rw [eq] at HL8 HC hb8 HNF
    clear eq
    go_loopw [7, 18] (fun x i wr => ∃ k : Nat, k ≤ 8 ∧ i = .int .i64 k ∧ x = .int .i64 (IntKind.i64.wrap (N8 (q.take k) : Int)) ∧ w1 = wr) (fun _ i _ => 8 - (intOf i).toNat)
    case atStart => exact ⟨0, by omega, rfl, by simp [N8, IntKind.wrap_i64], rfl⟩
    case round =>
      obtain ⟨k, hk, rfl, rfl, rfl⟩ := hrel
      by_cases hlt : k < 8
      · have x0 := HC.out k hlt
        have hst := N8_snoc (l := q) (k := k) (by rw [HL8.out]; exact hlt)
        have hn := N8_lt (hb8.take k)
        have hlk : (q.take k).length = k := by rw [List.length_take, HL8.out]; omega
        rw [hlk] at hn
        have hp : 256 ^ k ≤ 256 ^ 7 := Nat.pow_le_pow_right (by omega) (by omega)
        have hc := hb8 _ (el_mem (l := q) (i := k) (by rw [HL8.out]; exact hlt))
        obtain ⟨c, ec⟩ : ∃ c : Nat, el q k = c := ⟨(el q k).toNat, by omega⟩
        rw [ec] at x0 hst hc
        rw [Int.toNat_natCast] at hst
        obtain ⟨n, en⟩ : ∃ n, N8 (q.take k) = n := ⟨_, rfl⟩
        rw [en] at hn hst ⊢
        have hwn : IntKind.i64.wrap (n : Int) = n := by rw [IntKind.wrap_i64]; omega
        rw [hwn]
        have hn2 : n < 72057594037927936 := by omega
        have hor := or_wrap n c hn2 (by omega)
        have HO := Lib.hid hor
        have HS := Lib.hid hst
        clear hst ec en hwn hor hlk hn hp
        go_wp2
        go_roundw
        case rel => exact ⟨k + 1, by omega, by push_cast; rfl, by rw [HS.out, ← HO.out, w64], by first | rfl | trivial⟩
        case measure => simp [intOf] <;> omega
      · obtain rfl : k = 8 := by omega
        have hq8 := N8_lt hb8
        rw [HL8.out] at hq8
        have e8 : q.take 8 = q := List.take_of_length_le (by rw [HL8.out]; exact Nat.le_refl _)
        rw [e8]
        obtain ⟨n, en⟩ : ∃ n, N8 q = n := ⟨_, rfl⟩
        rw [en] at hq8 HNF ⊢
        clear e8 en
        by_cases hs : n < 9223372036854775808
        · rw [if_pos hs] at HNF
          have hwn : IntKind.i64.wrap (n : Int) = n := by rw [IntKind.wrap_i64]; omega
          rw [hwn]
          clear hwn hq8
          go_wp2
          go_ret3
          exact ⟨.inl ⟨_, _, HNF.out, _, _, _, rfl, HI2.out, by omega, HFR1.out⟩, hbel⟩
        · rw [if_neg hs] at HNF
          obtain ⟨x, ex, hx⟩ : ∃ x : Int, IntKind.i64.wrap (n : Int) = x ∧ x < 0 := ⟨_, rfl, by rw [IntKind.wrap_i64]; omega⟩
          rw [ex]
          have hd : decide (0 ≤ x) = false := decide_eq_false (by omega)
          clear ex hq8 hs
          go_wp2
          go_ret3
          exact ⟨.inr ⟨HNF.out, _, _, _, _, rfl⟩, hbel⟩
end Go.Proofs.Ytpmkhimmlpnbpaa
