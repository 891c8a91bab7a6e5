
/- The fixed answers of layer 15's statements. -/
import Derived.Test.YtmmfkgpckohacaaImRf3
namespace Go.Proofs.Ytmmfkgpckohacaa
open Go.RowKit Go.Sort
set_option linter.unusedVariables false
set_option linter.unusedSimpArgs false
def i1 : List ImgV := [⟨⟨#[98]⟩, 5, 3⟩]
def i2 : List ImgV := [⟨⟨#[97]⟩, 9, 3⟩, ⟨⟨#[98]⟩, 5, 3⟩]
def i3 : List ImgV := [⟨⟨#[97]⟩, 9, 7⟩, ⟨⟨#[98]⟩, 5, 3⟩]
theorem row0I (w : World) : Row w none 0 0 3 (([] : List ImgV).flatMap ImgV.cells) := row_nil
theorem row0T (w : World) : Row w none 0 0 1 (([] : List ByteArray).map Value.string) := row_nil
theorem r1 : Rises i1 := List.pairwise_singleton _ _
theorem r2 : Rises i2 := List.pairwise_cons.2 ⟨fun y hy => by simp only [List.mem_singleton] at hy; subst hy; exact of_decide_eq_true (by decide +kernel), List.pairwise_singleton _ _⟩
theorem p1 : putI [] ⟨#[98]⟩ 5 3 = i1 := by rw [put_no (by decide +kernel), show placeF [] ⟨#[98]⟩ = 0 by decide +kernel]; rfl
theorem p2 : putI i1 ⟨#[97]⟩ 9 3 = i2 := by rw [put_no (by decide +kernel), show placeF i1 ⟨#[97]⟩ = 0 by decide +kernel]; rfl
theorem ord2 : orderI i2 [] = i2 := by
  have e : i2.filter (freeI []) = i2 := by rw [List.filter_eq_self]; intro x _; rfl
  unfold orderI
  rw [e]
  refine (sortBy_unique swo_cfI (tied_cfI _) (List.Perm.refl _) ?_).symm
  refine List.pairwise_cons.2 ⟨fun y hy => ?_, List.pairwise_singleton _ _⟩
  simp only [List.mem_singleton] at hy
  subst hy
  rw [ah_2 (by rfl) (by decide)]
  rfl
theorem d2a : dropI i2 ⟨#[97]⟩ = i1 := by rw [drop_there (p := 0) r2 rfl rfl]; rfl
theorem d2c : dropI i2 ⟨#[99]⟩ = i2 := drop_no (by decide +kernel)
theorem t2a : touchI i2 [⟨#[97]⟩] 7 = i3 := by
  unfold touchI i2 i3
  simp only [List.map_cons, List.map_nil, show hasU [⟨#[97]⟩] ⟨#[97]⟩ = true by decide +kernel, show hasU [⟨#[97]⟩] ⟨#[98]⟩ = false by decide +kernel]
  rfl
theorem f2b : fndV i2 ⟨#[98]⟩ = ⟨⟨#[98]⟩, 5, 3⟩ := by
  unfold fndV
  rw [find_there (x := ⟨⟨#[98]⟩, 5, 3⟩) r2 (by rw [show placeF i2 ⟨#[98]⟩ = 1 by decide +kernel]; rfl) rfl]
  rfl
theorem ok2 : ∀ x ∈ i2, x.ok := by
  intro x hx
  simp only [i2, List.mem_cons, List.not_mem_nil, or_false] at hx
  rcases hx with rfl | rfl
  · exact ⟨by show 1 ≤ maxLen; unfold maxLen; omega, by show InI 9; unfold InI; omega, by show InI 3; unfold InI; omega⟩
  · exact ⟨by show 1 ≤ maxLen; unfold maxLen; omega, by show InI 5; unfold InI; omega, by show InI 3; unfold InI; omega⟩
theorem own_rowI {w : World} {B : Nat} {v : Value} {L : List ImgV} {n : Nat} (h : OwnR w B 31 3 v L.length (L.flatMap ImgV.cells)) (hn : L.length = n) : ∃ a c, v = .slice a n c ∧ Row w a n c 3 (L.flatMap ImgV.cells) := by
  subst hn; exact rowR_of_own h
theorem putA (w : World) : Calls Try.prog 21 #[.slice none 0 0, .string ⟨#[98]⟩, .int .i64 5, .int .i64 3] w fun e w' => ∃ a c, e = .returned (.slice a 1 c) ∧ Row w' a 1 c 3 (i1.flatMap ImgV.cells) ∧ Below w.heap.size w w' := by
  refine (im_Put none 0 0 [] ⟨#[98]⟩ 5 3 w rfl (row0I w) List.Pairwise.nil (by omega)).mono ?_
  rintro e w1 ⟨v, rfl, ho, hb⟩
  rw [p1] at ho
  obtain ⟨a, c, rfl, hr⟩ := own_rowI ho (n := 1) rfl
  exact ⟨a, c, rfl, hr, hb⟩
theorem putB (a : Option Addr) (c : Nat) (w : World) (hr : Row w a 1 c 3 (i1.flatMap ImgV.cells)) : Calls Try.prog 21 #[.slice a 1 c, .string ⟨#[97]⟩, .int .i64 9, .int .i64 3] w fun e w' => ∃ a c, e = .returned (.slice a 2 c) ∧ Row w' a 2 c 3 (i2.flatMap ImgV.cells) ∧ Below w.heap.size w w' := by
  refine (im_Put a 1 c i1 ⟨#[97]⟩ 9 3 w rfl hr r1 (by omega)).mono ?_
  rintro e w1 ⟨v, rfl, ho, hb⟩
  rw [p2] at ho
  obtain ⟨a, c, rfl, hr⟩ := own_rowI ho (n := 2) rfl
  exact ⟨a, c, rfl, hr, hb⟩
theorem findA (a : Option Addr) (c : Nat) (w : World) (hr : Row w a 2 c 3 (i2.flatMap ImgV.cells)) : Calls Try.prog 20 #[.slice a 2 c, .string ⟨#[98]⟩] w fun e w' => e = .returned (.tuple #[.agg #[.string ⟨#[98]⟩, .int .i64 5, .int .i64 3], .bool true]) ∧ Below w.heap.size w w' := by
  refine (im_Find a 2 c i2 ⟨#[98]⟩ w rfl hr r2).mono ?_
  rintro e w1 ⟨rfl, hb⟩
  exact ⟨by rw [f2b, show thereB i2 ⟨#[98]⟩ = true by decide +kernel], hb⟩
theorem orderA (a : Option Addr) (c : Nat) (w : World) (hr : Row w a 2 c 3 (i2.flatMap ImgV.cells)) : Calls Try.prog 28 #[.slice a 2 c, .slice none 0 0] w fun e w' => ∃ a c, e = .returned (.slice a 2 c) ∧ Row w' a 2 c 3 (i2.flatMap ImgV.cells) ∧ Below w.heap.size w w' := by
  refine (im_Order a 2 c i2 none 0 0 [] w rfl hr r2 rfl (row0T w) (by omega)).mono ?_
  rintro e w1 ⟨v, rfl, ho, hb⟩
  rw [ord2] at ho
  obtain ⟨a, c, rfl, hr⟩ := own_rowI ho (n := 2) rfl
  exact ⟨a, c, rfl, hr, hb⟩
theorem dropA (a : Option Addr) (c : Nat) (w : World) (hr : Row w a 2 c 3 (i2.flatMap ImgV.cells)) : Calls Try.prog 23 #[.slice a 2 c, .string ⟨#[97]⟩] w fun e w' => ∃ a c, e = .returned (.tuple #[.slice a 1 c, .bool true]) ∧ Below w.heap.size w w' := by
  refine (im_Drop a 2 c i2 ⟨#[97]⟩ w rfl hr r2 (by omega)).mono ?_
  rintro e w1 ⟨v, rfl, ho, hb⟩
  rw [d2a] at ho
  obtain ⟨a, c, rfl, hr⟩ := own_rowI ho (n := 1) rfl
  exact ⟨a, c, by rw [show thereB i2 ⟨#[97]⟩ = true by decide +kernel], hb⟩
theorem dropC (a : Option Addr) (c : Nat) (w : World) (hr : Row w a 2 c 3 (i2.flatMap ImgV.cells)) : Calls Try.prog 23 #[.slice a 2 c, .string ⟨#[99]⟩] w fun e w' => ∃ a c, e = .returned (.tuple #[.slice a 2 c, .bool false]) ∧ Below w.heap.size w w' := by
  refine (im_Drop a 2 c i2 ⟨#[99]⟩ w rfl hr r2 (by omega)).mono ?_
  rintro e w1 ⟨v, rfl, ho, hb⟩
  rw [d2c] at ho
  obtain ⟨a, c, rfl, hr⟩ := own_rowI ho (n := 2) rfl
  exact ⟨a, c, by rw [show thereB i2 ⟨#[99]⟩ = false by decide +kernel], hb⟩
theorem touchA (a : Option Addr) (c : Nat) (b : Option Addr) (w : World) (hr : Row w a 2 c 3 (i2.flatMap ImgV.cells)) (hu : Row w b 1 1 1 ([(⟨#[97]⟩ : ByteArray)].map Value.string)) : Calls Try.prog 22 #[.slice a 2 c, .slice b 1 1, .int .i64 7] w fun e w' => ∃ a c, e = .returned (.slice a 2 c) ∧ Row w' a 2 c 3 (i3.flatMap ImgV.cells) ∧ Below w.heap.size w w' := by
  refine (im_Touch a 2 c i2 b 1 1 [⟨#[97]⟩] 7 w rfl hr r2 rfl hu (by omega)).mono ?_
  rintro e w1 ⟨v, rfl, ho, hb⟩
  rw [t2a] at ho
  obtain ⟨a, c, rfl, hr⟩ := own_rowI ho (n := 2) rfl
  exact ⟨a, c, rfl, hr, hb⟩
theorem totalA (a : Option Addr) (c : Nat) (w : World) (hr : Row w a 2 c 3 (i2.flatMap ImgV.cells)) : Calls Try.prog 26 #[.slice a 2 c] w fun e w' => e = .returned (.int .i64 14) ∧ Below w.heap.size w w' := by
  refine (im_Total a 2 c i2 w rfl ok2 hr).mono ?_
  rintro e w1 ⟨rfl, hb⟩
  exact ⟨by rw [show sumI i2 = 14 by decide +kernel], hb⟩
theorem eq5 (u : World) : (Op.equalIn 10000 31 (.agg #[.string ⟨#[98]⟩, .int .i64 5, .int .i64 3]) (.agg #[.string ⟨#[98]⟩, .int .i64 5, .int .i64 3])).run Try.prog u = .ok true u := by
  have h := eq_img ⟨⟨#[98]⟩, 5, 3⟩ ⟨⟨#[98]⟩, 5, 3⟩ u
  rwa [show eqImg ⟨⟨#[98]⟩, 5, 3⟩ ⟨⟨#[98]⟩, 5, 3⟩ = true from (eqImg_iff _ _).2 rfl] at h
set_option maxRecDepth 100000 in
set_option maxHeartbeats 16000000 in
theorem awake15 (w : World) :
    Calls Try.prog 17 #[] w fun e w' => e = .returned (.bool true) ∧ Below w.heap.size w w' := by
  have HB := Lib.hid (Below.refl w.heap.size w)
  have hbel := HB.out
  go_enter Try.func17, Try.ntmps17
  go_upto_region 2 with (first | (go_at_call 21; (with_reducible refine (putA _).mono ?_); rintro e w1 ⟨a1, c1, rfl, hr, hb_⟩; replace HB := Lib.hid (belStep HB.out hb_); replace hbel := HB.out; have H1 := Lib.hid hr; clear hr; clear hb_) | (go_at_call 21; (with_reducible refine (putB a1 c1 _ H1.out).mono ?_); rintro e w2 ⟨a2, c2, rfl, hr, hb_⟩; replace HB := Lib.hid (belStep HB.out hb_); replace hbel := HB.out; have H2 := Lib.hid hr; clear hr H1; clear hb_))
  go_upto_region 3 with (go_at_call 20; (with_reducible refine (findA a2 c2 _ H2.out).mono ?_); rintro e w3 ⟨rfl, hb_⟩; replace H2 := Lib.hid (H2.out.later hb_); replace HB := Lib.hid (belStep HB.out hb_); replace hbel := HB.out; clear hb_)
  have k1 : Below w3.heap.size w3 (w3.alloc (.cells #[.string ⟨#[98]⟩, .int .i64 5, .int .i64 3] 31)) := belAlloc (Below.refl _ _) _
  have hn_ := Blk.new w3 [.string ⟨#[98]⟩, .int .i64 5, .int .i64 3] 31
  replace H2 := Lib.hid (H2.out.later k1)
  replace HB := Lib.hid (belStep HB.out k1)
  have HX := Lib.hid (show Blk (w3.alloc (.cells #[.string ⟨#[98]⟩, .int .i64 5, .int .i64 3] 31)) w3.heap.size [.string ⟨#[98]⟩, .int .i64 5, .int .i64 3] 31 from hn_)
  clear hn_ k1 hbel
  generalize w3.alloc (.cells #[.string ⟨#[98]⟩, .int .i64 5, .int .i64 3] 31) = W3 at *
  have hbel := HB.out
  go_upto_region 4 with (go_at_call 28; (with_reducible refine (orderA a2 c2 _ H2.out).mono ?_); rintro e w4 ⟨a4, c4, rfl, hr, hb_⟩; replace H2 := Lib.hid (H2.out.later hb_); replace HX := Lib.hid (HX.out.later hb_); replace HB := Lib.hid (belStep HB.out hb_); replace hbel := HB.out; have H4 := Lib.hid hr; clear hr; clear hb_)
  go_upto_region 5 with (go_at_call 23; (with_reducible refine (dropA a2 c2 _ H2.out).mono ?_); rintro e w5 ⟨a5, c5, rfl, hb_⟩; replace H2 := Lib.hid (H2.out.later hb_); replace HX := Lib.hid (HX.out.later hb_); replace H4 := Lib.hid (H4.out.later hb_); replace HB := Lib.hid (belStep HB.out hb_); replace hbel := HB.out; clear hb_)
  go_upto_region 6 with (go_at_call 23; (with_reducible refine (dropC a2 c2 _ H2.out).mono ?_); rintro e w6 ⟨a6, c6, rfl, hb_⟩; replace H2 := Lib.hid (H2.out.later hb_); replace HX := Lib.hid (HX.out.later hb_); replace H4 := Lib.hid (H4.out.later hb_); replace HB := Lib.hid (belStep HB.out hb_); replace hbel := HB.out; clear hb_)
  have hUT := row_new w6 [.string ⟨#[97]⟩] 9 1 1 rfl (by unfold maxLen; omega)
  have hk := belAlloc (Below.refl w6.heap.size w6) (.cells #[.string ⟨#[97]⟩] 9)
  have HUT := Lib.hid hUT
  have H2A := Lib.hid (H2.out.later hk)
  have HBA := Lib.hid (belStep HB.out hk)
  clear hbel hUT hk
  have hbel : Below w6.heap.size w6 w6 := Below.refl _ _
  obtain ⟨b2, o2, e2, _, hc2⟩ := H2.out.elem ImgV.cells_len (by omega) (show i2[0]? = some ⟨⟨#[97]⟩, 9, 3⟩ from rfl)
  subst e2
  have l0 := keep (hc2 0 _ rfl)
  simp only [Nat.zero_mul, Nat.add_zero] at l0
  clear hc2
  obtain ⟨b4, o4, e4, _, hc4⟩ := H4.out.elem ImgV.cells_len (by omega) (show i2[0]? = some ⟨⟨#[97]⟩, 9, 3⟩ from rfl)
  subst e4
  have q0 := keep (hc4 0 _ rfl)
  simp only [Nat.zero_mul, Nat.add_zero] at q0
  clear hc4
  have x0 := keep (HX.out.cell (j := 0) rfl)
  have x1 := keep (HX.out.cell (j := 1) rfl)
  have x2 := keep (HX.out.cell (j := 2) rfl)
  have heq := eq5
  have hs1 : ((⟨#[97]⟩ : ByteArray).toList == (⟨#[97]⟩ : ByteArray).toList) = true := beq_self_eq_true _
  have n0 : 0 < 2 := by omega
  go_wp2_with (first | (go_at_call 22; (with_reducible refine (touchA _ c2 _ _ H2A.out HUT.out).mono ?_); rintro e w7 ⟨a7, c7, rfl, hr7, hb7⟩; replace hbel := belStep (belAlloc hbel (.cells #[.string ⟨#[97]⟩] 9)) hb7; have H27 := Lib.hid (H2A.out.later hb7); have HB7 := Lib.hid (belStep HBA.out hb7); obtain ⟨b7, o7, e7, _, hc7⟩ := hr7.elem ImgV.cells_len (by omega) (show i3[0]? = some ⟨⟨#[97]⟩, 9, 7⟩ from rfl); subst e7; obtain ⟨b8, o8, e8, _, hc8⟩ := hr7.elem ImgV.cells_len (by omega) (show i3[1]? = some ⟨⟨#[98]⟩, 5, 3⟩ from rfl); simp only [Option.some.injEq, Addr.mk.injEq, and_true] at e8; obtain ⟨rfl, rfl⟩ := e8; have t0 := hc7 2 _ rfl; have t1 := hc8 2 _ rfl; simp only [Nat.zero_mul, Nat.add_zero] at t0; simp only [Nat.one_mul, Nat.add_assoc, Nat.reduceAdd] at t1; clear hc7 hc8 hr7 hb7) | (go_at_call 26; (with_reducible refine (totalA _ c2 _ H27.out).mono ?_); rintro e w9 ⟨rfl, hb9⟩; have HB9 := Lib.hid (belStep HB7.out hb9); clear hb9))
  go_ret
  exact ⟨rfl, HB9.out⟩
end Go.Proofs.Ytmmfkgpckohacaa
