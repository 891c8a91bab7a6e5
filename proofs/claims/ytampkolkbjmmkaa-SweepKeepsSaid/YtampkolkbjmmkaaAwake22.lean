
/- The fixed answers of layer 22's statements. -/
import Derived.Test.YtampkolkbjmmkaaSames
import Derived.Test.YtampkolkbjmmkaaSw8
namespace Go.Proofs.Ytampkolkbjmmkaa
open Go.RowKit Go.Sort
set_option linter.unusedVariables false
set_option linter.unusedSimpArgs false
def c4 : List ContV := [⟨⟨#[97]⟩, 3, 0, 1⟩, ⟨⟨#[98]⟩, 4, 0, 5⟩, ⟨⟨#[99]⟩, 6, 0, 2⟩, ⟨⟨#[100]⟩, 3, 0, 2⟩]
def m3 : List ImgV := [⟨⟨#[105]⟩, 5, 1⟩, ⟨⟨#[106]⟩, 5, 2⟩, ⟨⟨#[107]⟩, 5, 3⟩]
def ud : List ByteArray := [⟨#[100]⟩]
def ui : List ByteArray := [⟨#[105]⟩]
theorem c4_rises : RisesC c4 := by
  unfold RisesC c4
  simp only [List.pairwise_cons, List.mem_cons, List.not_mem_nil, or_false, forall_eq_or_imp, forall_eq, List.Pairwise.nil, and_true, false_implies, implies_true]
  refine ⟨⟨?_, ?_, ?_⟩, ⟨?_, ?_⟩, ?_⟩ <;> exact of_decide_eq_true (by decide +kernel)
theorem c4_ok : ∀ x ∈ c4, x.ok := by
  intro x hx
  simp only [c4, List.mem_cons, List.not_mem_nil, or_false] at hx
  rcases hx with rfl | rfl | rfl | rfl <;> exact ⟨by show 1 ≤ maxLen; unfold maxLen; omega, by unfold InI; simp, by unfold InI; simp, by unfold InI; simp⟩
theorem m3_rises : Rises m3 := by
  unfold Rises m3
  simp only [List.pairwise_cons, List.mem_cons, List.not_mem_nil, or_false, forall_eq_or_imp, forall_eq, List.Pairwise.nil, and_true, false_implies, implies_true]
  refine ⟨⟨?_, ?_⟩, ?_⟩ <;> exact of_decide_eq_true (by decide +kernel)
theorem m3_ok : ∀ x ∈ m3, x.ok := by
  intro x hx
  simp only [m3, List.mem_cons, List.not_mem_nil, or_false] at hx
  rcases hx with rfl | rfl | rfl <;> exact ⟨by show 1 ≤ maxLen; unfold maxLen; omega, by unfold InI; simp, by unfold InI; simp⟩
theorem ud_ok : ∀ s ∈ ud, s.size ≤ maxLen := by
  intro s hs
  simp only [ud, List.mem_singleton] at hs
  subst hs
  show 1 ≤ maxLen; unfold maxLen; omega
theorem has_d : hasU ud ⟨#[97]⟩ = false ∧ hasU ud ⟨#[98]⟩ = false ∧ hasU ud ⟨#[99]⟩ = false ∧ hasU ud ⟨#[100]⟩ = true := by refine ⟨?_, ?_, ?_, ?_⟩ <;> decide +kernel
theorem has_i : hasU ui ⟨#[105]⟩ = true ∧ hasU ui ⟨#[106]⟩ = false ∧ hasU ui ⟨#[107]⟩ = false := by refine ⟨?_, ?_, ?_⟩ <;> decide +kernel
theorem lost4 : lostC c4 ud = [⟨#[97]⟩] := by
  unfold lostC c4
  simp only [List.filter_cons, lostB, has_d.1, has_d.2.1, has_d.2.2.1, has_d.2.2.2]
  rfl
theorem dead_two (U : List ByteArray) (h : c4.filter (deadB U) = [⟨⟨#[98]⟩, 4, 0, 5⟩, ⟨⟨#[99]⟩, 6, 0, 2⟩]) : deadC c4 U = [⟨#[99]⟩, ⟨#[98]⟩] := by
  unfold deadC deadL
  rw [h, show sortBy (ltOf cfC) [(⟨⟨#[98]⟩, 4, 0, 5⟩ : ContV), ⟨⟨#[99]⟩, 6, 0, 2⟩] = [⟨⟨#[99]⟩, 6, 0, 2⟩, ⟨⟨#[98]⟩, 4, 0, 5⟩] from ?_]
  · rfl
  refine (sortBy_unique swo_cfC (h ▸ tied_cfC (filt_risesC c4_rises (deadB U))) (List.Perm.swap _ _ _) ?_).symm
  refine List.pairwise_cons.2 ⟨fun y hy => ?_, List.pairwise_singleton _ _⟩
  simp only [List.mem_singleton] at hy
  subst hy
  rw [← lessC_eq]
  rfl
theorem dead4 : deadC c4 ud = [⟨#[99]⟩, ⟨#[98]⟩] := by
  refine dead_two _ ?_
  unfold c4
  simp only [List.filter_cons, deadB, has_d.1, has_d.2.1, has_d.2.2.1, has_d.2.2.2]
  rfl
theorem extra4 : extraT (deadC c4 []) 1 = [⟨#[99]⟩] := by
  rw [dead_two [] rfl]
  rfl
theorem ord3 {L : List ImgV} {U : List ByteArray} {O : List ImgV} (h : L.filter (freeI U) = O) (hp : O.Pairwise (fun x y => ltOf cfI y x = false)) : orderI L U = O := by
  unfold orderI
  rw [h]
  exact (sortBy_unique swo_cfI (tied_cfI _) (List.Perm.refl _) hp).symm
theorem ah_no {x y : ImgV} (h : x.last < y.last) : ltOf cfI y x = false := by
  rw [ah_1 (by omega)]
  exact decide_eq_false (by omega)
theorem ordm3 : orderI m3 [] = m3 := by
  refine ord3 (by rw [List.filter_eq_self]; intro x _; rfl) ?_
  unfold m3
  simp only [List.pairwise_cons, List.mem_cons, List.not_mem_nil, or_false, forall_eq_or_imp, forall_eq, List.Pairwise.nil, and_true, false_implies, implies_true]
  refine ⟨⟨?_, ?_⟩, ?_⟩ <;> exact ah_no (by decide)
theorem ordm3i : orderI m3 ui = [⟨⟨#[106]⟩, 5, 2⟩, ⟨⟨#[107]⟩, 5, 3⟩] := by
  refine ord3 (by unfold m3; simp only [List.filter_cons, freeI, has_i.1, has_i.2.1, has_i.2.2]; rfl) ?_
  refine List.pairwise_cons.2 ⟨fun y hy => ?_, List.pairwise_singleton _ _⟩
  simp only [List.mem_singleton] at hy
  subst hy
  exact ah_no (by decide)
theorem own_rowT {w : World} {B : Nat} {v : Value} {G : List ByteArray} {n : Nat} (h : OwnR w B 9 1 v G.length (G.map Value.string)) (hn : G.length = n) : ∃ a c, v = .slice a n c ∧ Row w a n c 1 (G.map Value.string) := by
  subst hn; exact rowR_of_own h
theorem row0U (w : World) : Row w none 0 0 1 (([] : List ByteArray).map Value.string) := row_nil
theorem row0V (w : World) : Row w none 0 0 1 (([] : List Bool).map Value.bool) := row_nil
theorem lostA (a b : Option Addr) (w : World) (hr : Row w a 4 4 4 (c4.flatMap ContV.cells)) (hu : Row w b 1 1 1 (ud.map Value.string)) : Calls Try.prog 23 #[.slice a 4 4, .slice b 1 1] w fun e w' => ∃ a c, e = .returned (.slice a 1 c) ∧ Row w' a 1 c 1 ([(⟨#[97]⟩ : ByteArray)].map Value.string) ∧ Below w.heap.size w w' := by
  refine (sw_Lost a 4 4 c4 b 1 1 ud w rfl hr rfl hu ud_ok c4_ok c4_rises (by omega) (by omega)).mono ?_
  rintro e w1 ⟨v, rfl, ho, hb⟩
  rw [lost4] at ho
  obtain ⟨a, c, rfl, hr⟩ := own_rowT ho (n := 1) rfl
  exact ⟨a, c, rfl, hr, hb⟩
theorem deadA (a b : Option Addr) (w : World) (hr : Row w a 4 4 4 (c4.flatMap ContV.cells)) (hu : Row w b 1 1 1 (ud.map Value.string)) : Calls Try.prog 25 #[.slice a 4 4, .slice b 1 1] w fun e w' => ∃ a c, e = .returned (.slice a 2 c) ∧ Row w' a 2 c 1 ([(⟨#[99]⟩ : ByteArray), ⟨#[98]⟩].map Value.string) ∧ Below w.heap.size w w' := by
  refine (sw_Dead a 4 4 c4 b 1 1 ud w rfl hr rfl hu ud_ok c4_ok c4_rises (by omega) (by omega)).mono ?_
  rintro e w1 ⟨v, rfl, ho, hb⟩
  rw [dead4] at ho
  obtain ⟨a, c, rfl, hr⟩ := own_rowT ho (n := 2) rfl
  exact ⟨a, c, rfl, hr, hb⟩
theorem extraA (a : Option Addr) (w : World) (hr : Row w a 4 4 4 (c4.flatMap ContV.cells)) : Calls Try.prog 27 #[.slice a 4 4, .slice none 0 0, .int .i64 1] w fun e w' => ∃ a c, e = .returned (.slice a 1 c) ∧ Row w' a 1 c 1 ([(⟨#[99]⟩ : ByteArray)].map Value.string) ∧ Below w.heap.size w w' := by
  refine (sw_Extra a 4 4 c4 none 0 0 [] 1 w rfl hr rfl (row0U w) (fun s hs => by cases hs) c4_ok c4_rises (by omega) (by omega) (by unfold InI; simp)).mono ?_
  rintro e w1 ⟨v, rfl, ho, hb⟩
  rw [extra4] at ho
  obtain ⟨a, c, rfl, hr⟩ := own_rowT ho (n := 1) rfl
  exact ⟨a, c, rfl, hr, hb⟩
theorem coll1 : collF 6 [] m3 = ⟨[⟨#[105]⟩, ⟨#[106]⟩], 10, 2⟩ := by kernel_rfl
theorem coll2 : collF 6 [false] [⟨⟨#[106]⟩, 5, 2⟩, ⟨⟨#[107]⟩, 5, 3⟩] = ⟨[⟨#[107]⟩], 5, 2⟩ := by kernel_rfl
theorem collA (a : Option Addr) (w : World) (hr : Row w a 3 3 3 (m3.flatMap ImgV.cells)) : Calls Try.prog 33 #[.slice a 3 3, .slice none 0 0, .int .i64 6, .slice none 0 0] w fun e w' => ∃ a c, e = .returned (.tuple #[.slice a 2 c, .int .i64 10, .int .i64 2]) ∧ Row w' a 2 c 1 ([(⟨#[105]⟩ : ByteArray), ⟨#[106]⟩].map Value.string) ∧ Below w.heap.size w w' := by
  refine (sw_Collect a 3 3 m3 none 0 0 [] 6 none 0 0 [] w rfl hr m3_rises rfl (row0U w) rfl (row0V w) m3_ok (by omega)).mono ?_
  rintro e w1 ⟨v, rfl, ho, hb⟩
  rw [ordm3, coll1] at ho ⊢
  obtain ⟨a, c, rfl, hr⟩ := own_rowT ho (n := 2) rfl
  exact ⟨a, c, rfl, hr, hb⟩
theorem collB (a b d : Option Addr) (w : World) (hr : Row w a 3 3 3 (m3.flatMap ImgV.cells)) (hu : Row w b 1 1 1 (ui.map Value.string)) (hv : Row w d 1 1 1 ([false].map Value.bool)) : Calls Try.prog 33 #[.slice a 3 3, .slice b 1 1, .int .i64 6, .slice d 1 1] w fun e w' => ∃ v, e = .returned (.tuple #[v, .int .i64 5, .int .i64 2]) ∧ Below w.heap.size w w' := by
  refine (sw_Collect a 3 3 m3 b 1 1 ui 6 d 1 1 [false] w rfl hr m3_rises rfl hu rfl hv m3_ok (by omega)).mono ?_
  rintro e w1 ⟨v, rfl, ho, hb⟩
  rw [ordm3i, coll2]
  exact ⟨v, rfl, hb⟩
set_option maxRecDepth 100000 in
set_option maxHeartbeats 16000000 in
theorem awake22 (w : World) :
    Calls Try.prog 19 #[] w fun e w' => e = .returned (.bool true) ∧ Below w.heap.size w w' := by
  have HB := Lib.hid (Below.refl w.heap.size w)
  have hbel := HB.out
  go_enter Try.func19, Try.ntmps19
  go_upto_region 2 with fail
  have k1 : Below w.heap.size w (w.alloc (.cells #[.string ⟨#[97]⟩, .int .i64 3, .int .i64 0, .int .i64 1, .string ⟨#[98]⟩, .int .i64 4, .int .i64 0, .int .i64 5, .string ⟨#[99]⟩, .int .i64 6, .int .i64 0, .int .i64 2, .string ⟨#[100]⟩, .int .i64 3, .int .i64 0, .int .i64 2] 35)) := belAlloc (Below.refl _ _) _
  have hn_ : Row (w.alloc (.cells #[.string ⟨#[97]⟩, .int .i64 3, .int .i64 0, .int .i64 1, .string ⟨#[98]⟩, .int .i64 4, .int .i64 0, .int .i64 5, .string ⟨#[99]⟩, .int .i64 6, .int .i64 0, .int .i64 2, .string ⟨#[100]⟩, .int .i64 3, .int .i64 0, .int .i64 2] 35)) (some ⟨w.heap.size, 0, none⟩) 4 4 4 (c4.flatMap ContV.cells) := row_new w [.string ⟨#[97]⟩, .int .i64 3, .int .i64 0, .int .i64 1, .string ⟨#[98]⟩, .int .i64 4, .int .i64 0, .int .i64 5, .string ⟨#[99]⟩, .int .i64 6, .int .i64 0, .int .i64 2, .string ⟨#[100]⟩, .int .i64 3, .int .i64 0, .int .i64 2] 35 4 4 rfl (by unfold maxLen; omega)
  replace HB := Lib.hid (belStep HB.out k1)
  have H1 := Lib.hid hn_
  clear hn_ k1 hbel
  generalize w.alloc (.cells #[.string ⟨#[97]⟩, .int .i64 3, .int .i64 0, .int .i64 1, .string ⟨#[98]⟩, .int .i64 4, .int .i64 0, .int .i64 5, .string ⟨#[99]⟩, .int .i64 6, .int .i64 0, .int .i64 2, .string ⟨#[100]⟩, .int .i64 3, .int .i64 0, .int .i64 2] 35) = W1 at *
  have hbel := HB.out
  have k2 := belAlloc (Below.refl W1.heap.size W1) (.cells #[.string ⟨#[100]⟩] 9)
  have HU := Lib.hid (show Row (W1.alloc (.cells #[.string ⟨#[100]⟩] 9)) (some ⟨W1.heap.size, 0, none⟩) 1 1 1 (ud.map Value.string) from row_new W1 [.string ⟨#[100]⟩] 9 1 1 rfl (by unfold maxLen; omega))
  have H1A := Lib.hid (H1.out.later k2)
  have HBA := Lib.hid (belStep HB.out k2)
  clear k2
  go_upto_region 3 with (go_at_call 23; (with_reducible refine (lostA _ _ _ H1A.out HU.out).mono ?_); rintro e w3 ⟨xa, xc, rfl, hr, hb_⟩; have HX := Lib.hid hr; replace H1 := Lib.hid (H1A.out.later hb_); replace HB := Lib.hid (belStep HBA.out hb_); clear hr hb_ HU H1A HBA)
  clear hbel
  have hbel := HB.out
  have k2 := belAlloc (Below.refl w3.heap.size w3) (.cells #[.string ⟨#[100]⟩] 9)
  have HU := Lib.hid (show Row (w3.alloc (.cells #[.string ⟨#[100]⟩] 9)) (some ⟨w3.heap.size, 0, none⟩) 1 1 1 (ud.map Value.string) from row_new w3 [.string ⟨#[100]⟩] 9 1 1 rfl (by unfold maxLen; omega))
  have H1A := Lib.hid (H1.out.later k2)
  have HBA := Lib.hid (belStep HB.out k2)
  have HXA := Lib.hid (HX.out.later k2)
  clear k2
  go_upto_region 4 with (go_at_call 25; (with_reducible refine (deadA _ _ _ H1A.out HU.out).mono ?_); rintro e w4 ⟨ya, yc, rfl, hr, hb_⟩; have HY := Lib.hid hr; replace HX := Lib.hid (HXA.out.later hb_); replace H1 := Lib.hid (H1A.out.later hb_); replace HB := Lib.hid (belStep HBA.out hb_); clear hr hb_ HU H1A HBA HXA)
  clear hbel
  have hbel := HB.out
  go_upto_region 5 with (go_at_call 27; (with_reducible refine (extraA _ _ H1.out).mono ?_); rintro e w5 ⟨za, zc, rfl, hr, hb_⟩; have HZ := Lib.hid hr; replace HX := Lib.hid (HX.out.later hb_); replace HY := Lib.hid (HY.out.later hb_); replace HB := Lib.hid (belStep HB.out hb_); clear hr hb_ H1)
  clear hbel
  have hbel := HB.out
  go_upto_region 6 with fail
  have k1 : Below w5.heap.size w5 (w5.alloc (.cells #[.string ⟨#[105]⟩, .int .i64 5, .int .i64 1, .string ⟨#[106]⟩, .int .i64 5, .int .i64 2, .string ⟨#[107]⟩, .int .i64 5, .int .i64 3] 46)) := belAlloc (Below.refl _ _) _
  have hn_ : Row (w5.alloc (.cells #[.string ⟨#[105]⟩, .int .i64 5, .int .i64 1, .string ⟨#[106]⟩, .int .i64 5, .int .i64 2, .string ⟨#[107]⟩, .int .i64 5, .int .i64 3] 46)) (some ⟨w5.heap.size, 0, none⟩) 3 3 3 (m3.flatMap ImgV.cells) := row_new w5 [.string ⟨#[105]⟩, .int .i64 5, .int .i64 1, .string ⟨#[106]⟩, .int .i64 5, .int .i64 2, .string ⟨#[107]⟩, .int .i64 5, .int .i64 3] 46 3 3 rfl (by unfold maxLen; omega)
  replace HX := Lib.hid (HX.out.later k1)
  replace HY := Lib.hid (HY.out.later k1)
  replace HZ := Lib.hid (HZ.out.later k1)
  replace HB := Lib.hid (belStep HB.out k1)
  have H6 := Lib.hid hn_
  clear hn_ k1 hbel
  generalize w5.alloc (.cells #[.string ⟨#[105]⟩, .int .i64 5, .int .i64 1, .string ⟨#[106]⟩, .int .i64 5, .int .i64 2, .string ⟨#[107]⟩, .int .i64 5, .int .i64 3] 46) = W6 at *
  have hbel := HB.out
  go_upto_region 7 with (go_at_call 33; (with_reducible refine (collA _ _ H6.out).mono ?_); rintro e w7 ⟨ga, gc, rfl, hr, hb_⟩; have HG := Lib.hid hr; replace HX := Lib.hid (HX.out.later hb_); replace HY := Lib.hid (HY.out.later hb_); replace HZ := Lib.hid (HZ.out.later hb_); replace H6 := Lib.hid (H6.out.later hb_); replace HB := Lib.hid (belStep HB.out hb_); clear hr hb_)
  clear hbel
  generalize w7 = W7 at *
  have hbel : Below W7.heap.size W7 W7 := Below.refl _ _
  obtain ⟨bx0, ox0, ex, cx⟩ := text_cell HX.out (k := 0) (s := ⟨#[97]⟩) rfl
  subst ex
  have x0 := keep cx
  clear cx
  rw [Nat.add_zero] at x0
  obtain ⟨by0, oy0, ey, cy⟩ := text_cell HY.out (k := 0) (s := ⟨#[99]⟩) rfl
  subst ey
  have y0 := keep cy
  clear cy
  obtain ⟨by1, oy1, ey, cy⟩ := text_cell HY.out (k := 1) (s := ⟨#[98]⟩) rfl
  simp only [Option.some.injEq, Addr.mk.injEq, and_true] at ey
  obtain ⟨rfl, rfl⟩ := ey
  have y1 := keep cy
  clear cy
  rw [Nat.add_zero] at y0
  obtain ⟨bz0, oz0, ez, cz⟩ := text_cell HZ.out (k := 0) (s := ⟨#[99]⟩) rfl
  subst ez
  have z0 := keep cz
  clear cz
  rw [Nat.add_zero] at z0
  obtain ⟨bg0, og0, eg, cg⟩ := text_cell HG.out (k := 0) (s := ⟨#[105]⟩) rfl
  subst eg
  have g0 := keep cg
  clear cg
  obtain ⟨bg1, og1, eg, cg⟩ := text_cell HG.out (k := 1) (s := ⟨#[106]⟩) rfl
  simp only [Option.some.injEq, Addr.mk.injEq, and_true] at eg
  obtain ⟨rfl, rfl⟩ := eg
  have g1 := keep cg
  clear cg
  rw [Nat.add_zero] at g0
  have hs97 : ((⟨#[97]⟩ : ByteArray).toList == (⟨#[97]⟩ : ByteArray).toList) = true := beq_self_eq_true _
  have hs98 : ((⟨#[98]⟩ : ByteArray).toList == (⟨#[98]⟩ : ByteArray).toList) = true := beq_self_eq_true _
  have hs99 : ((⟨#[99]⟩ : ByteArray).toList == (⟨#[99]⟩ : ByteArray).toList) = true := beq_self_eq_true _
  have hs105 : ((⟨#[105]⟩ : ByteArray).toList == (⟨#[105]⟩ : ByteArray).toList) = true := beq_self_eq_true _
  have hs106 : ((⟨#[106]⟩ : ByteArray).toList == (⟨#[106]⟩ : ByteArray).toList) = true := beq_self_eq_true _
  have HUI := Lib.hid (show Row ((W7.alloc (.cells #[.string ⟨#[105]⟩] 9)).alloc (.cells #[.bool false] 4)) (some ⟨W7.heap.size, 0, none⟩) 1 1 1 (ui.map Value.string) from (row_new W7 [.string ⟨#[105]⟩] 9 1 1 rfl (by unfold maxLen; omega)).later (belAlloc (Below.refl _ _) _))
  have HVI := Lib.hid (show Row ((W7.alloc (.cells #[.string ⟨#[105]⟩] 9)).alloc (.cells #[.bool false] 4)) (some ⟨W7.heap.size + 1, 0, none⟩) 1 1 1 ([false].map Value.bool) from row_new_at _ [.bool false] 4 1 1 _ (by simp) rfl (by unfold maxLen; omega))
  have H6A := Lib.hid (H6.out.later (belAlloc (belAlloc (Below.refl _ _) (.cells #[.string ⟨#[105]⟩] 9)) (.cells #[.bool false] 4)))
  go_wp2_with (go_at_call 33; (with_reducible refine (collB _ _ _ _ H6A.out HUI.out HVI.out).mono ?_); rintro e w8 ⟨v8, rfl, hb_⟩; replace hbel := belStep (belAlloc (belAlloc hbel (.cells #[.string ⟨#[105]⟩] 9)) (.cells #[.bool false] 4)) hb_; clear hb_)
  go_ret
  exact ⟨rfl, belStep HB.out hbel⟩
end Go.Proofs.Ytampkolkbjmmkaa
