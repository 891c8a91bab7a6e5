
/- slices.Concat at images. -/
import Derived.Test.YtcnjcldfbidkmaaInsImg
import Derived.Lib.AppendZerosOnto
namespace Go.Proofs.Ytcnjcldfbidkmaa
open Go.RowKit
set_option linter.unusedVariables false
set_option linter.unusedSimpArgs false

set_option maxRecDepth 100000 in
set_option maxHeartbeats 2000000 in
theorem slices_Grow (n : Nat) (w : World) (hn : n ≤ 2000000) :
    Calls Try.prog 137 #[.slice none 0 0, .int .i64 n] w fun e w' => ∃ v, e = .returned v ∧ OwnR w' w.heap.size 58 3 v 0 [] ∧ Below w.heap.size w w' := by
  by_cases h0 : n = 0
  · subst h0
    go_enter Try.func137, Try.ntmps137
    go_wp2
    go_ret
    exact ⟨_, rfl, OwnR.nil _ _ _ _, Below.refl _ _⟩
  · have hp : 0 < n := by omega
    obtain ⟨i0, hi0, hz, hsz, hbs⟩ : ∃ i, Try.prog.info? 58 = some i ∧ i.zero = some (.agg #[.string ⟨#[]⟩, .int .i64 0, .int .i64 0]) ∧ i.size = 3 ∧ i.bytes = 32 := by
      have hi := info_imgI
      cases hpp : Try.prog.info? 58 with
      | none => rw [hpp] at hi; simp at hi
      | some i => rw [hpp] at hi; simp at hi; exact ⟨i, rfl, hi.1, hi.2.1, hi.2.2⟩
    obtain ⟨zz, hzz⟩ : ∃ z : Value, .agg #[.string ⟨#[]⟩, .int .i64 0, .int .i64 0] = z := ⟨_, rfl⟩
    have hzc : zz.cells.size = 3 := by rw [← hzz]; rfl
    rw [hzz] at hz
    clear hzz
    have hold : (Builtin.firstCells i0.size 0 (.slice none 0 0)).run Try.prog w.drew = .ok ([] : List Value).toArray w.drew := run_firstCells_none w.drew i0.size 0 0 0
    have hrz : ∀ ty, (Builtin.append_ #[29, 3] ty #[.slice none 0 0, .int .i64 n]).run Try.prog w =
        .ok (.slice (some ⟨w.heap.size, 0, none⟩) n (grownCap w n 0 58)) (w.drew.alloc (.cells (([] : List Value).toArray ++ Builtin.zeroCells zz.cells n ++ Builtin.zeroCells zz.cells (grownCap w n 0 58 - n)) 58)) := fun ty => by
      have h := Lib.run_append_grow_zeros w 29 3 ty 58 i0 zz .i64 .i64 Try.underlying29 Try.underlying3 hi0 hz none 0 0 [] hold n hp (by omega) (by omega) (by omega)
        (by rw [hbs]; omega) (growslice_fits (by omega) (by rw [hbs]; omega))
      rw [Nat.zero_add] at h
      exact h
    have hGn : n ≤ grownCap w n 0 58 := grownCap_ge w _ _ _
    have hGm := grownCap_le_maxLen w n 0 58 (by unfold maxLen; omega)
    obtain ⟨G, hG⟩ : ∃ G, grownCap w n 0 58 = G := ⟨_, rfl⟩
    simp only [hG] at hrz hGn hGm
    have hG63 : G ≤ 9223372036854775807 := by unfold maxLen at hGm; omega
    obtain ⟨cur, hcur⟩ : ∃ cur, ([] : List Value).toArray ++ Builtin.zeroCells zz.cells n ++ Builtin.zeroCells zz.cells (G - n) = cur := ⟨_, rfl⟩
    have hcs : cur.size = G * 3 := by rw [← hcur]; simp [size_zeroCells, hzc]; omega
    simp only [hcur] at hrz
    clear hold hG hcur hzc
    go_enter Try.func137, Try.ntmps137
    go_wp2_with (at_builtin; refine Lib.wpList_append_run _ rfl _ _ _ _ rfl _ _ rfl rfl _ _ (hrz _) ?_)
    all_goals (go_ret; exact ⟨_, rfl, World.ownsRow_made w.drew cur G (by simp) hGm hcs, (belAlloc (belDrew (Below.refl _ _)) _ : Below w.heap.size w (w.drew.alloc _))⟩)

/-- One of the rows that are laid one behind the other. -/
abbrev RPart := Option Addr × Nat × Nat × List Value
def joinR (P : List RPart) : List Value := P.flatMap fun x => x.2.2.2
def sumR (P : List RPart) : Nat := P.foldl (fun n x => n + x.2.1) 0
theorem sumR_next {P : List RPart} {k : Nat} {x : RPart} (h : P[k]? = some x) : sumR (P.take (k + 1)) = sumR (P.take k) + x.2.1 := by
  rw [List.take_add_one, h]; unfold sumR; rw [List.foldl_append]; rfl
theorem joinR_next {P : List RPart} {k : Nat} {x : RPart} (h : P[k]? = some x) : joinR (P.take (k + 1)) = joinR (P.take k) ++ x.2.2.2 := by
  rw [List.take_add_one, h]; unfold joinR; rw [List.flatMap_append]; simp
theorem sumR_acc (P : List RPart) : ∀ a, P.foldl (fun n x => n + x.2.1) a = a + sumR P := by
  induction P with
  | nil => intro a; rfl
  | cons x P ih => intro a; unfold sumR; rw [List.foldl_cons, List.foldl_cons, ih, ih]; omega
theorem sumR_le (P : List RPart) (k : Nat) : sumR (P.take k) ≤ sumR P := by
  have : sumR P = sumR (P.take k) + sumR (P.drop k) := by
    conv => lhs; rw [← List.take_append_drop k P]
    unfold sumR
    rw [List.foldl_append, sumR_acc]; rfl
  omega
def RParts (w : World) (a : Option Addr) (len cap : Nat) (P : List RPart) : Prop :=
  P.length = len ∧ Row w a len cap 1 (P.flatMap fun x => [.slice x.1 x.2.1 x.2.2.1]) ∧ ∀ x ∈ P, Row w x.1 x.2.1 x.2.2.1 3 x.2.2.2 ∧ ∀ u ∈ x.2.2.2, u.oneCell' = true

set_option maxRecDepth 100000 in
set_option maxHeartbeats 4000000 in
theorem slices_Concat (a : Option Addr) (len cap : Nat) (P : List RPart) (w : World) (hP : RParts w a len cap P) (hsz : sumR P ≤ 2000000) :
    Calls Try.prog 111 #[.slice a len cap] w fun e w' => ∃ v, e = .returned v ∧ OwnR w' w.heap.size 58 3 v (sumR P) (joinR P) ∧ Below w.heap.size w w' := by
  have hbd : len ≤ cap ∧ cap ≤ 9223372036854775807 := by obtain ⟨_, ⟨_, h1, h2, _⟩, _⟩ := hP; unfold maxLen at h2; exact ⟨h1, h2⟩
  obtain ⟨hbd1, hbd2⟩ := hbd
  obtain rfl : P.length = len := hP.1
  have HP := Lib.hid hP
  have HJ := Lib.hid (sumR_le P)
  clear hP
  go_enter Try.func111, Try.ntmps111
  go_wp2
  go_loopw [3, 11] (fun x i wr => ∃ (k n : Nat), k ≤ P.length ∧ i = .int .i64 k ∧ x = .int .i64 n ∧ n = sumR (P.take k) ∧ w = wr) (fun _ i _ => P.length - (intOf i).toNat)
  case atStart => exact ⟨0, 0, Nat.zero_le _, rfl, rfl, rfl, rfl⟩
  case round =>
    obtain ⟨k, n, hk, rfl, rfl, hn, rfl⟩ := hrel
    have hnl := HJ.out k
    rw [← hn] at hnl
    have hbel : Below w.heap.size w w := Below.refl _ _
    by_cases hlt : k < P.length
    · obtain ⟨⟨pa, pl, pc, pb⟩, hx⟩ : ∃ x, P[k]? = some x := ⟨P[k], List.getElem?_eq_getElem hlt⟩
      have hpb : pl ≤ pc ∧ pc ≤ 9223372036854775807 := by obtain ⟨_, h1, h2, _⟩ := (HP.out.2.2 _ (List.mem_of_getElem? hx)).1; unfold maxLen at h2; exact ⟨h1, h2⟩
      obtain ⟨hpb1, hpb2⟩ := hpb
      have hnext := sumR_next hx
      simp only at hnext
      rw [← hn] at hnext
      have hnl2 := HJ.out (k + 1)
      rw [hnext] at hnl2
      obtain ⟨b, off, rfl, _, hc⟩ := HP.out.2.1.elem (fun _ => rfl) (by omega) hx
      have x0 := keep (hc 0 _ rfl)
      simp only [Nat.mul_one, Nat.add_zero] at x0
      have HN := Lib.hid hnext
      clear hx hnext hc hn
      go_wp2
      go_roundw
      case rel => exact ⟨k + 1, n + pl, by omega, by push_cast; rfl, by push_cast; rfl, by rw [HN.out], by first | rfl | trivial⟩
      case measure => simp [intOf] <;> omega
    · obtain rfl : k = P.length := by omega
      have cg := slices_Grow n w (by omega)
      have CG := Lib.hid cg
      clear cg hn
      go_wp2_with (first | (go_at_call 137; (with_reducible refine CG.out.mono ?_); rintro e w1 ⟨v0, rfl, hown, hb1⟩))
      have HO := Lib.hid hown
      clear CG hown
      go_loopw [6, 27] (fun v i wr => ∃ k : Nat, k ≤ P.length ∧ i = .int .i64 k ∧ OwnR wr w.heap.size 58 3 v (sumR (P.take k)) (joinR (P.take k)) ∧ Below w.heap.size w wr) (fun _ i _ => P.length - (intOf i).toNat)
      case atStart => exact ⟨0, Nat.zero_le _, rfl, HO.out, hb1⟩
      case round =>
        obtain ⟨k, hk, rfl, hown, hbr⟩ := hrel
        have hbel : Below wr.heap.size wr wr := Below.refl _ _
        have hszw : w.heap.size ≤ wr.heap.size := hbr.size
        by_cases hlt : k < P.length
        · obtain ⟨⟨pa, pl, pc, pb⟩, hx⟩ : ∃ x, P[k]? = some x := ⟨P[k], List.getElem?_eq_getElem hlt⟩
          have hp := (HP.out.2.2 _ (List.mem_of_getElem? hx)).1.later hbr
          have hone := (HP.out.2.2 _ (List.mem_of_getElem? hx)).2
          simp only at hp hone
          have hnext := joinR_next hx
          have hsnext := sumR_next hx
          simp only at hnext hsnext
          have hnl2 := HJ.out (k + 1)
          rw [hsnext] at hnl2
          obtain ⟨b, off, rfl, _, hc⟩ := (HP.out.2.1.later hbr).elem (fun _ => rfl) (by omega) hx
          have x0 := keep (hc 0 _ rfl)
          simp only [Nat.mul_one, Nat.add_zero] at x0
          have HN := Lib.hid hnext
          have HSN := Lib.hid hsnext
          have HO2 := Lib.hid hown
          have HI := Lib.hid hp
          have HON := Lib.hid hone
          obtain ⟨q, hq⟩ : ∃ q, sumR (P.take k) = q := ⟨_, rfl⟩
          rw [hq] at HO2 HSN hnl2
          clear hx hnext hc hown hp hone hsnext hq
          go_wp2_with (at_builtin; refine wpList_app_row rfl _ _ 29 rfl w.heap.size 58 _ 3 32 Try.underlying29 info_imgI rfl (by decide) _ _ _ rfl HO2.out _ pl pc pb rfl HI.out HON.out ?c1 ?c2 ?c3 ?_)
          case c1 => simp only [maxLen]; omega
          case c2 => omega
          case c3 => omega
          intro v' w2 ho' hb' hg'
          have HV := Lib.hid ho'
          have hb3 : Below w.heap.size w w2 := hbr.trans hb'
          clear ho' hb' hg'
          go_wp2
          go_roundw
          case rel => exact ⟨k + 1, by omega, by push_cast; rfl, by rw [HN.out, HSN.out]; exact HV.out, hb3⟩
          case measure => simp [intOf] <;> omega
        · obtain rfl : k = P.length := by omega
          rw [List.take_length] at hown
          have HO2 := Lib.hid hown
          clear hown
          go_wp2
          go_ret
          exact ⟨_, rfl, HO2.out, hbr⟩
theorem rparts_two {w : World} {a : Option Addr} {len cap : Nat} {l : List Value} {b : Option Addr} {len2 cap2 : Nat} {l2 : List Value} (hl : Row w a len cap 3 l) (h1 : ∀ u ∈ l, u.oneCell' = true) (h2 : Row w b len2 cap2 3 l2) (h3 : ∀ u ∈ l2, u.oneCell' = true) :
    RParts (w.alloc (.cells #[.slice a len cap, .slice b len2 cap2] 29)) (some ⟨w.heap.size, 0, none⟩) 2 2 [(a, len, cap, l), (b, len2, cap2, l2)] := by
  refine ⟨rfl, row_new w [.slice a len cap, .slice b len2 cap2] 29 2 1 rfl (by unfold maxLen; omega), fun x hx => ?_⟩
  simp at hx
  rcases hx with rfl | rfl
  · exact ⟨hl.later ((Below.refl _ _).alloc (Nat.le_refl _) _), h1⟩
  · exact ⟨h2.later ((Below.refl _ _).alloc (Nat.le_refl _) _), h3⟩
end Go.Proofs.Ytcnjcldfbidkmaa
