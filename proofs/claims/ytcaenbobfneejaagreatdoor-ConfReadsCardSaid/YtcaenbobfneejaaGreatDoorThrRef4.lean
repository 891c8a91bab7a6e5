
/- bilgeref06.Read: contract. -/
import Derived.Test.YtcaenbobfneejaaGreatDoorThrR
import Derived.Test.YtcaenbobfneejaaGreatDoorThr3
namespace Go.Proofs.YtcaenbobfneejaaGreatDoor
open Go.RowKit
set_option linter.unusedVariables false
set_option linter.unusedSimpArgs false

def sgk (b : Nat → Bool) : Nat → Int
  | 0 => -1
  | k + 1 => if b k then k else sgk b k
def wb (A : List UInt8) (k : Nat) : Bool := (wB (k : Int)).toList == A
theorem wB_l3 : (wB 0).toList = [109, 101, 109, 111, 114, 121] ∧ (wB 1).toList = [100, 105, 115, 107] ∧ (wB 2).toList = [112, 105, 100] := by decide +kernel
theorem sgk_sig (A : List UInt8) : sgk (wb A) 3 = (sigF A).getD (-1) := by
  obtain ⟨e0, e1, e2⟩ := wB_l3
  have h0 : wb A 0 = ([109, 101, 109, 111, 114, 121] == A) := by unfold wb; rw [show ((0 : Nat) : Int) = 0 from rfl, e0]
  have h1 : wb A 1 = ([100, 105, 115, 107] == A) := by unfold wb; rw [show ((1 : Nat) : Int) = 1 from rfl, e1]
  have h2 : wb A 2 = ([112, 105, 100] == A) := by unfold wb; rw [show ((2 : Nat) : Int) = 2 from rfl, e2]
  show (if wb A 2 then ((2 : Nat) : Int) else if wb A 1 then ((1 : Nat) : Int) else if wb A 0 then ((0 : Nat) : Int) else -1) = _
  rw [h0, h1, h2]
  unfold sigF
  by_cases a : A = [109, 101, 109, 111, 114, 121]
  · subst a; decide
  by_cases b : A = [100, 105, 115, 107]
  · subst b; decide
  by_cases c : A = [112, 105, 100]
  · subst c; decide
  rw [if_neg a, if_neg b, if_neg c, beq_eq_false_iff_ne.2 (Ne.symm a), beq_eq_false_iff_ne.2 (Ne.symm b), beq_eq_false_iff_ne.2 (Ne.symm c)]
  rfl
theorem fin_no1 {l : List UInt8} (h : (cutC 60 l).2.2 = false) : thF l = none := by rw [← th_eq]; unfold thR; rw [h]; rfl
theorem fin_no2 {l : List UInt8} (h : (cutC 60 l).2.2 = true) (h2 : limR (cutC 58 (cutC 60 l).2.1).1 = none) : thF l = none := by rw [← th_eq]; unfold thR; rw [h, h2]; rfl
theorem fin_yes {l : List UInt8} {p a sg gr : Int} {so : Bool} (h : (cutC 60 l).2.2 = true) (h2 : limR (cutC 58 (cutC 60 l).2.1).1 = some (p, a)) (hs : (cutC 58 (cutC 60 l).2.1).2.2 = so) (hg : (if so then numR (cutC 58 (cutC 60 l).2.1).2.1 else 0) = gr) (hsg : (sigF (cutC 60 l).1).getD (-1) = sg) :
    thF l = if (⟨sg, p, a, so, gr⟩ : ThrV).right then some ⟨sg, p, a, so, gr⟩ else none := by
  rw [← th_eq]; unfold thR; rw [h, h2, if_pos rfl]; simp only [hs, hg, hsg]
def TRes (l : List UInt8) (e : Ending) : Prop := (∃ t, thF l = some t ∧ e = .returned (.tuple #[t.v, .bool true])) ∨ (thF l = none ∧ e = .returned (.tuple #[zeroT.v, .bool false]))
set_option maxRecDepth 100000 in
set_option maxHeartbeats 1000000 in
theorem refRead_ret (W : World) (R : Nat) (tm : Array Value) (a b c g : Int) (s ok : Bool) (Q : Ending → World → Prop) (h2 : tm.getD 2 undef = .pointer (some ⟨R, 0, none⟩)) (h3 : tm.getD 3 undef = .bool ok) (hb : Blk W R [.int .i64 a, .int .i64 b, .int .i64 c, .bool s, .int .i64 g] 54) (hR : Q (.returned (.tuple #[.agg #[.int .i64 a, .int .i64 b, .int .i64 c, .bool s, .int .i64 g], .bool ok])) W) :
    bodyPost Tryz.prog Tryz.f19 Q Exit.ret { tmps := tm, defers := [] } W := by
  have z0 := hb.cell (j := 0) rfl
  have z1 := hb.cell (j := 1) rfl
  have z2 := hb.cell (j := 2) rfl
  have z3 := hb.cell (j := 3) rfl
  have z4 := hb.cell (j := 4) rfl
  refine bodyPost_ret (v := .tuple #[.agg #[.int .i64 a, .int .i64 b, .int .i64 c, .bool s, .int .i64 g], .bool ok]) ?_ rfl hR
  simp only [Array.getD_eq_getD_getElem?] at h2 h3
  simp [results, Tryz.results19, go_sem, h2, h3, z0, z1, z2, z3, z4]
theorem fi_cases (c : UInt8) (l : List UInt8) : ((cutC c l).2.2 = true ∧ ∃ n : Nat, fiI c l = n ∧ n < l.length ∧ l.take n = (cutC c l).1 ∧ l.drop (n + 1) = (cutC c l).2.1) ∨ ((cutC c l).2.2 = false ∧ fiI c l = -1 ∧ (cutC c l).1 = l) := by
  rcases cutC_spec c l with ⟨h1, h2, _⟩ | ⟨h1, _⟩
  · obtain ⟨A, hA⟩ : ∃ A, (cutC c l).1 = A := ⟨_, rfl⟩
    obtain ⟨V, hV⟩ : ∃ V, (cutC c l).2.1 = V := ⟨_, rfl⟩
    rw [hA, hV] at h2
    refine .inl ⟨h1, A.length, ?_, ?_, ?_, ?_⟩
    · unfold fiI; rw [if_pos h1, hA]
    · rw [h2, List.length_append, List.length_cons]; omega
    · rw [hA]
      conv => lhs; rw [h2]
      exact List.take_left
    · rw [hV]
      conv => lhs; rw [h2]
      rw [show A.length + 1 = (A ++ [c]).length by simp, show A ++ c :: V = (A ++ [c]) ++ V by simp, List.drop_left]
  · exact .inr ⟨by rw [h1], by unfold fiI; rw [h1]; rfl, by rw [h1]⟩
theorem last37 (v : ByteArray) (h : v.toList.getLast? = some 37) : ∃ (h0 : v.size - 1 < v.size), v[v.size - 1] = 37 := by
  have hp : v.toList ≠ [] := fun e => by rw [e] at h; cases h
  have hl := List.length_pos_iff.2 hp
  rw [sl_len] at hl
  refine ⟨by omega, ?_⟩
  rw [List.getLast?_eq_getElem?, sl_len, sl] at h
  have : v.size - 1 < v.data.toList.length := by simp; omega
  rw [List.getElem?_eq_getElem this] at h
  exact Option.some.inj h
theorem lastn (v : ByteArray) (h : v.toList.getLast? ≠ some 37) : v.size = 0 ∨ ∃ (h0 : v.size - 1 < v.size), v[v.size - 1] ≠ 37 := by
  rcases Nat.eq_zero_or_pos v.size with h0 | h0
  · exact .inl h0
  · refine .inr ⟨by omega, fun e => h ?_⟩
    rw [List.getLast?_eq_getElem?, sl_len, sl]
    have : v.size - 1 < v.data.toList.length := by simp; omega
    rw [List.getElem?_eq_getElem this]
    exact congrArg some e

set_option maxRecDepth 100000 in
set_option maxHeartbeats 16000000 in
theorem ref_tRead (s : ByteArray) (w : World) (hs : s.size ≤ 1000000) : Calls Tryz.prog 19 #[.string s] w fun e w' => TRes s.toList e ∧ Below w.heap.size w w' := by
  have hw : Below w.heap.size w w := Below.refl _ _
  have hbel := hw
  have CF1 := Lib.hid (show ∀ u, Calls Tryz.prog 36 #[.string s, .int .u8 60] u fun e w' => e = .returned (.int .i64 (fiI 60 s.toList)) ∧ u = w' from fun u => ref_find s 60 u (by unfold maxLen; omega))
  rcases fi_cases 60 s.toList with ⟨hc1, n, hfi, hnl, htk, hdr⟩ | ⟨hc1, hfi, _⟩
  · rw [hfi] at CF1
    rw [sl_len] at hnl
    have HC1 := Lib.hid hc1
    have HTK := Lib.hid htk
    have HDR := Lib.hid hdr
    clear hfi hc1 htk hdr
    go_enter Tryz.func19, Tryz.ntmps19
    go_upto_region 2 with fail
    have rr0 : ((w.alloc (.cells #[.int .i64 0, .int .i64 0, .int .i64 0, .bool false, .int .i64 0] 54)).alloc (.cells #[.int .i64 (-1), .int .i64 0, .int .i64 0, .bool false, .int .i64 0] 54)).cell? ⟨w.heap.size, 0, none⟩ = some (.int .i64 0) := by first | (simp; done) | (rw [World.cell?_alloc_at _ _ _ _ (by simp)]; rfl) | (rw [World.cell?_alloc_past _ _ _ (by simp <;> omega), World.cell?_alloc_at _ _ _ _ (by simp)]; rfl) | (rw [World.cell?_alloc_past _ _ _ (by simp <;> omega), World.cell?_alloc_past _ _ _ (by simp <;> omega), World.cell?_alloc_at _ _ _ _ (by simp)]; rfl)
    have rr1 : ((w.alloc (.cells #[.int .i64 0, .int .i64 0, .int .i64 0, .bool false, .int .i64 0] 54)).alloc (.cells #[.int .i64 (-1), .int .i64 0, .int .i64 0, .bool false, .int .i64 0] 54)).cell? ⟨w.heap.size, 1, none⟩ = some (.int .i64 0) := by first | (simp; done) | (rw [World.cell?_alloc_at _ _ _ _ (by simp)]; rfl) | (rw [World.cell?_alloc_past _ _ _ (by simp <;> omega), World.cell?_alloc_at _ _ _ _ (by simp)]; rfl) | (rw [World.cell?_alloc_past _ _ _ (by simp <;> omega), World.cell?_alloc_past _ _ _ (by simp <;> omega), World.cell?_alloc_at _ _ _ _ (by simp)]; rfl)
    have rr2 : ((w.alloc (.cells #[.int .i64 0, .int .i64 0, .int .i64 0, .bool false, .int .i64 0] 54)).alloc (.cells #[.int .i64 (-1), .int .i64 0, .int .i64 0, .bool false, .int .i64 0] 54)).cell? ⟨w.heap.size, 2, none⟩ = some (.int .i64 0) := by first | (simp; done) | (rw [World.cell?_alloc_at _ _ _ _ (by simp)]; rfl) | (rw [World.cell?_alloc_past _ _ _ (by simp <;> omega), World.cell?_alloc_at _ _ _ _ (by simp)]; rfl) | (rw [World.cell?_alloc_past _ _ _ (by simp <;> omega), World.cell?_alloc_past _ _ _ (by simp <;> omega), World.cell?_alloc_at _ _ _ _ (by simp)]; rfl)
    have rr3 : ((w.alloc (.cells #[.int .i64 0, .int .i64 0, .int .i64 0, .bool false, .int .i64 0] 54)).alloc (.cells #[.int .i64 (-1), .int .i64 0, .int .i64 0, .bool false, .int .i64 0] 54)).cell? ⟨w.heap.size, 3, none⟩ = some (.bool false) := by first | (simp; done) | (rw [World.cell?_alloc_at _ _ _ _ (by simp)]; rfl) | (rw [World.cell?_alloc_past _ _ _ (by simp <;> omega), World.cell?_alloc_at _ _ _ _ (by simp)]; rfl) | (rw [World.cell?_alloc_past _ _ _ (by simp <;> omega), World.cell?_alloc_past _ _ _ (by simp <;> omega), World.cell?_alloc_at _ _ _ _ (by simp)]; rfl)
    have rr4 : ((w.alloc (.cells #[.int .i64 0, .int .i64 0, .int .i64 0, .bool false, .int .i64 0] 54)).alloc (.cells #[.int .i64 (-1), .int .i64 0, .int .i64 0, .bool false, .int .i64 0] 54)).cell? ⟨w.heap.size, 4, none⟩ = some (.int .i64 0) := by first | (simp; done) | (rw [World.cell?_alloc_at _ _ _ _ (by simp)]; rfl) | (rw [World.cell?_alloc_past _ _ _ (by simp <;> omega), World.cell?_alloc_at _ _ _ _ (by simp)]; rfl) | (rw [World.cell?_alloc_past _ _ _ (by simp <;> omega), World.cell?_alloc_past _ _ _ (by simp <;> omega), World.cell?_alloc_at _ _ _ _ (by simp)]; rfl)
    have tt0 : ((w.alloc (.cells #[.int .i64 0, .int .i64 0, .int .i64 0, .bool false, .int .i64 0] 54)).alloc (.cells #[.int .i64 (-1), .int .i64 0, .int .i64 0, .bool false, .int .i64 0] 54)).cell? ⟨w.heap.size + 1, 0, none⟩ = some (.int .i64 (-1)) := by first | (simp; done) | (rw [World.cell?_alloc_at _ _ _ _ (by simp)]; rfl) | (rw [World.cell?_alloc_past _ _ _ (by simp <;> omega), World.cell?_alloc_at _ _ _ _ (by simp)]; rfl) | (rw [World.cell?_alloc_past _ _ _ (by simp <;> omega), World.cell?_alloc_past _ _ _ (by simp <;> omega), World.cell?_alloc_at _ _ _ _ (by simp)]; rfl)
    have tt1 : ((w.alloc (.cells #[.int .i64 0, .int .i64 0, .int .i64 0, .bool false, .int .i64 0] 54)).alloc (.cells #[.int .i64 (-1), .int .i64 0, .int .i64 0, .bool false, .int .i64 0] 54)).cell? ⟨w.heap.size + 1, 1, none⟩ = some (.int .i64 0) := by first | (simp; done) | (rw [World.cell?_alloc_at _ _ _ _ (by simp)]; rfl) | (rw [World.cell?_alloc_past _ _ _ (by simp <;> omega), World.cell?_alloc_at _ _ _ _ (by simp)]; rfl) | (rw [World.cell?_alloc_past _ _ _ (by simp <;> omega), World.cell?_alloc_past _ _ _ (by simp <;> omega), World.cell?_alloc_at _ _ _ _ (by simp)]; rfl)
    have tt2 : ((w.alloc (.cells #[.int .i64 0, .int .i64 0, .int .i64 0, .bool false, .int .i64 0] 54)).alloc (.cells #[.int .i64 (-1), .int .i64 0, .int .i64 0, .bool false, .int .i64 0] 54)).cell? ⟨w.heap.size + 1, 2, none⟩ = some (.int .i64 0) := by first | (simp; done) | (rw [World.cell?_alloc_at _ _ _ _ (by simp)]; rfl) | (rw [World.cell?_alloc_past _ _ _ (by simp <;> omega), World.cell?_alloc_at _ _ _ _ (by simp)]; rfl) | (rw [World.cell?_alloc_past _ _ _ (by simp <;> omega), World.cell?_alloc_past _ _ _ (by simp <;> omega), World.cell?_alloc_at _ _ _ _ (by simp)]; rfl)
    have tt3 : ((w.alloc (.cells #[.int .i64 0, .int .i64 0, .int .i64 0, .bool false, .int .i64 0] 54)).alloc (.cells #[.int .i64 (-1), .int .i64 0, .int .i64 0, .bool false, .int .i64 0] 54)).cell? ⟨w.heap.size + 1, 3, none⟩ = some (.bool false) := by first | (simp; done) | (rw [World.cell?_alloc_at _ _ _ _ (by simp)]; rfl) | (rw [World.cell?_alloc_past _ _ _ (by simp <;> omega), World.cell?_alloc_at _ _ _ _ (by simp)]; rfl) | (rw [World.cell?_alloc_past _ _ _ (by simp <;> omega), World.cell?_alloc_past _ _ _ (by simp <;> omega), World.cell?_alloc_at _ _ _ _ (by simp)]; rfl)
    have tt4 : ((w.alloc (.cells #[.int .i64 0, .int .i64 0, .int .i64 0, .bool false, .int .i64 0] 54)).alloc (.cells #[.int .i64 (-1), .int .i64 0, .int .i64 0, .bool false, .int .i64 0] 54)).cell? ⟨w.heap.size + 1, 4, none⟩ = some (.int .i64 0) := by first | (simp; done) | (rw [World.cell?_alloc_at _ _ _ _ (by simp)]; rfl) | (rw [World.cell?_alloc_past _ _ _ (by simp <;> omega), World.cell?_alloc_at _ _ _ _ (by simp)]; rfl) | (rw [World.cell?_alloc_past _ _ _ (by simp <;> omega), World.cell?_alloc_past _ _ _ (by simp <;> omega), World.cell?_alloc_at _ _ _ _ (by simp)]; rfl)
    have hb2 := (by repeat (first | exact hbel | refine belAlloc ?_ _ | refine belDrew ?_ | refine belSet ?_ _ _ (by simp)) : Below w.heap.size w ((w.alloc (.cells #[.int .i64 0, .int .i64 0, .int .i64 0, .bool false, .int .i64 0] 54)).alloc (.cells #[.int .i64 (-1), .int .i64 0, .int .i64 0, .bool false, .int .i64 0] 54)))
    replace hw := belStep hw hb2
    have rrB : Blk ((w.alloc (.cells #[.int .i64 0, .int .i64 0, .int .i64 0, .bool false, .int .i64 0] 54)).alloc (.cells #[.int .i64 (-1), .int .i64 0, .int .i64 0, .bool false, .int .i64 0] 54)) (w.heap.size) [.int .i64 0, .int .i64 0, .int .i64 0, .bool false, .int .i64 0] 54 := (Blk.at (by simp) : Blk (w.alloc (.cells #[.int .i64 0, .int .i64 0, .int .i64 0, .bool false, .int .i64 0] 54)) (w.heap.size) [.int .i64 0, .int .i64 0, .int .i64 0, .bool false, .int .i64 0] 54).later (by repeat (first | exact Below.refl _ _ | refine belAlloc ?_ _))
    have rrF := Blk.keepF rrB
    replace rrB := Blk.keepB rrB
    have ttB : Blk ((w.alloc (.cells #[.int .i64 0, .int .i64 0, .int .i64 0, .bool false, .int .i64 0] 54)).alloc (.cells #[.int .i64 (-1), .int .i64 0, .int .i64 0, .bool false, .int .i64 0] 54)) (w.heap.size + 1) [.int .i64 (-1), .int .i64 0, .int .i64 0, .bool false, .int .i64 0] 54 := (Blk.at (by simp) : Blk ((w.alloc (.cells #[.int .i64 0, .int .i64 0, .int .i64 0, .bool false, .int .i64 0] 54)).alloc (.cells #[.int .i64 (-1), .int .i64 0, .int .i64 0, .bool false, .int .i64 0] 54)) (w.heap.size + 1) [.int .i64 (-1), .int .i64 0, .int .i64 0, .bool false, .int .i64 0] 54).later (by repeat (first | exact Below.refl _ _ | refine belAlloc ?_ _))
    have ttF := Blk.keepF ttB
    replace ttB := Blk.keepB ttB
    clear hb2 hbel
    generalize (w.alloc (.cells #[.int .i64 0, .int .i64 0, .int .i64 0, .bool false, .int .i64 0] 54)).alloc (.cells #[.int .i64 (-1), .int .i64 0, .int .i64 0, .bool false, .int .i64 0] 54) = W1 at *
    replace rr0 := keep rr0
    replace rr1 := keep rr1
    replace rr2 := keep rr2
    replace rr3 := keep rr3
    replace rr4 := keep rr4
    replace tt0 := keep tt0
    replace tt1 := keep tt1
    replace tt2 := keep tt2
    replace tt3 := keep tt3
    replace tt4 := keep tt4
    have hbel : Below W1.heap.size W1 W1 := Below.refl _ _
    skip
    have HR1 := Lib.hid (rrB _ (Below.refl _ _))
    have HM1 := Lib.hid (ttB _ (Below.refl _ _))
    have HW := Lib.hid hw
    clear hw rr0 rr1 rr2 rr3 rr4 rrF rrB tt0 tt1 tt2 tt3 tt4 ttF ttB hbel
    generalize hM : w.heap.size + 1 = M at *
    have hRM : w.heap.size < M := by omega
    clear hM
    have hn1 : (n : Int) ≤ s.size := by omega
    have hn2 : (n : Int) + 1 ≤ s.size := by omega
    go_wp2_with (go_at_call 36; (with_reducible refine (CF1.out _).mono ?_); rintro e w2 ⟨rfl, rfl⟩)
    go_loopw [6] (fun i wr => ∃ (k : Nat) (I g : Int), I = k ∧ k ≤ 3 ∧ i = .int .i64 I ∧ Hid (g = sgk (wb (cutC 60 s.toList).1) k) ∧ Below w.heap.size w wr ∧ Blk wr M [.int .i64 g, .int .i64 0, .int .i64 0, .bool false, .int .i64 0] 54 ∧ Blk wr w.heap.size [.int .i64 0, .int .i64 0, .int .i64 0, .bool false, .int .i64 0] 54) (fun i _ => 3 - (intOf i).toNat)
    case atStart => exact ⟨0, 0, -1, rfl, by omega, rfl, Lib.hid rfl, HW.out, HM1.out, HR1.out⟩
    case round =>
      obtain ⟨k, I, g, hI, hk, rfl, hg, hbr, hBM, hBR⟩ := hrel
      have key : k = 0 ∨ k = 1 ∨ k = 2 ∨ k = 3 := by omega
      clear hk HR1 HM1 HW
      rcases key with rfl | rfl | rfl | rfl
      · obtain rfl : I = 0 := hI
        have HB := Lib.hid (show ((wB 0).toList == (s.extract 0 n).toList) = wb (cutC 60 s.toList).1 0 by rw [sl_take, HTK.out]; rfl)
        cases hbb : wb (cutC 60 s.toList).1 0 with
        | false =>
          have eqk : ((wB 0).toList == (s.extract 0 n).toList) = false := HB.out.trans hbb
          have HG := Lib.hid (show g = sgk (wb (cutC 60 s.toList).1) 1 from by rw [hg.out]; show _ = if wb _ 0 then _ else _; rw [hbb]; rfl)
          clear hbb HB
          have hbel : Below wr.heap.size wr wr := Below.refl _ _
          go_upto_region 8 with fail
          have kk := fun d os => belStep hbel (below_regrown _ d os)
          refine wp_region_quiet_below (by kernel_rfl) (by kernel_rfl) ?_
          repeat ((with_reducible refine wpQuiet_step (fun K hK => ?_)); go_simp; (try (rw [if_neg]; rotate_left; · decide)); first | ((with_reducible refine hK _ ?_); clear hK K) | (apply Exists.intro; refine ⟨fun _ => ?_, hK _ ?_⟩; (first | (go_at_call 37; with_reducible exact regrown_of_eq (ref_Word 0 _ (by omega)))); clear hK K))
          refine wpQuiet_nil (fun w1 hw1 => ?_)
          replace hbel := belStep hbel (bel_of_class hw1)
          clear hw1 kk
          have hBM1 := hBM.later hbel
          have hBR1 := hBR.later hbel
          have hbr1 := hbr.trans (hbel.mono hbr.size)
          have m0 := hBM1.cell (j := 0) rfl
          have mF := hBM1.frozen
          have HX1 := Lib.hid hBM1
          have HX2 := Lib.hid hBR1
          have HX3 := Lib.hid hbr1
          clear hBM1 hBR1 hbr1 hbel hBM hBR hbr hg
          go_wp2
          go_roundw
          case rel => exact ⟨1, 1, g, rfl, by omega, rfl, HG, HX3.out, HX1.out, HX2.out⟩
          case measure => simp [intOf]
        | true =>
          have eqk : ((wB 0).toList == (s.extract 0 n).toList) = true := HB.out.trans hbb
          have HG := Lib.hid (show (0 : Int) = sgk (wb (cutC 60 s.toList).1) 1 from by show _ = if wb _ 0 then _ else _; rw [hbb]; rfl)
          clear hbb HB
          have hbel : Below wr.heap.size wr wr := Below.refl _ _
          go_upto_region 8 with fail
          have kk := fun d os => belStep hbel (below_regrown _ d os)
          refine wp_region_quiet_below (by kernel_rfl) (by kernel_rfl) ?_
          repeat ((with_reducible refine wpQuiet_step (fun K hK => ?_)); go_simp; (try (rw [if_neg]; rotate_left; · decide)); first | ((with_reducible refine hK _ ?_); clear hK K) | (apply Exists.intro; refine ⟨fun _ => ?_, hK _ ?_⟩; (first | (go_at_call 37; with_reducible exact regrown_of_eq (ref_Word 0 _ (by omega)))); clear hK K))
          refine wpQuiet_nil (fun w1 hw1 => ?_)
          replace hbel := belStep hbel (bel_of_class hw1)
          clear hw1 kk
          have hBM1 := hBM.later hbel
          have hBR1 := hBR.later hbel
          have hbr1 := hbr.trans (hbel.mono hbr.size)
          have m0 := hBM1.cell (j := 0) rfl
          have mF := hBM1.frozen
          have HX1 := Lib.hid hBM1
          have HX2 := Lib.hid hBR1
          have HX3 := Lib.hid hbr1
          clear hBM1 hBR1 hbr1 hbel hBM hBR hbr hg
          go_wp2
          go_roundw
          case rel => exact ⟨1, 1, 0, rfl, by omega, rfl, HG, belSet HX3.out ⟨M, 0, none⟩ (.int .i64 0) (Nat.le_of_lt hRM), HX1.out.set 0 (.int .i64 0), HX2.out.far (a := ⟨M, 0, none⟩) (show M ≠ w.heap.size by omega) (.int .i64 0)⟩
          case measure => simp [intOf]
      · obtain rfl : I = 1 := hI
        have HB := Lib.hid (show ((wB 1).toList == (s.extract 0 n).toList) = wb (cutC 60 s.toList).1 1 by rw [sl_take, HTK.out]; rfl)
        cases hbb : wb (cutC 60 s.toList).1 1 with
        | false =>
          have eqk : ((wB 1).toList == (s.extract 0 n).toList) = false := HB.out.trans hbb
          have HG := Lib.hid (show g = sgk (wb (cutC 60 s.toList).1) 2 from by rw [hg.out]; show _ = if wb _ 1 then _ else _; rw [hbb]; rfl)
          clear hbb HB
          have hbel : Below wr.heap.size wr wr := Below.refl _ _
          go_upto_region 8 with fail
          have kk := fun d os => belStep hbel (below_regrown _ d os)
          refine wp_region_quiet_below (by kernel_rfl) (by kernel_rfl) ?_
          repeat ((with_reducible refine wpQuiet_step (fun K hK => ?_)); go_simp; (try (rw [if_neg]; rotate_left; · decide)); first | ((with_reducible refine hK _ ?_); clear hK K) | (apply Exists.intro; refine ⟨fun _ => ?_, hK _ ?_⟩; (first | (go_at_call 37; with_reducible exact regrown_of_eq (ref_Word 1 _ (by omega)))); clear hK K))
          refine wpQuiet_nil (fun w1 hw1 => ?_)
          replace hbel := belStep hbel (bel_of_class hw1)
          clear hw1 kk
          have hBM1 := hBM.later hbel
          have hBR1 := hBR.later hbel
          have hbr1 := hbr.trans (hbel.mono hbr.size)
          have m0 := hBM1.cell (j := 0) rfl
          have mF := hBM1.frozen
          have HX1 := Lib.hid hBM1
          have HX2 := Lib.hid hBR1
          have HX3 := Lib.hid hbr1
          clear hBM1 hBR1 hbr1 hbel hBM hBR hbr hg
          go_wp2
          go_roundw
          case rel => exact ⟨2, 2, g, rfl, by omega, rfl, HG, HX3.out, HX1.out, HX2.out⟩
          case measure => simp [intOf]
        | true =>
          have eqk : ((wB 1).toList == (s.extract 0 n).toList) = true := HB.out.trans hbb
          have HG := Lib.hid (show (1 : Int) = sgk (wb (cutC 60 s.toList).1) 2 from by show _ = if wb _ 1 then _ else _; rw [hbb]; rfl)
          clear hbb HB
          have hbel : Below wr.heap.size wr wr := Below.refl _ _
          go_upto_region 8 with fail
          have kk := fun d os => belStep hbel (below_regrown _ d os)
          refine wp_region_quiet_below (by kernel_rfl) (by kernel_rfl) ?_
          repeat ((with_reducible refine wpQuiet_step (fun K hK => ?_)); go_simp; (try (rw [if_neg]; rotate_left; · decide)); first | ((with_reducible refine hK _ ?_); clear hK K) | (apply Exists.intro; refine ⟨fun _ => ?_, hK _ ?_⟩; (first | (go_at_call 37; with_reducible exact regrown_of_eq (ref_Word 1 _ (by omega)))); clear hK K))
          refine wpQuiet_nil (fun w1 hw1 => ?_)
          replace hbel := belStep hbel (bel_of_class hw1)
          clear hw1 kk
          have hBM1 := hBM.later hbel
          have hBR1 := hBR.later hbel
          have hbr1 := hbr.trans (hbel.mono hbr.size)
          have m0 := hBM1.cell (j := 0) rfl
          have mF := hBM1.frozen
          have HX1 := Lib.hid hBM1
          have HX2 := Lib.hid hBR1
          have HX3 := Lib.hid hbr1
          clear hBM1 hBR1 hbr1 hbel hBM hBR hbr hg
          go_wp2
          go_roundw
          case rel => exact ⟨2, 2, 1, rfl, by omega, rfl, HG, belSet HX3.out ⟨M, 0, none⟩ (.int .i64 1) (Nat.le_of_lt hRM), HX1.out.set 0 (.int .i64 1), HX2.out.far (a := ⟨M, 0, none⟩) (show M ≠ w.heap.size by omega) (.int .i64 1)⟩
          case measure => simp [intOf]
      · obtain rfl : I = 2 := hI
        have HB := Lib.hid (show ((wB 2).toList == (s.extract 0 n).toList) = wb (cutC 60 s.toList).1 2 by rw [sl_take, HTK.out]; rfl)
        cases hbb : wb (cutC 60 s.toList).1 2 with
        | false =>
          have eqk : ((wB 2).toList == (s.extract 0 n).toList) = false := HB.out.trans hbb
          have HG := Lib.hid (show g = sgk (wb (cutC 60 s.toList).1) 3 from by rw [hg.out]; show _ = if wb _ 2 then _ else _; rw [hbb]; rfl)
          clear hbb HB
          have hbel : Below wr.heap.size wr wr := Below.refl _ _
          go_upto_region 8 with fail
          have kk := fun d os => belStep hbel (below_regrown _ d os)
          refine wp_region_quiet_below (by kernel_rfl) (by kernel_rfl) ?_
          repeat ((with_reducible refine wpQuiet_step (fun K hK => ?_)); go_simp; (try (rw [if_neg]; rotate_left; · decide)); first | ((with_reducible refine hK _ ?_); clear hK K) | (apply Exists.intro; refine ⟨fun _ => ?_, hK _ ?_⟩; (first | (go_at_call 37; with_reducible exact regrown_of_eq (ref_Word 2 _ (by omega)))); clear hK K))
          refine wpQuiet_nil (fun w1 hw1 => ?_)
          replace hbel := belStep hbel (bel_of_class hw1)
          clear hw1 kk
          have hBM1 := hBM.later hbel
          have hBR1 := hBR.later hbel
          have hbr1 := hbr.trans (hbel.mono hbr.size)
          have m0 := hBM1.cell (j := 0) rfl
          have mF := hBM1.frozen
          have HX1 := Lib.hid hBM1
          have HX2 := Lib.hid hBR1
          have HX3 := Lib.hid hbr1
          clear hBM1 hBR1 hbr1 hbel hBM hBR hbr hg
          go_wp2
          go_roundw
          case rel => exact ⟨3, 3, g, rfl, by omega, rfl, HG, HX3.out, HX1.out, HX2.out⟩
          case measure => simp [intOf]
        | true =>
          have eqk : ((wB 2).toList == (s.extract 0 n).toList) = true := HB.out.trans hbb
          have HG := Lib.hid (show (2 : Int) = sgk (wb (cutC 60 s.toList).1) 3 from by show _ = if wb _ 2 then _ else _; rw [hbb]; rfl)
          clear hbb HB
          have hbel : Below wr.heap.size wr wr := Below.refl _ _
          go_upto_region 8 with fail
          have kk := fun d os => belStep hbel (below_regrown _ d os)
          refine wp_region_quiet_below (by kernel_rfl) (by kernel_rfl) ?_
          repeat ((with_reducible refine wpQuiet_step (fun K hK => ?_)); go_simp; (try (rw [if_neg]; rotate_left; · decide)); first | ((with_reducible refine hK _ ?_); clear hK K) | (apply Exists.intro; refine ⟨fun _ => ?_, hK _ ?_⟩; (first | (go_at_call 37; with_reducible exact regrown_of_eq (ref_Word 2 _ (by omega)))); clear hK K))
          refine wpQuiet_nil (fun w1 hw1 => ?_)
          replace hbel := belStep hbel (bel_of_class hw1)
          clear hw1 kk
          have hBM1 := hBM.later hbel
          have hBR1 := hBR.later hbel
          have hbr1 := hbr.trans (hbel.mono hbr.size)
          have m0 := hBM1.cell (j := 0) rfl
          have mF := hBM1.frozen
          have HX1 := Lib.hid hBM1
          have HX2 := Lib.hid hBR1
          have HX3 := Lib.hid hbr1
          clear hBM1 hBR1 hbr1 hbel hBM hBR hbr hg
          go_wp2
          go_roundw
          case rel => exact ⟨3, 3, 2, rfl, by omega, rfl, HG, belSet HX3.out ⟨M, 0, none⟩ (.int .i64 2) (Nat.le_of_lt hRM), HX1.out.set 0 (.int .i64 2), HX2.out.far (a := ⟨M, 0, none⟩) (show M ≠ w.heap.size by omega) (.int .i64 2)⟩
          case measure => simp [intOf]
      · obtain rfl : I = 3 := hI
        have HSG := Lib.hid (show (sigF (cutC 60 s.toList).1).getD (-1) = g by rw [hg.out, sgk_sig])
        clear hg
        obtain ⟨v0, hv0⟩ : ∃ v0, s.extract (n + 1) s.size = v0 := ⟨_, rfl⟩
        have HV0 := Lib.hid (show v0.toList = (cutC 60 s.toList).2.1 by rw [← hv0, sl_drop, HDR.out])
        have hv0s : v0.size ≤ s.size := by rw [← hv0]; simp only [ByteArray.size_extract]; omega
        have HE0 := Lib.hid hv0
        clear hv0
        have CF2 := Lib.hid (show ∀ u, Calls Tryz.prog 36 #[.string v0, .int .u8 58] u fun e w' => e = .returned (.int .i64 (fiI 58 v0.toList)) ∧ u = w' from fun u => ref_find v0 58 u (by unfold maxLen; omega))
        have hsp : 1000000 ≤ 9223372036854775807 := by omega
        go_upto_region 11 with fail
        simp only [HE0.out]
        rcases fi_cases 58 v0.toList with ⟨hc2, m, hfi2, hml, htk2, hdr2⟩ | ⟨hc2, hfi2, htk2⟩
        · rw [hfi2] at CF2
          rw [sl_len] at hml
          have HSO := Lib.hid (show (cutC 58 (cutC 60 s.toList).2.1).2.2 = true by rw [← HV0.out]; exact hc2)
          have HGR0 := Lib.hid (show (v0.extract (m + 1) v0.size).toList = (cutC 58 (cutC 60 s.toList).2.1).2.1 by rw [sl_drop, hdr2, HV0.out])
          obtain ⟨v, hv⟩ : ∃ v, v0.extract 0 m = v := ⟨_, rfl⟩
          have HVL := Lib.hid (show v.toList = (cutC 58 (cutC 60 s.toList).2.1).1 by rw [← hv, sl_take, htk2, HV0.out])
          have hvs : v.size ≤ s.size := by rw [← hv]; simp only [ByteArray.size_extract]; omega
          have HE := Lib.hid hv
          clear hv hfi2 hc2 htk2 hdr2
          have CN := Lib.hid (fun u => rf_number (v0.extract (m + 1) v0.size) u (by simp only [ByteArray.size_extract]; unfold maxLen; omega))
          rw [HGR0.out] at CN
          obtain ⟨gr, hgr⟩ : ∃ gr, numR (cutC 58 (cutC 60 s.toList).2.1).2.1 = gr := ⟨_, rfl⟩
          rw [hgr] at CN
          have HGR := Lib.hid (show (if true = true then numR (cutC 58 (cutC 60 s.toList).2.1).2.1 else 0) = gr by rw [if_pos rfl]; exact hgr)
          clear hgr HGR0
          have hm1 : (m : Int) ≤ v0.size := by omega
          have hm2 : (m : Int) + 1 ≤ v0.size := by omega
          have m3 := hBM.cell (j := 3) rfl
          have m4 := hBM.cell (j := 4) rfl
          have mF := hBM.frozen
          have HBM := Lib.hid hBM
          have HBR := Lib.hid hBR
          have HBW := Lib.hid hbr
          clear hBM hBR hbr
          go_upto_region 16 with (first | (go_at_call 36; (with_reducible refine (CF2.out _).mono ?_); rintro e w2 ⟨rfl, rfl⟩) | (go_at_call 38; (with_reducible refine (CN.out _).mono ?_); rintro e w2 ⟨rfl, rfl⟩))
          simp only [HE.out]
          have hb5 := belSet (belSet HBW.out ⟨M, 3, none⟩ (.bool true) (Nat.le_of_lt hRM)) ⟨M, 4, none⟩ (.int .i64 gr) (Nat.le_of_lt hRM)
          have hB5 := (HBM.out.set 3 (.bool true)).set 4 (.int .i64 gr)
          have hR5 := (HBR.out.far (a := ⟨M, 3, none⟩) (show M ≠ w.heap.size by omega) (.bool true)).far (a := ⟨M, 4, none⟩) (show M ≠ w.heap.size by omega) (.int .i64 gr)
          clear m3 m4 mF HBM HBR HBW
          generalize (wr.setCell ⟨M, 3, none⟩ (.bool true)).setCell ⟨M, 4, none⟩ (.int .i64 gr) = W5 at *
          by_cases hl37 : v.toList.getLast? = some 37
          · obtain ⟨h0, h37⟩ := last37 v hl37
            have t37 : ((v[v.size - 1].toNat : Int) == 37) = true := by rw [h37]; rfl
            have hv0 : 0 < (v.size : Int) := by omega
            have hv1 : ((v.size : Int) - 1).toNat = v.size - 1 := by omega
            have HLIM := Lib.hid (show limR (cutC 58 (cutC 60 s.toList).2.1).1 = some (numR (v.extract 0 (v.size - 1)).toList, 0) by rw [← HVL.out]; unfold limR; rw [if_pos hl37, sl_take, ← sl_len, List.dropLast_eq_take])
            have CN2 := Lib.hid (fun u => rf_number (v.extract 0 (v.size - 1)) u (by simp only [ByteArray.size_extract]; unfold maxLen; omega))
            generalize numR (v.extract 0 (v.size - 1)).toList = pc at *
            clear h37 hl37
            have m1 := hB5.cell (j := 1) rfl
            have mF := hB5.frozen
            have HB5 := Lib.hid hB5
            have HR5 := Lib.hid hR5
            have HB55 := Lib.hid hb5
            clear hB5 hR5 hb5
            go_upto_region 22 with (go_at_call 38; (with_reducible refine (CN2.out _).mono ?_); rintro e w2 ⟨rfl, rfl⟩)
            have hb6 := belSet HB55.out ⟨M, 1, none⟩ (.int .i64 pc) (Nat.le_of_lt hRM)
            have hB6 := HB5.out.set 1 (.int .i64 pc)
            have hR6 := HR5.out.far (a := ⟨M, 1, none⟩) (show M ≠ w.heap.size by omega) (.int .i64 pc)
            clear m1 mF
            generalize W5.setCell ⟨M, 1, none⟩ (.int .i64 pc) = W6 at *
            have HFIN := Lib.hid (fin_yes HC1.out HLIM.out HSO.out HGR.out HSG.out)
            have CR := Lib.hid (fun u => ref_Right g (pc) (0) gr true u)
            cases hr : (⟨g, pc, 0, true, gr⟩ : ThrV).right with
            | false =>
              rw [hr] at CR
              have HV := Lib.hid (show thF s.toList = none by rw [HFIN.out, hr]; rfl)
              clear hr HFIN
              have hbel : Below W6.heap.size W6 W6 := Below.refl _ _
              have m0 := keep (hB6.cell (j := 0) rfl)
              have m1 := keep (hB6.cell (j := 1) rfl)
              have m2 := keep (hB6.cell (j := 2) rfl)
              have m3 := keep (hB6.cell (j := 3) rfl)
              have m4 := keep (hB6.cell (j := 4) rfl)
              have r0 := keep (hR6.cell (j := 0) rfl)
              have r1 := keep (hR6.cell (j := 1) rfl)
              have r2 := keep (hR6.cell (j := 2) rfl)
              have r3 := keep (hR6.cell (j := 3) rfl)
              have r4 := keep (hR6.cell (j := 4) rfl)
              have rF := hR6.keepF
              have HBR := Lib.hid hR6.keepB
              have HBW := Lib.hid hb6
              go_wp2_with ((go_at_call 22; (with_reducible refine (CR.out _).mono ?_); rintro e w1 ⟨rfl, hb1⟩; replace hbel := belStep hbel hb1; clear hb1))
              exact refRead_ret _ _ _ 0 0 0 0 false false _ rfl rfl ((((((HBR.out _ hbel).set 0 _).set 1 _).set 2 _).set 3 _).set 4 _) ⟨.inr ⟨HV.out, rfl⟩, by repeat (first | exact HBW.out.trans (hbel.mono HBW.out.size) | refine belSet ?_ _ _ (Nat.le_refl _))⟩
            | true =>
              rw [hr] at CR
              have HV := Lib.hid (show thF s.toList = some (⟨g, pc, 0, true, gr⟩ : ThrV) by rw [HFIN.out, hr]; rfl)
              clear hr HFIN
              have hbel : Below W6.heap.size W6 W6 := Below.refl _ _
              have m0 := keep (hB6.cell (j := 0) rfl)
              have m1 := keep (hB6.cell (j := 1) rfl)
              have m2 := keep (hB6.cell (j := 2) rfl)
              have m3 := keep (hB6.cell (j := 3) rfl)
              have m4 := keep (hB6.cell (j := 4) rfl)
              have r0 := keep (hR6.cell (j := 0) rfl)
              have r1 := keep (hR6.cell (j := 1) rfl)
              have r2 := keep (hR6.cell (j := 2) rfl)
              have r3 := keep (hR6.cell (j := 3) rfl)
              have r4 := keep (hR6.cell (j := 4) rfl)
              have rF := hR6.keepF
              have HBR := Lib.hid hR6.keepB
              have HBW := Lib.hid hb6
              go_wp2_with ((go_at_call 22; (with_reducible refine (CR.out _).mono ?_); rintro e w1 ⟨rfl, hb1⟩; replace hbel := belStep hbel hb1; clear hb1))
              exact refRead_ret _ _ _ g (pc) (0) gr true true _ rfl rfl ((((((HBR.out _ hbel).set 0 _).set 1 _).set 2 _).set 3 _).set 4 _) ⟨.inl ⟨_, HV.out, rfl⟩, by repeat (first | exact HBW.out.trans (hbel.mono HBW.out.size) | refine belSet ?_ _ _ (Nat.le_refl _))⟩
          · have CQ := Lib.hid (fun u => ref_qRead v u (by unfold maxLen; omega))
            have hlim : limR (cutC 58 (cutC 60 s.toList).2.1).1 = if qOk v.toList = true then some (0, qNum v.toList) else none := by rw [← HVL.out]; unfold limR; rw [if_neg hl37]
            have hqn : qN v.toList = if qOk v.toList then qNum v.toList else 0 := rfl
            have key : (decide ((0 : Int) < v.size) = false) ∨ (decide ((0 : Int) < v.size) = true ∧ ∃ h0 : v.size - 1 < v.size, ((v[v.size - 1].toNat : Int) == 37) = false) := by
              rcases lastn v hl37 with h | ⟨h0, h⟩
              · exact .inl (decide_eq_false (by omega))
              · exact .inr ⟨decide_eq_true (by omega), h0, by rw [beq_eq_false_iff_ne]; exact u8_ne (c := 37) h⟩
            generalize qOk v.toList = qo at *
            generalize qNum v.toList = qn at *
            have hbel : Below W5.heap.size W5 W5 := Below.refl _ _
            have m0 := keep (hB5.cell (j := 0) rfl)
            have m1 := keep (hB5.cell (j := 1) rfl)
            have m2 := keep (hB5.cell (j := 2) rfl)
            have m3 := keep (hB5.cell (j := 3) rfl)
            have m4 := keep (hB5.cell (j := 4) rfl)
            have r0 := keep (hR5.cell (j := 0) rfl)
            have r1 := keep (hR5.cell (j := 1) rfl)
            have r2 := keep (hR5.cell (j := 2) rfl)
            have r3 := keep (hR5.cell (j := 3) rfl)
            have r4 := keep (hR5.cell (j := 4) rfl)
            have rF := hR5.keepF
            have mF := hB5.keepF
            have HB5 := Lib.hid hB5.keepB
            have HR5 := Lib.hid hR5.keepB
            have HB55 := Lib.hid hb5
            clear hB5 hR5 hb5 hl37
            cases qo with
            | false =>
              rw [if_neg (by simp)] at hlim
              have HV := Lib.hid (fin_no2 HC1.out hlim)
              rw [hqn] at CQ
              clear hlim hqn
              rcases key with t0 | ⟨t0, h0, t1⟩
              · have t01 : ¬ (0 : Int) < v.size := by simpa using t0
                go_wp2_with ((go_at_call 20; (with_reducible refine (CQ.out _).mono ?_); rintro e w1 ⟨rfl, hb1⟩; replace hbel := belStep hbel hb1; clear hb1))
                exact refRead_ret _ _ _ 0 0 0 0 false false _ rfl rfl ((((((HR5.out _ hbel).set 0 _).set 1 _).set 2 _).set 3 _).set 4 _) ⟨.inr ⟨HV.out, rfl⟩, by repeat (first | exact HB55.out.trans (hbel.mono HB55.out.size) | refine belSet ?_ _ _ (Nat.le_refl _))⟩
              · have t01 : (0 : Int) < v.size := by simpa using t0
                have hv1 : ((v.size : Int) - 1).toNat = v.size - 1 := by omega
                go_wp2_with ((go_at_call 20; (with_reducible refine (CQ.out _).mono ?_); rintro e w1 ⟨rfl, hb1⟩; replace hbel := belStep hbel hb1; clear hb1))
                exact refRead_ret _ _ _ 0 0 0 0 false false _ rfl rfl ((((((HR5.out _ hbel).set 0 _).set 1 _).set 2 _).set 3 _).set 4 _) ⟨.inr ⟨HV.out, rfl⟩, by repeat (first | exact HB55.out.trans (hbel.mono HB55.out.size) | refine belSet ?_ _ _ (Nat.le_refl _))⟩
            | true =>
              rw [if_pos rfl] at hlim
              have HLIM := Lib.hid hlim
              rw [hqn, if_pos rfl] at CQ
              clear hlim hqn
              rcases key with t0 | ⟨t0, h0, t1⟩
              · have t01 : ¬ (0 : Int) < v.size := by simpa using t0
                go_upto_region 22 with ((go_at_call 20; (with_reducible refine (CQ.out _).mono ?_); rintro e w1 ⟨rfl, hb1⟩; replace hbel := belStep hbel hb1; clear hb1))
                have hb5 := HB55.out.trans (hbel.mono HB55.out.size)
                have hB6 := (HB5.out _ hbel).set 2 (.int .i64 qn)
                have hR6 := (HR5.out _ hbel).far (a := ⟨M, 2, none⟩) (show M ≠ w.heap.size by omega) (.int .i64 qn)
                have hb6 := belSet hb5 ⟨M, 2, none⟩ (.int .i64 qn) (Nat.le_of_lt hRM)
                clear m0 m1 m2 m3 m4 r0 r1 r2 r3 r4 rF mF HB5 HR5 HB55 hb5 hbel
                generalize World.setCell _ ⟨M, 2, none⟩ (.int .i64 qn) = W6 at *
                have HFIN := Lib.hid (fin_yes HC1.out HLIM.out HSO.out HGR.out HSG.out)
                have CR := Lib.hid (fun u => ref_Right g (0) (qn) gr true u)
                cases hr : (⟨g, 0, qn, true, gr⟩ : ThrV).right with
                | false =>
                  rw [hr] at CR
                  have HV := Lib.hid (show thF s.toList = none by rw [HFIN.out, hr]; rfl)
                  clear hr HFIN
                  have hbel : Below W6.heap.size W6 W6 := Below.refl _ _
                  have m0 := keep (hB6.cell (j := 0) rfl)
                  have m1 := keep (hB6.cell (j := 1) rfl)
                  have m2 := keep (hB6.cell (j := 2) rfl)
                  have m3 := keep (hB6.cell (j := 3) rfl)
                  have m4 := keep (hB6.cell (j := 4) rfl)
                  have r0 := keep (hR6.cell (j := 0) rfl)
                  have r1 := keep (hR6.cell (j := 1) rfl)
                  have r2 := keep (hR6.cell (j := 2) rfl)
                  have r3 := keep (hR6.cell (j := 3) rfl)
                  have r4 := keep (hR6.cell (j := 4) rfl)
                  have rF := hR6.keepF
                  have HBR := Lib.hid hR6.keepB
                  have HBW := Lib.hid hb6
                  go_wp2_with ((go_at_call 22; (with_reducible refine (CR.out _).mono ?_); rintro e w1 ⟨rfl, hb1⟩; replace hbel := belStep hbel hb1; clear hb1))
                  exact refRead_ret _ _ _ 0 0 0 0 false false _ rfl rfl ((((((HBR.out _ hbel).set 0 _).set 1 _).set 2 _).set 3 _).set 4 _) ⟨.inr ⟨HV.out, rfl⟩, by repeat (first | exact HBW.out.trans (hbel.mono HBW.out.size) | refine belSet ?_ _ _ (Nat.le_refl _))⟩
                | true =>
                  rw [hr] at CR
                  have HV := Lib.hid (show thF s.toList = some (⟨g, 0, qn, true, gr⟩ : ThrV) by rw [HFIN.out, hr]; rfl)
                  clear hr HFIN
                  have hbel : Below W6.heap.size W6 W6 := Below.refl _ _
                  have m0 := keep (hB6.cell (j := 0) rfl)
                  have m1 := keep (hB6.cell (j := 1) rfl)
                  have m2 := keep (hB6.cell (j := 2) rfl)
                  have m3 := keep (hB6.cell (j := 3) rfl)
                  have m4 := keep (hB6.cell (j := 4) rfl)
                  have r0 := keep (hR6.cell (j := 0) rfl)
                  have r1 := keep (hR6.cell (j := 1) rfl)
                  have r2 := keep (hR6.cell (j := 2) rfl)
                  have r3 := keep (hR6.cell (j := 3) rfl)
                  have r4 := keep (hR6.cell (j := 4) rfl)
                  have rF := hR6.keepF
                  have HBR := Lib.hid hR6.keepB
                  have HBW := Lib.hid hb6
                  go_wp2_with ((go_at_call 22; (with_reducible refine (CR.out _).mono ?_); rintro e w1 ⟨rfl, hb1⟩; replace hbel := belStep hbel hb1; clear hb1))
                  exact refRead_ret _ _ _ g (0) (qn) gr true true _ rfl rfl ((((((HBR.out _ hbel).set 0 _).set 1 _).set 2 _).set 3 _).set 4 _) ⟨.inl ⟨_, HV.out, rfl⟩, by repeat (first | exact HBW.out.trans (hbel.mono HBW.out.size) | refine belSet ?_ _ _ (Nat.le_refl _))⟩
              · have t01 : (0 : Int) < v.size := by simpa using t0
                have hv1 : ((v.size : Int) - 1).toNat = v.size - 1 := by omega
                go_upto_region 22 with ((go_at_call 20; (with_reducible refine (CQ.out _).mono ?_); rintro e w1 ⟨rfl, hb1⟩; replace hbel := belStep hbel hb1; clear hb1))
                have hb5 := HB55.out.trans (hbel.mono HB55.out.size)
                have hB6 := (HB5.out _ hbel).set 2 (.int .i64 qn)
                have hR6 := (HR5.out _ hbel).far (a := ⟨M, 2, none⟩) (show M ≠ w.heap.size by omega) (.int .i64 qn)
                have hb6 := belSet hb5 ⟨M, 2, none⟩ (.int .i64 qn) (Nat.le_of_lt hRM)
                clear m0 m1 m2 m3 m4 r0 r1 r2 r3 r4 rF mF HB5 HR5 HB55 hb5 hbel
                generalize World.setCell _ ⟨M, 2, none⟩ (.int .i64 qn) = W6 at *
                have HFIN := Lib.hid (fin_yes HC1.out HLIM.out HSO.out HGR.out HSG.out)
                have CR := Lib.hid (fun u => ref_Right g (0) (qn) gr true u)
                cases hr : (⟨g, 0, qn, true, gr⟩ : ThrV).right with
                | false =>
                  rw [hr] at CR
                  have HV := Lib.hid (show thF s.toList = none by rw [HFIN.out, hr]; rfl)
                  clear hr HFIN
                  have hbel : Below W6.heap.size W6 W6 := Below.refl _ _
                  have m0 := keep (hB6.cell (j := 0) rfl)
                  have m1 := keep (hB6.cell (j := 1) rfl)
                  have m2 := keep (hB6.cell (j := 2) rfl)
                  have m3 := keep (hB6.cell (j := 3) rfl)
                  have m4 := keep (hB6.cell (j := 4) rfl)
                  have r0 := keep (hR6.cell (j := 0) rfl)
                  have r1 := keep (hR6.cell (j := 1) rfl)
                  have r2 := keep (hR6.cell (j := 2) rfl)
                  have r3 := keep (hR6.cell (j := 3) rfl)
                  have r4 := keep (hR6.cell (j := 4) rfl)
                  have rF := hR6.keepF
                  have HBR := Lib.hid hR6.keepB
                  have HBW := Lib.hid hb6
                  go_wp2_with ((go_at_call 22; (with_reducible refine (CR.out _).mono ?_); rintro e w1 ⟨rfl, hb1⟩; replace hbel := belStep hbel hb1; clear hb1))
                  exact refRead_ret _ _ _ 0 0 0 0 false false _ rfl rfl ((((((HBR.out _ hbel).set 0 _).set 1 _).set 2 _).set 3 _).set 4 _) ⟨.inr ⟨HV.out, rfl⟩, by repeat (first | exact HBW.out.trans (hbel.mono HBW.out.size) | refine belSet ?_ _ _ (Nat.le_refl _))⟩
                | true =>
                  rw [hr] at CR
                  have HV := Lib.hid (show thF s.toList = some (⟨g, 0, qn, true, gr⟩ : ThrV) by rw [HFIN.out, hr]; rfl)
                  clear hr HFIN
                  have hbel : Below W6.heap.size W6 W6 := Below.refl _ _
                  have m0 := keep (hB6.cell (j := 0) rfl)
                  have m1 := keep (hB6.cell (j := 1) rfl)
                  have m2 := keep (hB6.cell (j := 2) rfl)
                  have m3 := keep (hB6.cell (j := 3) rfl)
                  have m4 := keep (hB6.cell (j := 4) rfl)
                  have r0 := keep (hR6.cell (j := 0) rfl)
                  have r1 := keep (hR6.cell (j := 1) rfl)
                  have r2 := keep (hR6.cell (j := 2) rfl)
                  have r3 := keep (hR6.cell (j := 3) rfl)
                  have r4 := keep (hR6.cell (j := 4) rfl)
                  have rF := hR6.keepF
                  have HBR := Lib.hid hR6.keepB
                  have HBW := Lib.hid hb6
                  go_wp2_with ((go_at_call 22; (with_reducible refine (CR.out _).mono ?_); rintro e w1 ⟨rfl, hb1⟩; replace hbel := belStep hbel hb1; clear hb1))
                  exact refRead_ret _ _ _ g (0) (qn) gr true true _ rfl rfl ((((((HBR.out _ hbel).set 0 _).set 1 _).set 2 _).set 3 _).set 4 _) ⟨.inl ⟨_, HV.out, rfl⟩, by repeat (first | exact HBW.out.trans (hbel.mono HBW.out.size) | refine belSet ?_ _ _ (Nat.le_refl _))⟩
        · rw [hfi2] at CF2
          have HSO := Lib.hid (show (cutC 58 (cutC 60 s.toList).2.1).2.2 = false by rw [← HV0.out]; exact hc2)
          have HVL := Lib.hid (show v0.toList = (cutC 58 (cutC 60 s.toList).2.1).1 by rw [← HV0.out]; exact htk2.symm)
          have HGR := Lib.hid (show (if false = true then numR (cutC 58 (cutC 60 s.toList).2.1).2.1 else 0) = (0 : Int) from rfl)
          clear hfi2 hc2 htk2
          go_upto_region 16 with (first | (go_at_call 36; (with_reducible refine (CF2.out _).mono ?_); rintro e w2 ⟨rfl, rfl⟩))
          have hB5 := hBM
          have hR5 := hBR
          have hb5 := hbr
          clear hBM hBR hbr CF2
          generalize wr = W5 at *
          generalize v0 = v at *
          have hvs := hv0s
          by_cases hl37 : v.toList.getLast? = some 37
          · obtain ⟨h0, h37⟩ := last37 v hl37
            have t37 : ((v[v.size - 1].toNat : Int) == 37) = true := by rw [h37]; rfl
            have hv0 : 0 < (v.size : Int) := by omega
            have hv1 : ((v.size : Int) - 1).toNat = v.size - 1 := by omega
            have HLIM := Lib.hid (show limR (cutC 58 (cutC 60 s.toList).2.1).1 = some (numR (v.extract 0 (v.size - 1)).toList, 0) by rw [← HVL.out]; unfold limR; rw [if_pos hl37, sl_take, ← sl_len, List.dropLast_eq_take])
            have CN2 := Lib.hid (fun u => rf_number (v.extract 0 (v.size - 1)) u (by simp only [ByteArray.size_extract]; unfold maxLen; omega))
            generalize numR (v.extract 0 (v.size - 1)).toList = pc at *
            clear h37 hl37
            have m1 := hB5.cell (j := 1) rfl
            have mF := hB5.frozen
            have HB5 := Lib.hid hB5
            have HR5 := Lib.hid hR5
            have HB55 := Lib.hid hb5
            clear hB5 hR5 hb5
            go_upto_region 22 with (go_at_call 38; (with_reducible refine (CN2.out _).mono ?_); rintro e w2 ⟨rfl, rfl⟩)
            have hb6 := belSet HB55.out ⟨M, 1, none⟩ (.int .i64 pc) (Nat.le_of_lt hRM)
            have hB6 := HB5.out.set 1 (.int .i64 pc)
            have hR6 := HR5.out.far (a := ⟨M, 1, none⟩) (show M ≠ w.heap.size by omega) (.int .i64 pc)
            clear m1 mF
            generalize W5.setCell ⟨M, 1, none⟩ (.int .i64 pc) = W6 at *
            have HFIN := Lib.hid (fin_yes HC1.out HLIM.out HSO.out HGR.out HSG.out)
            have CR := Lib.hid (fun u => ref_Right g (pc) (0) 0 false u)
            cases hr : (⟨g, pc, 0, false, 0⟩ : ThrV).right with
            | false =>
              rw [hr] at CR
              have HV := Lib.hid (show thF s.toList = none by rw [HFIN.out, hr]; rfl)
              clear hr HFIN
              have hbel : Below W6.heap.size W6 W6 := Below.refl _ _
              have m0 := keep (hB6.cell (j := 0) rfl)
              have m1 := keep (hB6.cell (j := 1) rfl)
              have m2 := keep (hB6.cell (j := 2) rfl)
              have m3 := keep (hB6.cell (j := 3) rfl)
              have m4 := keep (hB6.cell (j := 4) rfl)
              have r0 := keep (hR6.cell (j := 0) rfl)
              have r1 := keep (hR6.cell (j := 1) rfl)
              have r2 := keep (hR6.cell (j := 2) rfl)
              have r3 := keep (hR6.cell (j := 3) rfl)
              have r4 := keep (hR6.cell (j := 4) rfl)
              have rF := hR6.keepF
              have HBR := Lib.hid hR6.keepB
              have HBW := Lib.hid hb6
              go_wp2_with ((go_at_call 22; (with_reducible refine (CR.out _).mono ?_); rintro e w1 ⟨rfl, hb1⟩; replace hbel := belStep hbel hb1; clear hb1))
              exact refRead_ret _ _ _ 0 0 0 0 false false _ rfl rfl ((((((HBR.out _ hbel).set 0 _).set 1 _).set 2 _).set 3 _).set 4 _) ⟨.inr ⟨HV.out, rfl⟩, by repeat (first | exact HBW.out.trans (hbel.mono HBW.out.size) | refine belSet ?_ _ _ (Nat.le_refl _))⟩
            | true =>
              rw [hr] at CR
              have HV := Lib.hid (show thF s.toList = some (⟨g, pc, 0, false, 0⟩ : ThrV) by rw [HFIN.out, hr]; rfl)
              clear hr HFIN
              have hbel : Below W6.heap.size W6 W6 := Below.refl _ _
              have m0 := keep (hB6.cell (j := 0) rfl)
              have m1 := keep (hB6.cell (j := 1) rfl)
              have m2 := keep (hB6.cell (j := 2) rfl)
              have m3 := keep (hB6.cell (j := 3) rfl)
              have m4 := keep (hB6.cell (j := 4) rfl)
              have r0 := keep (hR6.cell (j := 0) rfl)
              have r1 := keep (hR6.cell (j := 1) rfl)
              have r2 := keep (hR6.cell (j := 2) rfl)
              have r3 := keep (hR6.cell (j := 3) rfl)
              have r4 := keep (hR6.cell (j := 4) rfl)
              have rF := hR6.keepF
              have HBR := Lib.hid hR6.keepB
              have HBW := Lib.hid hb6
              go_wp2_with ((go_at_call 22; (with_reducible refine (CR.out _).mono ?_); rintro e w1 ⟨rfl, hb1⟩; replace hbel := belStep hbel hb1; clear hb1))
              exact refRead_ret _ _ _ g (pc) (0) 0 false true _ rfl rfl ((((((HBR.out _ hbel).set 0 _).set 1 _).set 2 _).set 3 _).set 4 _) ⟨.inl ⟨_, HV.out, rfl⟩, by repeat (first | exact HBW.out.trans (hbel.mono HBW.out.size) | refine belSet ?_ _ _ (Nat.le_refl _))⟩
          · have CQ := Lib.hid (fun u => ref_qRead v u (by unfold maxLen; omega))
            have hlim : limR (cutC 58 (cutC 60 s.toList).2.1).1 = if qOk v.toList = true then some (0, qNum v.toList) else none := by rw [← HVL.out]; unfold limR; rw [if_neg hl37]
            have hqn : qN v.toList = if qOk v.toList then qNum v.toList else 0 := rfl
            have key : (decide ((0 : Int) < v.size) = false) ∨ (decide ((0 : Int) < v.size) = true ∧ ∃ h0 : v.size - 1 < v.size, ((v[v.size - 1].toNat : Int) == 37) = false) := by
              rcases lastn v hl37 with h | ⟨h0, h⟩
              · exact .inl (decide_eq_false (by omega))
              · exact .inr ⟨decide_eq_true (by omega), h0, by rw [beq_eq_false_iff_ne]; exact u8_ne (c := 37) h⟩
            generalize qOk v.toList = qo at *
            generalize qNum v.toList = qn at *
            have hbel : Below W5.heap.size W5 W5 := Below.refl _ _
            have m0 := keep (hB5.cell (j := 0) rfl)
            have m1 := keep (hB5.cell (j := 1) rfl)
            have m2 := keep (hB5.cell (j := 2) rfl)
            have m3 := keep (hB5.cell (j := 3) rfl)
            have m4 := keep (hB5.cell (j := 4) rfl)
            have r0 := keep (hR5.cell (j := 0) rfl)
            have r1 := keep (hR5.cell (j := 1) rfl)
            have r2 := keep (hR5.cell (j := 2) rfl)
            have r3 := keep (hR5.cell (j := 3) rfl)
            have r4 := keep (hR5.cell (j := 4) rfl)
            have rF := hR5.keepF
            have mF := hB5.keepF
            have HB5 := Lib.hid hB5.keepB
            have HR5 := Lib.hid hR5.keepB
            have HB55 := Lib.hid hb5
            clear hB5 hR5 hb5 hl37
            cases qo with
            | false =>
              rw [if_neg (by simp)] at hlim
              have HV := Lib.hid (fin_no2 HC1.out hlim)
              rw [hqn] at CQ
              clear hlim hqn
              rcases key with t0 | ⟨t0, h0, t1⟩
              · have t01 : ¬ (0 : Int) < v.size := by simpa using t0
                go_wp2_with ((go_at_call 20; (with_reducible refine (CQ.out _).mono ?_); rintro e w1 ⟨rfl, hb1⟩; replace hbel := belStep hbel hb1; clear hb1))
                exact refRead_ret _ _ _ 0 0 0 0 false false _ rfl rfl ((((((HR5.out _ hbel).set 0 _).set 1 _).set 2 _).set 3 _).set 4 _) ⟨.inr ⟨HV.out, rfl⟩, by repeat (first | exact HB55.out.trans (hbel.mono HB55.out.size) | refine belSet ?_ _ _ (Nat.le_refl _))⟩
              · have t01 : (0 : Int) < v.size := by simpa using t0
                have hv1 : ((v.size : Int) - 1).toNat = v.size - 1 := by omega
                go_wp2_with ((go_at_call 20; (with_reducible refine (CQ.out _).mono ?_); rintro e w1 ⟨rfl, hb1⟩; replace hbel := belStep hbel hb1; clear hb1))
                exact refRead_ret _ _ _ 0 0 0 0 false false _ rfl rfl ((((((HR5.out _ hbel).set 0 _).set 1 _).set 2 _).set 3 _).set 4 _) ⟨.inr ⟨HV.out, rfl⟩, by repeat (first | exact HB55.out.trans (hbel.mono HB55.out.size) | refine belSet ?_ _ _ (Nat.le_refl _))⟩
            | true =>
              rw [if_pos rfl] at hlim
              have HLIM := Lib.hid hlim
              rw [hqn, if_pos rfl] at CQ
              clear hlim hqn
              rcases key with t0 | ⟨t0, h0, t1⟩
              · have t01 : ¬ (0 : Int) < v.size := by simpa using t0
                go_upto_region 22 with ((go_at_call 20; (with_reducible refine (CQ.out _).mono ?_); rintro e w1 ⟨rfl, hb1⟩; replace hbel := belStep hbel hb1; clear hb1))
                have hb5 := HB55.out.trans (hbel.mono HB55.out.size)
                have hB6 := (HB5.out _ hbel).set 2 (.int .i64 qn)
                have hR6 := (HR5.out _ hbel).far (a := ⟨M, 2, none⟩) (show M ≠ w.heap.size by omega) (.int .i64 qn)
                have hb6 := belSet hb5 ⟨M, 2, none⟩ (.int .i64 qn) (Nat.le_of_lt hRM)
                clear m0 m1 m2 m3 m4 r0 r1 r2 r3 r4 rF mF HB5 HR5 HB55 hb5 hbel
                generalize World.setCell _ ⟨M, 2, none⟩ (.int .i64 qn) = W6 at *
                have HFIN := Lib.hid (fin_yes HC1.out HLIM.out HSO.out HGR.out HSG.out)
                have CR := Lib.hid (fun u => ref_Right g (0) (qn) 0 false u)
                cases hr : (⟨g, 0, qn, false, 0⟩ : ThrV).right with
                | false =>
                  rw [hr] at CR
                  have HV := Lib.hid (show thF s.toList = none by rw [HFIN.out, hr]; rfl)
                  clear hr HFIN
                  have hbel : Below W6.heap.size W6 W6 := Below.refl _ _
                  have m0 := keep (hB6.cell (j := 0) rfl)
                  have m1 := keep (hB6.cell (j := 1) rfl)
                  have m2 := keep (hB6.cell (j := 2) rfl)
                  have m3 := keep (hB6.cell (j := 3) rfl)
                  have m4 := keep (hB6.cell (j := 4) rfl)
                  have r0 := keep (hR6.cell (j := 0) rfl)
                  have r1 := keep (hR6.cell (j := 1) rfl)
                  have r2 := keep (hR6.cell (j := 2) rfl)
                  have r3 := keep (hR6.cell (j := 3) rfl)
                  have r4 := keep (hR6.cell (j := 4) rfl)
                  have rF := hR6.keepF
                  have HBR := Lib.hid hR6.keepB
                  have HBW := Lib.hid hb6
                  go_wp2_with ((go_at_call 22; (with_reducible refine (CR.out _).mono ?_); rintro e w1 ⟨rfl, hb1⟩; replace hbel := belStep hbel hb1; clear hb1))
                  exact refRead_ret _ _ _ 0 0 0 0 false false _ rfl rfl ((((((HBR.out _ hbel).set 0 _).set 1 _).set 2 _).set 3 _).set 4 _) ⟨.inr ⟨HV.out, rfl⟩, by repeat (first | exact HBW.out.trans (hbel.mono HBW.out.size) | refine belSet ?_ _ _ (Nat.le_refl _))⟩
                | true =>
                  rw [hr] at CR
                  have HV := Lib.hid (show thF s.toList = some (⟨g, 0, qn, false, 0⟩ : ThrV) by rw [HFIN.out, hr]; rfl)
                  clear hr HFIN
                  have hbel : Below W6.heap.size W6 W6 := Below.refl _ _
                  have m0 := keep (hB6.cell (j := 0) rfl)
                  have m1 := keep (hB6.cell (j := 1) rfl)
                  have m2 := keep (hB6.cell (j := 2) rfl)
                  have m3 := keep (hB6.cell (j := 3) rfl)
                  have m4 := keep (hB6.cell (j := 4) rfl)
                  have r0 := keep (hR6.cell (j := 0) rfl)
                  have r1 := keep (hR6.cell (j := 1) rfl)
                  have r2 := keep (hR6.cell (j := 2) rfl)
                  have r3 := keep (hR6.cell (j := 3) rfl)
                  have r4 := keep (hR6.cell (j := 4) rfl)
                  have rF := hR6.keepF
                  have HBR := Lib.hid hR6.keepB
                  have HBW := Lib.hid hb6
                  go_wp2_with ((go_at_call 22; (with_reducible refine (CR.out _).mono ?_); rintro e w1 ⟨rfl, hb1⟩; replace hbel := belStep hbel hb1; clear hb1))
                  exact refRead_ret _ _ _ g (0) (qn) 0 false true _ rfl rfl ((((((HBR.out _ hbel).set 0 _).set 1 _).set 2 _).set 3 _).set 4 _) ⟨.inl ⟨_, HV.out, rfl⟩, by repeat (first | exact HBW.out.trans (hbel.mono HBW.out.size) | refine belSet ?_ _ _ (Nat.le_refl _))⟩
              · have t01 : (0 : Int) < v.size := by simpa using t0
                have hv1 : ((v.size : Int) - 1).toNat = v.size - 1 := by omega
                go_upto_region 22 with ((go_at_call 20; (with_reducible refine (CQ.out _).mono ?_); rintro e w1 ⟨rfl, hb1⟩; replace hbel := belStep hbel hb1; clear hb1))
                have hb5 := HB55.out.trans (hbel.mono HB55.out.size)
                have hB6 := (HB5.out _ hbel).set 2 (.int .i64 qn)
                have hR6 := (HR5.out _ hbel).far (a := ⟨M, 2, none⟩) (show M ≠ w.heap.size by omega) (.int .i64 qn)
                have hb6 := belSet hb5 ⟨M, 2, none⟩ (.int .i64 qn) (Nat.le_of_lt hRM)
                clear m0 m1 m2 m3 m4 r0 r1 r2 r3 r4 rF mF HB5 HR5 HB55 hb5 hbel
                generalize World.setCell _ ⟨M, 2, none⟩ (.int .i64 qn) = W6 at *
                have HFIN := Lib.hid (fin_yes HC1.out HLIM.out HSO.out HGR.out HSG.out)
                have CR := Lib.hid (fun u => ref_Right g (0) (qn) 0 false u)
                cases hr : (⟨g, 0, qn, false, 0⟩ : ThrV).right with
                | false =>
                  rw [hr] at CR
                  have HV := Lib.hid (show thF s.toList = none by rw [HFIN.out, hr]; rfl)
                  clear hr HFIN
                  have hbel : Below W6.heap.size W6 W6 := Below.refl _ _
                  have m0 := keep (hB6.cell (j := 0) rfl)
                  have m1 := keep (hB6.cell (j := 1) rfl)
                  have m2 := keep (hB6.cell (j := 2) rfl)
                  have m3 := keep (hB6.cell (j := 3) rfl)
                  have m4 := keep (hB6.cell (j := 4) rfl)
                  have r0 := keep (hR6.cell (j := 0) rfl)
                  have r1 := keep (hR6.cell (j := 1) rfl)
                  have r2 := keep (hR6.cell (j := 2) rfl)
                  have r3 := keep (hR6.cell (j := 3) rfl)
                  have r4 := keep (hR6.cell (j := 4) rfl)
                  have rF := hR6.keepF
                  have HBR := Lib.hid hR6.keepB
                  have HBW := Lib.hid hb6
                  go_wp2_with ((go_at_call 22; (with_reducible refine (CR.out _).mono ?_); rintro e w1 ⟨rfl, hb1⟩; replace hbel := belStep hbel hb1; clear hb1))
                  exact refRead_ret _ _ _ 0 0 0 0 false false _ rfl rfl ((((((HBR.out _ hbel).set 0 _).set 1 _).set 2 _).set 3 _).set 4 _) ⟨.inr ⟨HV.out, rfl⟩, by repeat (first | exact HBW.out.trans (hbel.mono HBW.out.size) | refine belSet ?_ _ _ (Nat.le_refl _))⟩
                | true =>
                  rw [hr] at CR
                  have HV := Lib.hid (show thF s.toList = some (⟨g, 0, qn, false, 0⟩ : ThrV) by rw [HFIN.out, hr]; rfl)
                  clear hr HFIN
                  have hbel : Below W6.heap.size W6 W6 := Below.refl _ _
                  have m0 := keep (hB6.cell (j := 0) rfl)
                  have m1 := keep (hB6.cell (j := 1) rfl)
                  have m2 := keep (hB6.cell (j := 2) rfl)
                  have m3 := keep (hB6.cell (j := 3) rfl)
                  have m4 := keep (hB6.cell (j := 4) rfl)
                  have r0 := keep (hR6.cell (j := 0) rfl)
                  have r1 := keep (hR6.cell (j := 1) rfl)
                  have r2 := keep (hR6.cell (j := 2) rfl)
                  have r3 := keep (hR6.cell (j := 3) rfl)
                  have r4 := keep (hR6.cell (j := 4) rfl)
                  have rF := hR6.keepF
                  have HBR := Lib.hid hR6.keepB
                  have HBW := Lib.hid hb6
                  go_wp2_with ((go_at_call 22; (with_reducible refine (CR.out _).mono ?_); rintro e w1 ⟨rfl, hb1⟩; replace hbel := belStep hbel hb1; clear hb1))
                  exact refRead_ret _ _ _ g (0) (qn) 0 false true _ rfl rfl ((((((HBR.out _ hbel).set 0 _).set 1 _).set 2 _).set 3 _).set 4 _) ⟨.inl ⟨_, HV.out, rfl⟩, by repeat (first | exact HBW.out.trans (hbel.mono HBW.out.size) | refine belSet ?_ _ _ (Nat.le_refl _))⟩
  · rw [hfi] at CF1
    have HV := Lib.hid (fin_no1 hc1)
    clear hfi hc1
    go_enter Tryz.func19, Tryz.ntmps19
    go_upto_region 2 with fail
    have rr0 : ((w.alloc (.cells #[.int .i64 0, .int .i64 0, .int .i64 0, .bool false, .int .i64 0] 54)).alloc (.cells #[.int .i64 (-1), .int .i64 0, .int .i64 0, .bool false, .int .i64 0] 54)).cell? ⟨w.heap.size, 0, none⟩ = some (.int .i64 0) := by first | (simp; done) | (rw [World.cell?_alloc_at _ _ _ _ (by simp)]; rfl) | (rw [World.cell?_alloc_past _ _ _ (by simp <;> omega), World.cell?_alloc_at _ _ _ _ (by simp)]; rfl) | (rw [World.cell?_alloc_past _ _ _ (by simp <;> omega), World.cell?_alloc_past _ _ _ (by simp <;> omega), World.cell?_alloc_at _ _ _ _ (by simp)]; rfl)
    have rr1 : ((w.alloc (.cells #[.int .i64 0, .int .i64 0, .int .i64 0, .bool false, .int .i64 0] 54)).alloc (.cells #[.int .i64 (-1), .int .i64 0, .int .i64 0, .bool false, .int .i64 0] 54)).cell? ⟨w.heap.size, 1, none⟩ = some (.int .i64 0) := by first | (simp; done) | (rw [World.cell?_alloc_at _ _ _ _ (by simp)]; rfl) | (rw [World.cell?_alloc_past _ _ _ (by simp <;> omega), World.cell?_alloc_at _ _ _ _ (by simp)]; rfl) | (rw [World.cell?_alloc_past _ _ _ (by simp <;> omega), World.cell?_alloc_past _ _ _ (by simp <;> omega), World.cell?_alloc_at _ _ _ _ (by simp)]; rfl)
    have rr2 : ((w.alloc (.cells #[.int .i64 0, .int .i64 0, .int .i64 0, .bool false, .int .i64 0] 54)).alloc (.cells #[.int .i64 (-1), .int .i64 0, .int .i64 0, .bool false, .int .i64 0] 54)).cell? ⟨w.heap.size, 2, none⟩ = some (.int .i64 0) := by first | (simp; done) | (rw [World.cell?_alloc_at _ _ _ _ (by simp)]; rfl) | (rw [World.cell?_alloc_past _ _ _ (by simp <;> omega), World.cell?_alloc_at _ _ _ _ (by simp)]; rfl) | (rw [World.cell?_alloc_past _ _ _ (by simp <;> omega), World.cell?_alloc_past _ _ _ (by simp <;> omega), World.cell?_alloc_at _ _ _ _ (by simp)]; rfl)
    have rr3 : ((w.alloc (.cells #[.int .i64 0, .int .i64 0, .int .i64 0, .bool false, .int .i64 0] 54)).alloc (.cells #[.int .i64 (-1), .int .i64 0, .int .i64 0, .bool false, .int .i64 0] 54)).cell? ⟨w.heap.size, 3, none⟩ = some (.bool false) := by first | (simp; done) | (rw [World.cell?_alloc_at _ _ _ _ (by simp)]; rfl) | (rw [World.cell?_alloc_past _ _ _ (by simp <;> omega), World.cell?_alloc_at _ _ _ _ (by simp)]; rfl) | (rw [World.cell?_alloc_past _ _ _ (by simp <;> omega), World.cell?_alloc_past _ _ _ (by simp <;> omega), World.cell?_alloc_at _ _ _ _ (by simp)]; rfl)
    have rr4 : ((w.alloc (.cells #[.int .i64 0, .int .i64 0, .int .i64 0, .bool false, .int .i64 0] 54)).alloc (.cells #[.int .i64 (-1), .int .i64 0, .int .i64 0, .bool false, .int .i64 0] 54)).cell? ⟨w.heap.size, 4, none⟩ = some (.int .i64 0) := by first | (simp; done) | (rw [World.cell?_alloc_at _ _ _ _ (by simp)]; rfl) | (rw [World.cell?_alloc_past _ _ _ (by simp <;> omega), World.cell?_alloc_at _ _ _ _ (by simp)]; rfl) | (rw [World.cell?_alloc_past _ _ _ (by simp <;> omega), World.cell?_alloc_past _ _ _ (by simp <;> omega), World.cell?_alloc_at _ _ _ _ (by simp)]; rfl)
    have tt0 : ((w.alloc (.cells #[.int .i64 0, .int .i64 0, .int .i64 0, .bool false, .int .i64 0] 54)).alloc (.cells #[.int .i64 (-1), .int .i64 0, .int .i64 0, .bool false, .int .i64 0] 54)).cell? ⟨w.heap.size + 1, 0, none⟩ = some (.int .i64 (-1)) := by first | (simp; done) | (rw [World.cell?_alloc_at _ _ _ _ (by simp)]; rfl) | (rw [World.cell?_alloc_past _ _ _ (by simp <;> omega), World.cell?_alloc_at _ _ _ _ (by simp)]; rfl) | (rw [World.cell?_alloc_past _ _ _ (by simp <;> omega), World.cell?_alloc_past _ _ _ (by simp <;> omega), World.cell?_alloc_at _ _ _ _ (by simp)]; rfl)
    have tt1 : ((w.alloc (.cells #[.int .i64 0, .int .i64 0, .int .i64 0, .bool false, .int .i64 0] 54)).alloc (.cells #[.int .i64 (-1), .int .i64 0, .int .i64 0, .bool false, .int .i64 0] 54)).cell? ⟨w.heap.size + 1, 1, none⟩ = some (.int .i64 0) := by first | (simp; done) | (rw [World.cell?_alloc_at _ _ _ _ (by simp)]; rfl) | (rw [World.cell?_alloc_past _ _ _ (by simp <;> omega), World.cell?_alloc_at _ _ _ _ (by simp)]; rfl) | (rw [World.cell?_alloc_past _ _ _ (by simp <;> omega), World.cell?_alloc_past _ _ _ (by simp <;> omega), World.cell?_alloc_at _ _ _ _ (by simp)]; rfl)
    have tt2 : ((w.alloc (.cells #[.int .i64 0, .int .i64 0, .int .i64 0, .bool false, .int .i64 0] 54)).alloc (.cells #[.int .i64 (-1), .int .i64 0, .int .i64 0, .bool false, .int .i64 0] 54)).cell? ⟨w.heap.size + 1, 2, none⟩ = some (.int .i64 0) := by first | (simp; done) | (rw [World.cell?_alloc_at _ _ _ _ (by simp)]; rfl) | (rw [World.cell?_alloc_past _ _ _ (by simp <;> omega), World.cell?_alloc_at _ _ _ _ (by simp)]; rfl) | (rw [World.cell?_alloc_past _ _ _ (by simp <;> omega), World.cell?_alloc_past _ _ _ (by simp <;> omega), World.cell?_alloc_at _ _ _ _ (by simp)]; rfl)
    have tt3 : ((w.alloc (.cells #[.int .i64 0, .int .i64 0, .int .i64 0, .bool false, .int .i64 0] 54)).alloc (.cells #[.int .i64 (-1), .int .i64 0, .int .i64 0, .bool false, .int .i64 0] 54)).cell? ⟨w.heap.size + 1, 3, none⟩ = some (.bool false) := by first | (simp; done) | (rw [World.cell?_alloc_at _ _ _ _ (by simp)]; rfl) | (rw [World.cell?_alloc_past _ _ _ (by simp <;> omega), World.cell?_alloc_at _ _ _ _ (by simp)]; rfl) | (rw [World.cell?_alloc_past _ _ _ (by simp <;> omega), World.cell?_alloc_past _ _ _ (by simp <;> omega), World.cell?_alloc_at _ _ _ _ (by simp)]; rfl)
    have tt4 : ((w.alloc (.cells #[.int .i64 0, .int .i64 0, .int .i64 0, .bool false, .int .i64 0] 54)).alloc (.cells #[.int .i64 (-1), .int .i64 0, .int .i64 0, .bool false, .int .i64 0] 54)).cell? ⟨w.heap.size + 1, 4, none⟩ = some (.int .i64 0) := by first | (simp; done) | (rw [World.cell?_alloc_at _ _ _ _ (by simp)]; rfl) | (rw [World.cell?_alloc_past _ _ _ (by simp <;> omega), World.cell?_alloc_at _ _ _ _ (by simp)]; rfl) | (rw [World.cell?_alloc_past _ _ _ (by simp <;> omega), World.cell?_alloc_past _ _ _ (by simp <;> omega), World.cell?_alloc_at _ _ _ _ (by simp)]; rfl)
    have hb2 := (by repeat (first | exact hbel | refine belAlloc ?_ _ | refine belDrew ?_ | refine belSet ?_ _ _ (by simp)) : Below w.heap.size w ((w.alloc (.cells #[.int .i64 0, .int .i64 0, .int .i64 0, .bool false, .int .i64 0] 54)).alloc (.cells #[.int .i64 (-1), .int .i64 0, .int .i64 0, .bool false, .int .i64 0] 54)))
    replace hw := belStep hw hb2
    have rrB : Blk ((w.alloc (.cells #[.int .i64 0, .int .i64 0, .int .i64 0, .bool false, .int .i64 0] 54)).alloc (.cells #[.int .i64 (-1), .int .i64 0, .int .i64 0, .bool false, .int .i64 0] 54)) (w.heap.size) [.int .i64 0, .int .i64 0, .int .i64 0, .bool false, .int .i64 0] 54 := (Blk.at (by simp) : Blk (w.alloc (.cells #[.int .i64 0, .int .i64 0, .int .i64 0, .bool false, .int .i64 0] 54)) (w.heap.size) [.int .i64 0, .int .i64 0, .int .i64 0, .bool false, .int .i64 0] 54).later (by repeat (first | exact Below.refl _ _ | refine belAlloc ?_ _))
    have rrF := Blk.keepF rrB
    replace rrB := Blk.keepB rrB
    have ttB : Blk ((w.alloc (.cells #[.int .i64 0, .int .i64 0, .int .i64 0, .bool false, .int .i64 0] 54)).alloc (.cells #[.int .i64 (-1), .int .i64 0, .int .i64 0, .bool false, .int .i64 0] 54)) (w.heap.size + 1) [.int .i64 (-1), .int .i64 0, .int .i64 0, .bool false, .int .i64 0] 54 := (Blk.at (by simp) : Blk ((w.alloc (.cells #[.int .i64 0, .int .i64 0, .int .i64 0, .bool false, .int .i64 0] 54)).alloc (.cells #[.int .i64 (-1), .int .i64 0, .int .i64 0, .bool false, .int .i64 0] 54)) (w.heap.size + 1) [.int .i64 (-1), .int .i64 0, .int .i64 0, .bool false, .int .i64 0] 54).later (by repeat (first | exact Below.refl _ _ | refine belAlloc ?_ _))
    have ttF := Blk.keepF ttB
    replace ttB := Blk.keepB ttB
    clear hb2 hbel
    generalize (w.alloc (.cells #[.int .i64 0, .int .i64 0, .int .i64 0, .bool false, .int .i64 0] 54)).alloc (.cells #[.int .i64 (-1), .int .i64 0, .int .i64 0, .bool false, .int .i64 0] 54) = W1 at *
    replace rr0 := keep rr0
    replace rr1 := keep rr1
    replace rr2 := keep rr2
    replace rr3 := keep rr3
    replace rr4 := keep rr4
    replace tt0 := keep tt0
    replace tt1 := keep tt1
    replace tt2 := keep tt2
    replace tt3 := keep tt3
    replace tt4 := keep tt4
    have hbel : Below W1.heap.size W1 W1 := Below.refl _ _
    skip
    go_wp2_with (go_at_call 36; (with_reducible refine (CF1.out _).mono ?_); rintro e w2 ⟨rfl, rfl⟩)
    exact refRead_ret _ _ _ 0 0 0 0 false false _ rfl rfl ((((((rrB _ hbel).set 0 _).set 1 _).set 2 _).set 3 _).set 4 _) ⟨.inr ⟨HV.out, rfl⟩, by repeat (first | exact hw | refine belSet ?_ _ _ (Nat.le_refl _))⟩
end Go.Proofs.YtcaenbobfneejaaGreatDoor
