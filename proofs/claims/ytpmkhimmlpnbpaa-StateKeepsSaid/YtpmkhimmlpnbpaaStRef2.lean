
/- bilgeref24.With: contract. -/
import Derived.Test.YtpmkhimmlpnbpaaStRef
namespace Go.Proofs.Ytpmkhimmlpnbpaa
open Go.RowKit
set_option linter.unusedVariables false
set_option linter.unusedSimpArgs false
theorem gt_str (x y : ByteArray) : (!Op.bytesLess y.toList x.toList && !y.toList == x.toList) = Op.bytesLess x.toList y.toList := by
  rw [bytesLess_iff, bytesLess_iff]
  by_cases h1 : y.toList < x.toList
  · rw [decide_eq_true h1, decide_eq_false (fun h2 => List.lt_irrefl _ (List.lt_trans h1 h2))]; rfl
  · rw [decide_eq_false h1]
    by_cases h2 : y.toList = x.toList
    · rw [h2, decide_eq_false (List.lt_irrefl _), beq_self_eq_true]; rfl
    · rw [beq_eq_false_iff_ne.2 h2]
      by_cases h3 : x.toList < y.toList
      · rw [decide_eq_true h3]; rfl
      · exact absurd (List.le_antisymm (List.not_lt.1 h3) (List.not_lt.1 h1)) h2
def oF (l : List EntV) (x : EntV) (p k : Nat) : List EntV := if p < k then l.take p ++ x :: (l.take k).drop p else l.take k
theorem oF_len (l : List EntV) (x : EntV) (p k : Nat) : (oF l x p k).length ≤ l.length + 1 := by
  unfold oF
  split <;> simp <;> omega
theorem oF_done {l : List EntV} {x y : EntV} {p k : Nat} (h : p < k) (hy : l[k]? = some y) : oF l x p (k + 1) = oF l x p k ++ [y] := by
  unfold oF; rw [if_pos h, if_pos (by omega)]; exact ins_done h hy
theorem oF_not {l : List EntV} {x y : EntV} {p k : Nat} (h : k < p) (hy : l[k]? = some y) : oF l x p (k + 1) = oF l x p k ++ [y] := by
  unfold oF; rw [if_neg (by omega), if_neg (by omega)]; exact takeG_next hy
theorem oF_here {l : List EntV} {x y : EntV} {p : Nat} (hy : l[p]? = some y) : oF l x p (p + 1) = (oF l x p p ++ [x]) ++ [y] := by
  unfold oF; rw [if_pos (by omega), if_neg (Nat.lt_irrefl _)]; exact ins_here hy
theorem oF_end {l : List EntV} {x : EntV} {p : Nat} (h : p < l.length) : oF l x p l.length = l.take p ++ x :: l.drop p := by
  unfold oF; rw [if_pos h, List.take_length]
theorem oF_full {l : List EntV} {x : EntV} {p : Nat} (h : p = l.length) : oF l x p l.length ++ [x] = l.take p ++ x :: l.drop p := by
  unfold oF; rw [if_neg (by omega), h, List.take_length, List.drop_length]
theorem rwith_ret (W : World) (R : Nat) (tm : Array Value) (r : Int) (s : Value) (x y z : Bool) (Q : Ending → World → Prop) (h2 : tm.getD 4 undef = .pointer (some ⟨R, 0, none⟩)) (hb : Blk W R [.int .i64 r, s, .bool x, .bool y, .bool z] 25) (hR : Q (.returned (.agg #[.int .i64 r, s, .bool x, .bool y, .bool z])) W) :
    bodyPost Try.prog Try.f27 Q Exit.ret { tmps := tm, defers := [] } W := by
  have z0 := hb.cell (j := 0) rfl
  have z1 := hb.cell (j := 1) rfl
  have z2 := hb.cell (j := 2) rfl
  have z3 := hb.cell (j := 3) rfl
  have z4 := hb.cell (j := 4) rfl
  refine bodyPost_ret (v := .agg #[.int .i64 r, s, .bool x, .bool y, .bool z]) ?_ rfl hR
  simp only [Array.getD_eq_getD_getElem?] at h2
  simp [results, Try.results27, go_sem, h2, z0, z1, z2, z3, z4]
set_option maxRecDepth 100000 in
set_option maxHeartbeats 16000000 in
theorem sref_With (r : Int) (a : Option Addr) (n c : Nat) (o : On) (L : List EntV) (x : EntV) (w : World) (hl : L.length = n) (hR : Row w a n c 12 (L.flatMap EntV.cells)) (hn : n ≤ 10000) :
    Calls Try.prog 27 #[.agg #[.int .i64 r, .slice a n c, .bool o.a, .bool o.b, .bool o.c], .agg #[.string x.pod.id, .int .i64 x.pod.prio, .bool x.pod.crit, .int .i64 x.pod.r0, .int .i64 x.pod.r1, .int .i64 x.pod.r2, .int .i64 x.pod.l0, .int .i64 x.pod.l1, .int .i64 x.pod.l2, .string x.pod.img, .int .i64 x.pod.size, .int .i64 x.phase]] w fun e w' => ∃ v, e = .returned (.agg #[.int .i64 r, v, .bool o.a, .bool o.b, .bool o.c]) ∧ OwnR w' w.heap.size 46 12 v (withR L x).length ((withR L x).flatMap EntV.cells) ∧ Below w.heap.size w w' := by
  have hbd : n ≤ c ∧ c ≤ 9223372036854775807 := by obtain ⟨_, h1, h2, _⟩ := hR; unfold maxLen at h2; exact ⟨h1, h2⟩
  obtain ⟨hbd1, hbd2⟩ := hbd
  have HR := Lib.hid hR
  subst hl
  clear hR
  have hw : Below w.heap.size w w := Below.refl _ _
  have hbel := hw
  go_enter Try.func27, Try.ntmps27
  go_upto_region 1 with fail
  have k1 : Below w.heap.size w (w.alloc (.cells #[.int .i64 r, .slice a L.length c, .bool o.a, .bool o.b, .bool o.c] 25)) := belAlloc (Below.refl _ _) _
  have k2 : Below (w.alloc (.cells #[.int .i64 r, .slice a L.length c, .bool o.a, .bool o.b, .bool o.c] 25)).heap.size (w.alloc (.cells #[.int .i64 r, .slice a L.length c, .bool o.a, .bool o.b, .bool o.c] 25)) ((w.alloc (.cells #[.int .i64 r, .slice a L.length c, .bool o.a, .bool o.b, .bool o.c] 25)).alloc (.cells #[.string x.pod.id, .int .i64 x.pod.prio, .bool x.pod.crit, .int .i64 x.pod.r0, .int .i64 x.pod.r1, .int .i64 x.pod.r2, .int .i64 x.pod.l0, .int .i64 x.pod.l1, .int .i64 x.pod.l2, .string x.pod.img, .int .i64 x.pod.size, .int .i64 x.phase] 46)) := belAlloc (Below.refl _ _) _
  have k3 : Below ((w.alloc (.cells #[.int .i64 r, .slice a L.length c, .bool o.a, .bool o.b, .bool o.c] 25)).alloc (.cells #[.string x.pod.id, .int .i64 x.pod.prio, .bool x.pod.crit, .int .i64 x.pod.r0, .int .i64 x.pod.r1, .int .i64 x.pod.r2, .int .i64 x.pod.l0, .int .i64 x.pod.l1, .int .i64 x.pod.l2, .string x.pod.img, .int .i64 x.pod.size, .int .i64 x.phase] 46)).heap.size ((w.alloc (.cells #[.int .i64 r, .slice a L.length c, .bool o.a, .bool o.b, .bool o.c] 25)).alloc (.cells #[.string x.pod.id, .int .i64 x.pod.prio, .bool x.pod.crit, .int .i64 x.pod.r0, .int .i64 x.pod.r1, .int .i64 x.pod.r2, .int .i64 x.pod.l0, .int .i64 x.pod.l1, .int .i64 x.pod.l2, .string x.pod.img, .int .i64 x.pod.size, .int .i64 x.phase] 46)) (((w.alloc (.cells #[.int .i64 r, .slice a L.length c, .bool o.a, .bool o.b, .bool o.c] 25)).alloc (.cells #[.string x.pod.id, .int .i64 x.pod.prio, .bool x.pod.crit, .int .i64 x.pod.r0, .int .i64 x.pod.r1, .int .i64 x.pod.r2, .int .i64 x.pod.l0, .int .i64 x.pod.l1, .int .i64 x.pod.l2, .string x.pod.img, .int .i64 x.pod.size, .int .i64 x.phase] 46)).alloc (.cells #[.int .i64 0, .slice none 0 0, .bool false, .bool false, .bool false] 25)) := belAlloc (Below.refl _ _) _
  have HS := Lib.hid (((Blk.new w [.int .i64 r, .slice a L.length c, .bool o.a, .bool o.b, .bool o.c] 25).later k2).later k3)
  have HE := Lib.hid ((show Blk ((w.alloc (.cells #[.int .i64 r, .slice a L.length c, .bool o.a, .bool o.b, .bool o.c] 25)).alloc (.cells #[.string x.pod.id, .int .i64 x.pod.prio, .bool x.pod.crit, .int .i64 x.pod.r0, .int .i64 x.pod.r1, .int .i64 x.pod.r2, .int .i64 x.pod.l0, .int .i64 x.pod.l1, .int .i64 x.pod.l2, .string x.pod.img, .int .i64 x.pod.size, .int .i64 x.phase] 46)) (w.heap.size + 1) [.string x.pod.id, .int .i64 x.pod.prio, .bool x.pod.crit, .int .i64 x.pod.r0, .int .i64 x.pod.r1, .int .i64 x.pod.r2, .int .i64 x.pod.l0, .int .i64 x.pod.l1, .int .i64 x.pod.l2, .string x.pod.img, .int .i64 x.pod.size, .int .i64 x.phase] 46 from Blk.at (C := [.string x.pod.id, .int .i64 x.pod.prio, .bool x.pod.crit, .int .i64 x.pod.r0, .int .i64 x.pod.r1, .int .i64 x.pod.r2, .int .i64 x.pod.l0, .int .i64 x.pod.l1, .int .i64 x.pod.l2, .string x.pod.img, .int .i64 x.pod.size, .int .i64 x.phase]) (by simp)).later k3)
  have HZ := Lib.hid (show Blk (((w.alloc (.cells #[.int .i64 r, .slice a L.length c, .bool o.a, .bool o.b, .bool o.c] 25)).alloc (.cells #[.string x.pod.id, .int .i64 x.pod.prio, .bool x.pod.crit, .int .i64 x.pod.r0, .int .i64 x.pod.r1, .int .i64 x.pod.r2, .int .i64 x.pod.l0, .int .i64 x.pod.l1, .int .i64 x.pod.l2, .string x.pod.img, .int .i64 x.pod.size, .int .i64 x.phase] 46)).alloc (.cells #[.int .i64 0, .slice none 0 0, .bool false, .bool false, .bool false] 25)) (w.heap.size + 1 + 1) [.int .i64 0, .slice none 0 0, .bool false, .bool false, .bool false] 25 from Blk.at (C := [.int .i64 0, .slice none 0 0, .bool false, .bool false, .bool false]) (by simp))
  have HW1 := Lib.hid (belStep (belStep k1 k2) k3)
  clear k1 k2 k3 hw hbel
  generalize (((w.alloc (.cells #[.int .i64 r, .slice a L.length c, .bool o.a, .bool o.b, .bool o.c] 25)).alloc (.cells #[.string x.pod.id, .int .i64 x.pod.prio, .bool x.pod.crit, .int .i64 x.pod.r0, .int .i64 x.pod.r1, .int .i64 x.pod.r2, .int .i64 x.pod.l0, .int .i64 x.pod.l1, .int .i64 x.pod.l2, .string x.pod.img, .int .i64 x.pod.size, .int .i64 x.phase] 46)).alloc (.cells #[.int .i64 0, .slice none 0 0, .bool false, .bool false, .bool false] 25)) = W1 at *
  have hz1 : w.heap.size + 3 ≤ W1.heap.size := by have := HZ.out.lt; omega
  have hbel : Below W1.heap.size W1 W1 := Below.refl _ _
  have s0 := HS.out.cell (j := 0) rfl
  have s1 := HS.out.cell (j := 1) rfl
  have s2 := HS.out.cell (j := 2) rfl
  have s3 := HS.out.cell (j := 3) rfl
  have s4 := HS.out.cell (j := 4) rfl
  have e0 := HE.out.cell (j := 0) rfl
  have CW := Lib.hid (sref_Without r a L.length c o L x.pod.id W1 rfl (HR.out.later HW1.out) (by omega))
  have hfl : ∀ (v : Value) (u : World), (Instr.field 25 (.agg #[.int .i64 r, v, .bool o.a, .bool o.b, .bool o.c]) 1).run Try.prog u = .ok v u := fun _ _ => by kernel_rfl
  have hfl9 := List.length_filter_le (keepF x.pod.id) L
  obtain ⟨l, hl9⟩ : ∃ l, L.filter (keepF x.pod.id) = l := ⟨_, rfl⟩
  have HRES := Lib.hid (show withR L x = l.take (pgF l x.pod.id) ++ x :: l.drop (pgF l x.pod.id) from by unfold withR; rw [hl9])
  rw [hl9] at CW hfl9
  clear hl9
  go_upto_region 2 with (go_at_call 28; (with_reducible refine (CW.out).mono ?_); rintro e W2 ⟨v0, rfl, ho2, hb2⟩; obtain ⟨la, lC, rfl, hrow⟩ := rowR_of_own ho2)
  clear s0 s1 s2 s3 s4 e0 hfl CW ho2 hbel
  have HRL := Lib.hid hrow
  have hbl : l.length ≤ lC ∧ lC ≤ 9223372036854775807 := by obtain ⟨_, h1, h2, _⟩ := hrow; unfold maxLen at h2; exact ⟨h1, h2⟩
  obtain ⟨hbl1, hbl2⟩ := hbl
  clear hrow
  replace HS := Lib.hid (HS.out.later hb2)
  replace HE := Lib.hid (HE.out.later hb2)
  replace HZ := Lib.hid (HZ.out.later hb2)
  have HW2 := Lib.hid (belStep HW1.out hb2)
  have hz2 : w.heap.size + 3 ≤ W2.heap.size := by have := hb2.size; omega
  clear hb2
  have e0 := keep (HE.out.cell (j := 0) rfl)
  have e1 := keep (HE.out.cell (j := 1) rfl)
  have e2 := keep (HE.out.cell (j := 2) rfl)
  have e3 := keep (HE.out.cell (j := 3) rfl)
  have e4 := keep (HE.out.cell (j := 4) rfl)
  have e5 := keep (HE.out.cell (j := 5) rfl)
  have e6 := keep (HE.out.cell (j := 6) rfl)
  have e7 := keep (HE.out.cell (j := 7) rfl)
  have e8 := keep (HE.out.cell (j := 8) rfl)
  have e9 := keep (HE.out.cell (j := 9) rfl)
  have e10 := keep (HE.out.cell (j := 10) rfl)
  have e11 := keep (HE.out.cell (j := 11) rfl)
  obtain ⟨p, hp⟩ : ∃ p, pgF l x.pod.id = p := ⟨_, rfl⟩
  have hpl : p ≤ l.length := by rw [← hp]; exact tw_le _ _
  have HLO := Lib.hid (fun (k : Nat) (y : EntV) (hk : k < p) (hy : l[k]? = some y) => tw_lo (p := fun z => !gtS x.pod.id z) (show k < pgF l x.pod.id by rw [hp]; exact hk) hy)
  have HHI := Lib.hid (fun (y : EntV) (hy : l[p]? = some y) => tw_hi (p := fun z => !gtS x.pod.id z) (L := l) (show l[pgF l x.pod.id]? = some y by rw [hp]; exact hy))
  rw [hp] at HRES
  clear hp
  have hb0 : Below W2.heap.size W2 W2 := Below.refl _ _
  have hbel := hb0
  have hp0 : decide (p < 0) = false := decide_eq_false (by omega)
  go_wp2
  clear hbel
  go_loopw [6, 7, 8] (fun s9 dn i wr => ∃ k : Nat, k ≤ l.length ∧ i = .int .i64 k ∧ dn = .bool (decide (p < k)) ∧ OwnR wr W2.heap.size 46 12 s9 (oF l x p k).length ((oF l x p k).flatMap EntV.cells) ∧ Below W2.heap.size W2 wr) (fun _ _ i _ => l.length - (intOf i).toNat)
  case atStart => exact ⟨0, Nat.zero_le _, rfl, by rw [hp0], OwnR.nil _ _ _ _, hb0⟩
  case round =>
    obtain ⟨k, hk, rfl, rfl, hO, hbr⟩ := hrel
    clear hb0
    have HRW := Lib.hid (HRL.out.later hbr)
    have hol := oF_len l x p k
    have f0 := keepOn e0 hbr
    have f1 := keepOn e1 hbr
    have f2 := keepOn e2 hbr
    have f3 := keepOn e3 hbr
    have f4 := keepOn e4 hbr
    have f5 := keepOn e5 hbr
    have f6 := keepOn e6 hbr
    have f7 := keepOn e7 hbr
    have f8 := keepOn e8 hbr
    have f9 := keepOn e9 hbr
    have f10 := keepOn e10 hbr
    have f11 := keepOn e11 hbr
    have hbel : Below wr.heap.size wr wr := Below.refl _ _
    have HB9 := Lib.hid hbr
    clear hbr
    by_cases hlt : k < l.length
    · have hd : decide ((k : Int) < (l.length : Int)) = true := decide_eq_true (by omega)
      have hki : (k : Int) < (l.length : Int) := by omega
      have hk0 : (0 : Int) ≤ (k : Int) := by omega
      obtain ⟨y, hy⟩ : ∃ y, l[k]? = some y := ⟨l[k]'(hlt), List.getElem?_eq_getElem _⟩
      obtain ⟨bc, oc, ec, _, hcc⟩ := (HRW.out).elem EntV.cells_len (by omega) hy
      subst ec
      have c0 := keep (hcc 0 _ rfl)
      have c1 := keep (hcc 1 _ rfl)
      have c2 := keep (hcc 2 _ rfl)
      have c3 := keep (hcc 3 _ rfl)
      have c4 := keep (hcc 4 _ rfl)
      have c5 := keep (hcc 5 _ rfl)
      have c6 := keep (hcc 6 _ rfl)
      have c7 := keep (hcc 7 _ rfl)
      have c8 := keep (hcc 8 _ rfl)
      have c9 := keep (hcc 9 _ rfl)
      have c10 := keep (hcc 10 _ rfl)
      have c11 := keep (hcc 11 _ rfl)
      rw [Nat.add_zero] at c0
      clear hcc
      have HY := Lib.hid hy
      clear hy
      have key : p < k ∨ k < p ∨ k = p := by omega
      have hw : Below wr.heap.size wr wr := Below.refl _ _
      rcases key with h9 | h9 | h9
      · have hdn : decide (p < k) = true := decide_eq_true h9
        have HN := Lib.hid (oF_done (x := x) h9 HY.out)
        have hdk : decide (p < k + 1) = true := decide_eq_true (by omega)
        obtain ⟨N, hN⟩ : ∃ N, oF l x p k = N := ⟨_, rfl⟩
        rw [hN] at hO HN hol
        rw [hdn]
        clear hN hdn
        have HO0 := Lib.hid hO
        clear hO
        go_upto_region 7 with fail
        have kk := fun d os => belStep hbel (below_regrown _ d os)
        refine wp_region_quiet_below (by kernel_rfl) (by kernel_rfl) ?_
        repeat ((with_reducible refine wpQuiet_step (fun K hK => ?_)); go_simp; (try (rw [if_neg]; rotate_left; · decide)); first | ((with_reducible refine hK _ ?_); clear hK K) | (apply Exists.intro; refine ⟨fun _ => ?_, hK _ ?_⟩; (fail); clear hK K))
        refine wpQuiet_nil (fun w1 hw1 => ?_)
        replace hbel := belStep hbel (bel_of_class hw1)
        clear hw1 kk
        have hO := HO0.out.later hbel
        have HSA := Lib.hid (OwnR.alloc hO (.cells #[.string y.pod.id, .int .i64 y.pod.prio, .bool y.pod.crit, .int .i64 y.pod.r0, .int .i64 y.pod.r1, .int .i64 y.pod.r2, .int .i64 y.pod.l0, .int .i64 y.pod.l1, .int .i64 y.pod.l2, .string y.pod.img, .int .i64 y.pod.size, .int .i64 y.phase] 46))
        have HRXA := Lib.hid (row_new w1 y.cells 46 1 12 rfl (by unfold maxLen; omega))
        clear hO
        have hsz9 := hbel.size
        go_wp2_with (at_builtin; go_loud (refine wpList_app_row rfl _ _ 22 rfl W2.heap.size 46 _ 12 112 Try.underlying22 info_entI rfl (by decide) _ _ _ rfl HSA.out _ 1 1 y.cells rfl HRXA.out (one_entI y) ?c1 ?c2 ?c3 ?_))
        case c1 => simp only [maxLen]; omega
        case c2 => omega
        case c3 => have := HB9.out.size; simp; omega
        intro v' w2 ho' hb' _
        have HO2 := Lib.hid (own_snocG ho')
        have HB2 := Lib.hid (((HB9.out.trans (hbel.mono HB9.out.size)).trans ((belAlloc (Below.refl _ _) _ : Below w1.heap.size w1 (w1.alloc (.cells #[.string y.pod.id, .int .i64 y.pod.prio, .bool y.pod.crit, .int .i64 y.pod.r0, .int .i64 y.pod.r1, .int .i64 y.pod.r2, .int .i64 y.pod.l0, .int .i64 y.pod.l1, .int .i64 y.pod.l2, .string y.pod.img, .int .i64 y.pod.size, .int .i64 y.phase] 46))).mono (by have := HB9.out.size; omega))).trans hb')
        clear ho' hb'
        go_wp2
        go_roundw
        case rel => exact ⟨k + 1, by omega, by push_cast; rfl, by rw [hdk], by rw [HN.out]; exact HO2.out, HB2.out⟩
        case measure => simp [intOf] <;> omega
      · have hdn : decide (p < k) = false := decide_eq_false (by omega)
        have HN := Lib.hid (oF_not (x := x) h9 HY.out)
        have hgt : (!Op.bytesLess y.pod.id.toList x.pod.id.toList && !y.pod.id.toList == x.pod.id.toList) = false := by rw [gt_str]; have h := HLO.out k y h9 HY.out; simpa [gtS] using h
        have hdk : decide (p < k + 1) = false := decide_eq_false (by omega)
        obtain ⟨N, hN⟩ : ∃ N, oF l x p k = N := ⟨_, rfl⟩
        rw [hN] at hO HN hol
        rw [hdn]
        clear hN hdn
        have HO0 := Lib.hid hO
        clear hO
        have HGT := Lib.hid hgt
        clear hgt
        go_upto_region 7 with fail
        have kk := fun d os => belStep hbel (below_regrown _ d os)
        refine wp_region_quiet_below (by kernel_rfl) (by kernel_rfl) ?_
        repeat ((with_reducible refine wpQuiet_step (fun K hK => ?_)); go_simp; (try (rw [if_neg]; rotate_left; · decide)); first | ((with_reducible refine hK _ ?_); clear hK K) | (apply Exists.intro; refine ⟨fun _ => ?_, hK _ ?_⟩; (fail); clear hK K))
        refine wpQuiet_nil (fun w1 hw1 => ?_)
        replace hbel := belStep hbel (bel_of_class hw1)
        clear hw1 kk
        rw [HGT.out]
        have hO := HO0.out.later hbel
        have HSA := Lib.hid (OwnR.alloc hO (.cells #[.string y.pod.id, .int .i64 y.pod.prio, .bool y.pod.crit, .int .i64 y.pod.r0, .int .i64 y.pod.r1, .int .i64 y.pod.r2, .int .i64 y.pod.l0, .int .i64 y.pod.l1, .int .i64 y.pod.l2, .string y.pod.img, .int .i64 y.pod.size, .int .i64 y.phase] 46))
        have HRXA := Lib.hid (row_new w1 y.cells 46 1 12 rfl (by unfold maxLen; omega))
        clear hO
        have hsz9 := hbel.size
        go_wp2_with (at_builtin; go_loud (refine wpList_app_row rfl _ _ 22 rfl W2.heap.size 46 _ 12 112 Try.underlying22 info_entI rfl (by decide) _ _ _ rfl HSA.out _ 1 1 y.cells rfl HRXA.out (one_entI y) ?c1 ?c2 ?c3 ?_))
        case c1 => simp only [maxLen]; omega
        case c2 => omega
        case c3 => have := HB9.out.size; simp; omega
        intro v' w2 ho' hb' _
        have HO2 := Lib.hid (own_snocG ho')
        have HB2 := Lib.hid (((HB9.out.trans (hbel.mono HB9.out.size)).trans ((belAlloc (Below.refl _ _) _ : Below w1.heap.size w1 (w1.alloc (.cells #[.string y.pod.id, .int .i64 y.pod.prio, .bool y.pod.crit, .int .i64 y.pod.r0, .int .i64 y.pod.r1, .int .i64 y.pod.r2, .int .i64 y.pod.l0, .int .i64 y.pod.l1, .int .i64 y.pod.l2, .string y.pod.img, .int .i64 y.pod.size, .int .i64 y.phase] 46))).mono (by have := HB9.out.size; omega))).trans hb')
        clear ho' hb'
        go_wp2
        go_roundw
        case rel => exact ⟨k + 1, by omega, by push_cast; rfl, by rw [hdk], by rw [HN.out]; exact HO2.out, HB2.out⟩
        case measure => simp [intOf] <;> omega
      · subst h9
        have hdn : decide (k < k) = false := decide_eq_false (by omega)
        have HN := Lib.hid (oF_here (x := x) HY.out)
        have hgt : (!Op.bytesLess y.pod.id.toList x.pod.id.toList && !y.pod.id.toList == x.pod.id.toList) = true := by rw [gt_str]; have h := HHI.out y HY.out; simpa [gtS] using h
        have HGT := Lib.hid hgt
        clear hgt
        have hdk : decide (k < k + 1) = true := decide_eq_true (by omega)
        obtain ⟨N, hN⟩ : ∃ N, oF l x k k = N := ⟨_, rfl⟩
        rw [hN] at hO HN hol
        rw [hdn]
        clear hN hdn
        have HO0 := Lib.hid hO
        clear hO
        go_upto_region 7 with fail
        have kk := fun d os => belStep hbel (below_regrown _ d os)
        refine wp_region_quiet_below (by kernel_rfl) (by kernel_rfl) ?_
        repeat ((with_reducible refine wpQuiet_step (fun K hK => ?_)); go_simp; (try (rw [if_neg]; rotate_left; · decide)); first | ((with_reducible refine hK _ ?_); clear hK K) | (apply Exists.intro; refine ⟨fun _ => ?_, hK _ ?_⟩; (fail); clear hK K))
        refine wpQuiet_nil (fun w1 hw1 => ?_)
        replace hbel := belStep hbel (bel_of_class hw1)
        clear hw1 kk
        rw [HGT.out]
        have hO := HO0.out.later hbel
        have HSX := Lib.hid (OwnR.alloc hO (.cells #[.string x.pod.id, .int .i64 x.pod.prio, .bool x.pod.crit, .int .i64 x.pod.r0, .int .i64 x.pod.r1, .int .i64 x.pod.r2, .int .i64 x.pod.l0, .int .i64 x.pod.l1, .int .i64 x.pod.l2, .string x.pod.img, .int .i64 x.pod.size, .int .i64 x.phase] 46))
        have HRXX := Lib.hid (row_new w1 x.cells 46 1 12 rfl (by unfold maxLen; omega))
        clear hO
        have hsz9 := hbel.size
        go_wp2_with (at_builtin; refine wpList_app_row rfl _ _ 22 rfl W2.heap.size 46 _ 12 112 Try.underlying22 info_entI rfl (by decide) _ _ _ rfl HSX.out _ 1 1 x.cells rfl HRXX.out (one_entI x) ?c1 ?c2 ?c3 ?_)
        case c1 => simp only [maxLen]; omega
        case c2 => omega
        case c3 => have := HB9.out.size; simp; omega
        intro v' w2 ho' hb' _
        have HO2 := Lib.hid (own_snocG ho')
        have HB2 := Lib.hid (((HB9.out.trans (hbel.mono HB9.out.size)).trans ((belAlloc (Below.refl _ _) _ : Below w1.heap.size w1 (w1.alloc (.cells #[.string x.pod.id, .int .i64 x.pod.prio, .bool x.pod.crit, .int .i64 x.pod.r0, .int .i64 x.pod.r1, .int .i64 x.pod.r2, .int .i64 x.pod.l0, .int .i64 x.pod.l1, .int .i64 x.pod.l2, .string x.pod.img, .int .i64 x.pod.size, .int .i64 x.phase] 46))).mono (by have := HB9.out.size; omega))).trans hb')
        have HRY := Lib.hid (HRL.out.later HB2.out)
        have hyk := HRY.out.elem EntV.cells_len (by omega) HY.out
        clear c0 c1 c2 c3 c4 c5 c6 c7 c8 c9 c10 c11
        obtain ⟨bd, od, ed, _, hcd⟩ := hyk
        simp only [Option.some.injEq, Addr.mk.injEq, and_true] at ed
        obtain ⟨rfl, rfl⟩ := ed
        have c0 := hcd 0 _ rfl
        have c1 := hcd 1 _ rfl
        have c2 := hcd 2 _ rfl
        have c3 := hcd 3 _ rfl
        have c4 := hcd 4 _ rfl
        have c5 := hcd 5 _ rfl
        have c6 := hcd 6 _ rfl
        have c7 := hcd 7 _ rfl
        have c8 := hcd 8 _ rfl
        have c9 := hcd 9 _ rfl
        have c10 := hcd 10 _ rfl
        have c11 := hcd 11 _ rfl
        rw [Nat.add_zero] at c0
        clear hcd
        clear ho' hb' hbel
        have hbel : Below w2.heap.size w2 w2 := Below.refl _ _
        have hnl : (N ++ [x]).length ≤ l.length + 2 := by rw [List.length_append]; simp; omega
        obtain ⟨N2, hN2⟩ : ∃ M, N ++ [x] = M := ⟨_, rfl⟩
        rw [hN2] at HO2 HN hnl
        clear hN2
        have HSY := Lib.hid (OwnR.alloc HO2.out (.cells #[.string y.pod.id, .int .i64 y.pod.prio, .bool y.pod.crit, .int .i64 y.pod.r0, .int .i64 y.pod.r1, .int .i64 y.pod.r2, .int .i64 y.pod.l0, .int .i64 y.pod.l1, .int .i64 y.pod.l2, .string y.pod.img, .int .i64 y.pod.size, .int .i64 y.phase] 46))
        have HRXY := Lib.hid (row_new w2 y.cells 46 1 12 rfl (by unfold maxLen; omega))
        go_wp2_with (at_builtin; refine wpList_app_row rfl _ _ 22 rfl W2.heap.size 46 _ 12 112 Try.underlying22 info_entI rfl (by decide) _ _ _ rfl HSY.out _ 1 1 y.cells rfl HRXY.out (one_entI y) ?c1 ?c2 ?c3 ?_)
        case c1 => simp only [maxLen]; omega
        case c2 => omega
        case c3 => have := HB2.out.size; simp; omega
        intro v9 w9 ho9 hb9 _
        have HO9 := Lib.hid (own_snocG ho9)
        have HB19 := Lib.hid ((HB2.out.trans ((belAlloc (Below.refl _ _) _ : Below w2.heap.size w2 (w2.alloc (.cells #[.string y.pod.id, .int .i64 y.pod.prio, .bool y.pod.crit, .int .i64 y.pod.r0, .int .i64 y.pod.r1, .int .i64 y.pod.r2, .int .i64 y.pod.l0, .int .i64 y.pod.l1, .int .i64 y.pod.l2, .string y.pod.img, .int .i64 y.pod.size, .int .i64 y.phase] 46))).mono HB2.out.size)).trans hb9)
        clear ho9 hb9
        go_wp2
        go_roundw
        case rel => exact ⟨k + 1, by omega, by push_cast; rfl, by rw [hdk], by rw [HN.out]; exact HO9.out, HB19.out⟩
        case measure => simp [intOf] <;> omega
    · obtain rfl : k = l.length := by omega
      have hd : decide ((l.length : Int) < (l.length : Int)) = false := decide_eq_false (by omega)
      by_cases h9 : p < l.length
      · have hdn : decide (p < l.length) = true := decide_eq_true h9
        have HNE := Lib.hid (oF_end (x := x) h9)
        rw [HNE.out] at hO
        obtain ⟨N, hN⟩ : ∃ N, l.take p ++ x :: l.drop p = N := ⟨_, rfl⟩
        rw [hN] at hO
        have HNN := Lib.hid hN
        clear hN
        rw [hdn]
        clear hdn
        obtain ⟨sa, sC, rfl, _⟩ := rowR_of_own hO
        have HS4 := Lib.hid ((HS.out.later HB9.out).set 1 (.slice sa N.length sC))
        have HZ4 := Lib.hid ((HZ.out.later HB9.out).far (a := ⟨w.heap.size, 1, none⟩) (show w.heap.size ≠ (w.heap.size + 1 + 1) by omega) (.slice sa N.length sC))
        have HO4 := Lib.hid (OwnR.setCell hO (a := ⟨w.heap.size, 1, none⟩) (show w.heap.size < W2.heap.size by omega) (.slice sa N.length sC))
        have HB4 := Lib.hid (belSet (belStep HW2.out HB9.out) ⟨w.heap.size, 1, none⟩ (.slice sa N.length sC) (Nat.le_refl _))
        have sf := (HS.out.later HB9.out).frozen
        have s1 := (HS.out.later HB9.out).cell (j := 1) rfl
        go_upto_region 14 with fail
        clear s1 sf hbel hO f0 f1 f2 f3 f4 f5 f6 f7 f8 f9 f10 f11
        generalize wr.setCell ⟨w.heap.size, 1, none⟩ (.slice sa N.length sC) = W4 at *
        have hbel : Below W4.heap.size W4 W4 := Below.refl _ _
        have z0 := HZ4.out.cell (j := 0) rfl
        have z1 := HZ4.out.cell (j := 1) rfl
        have z2 := HZ4.out.cell (j := 2) rfl
        have z3 := HZ4.out.cell (j := 3) rfl
        have z4 := HZ4.out.cell (j := 4) rfl
        have zf := HZ4.out.frozen
        have s0 := HS4.out.cell (j := 0) rfl
        have s1 := HS4.out.cell (j := 1) rfl
        have s2 := HS4.out.cell (j := 2) rfl
        have s3 := HS4.out.cell (j := 3) rfl
        have s4 := HS4.out.cell (j := 4) rfl
        go_wp2
        refine rwith_ret _ (w.heap.size + 1 + 1) _ r ((.slice sa N.length sC)) o.a o.b o.c _ rfl (((((HZ4.out.set 0 (.int .i64 r)).set 1 ((.slice sa N.length sC))).set 2 (.bool o.a)).set 3 (.bool o.b)).set 4 (.bool o.c)) ⟨(.slice sa N.length sC), rfl, ?_, (belSet (belSet (belSet (belSet (belSet HB4.out ⟨(w.heap.size + 1 + 1), 0, none⟩ (.int .i64 r) (show w.heap.size ≤ (w.heap.size + 1 + 1) by omega)) ⟨(w.heap.size + 1 + 1), 1, none⟩ ((.slice sa N.length sC)) (show w.heap.size ≤ (w.heap.size + 1 + 1) by omega)) ⟨(w.heap.size + 1 + 1), 2, none⟩ (.bool o.a) (show w.heap.size ≤ (w.heap.size + 1 + 1) by omega)) ⟨(w.heap.size + 1 + 1), 3, none⟩ (.bool o.b) (show w.heap.size ≤ (w.heap.size + 1 + 1) by omega)) ⟨(w.heap.size + 1 + 1), 4, none⟩ (.bool o.c) (show w.heap.size ≤ (w.heap.size + 1 + 1) by omega))⟩
        rw [HRES.out, HNN.out]
        refine OwnR.mono (B := W2.heap.size) ?_ (by omega)
        exact (OwnR.setCell (OwnR.setCell (OwnR.setCell (OwnR.setCell (OwnR.setCell HO4.out (a := ⟨(w.heap.size + 1 + 1), 0, none⟩) (show (w.heap.size + 1 + 1) < W2.heap.size by omega) (.int .i64 r)) (a := ⟨(w.heap.size + 1 + 1), 1, none⟩) (show (w.heap.size + 1 + 1) < W2.heap.size by omega) ((.slice sa N.length sC))) (a := ⟨(w.heap.size + 1 + 1), 2, none⟩) (show (w.heap.size + 1 + 1) < W2.heap.size by omega) (.bool o.a)) (a := ⟨(w.heap.size + 1 + 1), 3, none⟩) (show (w.heap.size + 1 + 1) < W2.heap.size by omega) (.bool o.b)) (a := ⟨(w.heap.size + 1 + 1), 4, none⟩) (show (w.heap.size + 1 + 1) < W2.heap.size by omega) (.bool o.c))
      · have hdn : decide (p < l.length) = false := decide_eq_false h9
        have HNE := Lib.hid (oF_full (x := x) (show p = l.length by omega))
        obtain ⟨N0, hN0⟩ : ∃ N, oF l x p l.length = N := ⟨_, rfl⟩
        rw [hN0] at hO HNE hol
        rw [hdn]
        clear hN0 hdn
        have HSE := Lib.hid (OwnR.alloc hO (.cells #[.string x.pod.id, .int .i64 x.pod.prio, .bool x.pod.crit, .int .i64 x.pod.r0, .int .i64 x.pod.r1, .int .i64 x.pod.r2, .int .i64 x.pod.l0, .int .i64 x.pod.l1, .int .i64 x.pod.l2, .string x.pod.img, .int .i64 x.pod.size, .int .i64 x.phase] 46))
        have HRXE := Lib.hid (row_new wr x.cells 46 1 12 rfl (by unfold maxLen; omega))
        clear hO
        go_wp2_with (at_builtin; refine wpList_app_row rfl _ _ 22 rfl W2.heap.size 46 _ 12 112 Try.underlying22 info_entI rfl (by decide) _ _ _ rfl HSE.out _ 1 1 x.cells rfl HRXE.out (one_entI x) ?c1 ?c2 ?c3 ?_)
        case c1 => simp only [maxLen]; omega
        case c2 => omega
        case c3 => have := HB9.out.size; simp; omega
        intro v' w2 ho' hb' _
        have hO := own_snocG ho'
        have HB92 := Lib.hid ((HB9.out.trans ((belAlloc (Below.refl _ _) _ : Below wr.heap.size wr (wr.alloc (.cells #[.string x.pod.id, .int .i64 x.pod.prio, .bool x.pod.crit, .int .i64 x.pod.r0, .int .i64 x.pod.r1, .int .i64 x.pod.r2, .int .i64 x.pod.l0, .int .i64 x.pod.l1, .int .i64 x.pod.l2, .string x.pod.img, .int .i64 x.pod.size, .int .i64 x.phase] 46))).mono HB9.out.size)).trans hb')
        clear ho' hb' HB9 hbel
        have HB9 := HB92
        clear HB92
        rw [HNE.out] at hO
        obtain ⟨N, hN⟩ : ∃ N, l.take p ++ x :: l.drop p = N := ⟨_, rfl⟩
        rw [hN] at hO
        have HNN := Lib.hid hN
        clear hN
        have hbel : Below w2.heap.size w2 w2 := Below.refl _ _
        obtain ⟨sa, sC, rfl, _⟩ := rowR_of_own hO
        have HS4 := Lib.hid ((HS.out.later HB9.out).set 1 (.slice sa N.length sC))
        have HZ4 := Lib.hid ((HZ.out.later HB9.out).far (a := ⟨w.heap.size, 1, none⟩) (show w.heap.size ≠ (w.heap.size + 1 + 1) by omega) (.slice sa N.length sC))
        have HO4 := Lib.hid (OwnR.setCell hO (a := ⟨w.heap.size, 1, none⟩) (show w.heap.size < W2.heap.size by omega) (.slice sa N.length sC))
        have HB4 := Lib.hid (belSet (belStep HW2.out HB9.out) ⟨w.heap.size, 1, none⟩ (.slice sa N.length sC) (Nat.le_refl _))
        have sf := (HS.out.later HB9.out).frozen
        have s1 := (HS.out.later HB9.out).cell (j := 1) rfl
        go_upto_region 14 with fail
        clear s1 sf hbel hO f0 f1 f2 f3 f4 f5 f6 f7 f8 f9 f10 f11
        generalize w2.setCell ⟨w.heap.size, 1, none⟩ (.slice sa N.length sC) = W4 at *
        have hbel : Below W4.heap.size W4 W4 := Below.refl _ _
        have z0 := HZ4.out.cell (j := 0) rfl
        have z1 := HZ4.out.cell (j := 1) rfl
        have z2 := HZ4.out.cell (j := 2) rfl
        have z3 := HZ4.out.cell (j := 3) rfl
        have z4 := HZ4.out.cell (j := 4) rfl
        have zf := HZ4.out.frozen
        have s0 := HS4.out.cell (j := 0) rfl
        have s1 := HS4.out.cell (j := 1) rfl
        have s2 := HS4.out.cell (j := 2) rfl
        have s3 := HS4.out.cell (j := 3) rfl
        have s4 := HS4.out.cell (j := 4) rfl
        go_wp2
        refine rwith_ret _ (w.heap.size + 1 + 1) _ r ((.slice sa N.length sC)) o.a o.b o.c _ rfl (((((HZ4.out.set 0 (.int .i64 r)).set 1 ((.slice sa N.length sC))).set 2 (.bool o.a)).set 3 (.bool o.b)).set 4 (.bool o.c)) ⟨(.slice sa N.length sC), rfl, ?_, (belSet (belSet (belSet (belSet (belSet HB4.out ⟨(w.heap.size + 1 + 1), 0, none⟩ (.int .i64 r) (show w.heap.size ≤ (w.heap.size + 1 + 1) by omega)) ⟨(w.heap.size + 1 + 1), 1, none⟩ ((.slice sa N.length sC)) (show w.heap.size ≤ (w.heap.size + 1 + 1) by omega)) ⟨(w.heap.size + 1 + 1), 2, none⟩ (.bool o.a) (show w.heap.size ≤ (w.heap.size + 1 + 1) by omega)) ⟨(w.heap.size + 1 + 1), 3, none⟩ (.bool o.b) (show w.heap.size ≤ (w.heap.size + 1 + 1) by omega)) ⟨(w.heap.size + 1 + 1), 4, none⟩ (.bool o.c) (show w.heap.size ≤ (w.heap.size + 1 + 1) by omega))⟩
        rw [HRES.out, HNN.out]
        refine OwnR.mono (B := W2.heap.size) ?_ (by omega)
        exact (OwnR.setCell (OwnR.setCell (OwnR.setCell (OwnR.setCell (OwnR.setCell HO4.out (a := ⟨(w.heap.size + 1 + 1), 0, none⟩) (show (w.heap.size + 1 + 1) < W2.heap.size by omega) (.int .i64 r)) (a := ⟨(w.heap.size + 1 + 1), 1, none⟩) (show (w.heap.size + 1 + 1) < W2.heap.size by omega) ((.slice sa N.length sC))) (a := ⟨(w.heap.size + 1 + 1), 2, none⟩) (show (w.heap.size + 1 + 1) < W2.heap.size by omega) (.bool o.a)) (a := ⟨(w.heap.size + 1 + 1), 3, none⟩) (show (w.heap.size + 1 + 1) < W2.heap.size by omega) (.bool o.b)) (a := ⟨(w.heap.size + 1 + 1), 4, none⟩) (show (w.heap.size + 1 + 1) < W2.heap.size by omega) (.bool o.c))
end Go.Proofs.Ytpmkhimmlpnbpaa
