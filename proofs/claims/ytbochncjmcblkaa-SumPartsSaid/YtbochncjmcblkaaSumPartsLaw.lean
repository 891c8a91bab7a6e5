/- SumParts holds for every three slices of bytes. No conditions. -/
import Derived.Test.YtbochncjmcblkaaSumMore
namespace Go.Proofs.Ytbochncjmcblkaa.sumParts
open Go.ChangeShapes Go.WideShapes Go.ChangeAt Go.RowKit
open Go.ChangeMaps (open_string shut_string)
set_option linter.unusedVariables false
set_option linter.unusedSimpArgs false

set_option maxRecDepth 100000 in
set_option maxHeartbeats 4000000 in
theorem walk (a : Option Addr) (la ca : Nat) (l : List Int) (b : Option Addr) (lb cb : Nat) (l2 : List Int) (c : Option Addr) (lc cc : Nat) (l3 : List Int) (w : World) (hl : Ints .u8 w a la ca l) (h2 : Ints .u8 w b lb cb l2) (h3 : Ints .u8 w c lc cc l3) :
    Calls Try.prog 3 #[.slice a la ca, .slice b lb cb, .slice c lc cc] w fun e w' => e = .returned (.bool true) ∧ Below w.heap.size w w' := by
  have hw : Below w.heap.size w w := Below.refl _ _
  have hbel := hw
  have hb := hl.bounds
  have hb2 := h2.bounds
  have hb3 := h3.bounds
  have hn1 := hb.1
  have hn2 := hb2.1
  have hn3 := hb3.1
  have HL := Lib.hid hl
  have HL2 := Lib.hid h2
  have HL3 := Lib.hid h3
  clear hl h2 h3
  by_cases hA : 1000 < la
  · clear hn1 hn2 hn3
    go_enter Try.func3, Try.ntmps3
    go_wp2_with (first | (go_at_call 13; (with_reducible refine (awake08 _).mono ?_); rintro e w1 ⟨rfl, hb1⟩; replace hbel := belStep hbel hb1; clear hb1))
    go_ret
    exact ⟨rfl, hbel⟩
  by_cases hB : 1000 < lb
  · clear hn1 hn2 hn3
    go_enter Try.func3, Try.ntmps3
    go_wp2_with (first | (go_at_call 13; (with_reducible refine (awake08 _).mono ?_); rintro e w1 ⟨rfl, hb1⟩; replace hbel := belStep hbel hb1; clear hb1))
    go_ret
    exact ⟨rfl, hbel⟩
  by_cases hC : 1000 < lc
  · clear hn1 hn2 hn3
    go_enter Try.func3, Try.ntmps3
    go_wp2_with (first | (go_at_call 13; (with_reducible refine (awake08 _).mono ?_); rintro e w1 ⟨rfl, hb1⟩; replace hbel := belStep hbel hb1; clear hb1))
    go_ret
    exact ⟨rfl, hbel⟩
  have HN1 := Lib.hid hn1
  have HN2 := Lib.hid hn2
  have HN3 := Lib.hid hn3
  obtain ⟨_, hb12, hb13⟩ := hb
  obtain ⟨_, hb22, hb23⟩ := hb2
  obtain ⟨_, hb32, hb33⟩ := hb3
  clear hn1 hn2 hn3
  have CO := Lib.hid (fun v (hv : Below w.heap.size w v) => sum_Of a la ca l v (HL.out.later hv))
  have CR := Lib.hid (fun v (hv : Below w.heap.size w v) => sref_Of a la ca l v (HL.out.later hv))
  have CPu := Lib.hid (fun v (hv : Below w.heap.size w v) => put_ints a la ca l v (HL.out.later hv) (by omega))
  have CRP := Lib.hid (fun v (hv : Below w.heap.size w v) => refput_ints a la ca l v (HL.out.later hv) (by omega))
  have CP := Lib.hid (fun v (hv : Below w.heap.size w v) => parts_three v a la ca l b lb cb l2 c lc cc l3 (HL.out.later hv) (HL2.out.later hv) (HL3.out.later hv))
  go_enter Try.func3, Try.ntmps3
  go_wp2_with (first | (go_at_call 13; (with_reducible refine (awake08 _).mono ?_); rintro e w1 ⟨rfl, hb1⟩; replace hbel := belStep hbel hb1; clear hb1) | (at_builtin; refine wpList_app_ints rfl _ _ 22 rfl w1.heap.size 5 .u8 1 Try.underlying22 info_u8 _ _ rfl (own_new w1 w1.heap.size 5 .u8 (Nat.le_refl _)) _ la ca l rfl (HL.out.later (belAlloc hbel _)) ?c1 ?c2 ?c3 ?_))
  case c1 => simp only [maxLen, List.length_nil]; omega
  case c2 => simp only [List.length_nil]; omega
  case c3 => simp
  intro v1 w2 ho1 hb1 hg1
  try rw [List.nil_append] at ho1
  have hs0 : w.heap.size ≤ w1.heap.size := hbel.size
  replace hbel : Below w.heap.size w w2 := (hbel.trans ((belAlloc (Below.refl _ _) _ : Below w1.heap.size w1 (w1.alloc _)).mono hbel.size)).trans (hb1.mono hbel.size)
  have hs1 := hb1.size
  have HO1 := Lib.hid ho1
  clear ho1 hg1 hb1
  go_wp2_with (at_builtin; refine wpList_app_ints rfl _ _ 22 rfl w1.heap.size 5 .u8 1 Try.underlying22 info_u8 _ _ rfl HO1.out _ lb cb l2 rfl (HL2.out.later hbel) ?c1 ?c2 ?c3 ?_)
  case c1 => rw [HN1.out]; simp only [maxLen]; omega
  case c2 => rw [HN1.out]; omega
  case c3 => simp at hs1; omega
  intro v2 w3 ho2 hb2 hg2
  have hs2 : w1.heap.size ≤ w3.heap.size := by have := hb2.size; simp at hs1; omega
  replace hbel : Below w.heap.size w w3 := hbel.trans (hb2.mono hs0)
  have HO2 := Lib.hid ho2
  clear ho2 hg2 hb2
  go_wp2_with (at_builtin; refine wpList_app_ints rfl _ _ 22 rfl w1.heap.size 5 .u8 1 Try.underlying22 info_u8 _ _ rfl HO2.out _ lc cc l3 rfl (HL3.out.later hbel) ?c1 ?c2 ?c3 ?_)
  case c1 => rw [List.length_append, HN1.out, HN2.out]; simp only [maxLen]; omega
  case c2 => rw [List.length_append, HN1.out, HN2.out]; omega
  case c3 => omega
  intro v3 w4 ho3 hb3 hg3
  replace hbel : Below w.heap.size w w4 := hbel.trans (hb3.mono hs0)
  have hby : ∀ m ∈ l ++ (l2 ++ l3), (Lit.int .u8 m).wf = true := fun m hm => by
    rcases List.mem_append.1 hm with q | q
    · exact HL.out.2 m q
    · rcases List.mem_append.1 q with r | r
      · exact HL2.out.2 m r
      · exact HL3.out.2 m r
  obtain ⟨aa, ac, rfl, hia⟩ := ints_of_own ho3 hby
  have hlen : (l ++ (l2 ++ l3)).length = la + lb + lc := by rw [List.length_append, List.length_append, HN1.out, HN2.out, HN3.out, Nat.add_assoc]
  rw [hlen] at hia ⊢
  have HA := Lib.hid hia
  have CA := Lib.hid (fun v (hv : Below w4.heap.size w4 v) => sref_Of aa (la + lb + lc) ac _ v (HA.out.later hv))
  have CS := Lib.hid (fun (a2 : Option Addr) (c2 : Nat) (a3 : Option Addr) (c3 : Nat) v (h2 : Ints .u8 v a2 (la + 4) c2 (l ++ tailN (sumOf l) 4)) (h3 : Ints .u8 v a3 (la + 4) c3 (l ++ tailN (sumOf l) 4)) => (beq_self_eq_true (l ++ tailN (sumOf l) 4)) ▸ sref_Same a2 (la + 4) c2 _ a3 (la + 4) c3 _ v h2 h3)
  have h4 : Below w4.heap.size w4 w4 := Below.refl _ _
  clear ho3 hg3 hb3 hia hlen hby
  go_wp2_with (first | (go_at_call 14; (with_reducible refine (CO.out _ hbel).mono ?_); rintro e w5 ⟨rfl, hb5⟩; replace hbel := belStep hbel hb5; replace h4 := belStep h4 hb5; clear hb5) | (go_at_call 15; (with_reducible refine (CR.out _ hbel).mono ?_); rintro e w' ⟨rfl, rfl⟩) | (go_at_call 15; (with_reducible refine (CA.out _ h4).mono ?_); rintro e w' ⟨rfl, rfl⟩) | (go_at_call 16; (with_reducible refine (CP.out _ hbel).mono ?_); rintro e w6 ⟨rfl, hb6⟩; replace hbel := belStep (belAlloc hbel _) hb6; replace h4 := belStep (belAlloc h4 _) hb6; clear hb6) | (go_at_call 18; (with_reducible refine (CPu.out _ hbel).mono ?_); rintro e w7 ⟨a7, c7, rfl, hi7, hb7⟩; replace hbel := belStep hbel hb7; have H7 := Lib.hid hi7; clear hb7 hi7) | (go_at_call 19; (with_reducible refine (CRP.out _ hbel).mono ?_); rintro e w8 ⟨a8, c8, rfl, hi8, hb8⟩; replace hbel := belStep hbel hb8; replace H7 := Lib.hid (H7.out.later hb8); have H8 := Lib.hid hi8; clear hb8 hi8) | (go_at_call 17; (with_reducible refine (CS.out _ _ _ _ _ H7.out H8.out).mono ?_); rintro e w9 ⟨rfl, rfl⟩))
  go_ret
  exact ⟨rfl, hbel⟩

set_option maxRecDepth 100000 in
theorem lifted (os : Os) (started : os.Started) (H : Type) (enc : TypeId × Value → H) :
    ReturnsInHanded {} Try.checked os 3 .any (Rows.sumPartsSpec.pre6 enc Try.prog Try.f3 Rows.sumPartsRow.domain false) (Rows.sumPartsSpec.post enc Try.prog Try.f3 false true false false) := by
  refine returnsInHanded_of_change (C := Try.checked) own started (by kernel_rfl) Try.func3
    (ChangeSpec.witness6 (enc := enc) (C := Try.checked) false ⟨#[], #[.slice none 0 0, .slice none 0 0, .slice none 0 0], []⟩ 8 (by kernel_rfl) (by kernel_rfl) (by kernel_rfl) (by kernel_rfl)) ?_
  intro W base args ds gs before hval0 hW hcnd _
  have hval : ∀ (j : Nat) t v, Try.f3.params[j]? = some t → args[j]? = some v → Value.okWide Try.prog W .any base t v := hval0
  have hW' := hW
  obtain ⟨p, q, hA0, hV, rfl, hfz, hnd⟩ := hW
  have hA : DataW.TrodAll enc Try.prog W 0 (fun _ => true) true Try.f3.params.toList args.toList ds p := hA0
  rw [Try.params3] at hA hval
  obtain ⟨v0, vs0, d0, ds0, p0, q0, hargs, rfl, rfl, h0, r0⟩ := trodAll_cons hA
  obtain ⟨v1, vs1, d1, ds1, p1, q1, rfl, rfl, rfl, h1, r1⟩ := trodAll_cons r0
  obtain ⟨v2, vs2, d2, ds2, p2, q2, rfl, rfl, rfl, h2, r2⟩ := trodAll_cons r1
  obtain ⟨rfl, rfl, rfl⟩ := trodAll_nil r2
  obtain rfl : args = #[v0, v1, v2] := by cases args; simp_all
  obtain ⟨rfl, rfl⟩ := trodVars_none hV
  have k0 := h0
  have lt0 : ∀ x ∈ p0, x.block < W.heap.size := by obtain ⟨m, hm⟩ := k0; exact DataW.trod_lt m _ _ _ hm
  have o0 : Value.okWide Try.prog W .any base 22 v0 := hval 0 22 v0 rfl rfl
  obtain ⟨a0, len0, cap0, rfl⟩ := okWide_slice Try.underlying22 o0
  obtain ⟨z0, w0⟩ : ∃ zs, Ints .u8 W a0 len0 cap0 zs := ints_of_trod Try.underlying22 Try.underlying5 (by kernel_rfl) h0
  have k1 := h1
  have lt1 : ∀ x ∈ p1, x.block < W.heap.size := by obtain ⟨m, hm⟩ := k1; exact DataW.trod_lt m _ _ _ hm
  have o1 : Value.okWide Try.prog W .any base 22 v1 := hval 1 22 v1 rfl rfl
  obtain ⟨a1, len1, cap1, rfl⟩ := okWide_slice Try.underlying22 o1
  obtain ⟨z1, w1⟩ : ∃ zs, Ints .u8 W a1 len1 cap1 zs := ints_of_trod Try.underlying22 Try.underlying5 (by kernel_rfl) h1
  have k2 := h2
  have lt2 : ∀ x ∈ p2, x.block < W.heap.size := by obtain ⟨m, hm⟩ := k2; exact DataW.trod_lt m _ _ _ hm
  have o2 : Value.okWide Try.prog W .any base 22 v2 := hval 2 22 v2 rfl rfl
  obtain ⟨a2, len2, cap2, rfl⟩ := okWide_slice Try.underlying22 o2
  obtain ⟨z2, w2⟩ : ∃ zs, Ints .u8 W a2 len2 cap2 zs := ints_of_trod Try.underlying22 Try.underlying5 (by kernel_rfl) h2
  clear hA0 hval0
  refine (walk a0 len0 cap0 z0 a1 len1 cap1 z1 a2 len2 cap2 z2 W w0 w1 w2).mono fun e W' ⟨he, bel⟩ => ?_
  subst he
  exact ⟨_, rfl, _, _, _, [], _, [], hW', trodAll_mk1 (shut_bool Try.underlying4 _), (trodAll_cons_mk (Below.trod laidOut (by kernel_rfl) (of_decide_eq_true (by kernel_rfl)) k0 bel lt0) (trodAll_cons_mk (Below.trod laidOut (by kernel_rfl) (of_decide_eq_true (by kernel_rfl)) k1 bel lt1) (trodAll_cons_mk (Below.trod laidOut (by kernel_rfl) (of_decide_eq_true (by kernel_rfl)) k2 bel lt2) trodAll_mk0))), rfl, bel.frame _, fun h => by cases h⟩

theorem over : Rows.sumPartsRow.holds Try.pinned (OpenSpec.ofChange Rows.sumPartsSpec) :=
  OpenClaim.holds_of_wide 3 Try.f3 rfl rfl rfl rfl rfl rfl rfl ⟨rfl, rfl, rfl, rfl, rfl⟩ rfl rfl rfl rfl rfl (by kernel_rfl) Try.func3 (by kernel_rfl)
    (of_decide_eq_true (by kernel_rfl)) (by unfold Func.isWrapper; first | (rw [if_pos (by decide +kernel)]; kernel_rfl) | (rw [if_neg (by decide +kernel)]; exact ⟨rfl, rfl⟩))
    (fun os started H enc _ => lifted os started H enc)

/-- The statement. -/
theorem proved : Rows.SumPartsSaid := over
#print axioms proved

end Go.Proofs.Ytbochncjmcblkaa.sumParts
