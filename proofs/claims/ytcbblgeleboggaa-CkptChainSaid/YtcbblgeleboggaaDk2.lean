
/- Stage 10: slices.Clone of bytes; disk.named, New, own: contracts. -/
import Derived.Test.YtcbblgeleboggaaDk1
namespace Go.Proofs.Ytcbblgeleboggaa
open Go.RowKit Go.Sort Go.Maps
set_option linter.unusedVariables false
set_option linter.unusedSimpArgs false
theorem info_u8D : (Try.prog.info? 5).map (fun i => (i.zero, i.size, i.bytes)) = some (some (.int .u8 0), 1, 1) := by kernel_rfl
set_option maxHeartbeats 1000000 in
theorem dk_Clone (a : Option Addr) (len cap : Nat) (l : List Int) (w : World) (hl : Ints .u8 w a len cap l) (hlen : len ≤ 1000000) :
    Calls Try.prog 28 #[.slice a len cap] w fun e w' => ∃ v, e = .returned v ∧ OwnI w' w.heap.size 5 .u8 v l ∧ Below w.heap.size w w' := by
  have hb := hl.bounds
  cases a with
  | none =>
    obtain rfl : len = 0 := (hl.1.2.2.2.1 rfl).1
    obtain rfl : l = [] := List.eq_nil_of_length_eq_zero hb.1
    have hnil := Lib.run_eql_slice_nil w 29 5 none 0 cap 0 0 Try.underlying29
    go_enter Try.func28, Try.ntmps28
    go_wp2
    go_ret
    exact ⟨_, rfl, OwnI.nil _ _ _ _, Below.refl _ _⟩
  | some ad =>
    have HL := Lib.hid (hl.later (belAlloc (Below.refl _ _) (.cells #[] 5)))
    have HO := Lib.hid (own_new w w.heap.size 5 .u8 (Nat.le_refl _))
    clear hl
    have hnil := Lib.run_eql_slice_nil w 29 5 (some ad) len cap 0 0 Try.underlying29
    go_enter Try.func28, Try.ntmps28
    go_wp2_with (at_builtin; refine wpList_app_ints rfl _ _ 29 rfl w.heap.size 5 .u8 1 Try.underlying29 info_u8D _ _ rfl HO.out _ len cap l rfl HL.out ?c1 ?c2 ?c3 ?_)
    case c1 => simp only [maxLen, List.length_nil]; omega
    case c2 => simp only [List.length_nil]; omega
    case c3 => simp
    intro v' w2 ho' hb' hg'
    go_wp2
    go_ret
    exact ⟨_, rfl, by simpa using ho', (belAlloc (Below.refl _ _) _ : Below w.heap.size w (w.alloc _)).trans hb'⟩
theorem row_ge {w : World} {B n c : Nat} {k : IntKind} {E : TypeId} {x : Addr} {Z : List Int} (h : OwnI w B E k (.slice (some x) n c) Z) (hne : Z ≠ []) : B ≤ x.block := by
  have h1 : OwnR w B E 1 (.slice (some x) n c) Z.length (Z.map (Value.int k)) := h
  rcases own_open h1 with ⟨e, _⟩ | ⟨g, c2, C, e, hB, _⟩
  · cases e
  · simp only [Value.slice.injEq, Option.some.injEq] at e
    obtain ⟨rfl, _⟩ := e
    exact hB
set_option maxRecDepth 100000 in
set_option maxHeartbeats 16000000 in
theorem dk_named (s : ByteArray) (w : World) (hs : s.size ≤ maxLen) :
    Calls Try.prog 51 #[.string s] w fun e w' => e = .returned (.bool (namedM s)) ∧ w' = w := by
  have hl : (s.size : Int) ≤ 9223372036854775807 := by unfold maxLen at hs; omega
  have hl2 : s.size ≤ 9223372036854775807 := by unfold maxLen at hs; omega
  go_enter Try.func51, Try.ntmps51
  by_cases h1 : 1 ≤ s.size
  · have d1 : decide ((1 : Int) ≤ (s.size : Int)) = true := decide_eq_true (by omega)
    have i1 : (1 : Int) ≤ (s.size : Int) := by omega
    by_cases h2 : s.size ≤ 32
    · have d2 : decide ((s.size : Int) ≤ 32) = true := decide_eq_true (by omega)
      have i2 : (s.size : Int) ≤ 32 := by omega
      have HE := Lib.hid (show namedM s = true by unfold namedM; rw [decide_eq_true h1, decide_eq_true h2]; rfl)
      clear h1 h2
      go_wp2
      go_ret
      exact ⟨by rw [HE.out]; rfl, rfl⟩
    · have d2 : decide ((s.size : Int) ≤ 32) = false := decide_eq_false (by omega)
      have i2 : ¬ (s.size : Int) ≤ 32 := by omega
      have HE := Lib.hid (show namedM s = false by unfold namedM; rw [decide_eq_true h1, decide_eq_false h2]; rfl)
      clear h1 h2
      go_wp2
      go_ret
      exact ⟨by rw [HE.out]; rfl, rfl⟩
  · have d1 : decide ((1 : Int) ≤ (s.size : Int)) = false := decide_eq_false (by omega)
    have i1 : ¬ (1 : Int) ≤ (s.size : Int) := by omega
    have HE := Lib.hid (show namedM s = false by unfold namedM; rw [decide_eq_false h1]; rfl)
    clear h1
    go_wp2
    go_ret
    exact ⟨by rw [HE.out]; rfl, rfl⟩
set_option maxRecDepth 100000 in
set_option maxHeartbeats 16000000 in
theorem dk_New (X : List Nat) (w : World) (hX : ∀ b ∈ X, b < w.heap.size) :
    Calls Try.prog 10 #[] w fun e w' => e = .returned (.pointer (some ⟨w.heap.size, 0, none⟩)) ∧ DAt w' w.heap.size X (footD w.heap.size (.slice none 0 0)) ⟨[], [], 0⟩ ∧ Below w.heap.size w w' := by
  go_enter Try.func10, Try.ntmps10
  go_wp2
  go_ret
  have hb := belAlloc (Below.refl w.heap.size w) (.cells #[.map none, .slice none 0 0] 61)
  exact ⟨rfl, ⟨none, .slice none 0 0, [], rfl, Blk.new w [.map none, .slice none 0 0] _, .inl ⟨rfl, rfl⟩, OwnR.nil _ _ _ _, rfl, (fun o ho => by cases ho), (fun b hb hF => by have h := footD_mem.1 hF; rcases h with h | h; exact absurd (hX b hb) (by omega); cases h)⟩, hb⟩
theorem own_ret (W : World) (R : Nat) (tm : Array Value) (k : Int) (s t : ByteArray) (a : Option Addr) (n c : Nat) (q : Bool) (Q : Ending → World → Prop) (h0 : tm.getD 2 undef = .pointer (some ⟨R, 0, none⟩)) (h1 : tm.getD 3 undef = .bool q) (hb : Blk W R [.int .i64 k, .string s, .string t, .slice a n c] 49) (hR : Q (.returned (.tuple #[.agg #[.int .i64 k, .string s, .string t, .slice a n c], .bool q])) W) :
    bodyPost Try.prog Try.f38 Q Exit.ret { tmps := tm, defers := [] } W := by
  have z0 := hb.cell (j := 0) rfl
  have z1 := hb.cell (j := 1) rfl
  have z2 := hb.cell (j := 2) rfl
  have z3 := hb.cell (j := 3) rfl
  refine bodyPost_ret (v := .tuple #[.agg #[.int .i64 k, .string s, .string t, .slice a n c], .bool q]) ?_ rfl hR
  simp only [Array.getD_eq_getD_getElem?] at h0 h1
  simp [results, Try.results38, go_sem, h0, h1, z0, z1, z2, z3]
set_option maxRecDepth 100000 in
set_option maxHeartbeats 32000000 in
theorem dk_own (o : OpV) (w : World) (hZ : Ints .u8 w o.ba o.Z.length o.bc o.Z) (hl : o.Z.length ≤ 1000000) (hn : o.name.size ≤ maxLen) (hd : o.dst.size ≤ maxLen) (hki : InI o.kind) :
    Calls Try.prog 38 #[.agg #[.int .i64 o.kind, .string o.name, .string o.dst, .slice o.ba o.Z.length o.bc]] w fun e w' => ∃ q : OpV, e = .returned (.tuple #[.agg #[.int .i64 q.kind, .string q.name, .string q.dst, .slice q.ba q.Z.length q.bc], .bool (rightM o.m)]) ∧ (rightM o.m = true → q.m = ownM o.m) ∧ q.small ∧ (∀ X, (∀ b ∈ X, b < w.heap.size) → BytesX X w' q.ba q.bc q.Z) ∧ Below w.heap.size w w' := by
  have hbd : o.Z.length ≤ o.bc ∧ o.bc ≤ 9223372036854775807 := by obtain ⟨⟨_, h1, h2, _⟩, _⟩ := hZ; unfold maxLen at h2; exact ⟨h1, h2⟩
  obtain ⟨hbd1, hbd2⟩ := hbd
  have HZ := Lib.hid hZ
  have HN := Lib.hid hn
  have HD := Lib.hid hd
  have HKI := Lib.hid hki
  clear hki
  have hw : Below w.heap.size w w := Below.refl _ _
  have hbel := hw
  clear hZ hn hd
  have CN := Lib.hid (fun u => dk_named o.name u HN.out)
  have CD := Lib.hid (fun u => dk_named o.dst u HD.out)
  have CC := Lib.hid (fun u (hu : Below w.heap.size w u) => dk_Clone o.ba o.Z.length o.bc o.Z u (HZ.out.later hu) hl)
  go_enter Try.func38, Try.ntmps38
  go_upto_region 1 with fail
  have HA0 := Lib.hid (Blk.new w [.int .i64 o.kind, .string o.name, .string o.dst, .slice o.ba o.Z.length o.bc] 49)
  have kA := belAlloc (Below.refl w.heap.size w) (.cells #[.int .i64 o.kind, .string o.name, .string o.dst, .slice o.ba o.Z.length o.bc] 49)
  have HAl := Lib.hid (show (w.alloc (.cells #[.int .i64 o.kind, .string o.name, .string o.dst, .slice o.ba o.Z.length o.bc] 49)).heap.size = w.heap.size + 1 from by simp)
  have HT0 := Lib.hid (Blk.new (w.alloc (.cells #[.int .i64 o.kind, .string o.name, .string o.dst, .slice o.ba o.Z.length o.bc] 49)) [.int .i64 0, .string ⟨#[]⟩, .string ⟨#[]⟩, .slice none 0 0] 49)
  have kT := belAlloc (Below.refl (w.alloc (.cells #[.int .i64 o.kind, .string o.name, .string o.dst, .slice o.ba o.Z.length o.bc] 49)).heap.size (w.alloc (.cells #[.int .i64 o.kind, .string o.name, .string o.dst, .slice o.ba o.Z.length o.bc] 49))) (.cells #[.int .i64 0, .string ⟨#[]⟩, .string ⟨#[]⟩, .slice none 0 0] 49)
  generalize hE2 : ((w.alloc (.cells #[.int .i64 o.kind, .string o.name, .string o.dst, .slice o.ba o.Z.length o.bc] 49)).alloc (.cells #[.int .i64 0, .string ⟨#[]⟩, .string ⟨#[]⟩, .slice none 0 0] 49)) = W2 at *
  generalize hE1 : (w.alloc (.cells #[.int .i64 o.kind, .string o.name, .string o.dst, .slice o.ba o.Z.length o.bc] 49)) = W1 at *
  clear hE1 hE2
  have HB1 := Lib.hid kA
  have HB2 := Lib.hid kT
  have hsz : W1.heap.size = w.heap.size + 1 := HAl.out
  rw [hsz] at HT0
  have HSZ := Lib.hid hsz
  clear hsz
  clear hw hbel kA kT HAl
  have hbel : Below W1.heap.size W1 W2 := HB2.out
  have a0 := keep (HA0.out.cell (j := 0) rfl)
  have a1 := keep (HA0.out.cell (j := 1) rfl)
  have a2 := keep (HA0.out.cell (j := 2) rfl)
  have a3 := keep (HA0.out.cell (j := 3) rfl)
  by_cases k1 : o.kind = 1
  · have d1 : (o.kind == (1 : Int)) = true := by rw [k1]; rfl
    have HK1 := Lib.hid k1
    clear k1
    go_upto_region 3 with fail
    refine wp_region_held_drew (S := fun u => Below W1.heap.size W1 u) (by kernel_rfl) (by exact belDrew hbel) (fun hHeld => ?_)
    refine wpAnyH_take (i := 0) (oi := ?oi_k1) (v := ?v_k1) ?hi_k1 (by kernel_rfl) ?hf_k1 ?hr_k1 ?hQ_k1 (Or.inl ⟨?hw_k1, ?hy_k1⟩) (by assumption) ?rest_k1
    case hi_k1 => ((simp only [List.getElem?_toArray, List.getElem?_cons_succ, List.getElem?_cons_zero]); rfl)
    case hf_k1 => kernel_rfl
    case hr_k1 => kernel_rfl
    case hQ_k1 => exact fun _ _ _ h => h
    case hw_k1 => rfl
    case hy_k1 => ((intro w hSw; (try dsimp only at hSw); go_simp); all_goals (with_reducible rfl))
    try simp only [Act.put, List.setIfInBounds_toArray, List.set_cons_zero, List.set_cons_succ]
    refine wpAnyH_take (i := 1) (oi := ?oi_k2) (v := ?v_k2) ?hi_k2 (by kernel_rfl) ?hf_k2 ?hr_k2 ?hQ_k2 (Or.inl ⟨?hw_k2, ?hy_k2⟩) (by assumption) ?rest_k2
    case hi_k2 => ((simp only [List.getElem?_toArray, List.getElem?_cons_succ, List.getElem?_cons_zero]); rfl)
    case hf_k2 => kernel_rfl
    case hr_k2 => kernel_rfl
    case hQ_k2 => exact fun _ _ _ h => h
    case hw_k2 => rfl
    case hy_k2 => ((intro w hSw; (try dsimp only at hSw); go_simp); all_goals (with_reducible rfl))
    try simp only [Act.put, List.setIfInBounds_toArray, List.set_cons_zero, List.set_cons_succ]
    refine wpAnyH_take (i := 2) (oi := ?oi_k3) (v := ?v_k3) ?hi_k3 (by kernel_rfl) ?hf_k3 ?hr_k3 ?hQ_k3 (Or.inl ⟨?hw_k3, ?hy_k3⟩) (by assumption) ?rest_k3
    case hi_k3 => ((simp only [List.getElem?_toArray, List.getElem?_cons_succ, List.getElem?_cons_zero]); rfl)
    case hf_k3 => kernel_rfl
    case hr_k3 => kernel_rfl
    case hQ_k3 => exact fun _ _ _ h => h
    case hw_k3 => rfl
    case hy_k3 => ((intro w hSw; (try dsimp only at hSw); go_simp); all_goals (with_reducible rfl))
    try simp only [Act.put, List.setIfInBounds_toArray, List.set_cons_zero, List.set_cons_succ]
    refine wpAnyH_take (i := 3) (oi := ?oi_k4) (v := ?v_k4) ?hi_k4 (by kernel_rfl) ?hf_k4 ?hr_k4 ?hQ_k4 (Or.inl ⟨?hw_k4, ?hy_k4⟩) (by assumption) ?rest_k4
    case hi_k4 => ((simp only [List.getElem?_toArray, List.getElem?_cons_succ, List.getElem?_cons_zero]); rfl)
    case hf_k4 => kernel_rfl
    case hr_k4 => kernel_rfl
    case hQ_k4 => exact fun _ _ _ h => h
    case hw_k4 => rfl
    case hy_k4 => ((intro w hSw; (try dsimp only at hSw); go_simp); all_goals (with_reducible rfl))
    try simp only [Act.put, List.setIfInBounds_toArray, List.set_cons_zero, List.set_cons_succ]
    refine wpAnyH_take (i := 4) (oi := ?oi_k5) (v := ?v_k5) ?hi_k5 (by kernel_rfl) ?hf_k5 ?hr_k5 ?hQ_k5 (Or.inl ⟨?hw_k5, ?hy_k5⟩) (by assumption) ?rest_k5
    case hi_k5 => ((simp only [List.getElem?_toArray, List.getElem?_cons_succ, List.getElem?_cons_zero]); rfl)
    case hf_k5 => kernel_rfl
    case hr_k5 => kernel_rfl
    case hQ_k5 => exact fun _ _ _ h => h
    case hw_k5 => rfl
    case hy_k5 => ((intro w hSw; (try dsimp only at hSw); go_simp); all_goals (with_reducible rfl))
    try simp only [Act.put, List.setIfInBounds_toArray, List.set_cons_zero, List.set_cons_succ]
    refine wpAnyH_take (i := 5) (oi := ?oi_k6) (v := ?v_k6) ?hi_k6 (by kernel_rfl) ?hf_k6 ?hr_k6 ?hQ_k6 (Or.inl ⟨?hw_k6, ?hy_k6⟩) (by assumption) ?rest_k6
    case hi_k6 => ((simp only [List.getElem?_toArray, List.getElem?_cons_succ, List.getElem?_cons_zero]); rfl)
    case hf_k6 => kernel_rfl
    case hr_k6 => kernel_rfl
    case hQ_k6 => exact fun _ _ _ h => h
    case hw_k6 => rfl
    case hy_k6 => ((intro w hSw; (try dsimp only at hSw); go_simp); all_goals (with_reducible rfl))
    try simp only [Act.put, List.setIfInBounds_toArray, List.set_cons_zero, List.set_cons_succ]
    refine wpAnyH_take (i := 8) (oi := ?oi_k7) (v := ?v_k7) ?hi_k7 (by kernel_rfl) ?hf_k7 ?hr_k7 ?hQ_k7 (Or.inl ⟨?hw_k7, ?hy_k7⟩) (by assumption) ?rest_k7
    case hi_k7 => ((simp only [List.getElem?_toArray, List.getElem?_cons_succ, List.getElem?_cons_zero]); rfl)
    case hf_k7 => kernel_rfl
    case hr_k7 => kernel_rfl
    case hQ_k7 => exact fun _ _ _ h => h
    case hw_k7 => rfl
    case hy_k7 => ((intro w hSw; (try dsimp only at hSw); go_simp); all_goals (with_reducible rfl))
    try simp only [Act.put, List.setIfInBounds_toArray, List.set_cons_zero, List.set_cons_succ]
    refine wpAnyH_take (i := 9) (oi := ?oi_k8) (v := ?v_k8) ?hi_k8 (by kernel_rfl) ?hf_k8 ?hr_k8 ?hQ_k8 (Or.inl ⟨?hw_k8, ?hy_k8⟩) (by assumption) ?rest_k8
    case hi_k8 => ((simp only [List.getElem?_toArray, List.getElem?_cons_succ, List.getElem?_cons_zero]); rfl)
    case hf_k8 => kernel_rfl
    case hr_k8 => kernel_rfl
    case hQ_k8 => exact fun _ _ _ h => h
    case hw_k8 => rfl
    case hy_k8 => ((intro w hSw; (try dsimp only at hSw); go_simp); all_goals (with_reducible rfl))
    try simp only [Act.put, List.setIfInBounds_toArray, List.set_cons_zero, List.set_cons_succ]
    refine wpAnyH_ready (rs := [6]) (by kernel_rfl) (by simp) ?_
    refine AllReadyH.cons (o := ?o1_k9) ?hi_k9 (fun K hK => ?rest_k9) AllReadyH.nil
    case hi_k9 => ((simp only [List.getElem?_toArray, List.getElem?_cons_succ, List.getElem?_cons_zero]); rfl)
    go_simp
    (go_at_call 28; (with_reducible refine (CC.out _ (belStep HB1.out hHeld)).mono ?_); rintro e wq ⟨v, rfl, ho_, hb_⟩)
    obtain ⟨va, vc, rfl, _⟩ := BytesX.of_own (X := []) ho_ HZ.out.2 (fun b hb => by cases hb) hl
    have HO := Lib.hid ho_
    have HQ := Lib.hid hb_
    have hu : Below W1.heap.size W1 wq := belStep hHeld hb_
    clear hb_ ho_
    try go_simp
    refine hK.out _ _ (by exact hu) (fun hHeld => ?_)
    clear hK K
    try simp only [Act.put, List.setIfInBounds_toArray, List.set_cons_zero, List.set_cons_succ]
    have HT := Lib.hid (show Blk wq (w.heap.size + 1) [.int .i64 0, .string ⟨#[]⟩, .string ⟨#[]⟩, .slice none 0 0] 49 from (HT0.out.later (belDrew (Below.refl _ _))).later HQ.out)
    refine wpAnyH_take (i := 7) (oi := ?oi_k10) (v := ?v_k10) ?hi_k10 (by kernel_rfl) ?hf_k10 ?hr_k10 ?hQ_k10 (Or.inl ⟨?hw_k10, ?hy_k10⟩) (by assumption) ?rest_k10
    case hi_k10 => ((simp only [List.getElem?_toArray, List.getElem?_cons_succ, List.getElem?_cons_zero]); rfl)
    case hf_k10 => kernel_rfl
    case hr_k10 => kernel_rfl
    case hQ_k10 => exact fun _ _ _ h => h
    case hw_k10 => rfl
    case hy_k10 => ((intro w hSw; (try dsimp only at hSw); go_simp); all_goals (with_reducible rfl))
    try simp only [Act.put, List.setIfInBounds_toArray, List.set_cons_zero, List.set_cons_succ]
    refine wpAnyH_ready (rs := [10]) (by kernel_rfl) (by simp) ?_
    refine AllReadyH.cons (o := ?o1_k11) ?hi_k11 (fun K hK => ?rest_k11) AllReadyH.nil
    case hi_k11 => ((simp only [List.getElem?_toArray, List.getElem?_cons_succ, List.getElem?_cons_zero]); rfl)
    go_simp
    (go_at_call 51; (with_reducible refine (CN.out _).mono ?_); rintro e wz ⟨rfl, hz⟩; have hz2 := hz.symm; subst hz2)
    try go_simp
    refine hK.out _ _ (by exact hHeld) (fun hHeld => ?_)
    clear hK K
    try simp only [Act.put, List.setIfInBounds_toArray, List.set_cons_zero, List.set_cons_succ]
    have t0 := HT.out.cell (j := 0) rfl
    have t1 := HT.out.cell (j := 1) rfl
    have t2 := HT.out.cell (j := 2) rfl
    have t3 := HT.out.cell (j := 3) rfl
    have tf := HT.out.frozen
    have hst : Below W1.heap.size W1 ((((wq.setCell ⟨w.heap.size + 1, 0, none⟩ (.int .i64 o.kind)).setCell ⟨w.heap.size + 1, 1, none⟩ (.string o.name)).setCell ⟨w.heap.size + 1, 2, none⟩ (.string ⟨#[]⟩)).setCell ⟨w.heap.size + 1, 3, none⟩ (.slice va o.Z.length vc)) := (belSet (belSet (belSet (belSet hHeld ⟨w.heap.size + 1, 0, none⟩ _ (Nat.le_of_eq HSZ.out)) ⟨w.heap.size + 1, 1, none⟩ _ (Nat.le_of_eq HSZ.out)) ⟨w.heap.size + 1, 2, none⟩ _ (Nat.le_of_eq HSZ.out)) ⟨w.heap.size + 1, 3, none⟩ _ (Nat.le_of_eq HSZ.out))
    have HS := Lib.hid ((((HT.out.set 0 (.int .i64 o.kind)).set 1 (.string o.name)).set 2 (.string ⟨#[]⟩)).set 3 (.slice va o.Z.length vc))
    refine wpAnyH_ready (rs := [11]) (by kernel_rfl) (by simp) ?_
    refine AllReadyH.cons (o := ?o1_k12) ?hi_k12 (fun K hK => ?rest_k12) AllReadyH.nil
    case hi_k12 => ((simp only [List.getElem?_toArray, List.getElem?_cons_succ, List.getElem?_cons_zero]); rfl)
    go_simp
    refine hK.out _ _ (by exact hst) (fun hHeld => ?_)
    clear hK K
    try simp only [Act.put, List.setIfInBounds_toArray, List.set_cons_zero, List.set_cons_succ]
    clear t0 t1 t2 t3 tf
    refine wpAnyH_take (i := 12) (oi := ?oi_k13) (v := ?v_k13) ?hi_k13 (by kernel_rfl) ?hf_k13 ?hr_k13 ?hQ_k13 (Or.inl ⟨?hw_k13, ?hy_k13⟩) (by assumption) ?rest_k13
    case hi_k13 => ((simp only [List.getElem?_toArray, List.getElem?_cons_succ, List.getElem?_cons_zero]); rfl)
    case hf_k13 => kernel_rfl
    case hr_k13 => kernel_rfl
    case hQ_k13 => exact fun _ _ _ h => h
    case hw_k13 => rfl
    case hy_k13 => ((intro w hSw; (try dsimp only at hSw); go_simp); all_goals (with_reducible rfl))
    try simp only [Act.put, List.setIfInBounds_toArray, List.set_cons_zero, List.set_cons_succ]
    refine wpAnyH_done (by kernel_rfl) ?_ _
    go_wp2
    have hwq : w.heap.size + 2 ≤ wq.heap.size := by have h1 := HQ.out.size; have h2 := (HT0.out.later (belDrew (Below.refl _ _))).lt; omega
    refine own_ret _ (w.heap.size + 1) _ o.kind o.name ⟨#[]⟩ va o.Z.length vc _ _ rfl rfl HS.out ⟨⟨o.kind, o.name, ⟨#[]⟩, va, vc, o.Z⟩, ?_, ?_, ⟨HN.out, Nat.zero_le _, HKI.out⟩, ?_, belStep HB1.out hst⟩
    · rw [show rightM o.m = namedM o.name by unfold rightM OpV.m; rw [if_pos HK1.out]]
    · intro _; unfold OpV.m ownM; rw [if_pos HK1.out]; rw [HK1.out]
    · intro X hX
      obtain ⟨a2, c2, e2, hB2⟩ := BytesX.of_own (X := X) HO.out HZ.out.2 (fun b hb => by have := hX b hb; have h2 := (HT0.out.later (belDrew (Below.refl _ _))).lt; have h3 : W2.drew.heap.size ≤ wq.heap.size := HQ.out.size; omega) hl
      simp only [Value.slice.injEq, true_and] at e2
      obtain ⟨rfl, rfl⟩ := e2
      have hAp : Apart [w.heap.size + 1] wq ((((wq.setCell ⟨w.heap.size + 1, 0, none⟩ (.int .i64 o.kind)).setCell ⟨w.heap.size + 1, 1, none⟩ (.string o.name)).setCell ⟨w.heap.size + 1, 2, none⟩ (.string ⟨#[]⟩)).setCell ⟨w.heap.size + 1, 3, none⟩ (.slice va o.Z.length vc)) := ((((Apart.refl [w.heap.size + 1] wq).set _ _ (by simp)).set _ _ (by simp)).set _ _ (by simp)).set _ _ (by simp)
      exact ⟨hAp.ints hB2.1 (fun q x ex hx => by subst ex; have h9 := row_ge HO.out q; have h2 := (HT0.out.later (belDrew (Below.refl _ _))).lt; simp only [List.mem_singleton] at hx; omega), hB2.2⟩
  · have d1 : (o.kind == (1 : Int)) = false := by rw [beq_eq_false_iff_ne]; exact k1
    have HK1 := Lib.hid k1
    clear k1
    by_cases k2 : o.kind = 2
    · have d2 : (o.kind == (2 : Int)) = true := by rw [k2]; rfl
      have HK2 := Lib.hid k2
      clear k2
      obtain ⟨nm, hnm⟩ : ∃ q, namedM o.name = q := ⟨_, rfl⟩
      have HNM := Lib.hid hnm
      clear hnm
      go_upto_region 5 with fail
      cases nm with
      | true =>
        refine wp_region_held_drew (S := fun u => Below W1.heap.size W1 u) (by kernel_rfl) (by exact belDrew hbel) (fun hHeld => ?_)
        refine wpAnyH_take (i := 0) (oi := ?oi_k14) (v := ?v_k14) ?hi_k14 (by kernel_rfl) ?hf_k14 ?hr_k14 ?hQ_k14 (Or.inl ⟨?hw_k14, ?hy_k14⟩) (by assumption) ?rest_k14
        case hi_k14 => ((simp only [List.getElem?_toArray, List.getElem?_cons_succ, List.getElem?_cons_zero]); rfl)
        case hf_k14 => kernel_rfl
        case hr_k14 => kernel_rfl
        case hQ_k14 => exact fun _ _ _ h => h
        case hw_k14 => rfl
        case hy_k14 => ((intro w hSw; (try dsimp only at hSw); go_simp); all_goals (with_reducible rfl))
        try simp only [Act.put, List.setIfInBounds_toArray, List.set_cons_zero, List.set_cons_succ]
        refine wpAnyH_take (i := 1) (oi := ?oi_k15) (v := ?v_k15) ?hi_k15 (by kernel_rfl) ?hf_k15 ?hr_k15 ?hQ_k15 (Or.inl ⟨?hw_k15, ?hy_k15⟩) (by assumption) ?rest_k15
        case hi_k15 => ((simp only [List.getElem?_toArray, List.getElem?_cons_succ, List.getElem?_cons_zero]); rfl)
        case hf_k15 => kernel_rfl
        case hr_k15 => kernel_rfl
        case hQ_k15 => exact fun _ _ _ h => h
        case hw_k15 => rfl
        case hy_k15 => ((intro w hSw; (try dsimp only at hSw); go_simp); all_goals (with_reducible rfl))
        try simp only [Act.put, List.setIfInBounds_toArray, List.set_cons_zero, List.set_cons_succ]
        refine wpAnyH_take (i := 2) (oi := ?oi_k16) (v := ?v_k16) ?hi_k16 (by kernel_rfl) ?hf_k16 ?hr_k16 ?hQ_k16 (Or.inl ⟨?hw_k16, ?hy_k16⟩) (by assumption) ?rest_k16
        case hi_k16 => ((simp only [List.getElem?_toArray, List.getElem?_cons_succ, List.getElem?_cons_zero]); rfl)
        case hf_k16 => kernel_rfl
        case hr_k16 => kernel_rfl
        case hQ_k16 => exact fun _ _ _ h => h
        case hw_k16 => rfl
        case hy_k16 => ((intro w hSw; (try dsimp only at hSw); go_simp); all_goals (with_reducible rfl))
        try simp only [Act.put, List.setIfInBounds_toArray, List.set_cons_zero, List.set_cons_succ]
        refine wpAnyH_take (i := 3) (oi := ?oi_k17) (v := ?v_k17) ?hi_k17 (by kernel_rfl) ?hf_k17 ?hr_k17 ?hQ_k17 (Or.inl ⟨?hw_k17, ?hy_k17⟩) (by assumption) ?rest_k17
        case hi_k17 => ((simp only [List.getElem?_toArray, List.getElem?_cons_succ, List.getElem?_cons_zero]); rfl)
        case hf_k17 => kernel_rfl
        case hr_k17 => kernel_rfl
        case hQ_k17 => exact fun _ _ _ h => h
        case hw_k17 => rfl
        case hy_k17 => ((intro w hSw; (try dsimp only at hSw); go_simp); all_goals (with_reducible rfl))
        try simp only [Act.put, List.setIfInBounds_toArray, List.set_cons_zero, List.set_cons_succ]
        refine wpAnyH_take (i := 4) (oi := ?oi_k18) (v := ?v_k18) ?hi_k18 (by kernel_rfl) ?hf_k18 ?hr_k18 ?hQ_k18 (Or.inl ⟨?hw_k18, ?hy_k18⟩) (by assumption) ?rest_k18
        case hi_k18 => ((simp only [List.getElem?_toArray, List.getElem?_cons_succ, List.getElem?_cons_zero]); rfl)
        case hf_k18 => kernel_rfl
        case hr_k18 => kernel_rfl
        case hQ_k18 => exact fun _ _ _ h => h
        case hw_k18 => rfl
        case hy_k18 => ((intro w hSw; (try dsimp only at hSw); go_simp); all_goals (with_reducible rfl))
        try simp only [Act.put, List.setIfInBounds_toArray, List.set_cons_zero, List.set_cons_succ]
        refine wpAnyH_take (i := 5) (oi := ?oi_k19) (v := ?v_k19) ?hi_k19 (by kernel_rfl) ?hf_k19 ?hr_k19 ?hQ_k19 (Or.inl ⟨?hw_k19, ?hy_k19⟩) (by assumption) ?rest_k19
        case hi_k19 => ((simp only [List.getElem?_toArray, List.getElem?_cons_succ, List.getElem?_cons_zero]); rfl)
        case hf_k19 => kernel_rfl
        case hr_k19 => kernel_rfl
        case hQ_k19 => exact fun _ _ _ h => h
        case hw_k19 => rfl
        case hy_k19 => ((intro w hSw; (try dsimp only at hSw); go_simp); all_goals (with_reducible rfl))
        try simp only [Act.put, List.setIfInBounds_toArray, List.set_cons_zero, List.set_cons_succ]
        refine wpAnyH_take (i := 6) (oi := ?oi_k20) (v := ?v_k20) ?hi_k20 (by kernel_rfl) ?hf_k20 ?hr_k20 ?hQ_k20 (Or.inl ⟨?hw_k20, ?hy_k20⟩) (by assumption) ?rest_k20
        case hi_k20 => ((simp only [List.getElem?_toArray, List.getElem?_cons_succ, List.getElem?_cons_zero]); rfl)
        case hf_k20 => kernel_rfl
        case hr_k20 => kernel_rfl
        case hQ_k20 => exact fun _ _ _ h => h
        case hw_k20 => rfl
        case hy_k20 => ((intro w hSw; (try dsimp only at hSw); go_simp); all_goals (with_reducible rfl))
        try simp only [Act.put, List.setIfInBounds_toArray, List.set_cons_zero, List.set_cons_succ]
        refine wpAnyH_take (i := 7) (oi := ?oi_k21) (v := ?v_k21) ?hi_k21 (by kernel_rfl) ?hf_k21 ?hr_k21 ?hQ_k21 (Or.inl ⟨?hw_k21, ?hy_k21⟩) (by assumption) ?rest_k21
        case hi_k21 => ((simp only [List.getElem?_toArray, List.getElem?_cons_succ, List.getElem?_cons_zero]); rfl)
        case hf_k21 => kernel_rfl
        case hr_k21 => kernel_rfl
        case hQ_k21 => exact fun _ _ _ h => h
        case hw_k21 => rfl
        case hy_k21 => ((intro w hSw; (try dsimp only at hSw); go_simp); all_goals (with_reducible rfl))
        try simp only [Act.put, List.setIfInBounds_toArray, List.set_cons_zero, List.set_cons_succ]
        refine wpAnyH_take (i := 8) (oi := ?oi_k22) (v := ?v_k22) ?hi_k22 (by kernel_rfl) ?hf_k22 ?hr_k22 ?hQ_k22 (Or.inl ⟨?hw_k22, ?hy_k22⟩) (by assumption) ?rest_k22
        case hi_k22 => ((simp only [List.getElem?_toArray, List.getElem?_cons_succ, List.getElem?_cons_zero]); rfl)
        case hf_k22 => kernel_rfl
        case hr_k22 => kernel_rfl
        case hQ_k22 => exact fun _ _ _ h => h
        case hw_k22 => rfl
        case hy_k22 => ((intro w hSw; (try dsimp only at hSw); go_simp); all_goals (with_reducible rfl))
        try simp only [Act.put, List.setIfInBounds_toArray, List.set_cons_zero, List.set_cons_succ]
        refine wpAnyH_ready (rs := [9]) (by kernel_rfl) (by simp) ?_
        refine AllReadyH.cons (o := ?o1_k23) ?hi_k23 (fun K hK => ?rest_k23) AllReadyH.nil
        case hi_k23 => ((simp only [List.getElem?_toArray, List.getElem?_cons_succ, List.getElem?_cons_zero]); rfl)
        go_simp
        (go_at_call 51; (with_reducible refine (CN.out _).mono ?_); rintro e wz ⟨rfl, hz⟩; have hz2 := hz.symm; subst hz2)
        rw [HNM.out]
        try go_simp
        refine hK.out _ _ (by exact hHeld) (fun hHeld => ?_)
        clear hK K
        try simp only [Act.put, List.setIfInBounds_toArray, List.set_cons_zero, List.set_cons_succ]
        refine wpAnyH_take (i := 10) (oi := ?oi_k24) (v := ?v_k24) ?hi_k24 (by kernel_rfl) ?hf_k24 ?hr_k24 ?hQ_k24 (Or.inl ⟨?hw_k24, ?hy_k24⟩) (by assumption) ?rest_k24
        case hi_k24 => ((simp only [List.getElem?_toArray, List.getElem?_cons_succ, List.getElem?_cons_zero]); rfl)
        case hf_k24 => kernel_rfl
        case hr_k24 => kernel_rfl
        case hQ_k24 => exact fun _ _ _ h => h
        case hw_k24 => rfl
        case hy_k24 => ((intro w hSw; (try dsimp only at hSw); go_simp); all_goals (with_reducible rfl))
        try simp only [Act.put, List.setIfInBounds_toArray, List.set_cons_zero, List.set_cons_succ]
        refine wpAnyH_take (i := 11) (oi := ?oi_k25) (v := ?v_k25) ?hi_k25 (by kernel_rfl) ?hf_k25 ?hr_k25 ?hQ_k25 (Or.inl ⟨?hw_k25, ?hy_k25⟩) (by assumption) ?rest_k25
        case hi_k25 => ((simp only [List.getElem?_toArray, List.getElem?_cons_succ, List.getElem?_cons_zero]); rfl)
        case hf_k25 => kernel_rfl
        case hr_k25 => kernel_rfl
        case hQ_k25 => exact fun _ _ _ h => h
        case hw_k25 => rfl
        case hy_k25 => ((intro w hSw; (try dsimp only at hSw); go_simp); all_goals (with_reducible rfl))
        try simp only [Act.put, List.setIfInBounds_toArray, List.set_cons_zero, List.set_cons_succ]
        refine wpAnyH_take (i := 12) (oi := ?oi_k26) (v := ?v_k26) ?hi_k26 (by kernel_rfl) ?hf_k26 ?hr_k26 ?hQ_k26 (Or.inl ⟨?hw_k26, ?hy_k26⟩) (by assumption) ?rest_k26
        case hi_k26 => ((simp only [List.getElem?_toArray, List.getElem?_cons_succ, List.getElem?_cons_zero]); rfl)
        case hf_k26 => kernel_rfl
        case hr_k26 => kernel_rfl
        case hQ_k26 => exact fun _ _ _ h => h
        case hw_k26 => rfl
        case hy_k26 => ((intro w hSw; (try dsimp only at hSw); go_simp); all_goals (with_reducible rfl))
        try simp only [Act.put, List.setIfInBounds_toArray, List.set_cons_zero, List.set_cons_succ]
        refine wpAnyH_ready (rs := [13]) (by kernel_rfl) (by simp) ?_
        refine AllReadyH.cons (o := ?o1_k27) ?hi_k27 (fun K hK => ?rest_k27) AllReadyH.nil
        case hi_k27 => ((simp only [List.getElem?_toArray, List.getElem?_cons_succ, List.getElem?_cons_zero]); rfl)
        go_simp
        (go_at_call 51; (with_reducible refine (CD.out _).mono ?_); rintro e wz ⟨rfl, hz⟩; have hz2 := hz.symm; subst hz2)
        try go_simp
        refine hK.out _ _ (by exact hHeld) (fun hHeld => ?_)
        clear hK K
        try simp only [Act.put, List.setIfInBounds_toArray, List.set_cons_zero, List.set_cons_succ]
        refine wpAnyH_take (i := 14) (oi := ?oi_k28) (v := ?v_k28) ?hi_k28 (by kernel_rfl) ?hf_k28 ?hr_k28 ?hQ_k28 (Or.inl ⟨?hw_k28, ?hy_k28⟩) (by assumption) ?rest_k28
        case hi_k28 => ((simp only [List.getElem?_toArray, List.getElem?_cons_succ, List.getElem?_cons_zero]); rfl)
        case hf_k28 => kernel_rfl
        case hr_k28 => kernel_rfl
        case hQ_k28 => exact fun _ _ _ h => h
        case hw_k28 => rfl
        case hy_k28 => ((intro w hSw; (try dsimp only at hSw); go_simp); all_goals (with_reducible rfl))
        try simp only [Act.put, List.setIfInBounds_toArray, List.set_cons_zero, List.set_cons_succ]
        have HT := Lib.hid (show Blk W2 (w.heap.size + 1) [.int .i64 0, .string ⟨#[]⟩, .string ⟨#[]⟩, .slice none 0 0] 49 from HT0.out)
        have t0 := HT.out.cell (j := 0) rfl
        have t1 := HT.out.cell (j := 1) rfl
        have t2 := HT.out.cell (j := 2) rfl
        have t3 := HT.out.cell (j := 3) rfl
        have tf := HT.out.frozen
        have hst : Below W1.heap.size W1 ((((W2.setCell ⟨w.heap.size + 1, 0, none⟩ (.int .i64 o.kind)).setCell ⟨w.heap.size + 1, 1, none⟩ (.string o.name)).setCell ⟨w.heap.size + 1, 2, none⟩ (.string o.dst)).setCell ⟨w.heap.size + 1, 3, none⟩ (.slice none 0 0)).drew := belDrew (belSet (belSet (belSet (belSet HB2.out ⟨w.heap.size + 1, 0, none⟩ _ (Nat.le_of_eq HSZ.out)) ⟨w.heap.size + 1, 1, none⟩ _ (Nat.le_of_eq HSZ.out)) ⟨w.heap.size + 1, 2, none⟩ _ (Nat.le_of_eq HSZ.out)) ⟨w.heap.size + 1, 3, none⟩ _ (Nat.le_of_eq HSZ.out))
        have HS := Lib.hid (((((HT.out.set 0 (.int .i64 o.kind)).set 1 (.string o.name)).set 2 (.string o.dst)).set 3 (.slice none 0 0)).later (belDrew (Below.refl _ _)))
        refine wpAnyH_ready (rs := [15]) (by kernel_rfl) (by simp) ?_
        refine AllReadyH.cons (o := ?o1_k29) ?hi_k29 (fun K hK => ?rest_k29) AllReadyH.nil
        case hi_k29 => ((simp only [List.getElem?_toArray, List.getElem?_cons_succ, List.getElem?_cons_zero]); rfl)
        go_simp
        refine hK.out _ _ (by exact hst) (fun hHeld => ?_)
        clear hK K
        try simp only [Act.put, List.setIfInBounds_toArray, List.set_cons_zero, List.set_cons_succ]
        clear t0 t1 t2 t3 tf
        refine wpAnyH_take (i := 16) (oi := ?oi_k30) (v := ?v_k30) ?hi_k30 (by kernel_rfl) ?hf_k30 ?hr_k30 ?hQ_k30 (Or.inl ⟨?hw_k30, ?hy_k30⟩) (by assumption) ?rest_k30
        case hi_k30 => ((simp only [List.getElem?_toArray, List.getElem?_cons_succ, List.getElem?_cons_zero]); rfl)
        case hf_k30 => kernel_rfl
        case hr_k30 => kernel_rfl
        case hQ_k30 => exact fun _ _ _ h => h
        case hw_k30 => rfl
        case hy_k30 => ((intro w hSw; (try dsimp only at hSw); go_simp); all_goals (with_reducible rfl))
        try simp only [Act.put, List.setIfInBounds_toArray, List.set_cons_zero, List.set_cons_succ]
        refine wpAnyH_done (by kernel_rfl) ?_ _
        go_wp2
        refine own_ret _ (w.heap.size + 1) _ o.kind o.name o.dst none 0 0 (namedM o.dst) _ rfl rfl HS.out ⟨⟨o.kind, o.name, o.dst, none, 0, []⟩, ?_, ?_, ⟨HN.out, HD.out, HKI.out⟩, fun X hX => ⟨⟨row_nil, fun n hn => by cases hn⟩, fun q => absurd rfl q, by simp⟩, belStep HB1.out hst⟩
        · rw [show rightM o.m = namedM o.dst by unfold rightM OpV.m; rw [if_neg HK1.out, if_pos HK2.out]; dsimp only; rw [HNM.out]; rfl]; rfl
        · intro _; unfold OpV.m ownM; rw [if_neg HK1.out, if_pos HK2.out]; rw [HK2.out]
      | false =>
        refine wp_region_held_drew (S := fun u => Below W1.heap.size W1 u) (by kernel_rfl) (by exact belDrew hbel) (fun hHeld => ?_)
        refine wpAnyH_take (i := 0) (oi := ?oi_k31) (v := ?v_k31) ?hi_k31 (by kernel_rfl) ?hf_k31 ?hr_k31 ?hQ_k31 (Or.inl ⟨?hw_k31, ?hy_k31⟩) (by assumption) ?rest_k31
        case hi_k31 => ((simp only [List.getElem?_toArray, List.getElem?_cons_succ, List.getElem?_cons_zero]); rfl)
        case hf_k31 => kernel_rfl
        case hr_k31 => kernel_rfl
        case hQ_k31 => exact fun _ _ _ h => h
        case hw_k31 => rfl
        case hy_k31 => ((intro w hSw; (try dsimp only at hSw); go_simp); all_goals (with_reducible rfl))
        try simp only [Act.put, List.setIfInBounds_toArray, List.set_cons_zero, List.set_cons_succ]
        refine wpAnyH_take (i := 1) (oi := ?oi_k32) (v := ?v_k32) ?hi_k32 (by kernel_rfl) ?hf_k32 ?hr_k32 ?hQ_k32 (Or.inl ⟨?hw_k32, ?hy_k32⟩) (by assumption) ?rest_k32
        case hi_k32 => ((simp only [List.getElem?_toArray, List.getElem?_cons_succ, List.getElem?_cons_zero]); rfl)
        case hf_k32 => kernel_rfl
        case hr_k32 => kernel_rfl
        case hQ_k32 => exact fun _ _ _ h => h
        case hw_k32 => rfl
        case hy_k32 => ((intro w hSw; (try dsimp only at hSw); go_simp); all_goals (with_reducible rfl))
        try simp only [Act.put, List.setIfInBounds_toArray, List.set_cons_zero, List.set_cons_succ]
        refine wpAnyH_take (i := 2) (oi := ?oi_k33) (v := ?v_k33) ?hi_k33 (by kernel_rfl) ?hf_k33 ?hr_k33 ?hQ_k33 (Or.inl ⟨?hw_k33, ?hy_k33⟩) (by assumption) ?rest_k33
        case hi_k33 => ((simp only [List.getElem?_toArray, List.getElem?_cons_succ, List.getElem?_cons_zero]); rfl)
        case hf_k33 => kernel_rfl
        case hr_k33 => kernel_rfl
        case hQ_k33 => exact fun _ _ _ h => h
        case hw_k33 => rfl
        case hy_k33 => ((intro w hSw; (try dsimp only at hSw); go_simp); all_goals (with_reducible rfl))
        try simp only [Act.put, List.setIfInBounds_toArray, List.set_cons_zero, List.set_cons_succ]
        refine wpAnyH_take (i := 3) (oi := ?oi_k34) (v := ?v_k34) ?hi_k34 (by kernel_rfl) ?hf_k34 ?hr_k34 ?hQ_k34 (Or.inl ⟨?hw_k34, ?hy_k34⟩) (by assumption) ?rest_k34
        case hi_k34 => ((simp only [List.getElem?_toArray, List.getElem?_cons_succ, List.getElem?_cons_zero]); rfl)
        case hf_k34 => kernel_rfl
        case hr_k34 => kernel_rfl
        case hQ_k34 => exact fun _ _ _ h => h
        case hw_k34 => rfl
        case hy_k34 => ((intro w hSw; (try dsimp only at hSw); go_simp); all_goals (with_reducible rfl))
        try simp only [Act.put, List.setIfInBounds_toArray, List.set_cons_zero, List.set_cons_succ]
        refine wpAnyH_take (i := 4) (oi := ?oi_k35) (v := ?v_k35) ?hi_k35 (by kernel_rfl) ?hf_k35 ?hr_k35 ?hQ_k35 (Or.inl ⟨?hw_k35, ?hy_k35⟩) (by assumption) ?rest_k35
        case hi_k35 => ((simp only [List.getElem?_toArray, List.getElem?_cons_succ, List.getElem?_cons_zero]); rfl)
        case hf_k35 => kernel_rfl
        case hr_k35 => kernel_rfl
        case hQ_k35 => exact fun _ _ _ h => h
        case hw_k35 => rfl
        case hy_k35 => ((intro w hSw; (try dsimp only at hSw); go_simp); all_goals (with_reducible rfl))
        try simp only [Act.put, List.setIfInBounds_toArray, List.set_cons_zero, List.set_cons_succ]
        refine wpAnyH_take (i := 5) (oi := ?oi_k36) (v := ?v_k36) ?hi_k36 (by kernel_rfl) ?hf_k36 ?hr_k36 ?hQ_k36 (Or.inl ⟨?hw_k36, ?hy_k36⟩) (by assumption) ?rest_k36
        case hi_k36 => ((simp only [List.getElem?_toArray, List.getElem?_cons_succ, List.getElem?_cons_zero]); rfl)
        case hf_k36 => kernel_rfl
        case hr_k36 => kernel_rfl
        case hQ_k36 => exact fun _ _ _ h => h
        case hw_k36 => rfl
        case hy_k36 => ((intro w hSw; (try dsimp only at hSw); go_simp); all_goals (with_reducible rfl))
        try simp only [Act.put, List.setIfInBounds_toArray, List.set_cons_zero, List.set_cons_succ]
        refine wpAnyH_take (i := 6) (oi := ?oi_k37) (v := ?v_k37) ?hi_k37 (by kernel_rfl) ?hf_k37 ?hr_k37 ?hQ_k37 (Or.inl ⟨?hw_k37, ?hy_k37⟩) (by assumption) ?rest_k37
        case hi_k37 => ((simp only [List.getElem?_toArray, List.getElem?_cons_succ, List.getElem?_cons_zero]); rfl)
        case hf_k37 => kernel_rfl
        case hr_k37 => kernel_rfl
        case hQ_k37 => exact fun _ _ _ h => h
        case hw_k37 => rfl
        case hy_k37 => ((intro w hSw; (try dsimp only at hSw); go_simp); all_goals (with_reducible rfl))
        try simp only [Act.put, List.setIfInBounds_toArray, List.set_cons_zero, List.set_cons_succ]
        refine wpAnyH_take (i := 7) (oi := ?oi_k38) (v := ?v_k38) ?hi_k38 (by kernel_rfl) ?hf_k38 ?hr_k38 ?hQ_k38 (Or.inl ⟨?hw_k38, ?hy_k38⟩) (by assumption) ?rest_k38
        case hi_k38 => ((simp only [List.getElem?_toArray, List.getElem?_cons_succ, List.getElem?_cons_zero]); rfl)
        case hf_k38 => kernel_rfl
        case hr_k38 => kernel_rfl
        case hQ_k38 => exact fun _ _ _ h => h
        case hw_k38 => rfl
        case hy_k38 => ((intro w hSw; (try dsimp only at hSw); go_simp); all_goals (with_reducible rfl))
        try simp only [Act.put, List.setIfInBounds_toArray, List.set_cons_zero, List.set_cons_succ]
        refine wpAnyH_take (i := 8) (oi := ?oi_k39) (v := ?v_k39) ?hi_k39 (by kernel_rfl) ?hf_k39 ?hr_k39 ?hQ_k39 (Or.inl ⟨?hw_k39, ?hy_k39⟩) (by assumption) ?rest_k39
        case hi_k39 => ((simp only [List.getElem?_toArray, List.getElem?_cons_succ, List.getElem?_cons_zero]); rfl)
        case hf_k39 => kernel_rfl
        case hr_k39 => kernel_rfl
        case hQ_k39 => exact fun _ _ _ h => h
        case hw_k39 => rfl
        case hy_k39 => ((intro w hSw; (try dsimp only at hSw); go_simp); all_goals (with_reducible rfl))
        try simp only [Act.put, List.setIfInBounds_toArray, List.set_cons_zero, List.set_cons_succ]
        refine wpAnyH_ready (rs := [9]) (by kernel_rfl) (by simp) ?_
        refine AllReadyH.cons (o := ?o1_k40) ?hi_k40 (fun K hK => ?rest_k40) AllReadyH.nil
        case hi_k40 => ((simp only [List.getElem?_toArray, List.getElem?_cons_succ, List.getElem?_cons_zero]); rfl)
        go_simp
        (go_at_call 51; (with_reducible refine (CN.out _).mono ?_); rintro e wz ⟨rfl, hz⟩; have hz2 := hz.symm; subst hz2)
        rw [HNM.out]
        try go_simp
        refine hK.out _ _ (by exact hHeld) (fun hHeld => ?_)
        clear hK K
        try simp only [Act.put, List.setIfInBounds_toArray, List.set_cons_zero, List.set_cons_succ]
        refine wpAnyH_take (i := 10) (oi := ?oi_k41) (v := ?v_k41) ?hi_k41 (by kernel_rfl) ?hf_k41 ?hr_k41 ?hQ_k41 (Or.inl ⟨?hw_k41, ?hy_k41⟩) (by assumption) ?rest_k41
        case hi_k41 => ((simp only [List.getElem?_toArray, List.getElem?_cons_succ, List.getElem?_cons_zero]); rfl)
        case hf_k41 => kernel_rfl
        case hr_k41 => kernel_rfl
        case hQ_k41 => exact fun _ _ _ h => h
        case hw_k41 => rfl
        case hy_k41 => ((intro w hSw; (try dsimp only at hSw); go_simp); all_goals (with_reducible rfl))
        try simp only [Act.put, List.setIfInBounds_toArray, List.set_cons_zero, List.set_cons_succ]
        refine wpAnyH_take (i := 11) (oi := ?oi_k42) (v := undef) ?hi_k42 (by kernel_rfl) ?hf_k42 ?hr_k42 ?hQ_k42 (Or.inr ⟨?hw_k42, rfl⟩) (by assumption) ?rest_k42
        case hi_k42 => ((simp only [List.getElem?_toArray, List.getElem?_cons_succ, List.getElem?_cons_zero]); rfl)
        case hf_k42 => kernel_rfl
        case hr_k42 => kernel_rfl
        case hQ_k42 => exact fun _ _ _ h => h
        case hw_k42 => rfl
        try simp only [Act.put, List.setIfInBounds_toArray, List.set_cons_zero, List.set_cons_succ]
        refine wpAnyH_take (i := 12) (oi := ?oi_k43) (v := undef) ?hi_k43 (by kernel_rfl) ?hf_k43 ?hr_k43 ?hQ_k43 (Or.inr ⟨?hw_k43, rfl⟩) (by assumption) ?rest_k43
        case hi_k43 => ((simp only [List.getElem?_toArray, List.getElem?_cons_succ, List.getElem?_cons_zero]); rfl)
        case hf_k43 => kernel_rfl
        case hr_k43 => kernel_rfl
        case hQ_k43 => exact fun _ _ _ h => h
        case hw_k43 => rfl
        try simp only [Act.put, List.setIfInBounds_toArray, List.set_cons_zero, List.set_cons_succ]
        refine wpAnyH_take (i := 13) (oi := ?oi_k44) (v := undef) ?hi_k44 (by kernel_rfl) ?hf_k44 ?hr_k44 ?hQ_k44 (Or.inr ⟨?hw_k44, rfl⟩) (by assumption) ?rest_k44
        case hi_k44 => ((simp only [List.getElem?_toArray, List.getElem?_cons_succ, List.getElem?_cons_zero]); rfl)
        case hf_k44 => kernel_rfl
        case hr_k44 => kernel_rfl
        case hQ_k44 => exact fun _ _ _ h => h
        case hw_k44 => rfl
        try simp only [Act.put, List.setIfInBounds_toArray, List.set_cons_zero, List.set_cons_succ]
        refine wpAnyH_take (i := 14) (oi := ?oi_k45) (v := ?v_k45) ?hi_k45 (by kernel_rfl) ?hf_k45 ?hr_k45 ?hQ_k45 (Or.inl ⟨?hw_k45, ?hy_k45⟩) (by assumption) ?rest_k45
        case hi_k45 => ((simp only [List.getElem?_toArray, List.getElem?_cons_succ, List.getElem?_cons_zero]); rfl)
        case hf_k45 => kernel_rfl
        case hr_k45 => kernel_rfl
        case hQ_k45 => exact fun _ _ _ h => h
        case hw_k45 => rfl
        case hy_k45 => ((intro w hSw; (try dsimp only at hSw); go_simp); all_goals (with_reducible rfl))
        try simp only [Act.put, List.setIfInBounds_toArray, List.set_cons_zero, List.set_cons_succ]
        have HT := Lib.hid (show Blk W2 (w.heap.size + 1) [.int .i64 0, .string ⟨#[]⟩, .string ⟨#[]⟩, .slice none 0 0] 49 from HT0.out)
        have t0 := HT.out.cell (j := 0) rfl
        have t1 := HT.out.cell (j := 1) rfl
        have t2 := HT.out.cell (j := 2) rfl
        have t3 := HT.out.cell (j := 3) rfl
        have tf := HT.out.frozen
        have hst : Below W1.heap.size W1 ((((W2.setCell ⟨w.heap.size + 1, 0, none⟩ (.int .i64 o.kind)).setCell ⟨w.heap.size + 1, 1, none⟩ (.string o.name)).setCell ⟨w.heap.size + 1, 2, none⟩ (.string o.dst)).setCell ⟨w.heap.size + 1, 3, none⟩ (.slice none 0 0)).drew := belDrew (belSet (belSet (belSet (belSet HB2.out ⟨w.heap.size + 1, 0, none⟩ _ (Nat.le_of_eq HSZ.out)) ⟨w.heap.size + 1, 1, none⟩ _ (Nat.le_of_eq HSZ.out)) ⟨w.heap.size + 1, 2, none⟩ _ (Nat.le_of_eq HSZ.out)) ⟨w.heap.size + 1, 3, none⟩ _ (Nat.le_of_eq HSZ.out))
        have HS := Lib.hid (((((HT.out.set 0 (.int .i64 o.kind)).set 1 (.string o.name)).set 2 (.string o.dst)).set 3 (.slice none 0 0)).later (belDrew (Below.refl _ _)))
        refine wpAnyH_ready (rs := [15]) (by kernel_rfl) (by simp) ?_
        refine AllReadyH.cons (o := ?o1_k46) ?hi_k46 (fun K hK => ?rest_k46) AllReadyH.nil
        case hi_k46 => ((simp only [List.getElem?_toArray, List.getElem?_cons_succ, List.getElem?_cons_zero]); rfl)
        go_simp
        refine hK.out _ _ (by exact hst) (fun hHeld => ?_)
        clear hK K
        try simp only [Act.put, List.setIfInBounds_toArray, List.set_cons_zero, List.set_cons_succ]
        clear t0 t1 t2 t3 tf
        refine wpAnyH_take (i := 16) (oi := ?oi_k47) (v := ?v_k47) ?hi_k47 (by kernel_rfl) ?hf_k47 ?hr_k47 ?hQ_k47 (Or.inl ⟨?hw_k47, ?hy_k47⟩) (by assumption) ?rest_k47
        case hi_k47 => ((simp only [List.getElem?_toArray, List.getElem?_cons_succ, List.getElem?_cons_zero]); rfl)
        case hf_k47 => kernel_rfl
        case hr_k47 => kernel_rfl
        case hQ_k47 => exact fun _ _ _ h => h
        case hw_k47 => rfl
        case hy_k47 => ((intro w hSw; (try dsimp only at hSw); go_simp); all_goals (with_reducible rfl))
        try simp only [Act.put, List.setIfInBounds_toArray, List.set_cons_zero, List.set_cons_succ]
        refine wpAnyH_done (by kernel_rfl) ?_ _
        go_wp2
        refine own_ret _ (w.heap.size + 1) _ o.kind o.name o.dst none 0 0 false _ rfl rfl HS.out ⟨⟨o.kind, o.name, o.dst, none, 0, []⟩, ?_, ?_, ⟨HN.out, HD.out, HKI.out⟩, fun X hX => ⟨⟨row_nil, fun n hn => by cases hn⟩, fun q => absurd rfl q, by simp⟩, belStep HB1.out hst⟩
        · rw [show rightM o.m = false by unfold rightM OpV.m; rw [if_neg HK1.out, if_pos HK2.out]; dsimp only; rw [HNM.out]; rfl]; rfl
        · intro _; unfold OpV.m ownM; rw [if_neg HK1.out, if_pos HK2.out]; rw [HK2.out]
    · have d2 : (o.kind == (2 : Int)) = false := by rw [beq_eq_false_iff_ne]; exact k2
      have HK2 := Lib.hid k2
      clear k2
      by_cases k3 : o.kind = 3
      · have d3 : (o.kind == (3 : Int)) = true := by rw [k3]; rfl
        have HK3 := Lib.hid k3
        clear k3
        go_upto_region 7 with fail
        refine wp_region_held_drew (S := fun u => Below W1.heap.size W1 u) (by kernel_rfl) (by exact belDrew hbel) (fun hHeld => ?_)
        refine wpAnyH_take (i := 0) (oi := ?oi_k48) (v := ?v_k48) ?hi_k48 (by kernel_rfl) ?hf_k48 ?hr_k48 ?hQ_k48 (Or.inl ⟨?hw_k48, ?hy_k48⟩) (by assumption) ?rest_k48
        case hi_k48 => ((simp only [List.getElem?_toArray, List.getElem?_cons_succ, List.getElem?_cons_zero]); rfl)
        case hf_k48 => kernel_rfl
        case hr_k48 => kernel_rfl
        case hQ_k48 => exact fun _ _ _ h => h
        case hw_k48 => rfl
        case hy_k48 => ((intro w hSw; (try dsimp only at hSw); go_simp); all_goals (with_reducible rfl))
        try simp only [Act.put, List.setIfInBounds_toArray, List.set_cons_zero, List.set_cons_succ]
        refine wpAnyH_take (i := 1) (oi := ?oi_k49) (v := ?v_k49) ?hi_k49 (by kernel_rfl) ?hf_k49 ?hr_k49 ?hQ_k49 (Or.inl ⟨?hw_k49, ?hy_k49⟩) (by assumption) ?rest_k49
        case hi_k49 => ((simp only [List.getElem?_toArray, List.getElem?_cons_succ, List.getElem?_cons_zero]); rfl)
        case hf_k49 => kernel_rfl
        case hr_k49 => kernel_rfl
        case hQ_k49 => exact fun _ _ _ h => h
        case hw_k49 => rfl
        case hy_k49 => ((intro w hSw; (try dsimp only at hSw); go_simp); all_goals (with_reducible rfl))
        try simp only [Act.put, List.setIfInBounds_toArray, List.set_cons_zero, List.set_cons_succ]
        refine wpAnyH_take (i := 2) (oi := ?oi_k50) (v := ?v_k50) ?hi_k50 (by kernel_rfl) ?hf_k50 ?hr_k50 ?hQ_k50 (Or.inl ⟨?hw_k50, ?hy_k50⟩) (by assumption) ?rest_k50
        case hi_k50 => ((simp only [List.getElem?_toArray, List.getElem?_cons_succ, List.getElem?_cons_zero]); rfl)
        case hf_k50 => kernel_rfl
        case hr_k50 => kernel_rfl
        case hQ_k50 => exact fun _ _ _ h => h
        case hw_k50 => rfl
        case hy_k50 => ((intro w hSw; (try dsimp only at hSw); go_simp); all_goals (with_reducible rfl))
        try simp only [Act.put, List.setIfInBounds_toArray, List.set_cons_zero, List.set_cons_succ]
        refine wpAnyH_take (i := 3) (oi := ?oi_k51) (v := ?v_k51) ?hi_k51 (by kernel_rfl) ?hf_k51 ?hr_k51 ?hQ_k51 (Or.inl ⟨?hw_k51, ?hy_k51⟩) (by assumption) ?rest_k51
        case hi_k51 => ((simp only [List.getElem?_toArray, List.getElem?_cons_succ, List.getElem?_cons_zero]); rfl)
        case hf_k51 => kernel_rfl
        case hr_k51 => kernel_rfl
        case hQ_k51 => exact fun _ _ _ h => h
        case hw_k51 => rfl
        case hy_k51 => ((intro w hSw; (try dsimp only at hSw); go_simp); all_goals (with_reducible rfl))
        try simp only [Act.put, List.setIfInBounds_toArray, List.set_cons_zero, List.set_cons_succ]
        refine wpAnyH_take (i := 4) (oi := ?oi_k52) (v := ?v_k52) ?hi_k52 (by kernel_rfl) ?hf_k52 ?hr_k52 ?hQ_k52 (Or.inl ⟨?hw_k52, ?hy_k52⟩) (by assumption) ?rest_k52
        case hi_k52 => ((simp only [List.getElem?_toArray, List.getElem?_cons_succ, List.getElem?_cons_zero]); rfl)
        case hf_k52 => kernel_rfl
        case hr_k52 => kernel_rfl
        case hQ_k52 => exact fun _ _ _ h => h
        case hw_k52 => rfl
        case hy_k52 => ((intro w hSw; (try dsimp only at hSw); go_simp); all_goals (with_reducible rfl))
        try simp only [Act.put, List.setIfInBounds_toArray, List.set_cons_zero, List.set_cons_succ]
        refine wpAnyH_take (i := 5) (oi := ?oi_k53) (v := ?v_k53) ?hi_k53 (by kernel_rfl) ?hf_k53 ?hr_k53 ?hQ_k53 (Or.inl ⟨?hw_k53, ?hy_k53⟩) (by assumption) ?rest_k53
        case hi_k53 => ((simp only [List.getElem?_toArray, List.getElem?_cons_succ, List.getElem?_cons_zero]); rfl)
        case hf_k53 => kernel_rfl
        case hr_k53 => kernel_rfl
        case hQ_k53 => exact fun _ _ _ h => h
        case hw_k53 => rfl
        case hy_k53 => ((intro w hSw; (try dsimp only at hSw); go_simp); all_goals (with_reducible rfl))
        try simp only [Act.put, List.setIfInBounds_toArray, List.set_cons_zero, List.set_cons_succ]
        refine wpAnyH_take (i := 6) (oi := ?oi_k54) (v := ?v_k54) ?hi_k54 (by kernel_rfl) ?hf_k54 ?hr_k54 ?hQ_k54 (Or.inl ⟨?hw_k54, ?hy_k54⟩) (by assumption) ?rest_k54
        case hi_k54 => ((simp only [List.getElem?_toArray, List.getElem?_cons_succ, List.getElem?_cons_zero]); rfl)
        case hf_k54 => kernel_rfl
        case hr_k54 => kernel_rfl
        case hQ_k54 => exact fun _ _ _ h => h
        case hw_k54 => rfl
        case hy_k54 => ((intro w hSw; (try dsimp only at hSw); go_simp); all_goals (with_reducible rfl))
        try simp only [Act.put, List.setIfInBounds_toArray, List.set_cons_zero, List.set_cons_succ]
        refine wpAnyH_ready (rs := [7]) (by kernel_rfl) (by simp) ?_
        refine AllReadyH.cons (o := ?o1_k55) ?hi_k55 (fun K hK => ?rest_k55) AllReadyH.nil
        case hi_k55 => ((simp only [List.getElem?_toArray, List.getElem?_cons_succ, List.getElem?_cons_zero]); rfl)
        go_simp
        (go_at_call 51; (with_reducible refine (CN.out _).mono ?_); rintro e wz ⟨rfl, hz⟩; have hz2 := hz.symm; subst hz2)
        try go_simp
        refine hK.out _ _ (by exact hHeld) (fun hHeld => ?_)
        clear hK K
        try simp only [Act.put, List.setIfInBounds_toArray, List.set_cons_zero, List.set_cons_succ]
        have HT := Lib.hid (show Blk W2 (w.heap.size + 1) [.int .i64 0, .string ⟨#[]⟩, .string ⟨#[]⟩, .slice none 0 0] 49 from HT0.out)
        have t0 := HT.out.cell (j := 0) rfl
        have t1 := HT.out.cell (j := 1) rfl
        have t2 := HT.out.cell (j := 2) rfl
        have t3 := HT.out.cell (j := 3) rfl
        have tf := HT.out.frozen
        have hst : Below W1.heap.size W1 ((((W2.setCell ⟨w.heap.size + 1, 0, none⟩ (.int .i64 o.kind)).setCell ⟨w.heap.size + 1, 1, none⟩ (.string o.name)).setCell ⟨w.heap.size + 1, 2, none⟩ (.string ⟨#[]⟩)).setCell ⟨w.heap.size + 1, 3, none⟩ (.slice none 0 0)).drew := belDrew (belSet (belSet (belSet (belSet HB2.out ⟨w.heap.size + 1, 0, none⟩ _ (Nat.le_of_eq HSZ.out)) ⟨w.heap.size + 1, 1, none⟩ _ (Nat.le_of_eq HSZ.out)) ⟨w.heap.size + 1, 2, none⟩ _ (Nat.le_of_eq HSZ.out)) ⟨w.heap.size + 1, 3, none⟩ _ (Nat.le_of_eq HSZ.out))
        have HS := Lib.hid (((((HT.out.set 0 (.int .i64 o.kind)).set 1 (.string o.name)).set 2 (.string ⟨#[]⟩)).set 3 (.slice none 0 0)).later (belDrew (Below.refl _ _)))
        refine wpAnyH_ready (rs := [8]) (by kernel_rfl) (by simp) ?_
        refine AllReadyH.cons (o := ?o1_k56) ?hi_k56 (fun K hK => ?rest_k56) AllReadyH.nil
        case hi_k56 => ((simp only [List.getElem?_toArray, List.getElem?_cons_succ, List.getElem?_cons_zero]); rfl)
        go_simp
        refine hK.out _ _ (by exact hst) (fun hHeld => ?_)
        clear hK K
        try simp only [Act.put, List.setIfInBounds_toArray, List.set_cons_zero, List.set_cons_succ]
        clear t0 t1 t2 t3 tf
        refine wpAnyH_take (i := 9) (oi := ?oi_k57) (v := ?v_k57) ?hi_k57 (by kernel_rfl) ?hf_k57 ?hr_k57 ?hQ_k57 (Or.inl ⟨?hw_k57, ?hy_k57⟩) (by assumption) ?rest_k57
        case hi_k57 => ((simp only [List.getElem?_toArray, List.getElem?_cons_succ, List.getElem?_cons_zero]); rfl)
        case hf_k57 => kernel_rfl
        case hr_k57 => kernel_rfl
        case hQ_k57 => exact fun _ _ _ h => h
        case hw_k57 => rfl
        case hy_k57 => ((intro w hSw; (try dsimp only at hSw); go_simp); all_goals (with_reducible rfl))
        try simp only [Act.put, List.setIfInBounds_toArray, List.set_cons_zero, List.set_cons_succ]
        refine wpAnyH_done (by kernel_rfl) ?_ _
        go_wp2
        refine own_ret _ (w.heap.size + 1) _ o.kind o.name ⟨#[]⟩ none 0 0 (namedM o.name) _ rfl rfl HS.out ⟨⟨o.kind, o.name, ⟨#[]⟩, none, 0, []⟩, ?_, ?_, ⟨HN.out, Nat.zero_le _, HKI.out⟩, fun X hX => ⟨⟨row_nil, fun n hn => by cases hn⟩, fun q => absurd rfl q, by simp⟩, belStep HB1.out hst⟩
        · rw [show rightM o.m = namedM o.name by unfold rightM OpV.m; rw [if_neg HK1.out, if_neg HK2.out, if_pos HK3.out]]; rfl
        · intro _; unfold OpV.m ownM; rw [if_neg HK1.out, if_neg HK2.out]; rw [HK3.out]
      · have d3 : (o.kind == (3 : Int)) = false := by rw [beq_eq_false_iff_ne]; exact k3
        have HK3 := Lib.hid k3
        clear k3
        have t0 := HT0.out.cell (j := 0) rfl
        have t1 := HT0.out.cell (j := 1) rfl
        have t2 := HT0.out.cell (j := 2) rfl
        have t3 := HT0.out.cell (j := 3) rfl
        have tf := HT0.out.frozen
        have HS := Lib.hid ((((HT0.out.set 0 (.int .i64 0)).set 1 (.string ⟨#[]⟩)).set 2 (.string ⟨#[]⟩)).set 3 (.slice none 0 0))
        have hst := belSet (belSet (belSet (belSet HB2.out ⟨w.heap.size + 1, 0, none⟩ (.int .i64 0) (Nat.le_of_eq HSZ.out)) ⟨w.heap.size + 1, 1, none⟩ (.string ⟨#[]⟩) (Nat.le_of_eq HSZ.out)) ⟨w.heap.size + 1, 2, none⟩ (.string ⟨#[]⟩) (Nat.le_of_eq HSZ.out)) ⟨w.heap.size + 1, 3, none⟩ (.slice none 0 0) (Nat.le_of_eq HSZ.out)
        go_wp2
        refine own_ret _ (w.heap.size + 1) _ 0 ⟨#[]⟩ ⟨#[]⟩ none 0 0 false _ rfl rfl HS.out ⟨⟨0, ⟨#[]⟩, ⟨#[]⟩, none, 0, []⟩, ?_, ?_, ⟨Nat.zero_le _, Nat.zero_le _, by show InI 0; unfold InI; simp⟩, fun X hX => ⟨⟨row_nil, fun n hn => by cases hn⟩, fun q => absurd rfl q, by simp⟩, belStep HB1.out hst⟩
        · rw [show rightM o.m = false by unfold rightM OpV.m; rw [if_neg HK1.out, if_neg HK2.out, if_neg HK3.out]]; rfl
        · intro h; rw [show rightM o.m = false by unfold rightM OpV.m; rw [if_neg HK1.out, if_neg HK2.out, if_neg HK3.out]] at h; cases h
end Go.Proofs.Ytcbblgeleboggaa
