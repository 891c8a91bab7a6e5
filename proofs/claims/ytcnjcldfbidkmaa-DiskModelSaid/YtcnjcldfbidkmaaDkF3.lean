
/- Stage 10: the reference: Do: contract. -/
import Derived.Test.YtcnjcldfbidkmaaDkF2
namespace Go.Proofs.Ytcnjcldfbidkmaa
open Go.RowKit Go.Sort
set_option linter.unusedVariables false
set_option linter.unusedSimpArgs false
theorem getF_del_none {L : List FileM} {s : ByteArray} (h : getF L s = none) : delF L s = L := by
  unfold getF at h
  unfold delF
  refine List.filter_eq_self.2 (fun x hx => ?_)
  have h2 := List.find?_eq_none.1 (Option.map_eq_none_iff.1 h) x hx
  simpa using h2
theorem move_put {L : List FileM} (hs : SortedF L) {s t : ByteArray} {Z : List Int} (h : getF L s = some Z) : moveF L s t = putF (delF L s) t Z := by
  refine files_ext ?_ (sorted_putF (sorted_delF hs _) _ _) (fun u => ?_)
  · unfold moveF
    rw [h]
    dsimp only
    split
    · exact hs
    · exact sorted_delF (sorted_putF hs _ _) _
  · rw [find_putF, find_delF]
    cases he : s.toList == t.toList with
    | true =>
      rw [move_same he]
      have e := ba_ext (eq_of_beq he)
      subst e
      cases hu : s.toList == u.toList with
      | true => rw [if_pos rfl, ← ba_ext (eq_of_beq hu), h]
      | false => rw [if_neg (by simp), if_neg (by simp)]
    | false =>
      rw [move_get h he, find_delF, find_putF]
      cases hu : t.toList == u.toList with
      | true =>
        have e := ba_ext (eq_of_beq hu)
        subst e
        rw [he]; simp
      | false => rw [if_neg (by simp : ¬ (false = true))]; simp
theorem delV_map (L : List FileV) (s : ByteArray) : (L.filter (fun x => !(x.name.toList == s.toList))).map FileV.m = delF (L.map FileV.m) s := by
  unfold delF
  rw [List.filter_map]
  rfl
def FRow (w : World) (v : Value) (K : List FileV) : Prop := ∃ a c, v = .slice a K.length c ∧ Row w a K.length c 2 (K.flatMap FileV.cells) ∧ ∀ f ∈ K, f.good w
theorem FRow.later {u w : World} {v : Value} {K : List FileV} (h : FRow u v K) (hb : Below u.heap.size u w) : FRow w v K := by
  obtain ⟨a, c, h1, h2, h3⟩ := h
  exact ⟨a, c, h1, h2.later hb, fun f hf => (h3 f hf).later hb⟩
theorem frow_own {w : World} {B : Nat} {v : Value} {K : List FileV} (h : OwnR w B 146 2 v K.length (K.flatMap FileV.cells)) (hg : ∀ f ∈ K, f.good w) : FRow w v K := by
  obtain ⟨a, c, rfl, hr⟩ := rowR_of_own h
  exact ⟨a, c, rfl, hr, hg⟩
def blkOf (a : Option Addr) : List Nat := a.toList.map Addr.block
/-- A list of files whose rows lie in the blocks X. -/
def FIn (X : List Nat) (w : World) (v : Value) (K : List FileV) : Prop := ∃ a c, v = .slice a K.length c ∧ Row w a K.length c 2 (K.flatMap FileV.cells) ∧ (K.flatMap FileV.cells ≠ [] → ∀ x, a = some x → x.block ∈ X) ∧ ∀ f ∈ K, f.good w ∧ (f.Z ≠ [] → ∀ x, f.ba = some x → x.block ∈ X)
theorem FIn.row {X : List Nat} {w : World} {v : Value} {K : List FileV} (h : FIn X w v K) : FRow w v K := by
  obtain ⟨a, c, h1, h2, _, h4⟩ := h
  exact ⟨a, c, h1, h2, fun f hf => (h4 f hf).1⟩
theorem FIn.of {w : World} {v : Value} {K : List FileV} (h : FRow w v K) : ∃ X, FIn X w v K ∧ ∀ b ∈ X, b < w.heap.size := by
  obtain ⟨a, c, h1, h2, h3⟩ := h
  refine ⟨(blkOf a ++ K.flatMap (fun f => blkOf f.ba)).filter (fun b => decide (b < w.heap.size)), ⟨a, c, h1, h2, fun hne x e => ?_, fun f hf => ⟨h3 f hf, fun hne x e => ?_⟩⟩, fun b hb => of_decide_eq_true (List.mem_filter.1 hb).2⟩
  · exact List.mem_filter.2 ⟨List.mem_append_left _ (by subst e; exact List.mem_singleton.2 rfl), decide_eq_true (row_ltF h2 hne e)⟩
  · exact List.mem_filter.2 ⟨List.mem_append_right _ (List.mem_flatMap.2 ⟨f, hf, by rw [e]; exact List.mem_singleton.2 rfl⟩), decide_eq_true (row_ltF (h3 f hf).1.1 (by simpa using hne) e)⟩
theorem FIn.apart {X F : List Nat} {u w : World} {v : Value} {K : List FileV} (h : FIn X u v K) (hA : Apart F u w) (hF : ∀ b ∈ X, b ∉ F) : FIn X w v K := by
  obtain ⟨a, c, h1, h2, h3, h4⟩ := h
  exact ⟨a, c, h1, hA.row h2 (fun q x e hx => hF _ (h3 q x e) hx), h3, fun f hf => ⟨⟨hA.ints (h4 f hf).1.1 (fun q x e hx => hF _ ((h4 f hf).2 q x e) hx), (h4 f hf).1.2⟩, (h4 f hf).2⟩⟩
theorem FIn.free {X Y : List Nat} {u w : World} {v : Value} {K : List FileV} (h : FIn X u v K) (hf : Free Y u w) (hY : ∀ b ∈ X, b ∈ Y) : FIn X w v K := by
  obtain ⟨F, hA, hF⟩ := hf
  exact h.apart hA (fun b hb => hF b (hY b hb))
theorem FIn.later {X : List Nat} {u w : World} {v : Value} {K : List FileV} (h : FIn X u v K) (hb : Below u.heap.size u w) : FIn X w v K := h.apart (F := []) (Apart.of_below hb) (fun b _ => List.not_mem_nil)
theorem fin_own {w : World} {B N : Nat} {X : List Nat} {v : Value} {K : List FileV} (h : OwnR w B 146 2 v K.length (K.flatMap FileV.cells)) (hg : ∀ f ∈ K, f.good w) (hz : ∀ f ∈ K, f.Z ≠ [] → ∀ x, f.ba = some x → x.block ∈ X ∨ N ≤ x.block) (hB : N ≤ B) : ∃ Y, FIn Y w v K ∧ ∀ b ∈ Y, b ∈ X ∨ N ≤ b := by
  obtain ⟨a, c, rfl, hr⟩ := rowR_of_own h
  refine ⟨(Value.slice a K.length c).ownBlock.toList ++ (K.filter (fun f => !f.Z.isEmpty)).flatMap (fun f => blkOf f.ba), ⟨a, c, rfl, hr, fun _ x e => List.mem_append_left _ (Option.mem_toList.2 (own_blkD h e)), fun f hf => ⟨hg f hf, fun hne x e => List.mem_append_right _ (List.mem_flatMap.2 ⟨f, List.mem_filter.2 ⟨hf, by cases hq : f.Z with | nil => exact absurd hq hne | cons => rfl⟩, by rw [e]; exact List.mem_singleton.2 rfl⟩)⟩⟩, fun b hb => ?_⟩
  rcases List.mem_append.1 hb with q | q
  · exact .inr (Nat.le_trans hB (own_type h (Option.mem_toList.1 q)).1)
  · obtain ⟨f, hf, hb2⟩ := List.mem_flatMap.1 q
    obtain ⟨hf1, hf2⟩ := List.mem_filter.1 hf
    unfold blkOf at hb2
    cases hba : f.ba with
    | none => rw [hba] at hb2; simp at hb2
    | some x =>
      rw [hba] at hb2
      have e : b = x.block := by simpa using hb2
      subst e
      exact hz f hf1 (fun e => by rw [e] at hf2; simp at hf2) x hba
theorem ints_one (Z : List Int) : ∀ u ∈ Z.map (Value.int .u8), u.oneCell' = true := fun u hu => by
  obtain ⟨x, _, rfl⟩ := List.mem_map.1 hu
  rfl
set_option maxRecDepth 100000 in
set_option maxHeartbeats 32000000 in
theorem fr_Do (a : Option Addr) (n c : Nat) (L : List FileV) (X : List Nat) (o : OpV) (w : World) (hl : L.length = n) (hR : Row w a n c 2 (L.flatMap FileV.cells)) (hg : ∀ f ∈ L, f.good w) (hXr : L.flatMap FileV.cells ≠ [] → ∀ x, a = some x → x.block ∈ X) (hXz : ∀ f ∈ L, f.Z ≠ [] → ∀ x, f.ba = some x → x.block ∈ X) (hs : SortedF (L.map FileV.m)) (hn : n ≤ 900) (ho : o.good w) (hz : o.Z.length ≤ 1000) (hk : o.kind = 1 ∨ o.kind = 2 ∨ o.kind = 3) :
    Calls Try.prog 76 #[.slice a n c, .agg #[.int .i64 o.kind, .string o.name, .string o.dst, .slice o.ba o.Z.length o.bc]] w fun e w' => ∃ v : Value, e = .returned v ∧ ∃ K : List FileV, (∃ Y, FIn Y w' v K ∧ ∀ b ∈ Y, b ∈ X ∨ w.heap.size ≤ b) ∧ K.map FileV.m = applyF (L.map FileV.m) o.m ∧ Below w.heap.size w w' := by
  have hw : Below w.heap.size w w := Below.refl _ _
  have hbd_a : n ≤ c ∧ c ≤ 9223372036854775807 := by obtain ⟨_, h1, h2, _⟩ := hR; unfold maxLen at h2; exact ⟨h1, h2⟩
  obtain ⟨hbd1_a, hbd2_a⟩ := hbd_a
  subst hl
  have HR := Lib.hid hR
  have HGL := Lib.hid hg
  have HSO := Lib.hid hs
  have HZ := Lib.hid ho.1
  obtain ⟨hs1, hs2, hs3⟩ := ho.2
  have HS1 := Lib.hid hs1
  have HS2 := Lib.hid hs2
  have hzb1 : o.Z.length ≤ o.bc := ho.1.1.2.1
  have hzb2 : o.bc ≤ 9223372036854775807 := by have := ho.1.1.2.2.1; unfold maxLen at this; omega
  have HK := Lib.hid hk
  have HXR := Lib.hid hXr
  have HXZ := Lib.hid hXz
  have HWW := Lib.hid (Nat.le_refl w.heap.size)
  clear hR hg hs ho hs1 hs2 hs3 hk hXr hXz
  go_enter Try.func76, Try.ntmps76
  go_upto_region 1 with fail
  have HOB := Lib.hid (Blk.new w [.int .i64 o.kind, .string o.name, .string o.dst, .slice o.ba o.Z.length o.bc] 70)
  have HB1 := Lib.hid (belAlloc hw (.cells #[.int .i64 o.kind, .string o.name, .string o.dst, .slice o.ba o.Z.length o.bc] 70))
  clear hw
  generalize w.alloc (.cells #[.int .i64 o.kind, .string o.name, .string o.dst, .slice o.ba o.Z.length o.bc] 70) = W1 at *
  have HBB := Lib.hid HB1.out.size
  have HOL := Lib.hid HOB.out.lt
  generalize hob : w.heap.size = ob at HOB HOL
  have HOBE := Lib.hid hob
  try simp only [hob]
  clear hob
  have CP := Lib.hid (fun u (hu : Below W1.heap.size W1 u) (s : ByteArray) (ga : Option Addr) (gc : Nat) (Z : List Int) (L2 : List FileV) (a2 : Option Addr) (c2 : Nat) (hr : Row u a2 L2.length c2 2 (L2.flatMap FileV.cells)) (hs2 : SortedF (L2.map FileV.m)) (hn2 : L2.length ≤ 1000) (hI : Ints .u8 u ga Z.length gc Z) (hz2 : Z.length ≤ 1000) (hs3 : s.size ≤ maxLen) => show Calls Try.prog 113 #[.slice a2 L2.length c2, .agg #[.string s, .slice ga Z.length gc]] u (fun e w' => ∃ v : Value, e = .returned v ∧ ∃ K : List FileV, OwnR w' u.heap.size 146 2 v K.length (K.flatMap FileV.cells) ∧ K.map FileV.m = putF (L2.map FileV.m) s Z ∧ (∀ x ∈ K, x = ⟨s, ga, gc, Z⟩ ∨ x ∈ L2) ∧ Below u.heap.size u w') from fr_put a2 L2.length c2 L2 ⟨s, ga, gc, Z⟩ u rfl hr hs2 hn2 ⟨hI, hz2, hs3⟩)
  by_cases k1 : o.kind = 1
  · have d1 : (o.kind == (1 : Int)) = true := by rw [k1]; rfl
    have HE := Lib.hid (show applyF (L.map FileV.m) o.m = putF (L.map FileV.m) o.name o.Z by unfold applyF OpV.m; dsimp only; rw [if_pos k1])
    clear k1
    have y0 := keep (HOB.out.cell (j := 0) rfl)
    have y1 := keep (HOB.out.cell (j := 1) rfl)
    have y2 := keep (HOB.out.cell (j := 2) rfl)
    have y3 := keep (HOB.out.cell (j := 3) rfl)
    have hbel : Below W1.heap.size W1 W1 := Below.refl _ _
    go_upto_region 2 with fail
    refine wp_region_held_drew (S := fun u => Below W1.heap.size W1 u) (by kernel_rfl) (by exact (show Below W1.heap.size W1 _ by repeat (first | assumption | exact Below.refl _ _ | refine belDrew ?_ | refine belAlloc ?_ _ | refine belStep ?_ (by assumption)))) (fun hHeld => ?_)
    refine wpAnyH_take (i := 0) (oi := ?oi_k1) (v := ?v_k1) ?hi_k1 (by kernel_rfl) ?hf_k1 ?hr_k1 ?hQ_k1 (Or.inl ⟨?hw_k1, ?hy_k1⟩) (by assumption) ?rest_k1
    case hi_k1 => ((simp only [List.getElem?_toArray, List.getElem?_cons_succ, List.getElem?_cons_zero]); rfl)
    case hf_k1 => kernel_rfl
    case hr_k1 => kernel_rfl
    case hQ_k1 => exact fun _ _ _ h => h
    case hw_k1 => rfl
    case hy_k1 => ((intro w hSw; (try dsimp only at hSw); go_simp); all_goals (with_reducible rfl))
    try simp only [Act.put, List.setIfInBounds_toArray, List.set_cons_zero, List.set_cons_succ]
    refine wpAnyH_take (i := 1) (oi := ?oi_k2) (v := ?v_k2) ?hi_k2 (by kernel_rfl) ?hf_k2 ?hr_k2 ?hQ_k2 (Or.inl ⟨?hw_k2, ?hy_k2⟩) (by assumption) ?rest_k2
    case hi_k2 => ((simp only [List.getElem?_toArray, List.getElem?_cons_succ, List.getElem?_cons_zero]); rfl)
    case hf_k2 => kernel_rfl
    case hr_k2 => kernel_rfl
    case hQ_k2 => exact fun _ _ _ h => h
    case hw_k2 => rfl
    case hy_k2 => ((intro w hSw; (try dsimp only at hSw); go_simp); all_goals (with_reducible rfl))
    try simp only [Act.put, List.setIfInBounds_toArray, List.set_cons_zero, List.set_cons_succ]
    refine wpAnyH_take (i := 2) (oi := ?oi_k3) (v := ?v_k3) ?hi_k3 (by kernel_rfl) ?hf_k3 ?hr_k3 ?hQ_k3 (Or.inl ⟨?hw_k3, ?hy_k3⟩) (by assumption) ?rest_k3
    case hi_k3 => ((simp only [List.getElem?_toArray, List.getElem?_cons_succ, List.getElem?_cons_zero]); rfl)
    case hf_k3 => kernel_rfl
    case hr_k3 => kernel_rfl
    case hQ_k3 => exact fun _ _ _ h => h
    case hw_k3 => rfl
    case hy_k3 => ((intro w hSw; (try dsimp only at hSw); go_simp); all_goals (with_reducible rfl))
    try simp only [Act.put, List.setIfInBounds_toArray, List.set_cons_zero, List.set_cons_succ]
    refine wpAnyH_take (i := 4) (oi := ?oi_k4) (v := ?v_k4) ?hi_k4 (by kernel_rfl) ?hf_k4 ?hr_k4 ?hQ_k4 (Or.inl ⟨?hw_k4, ?hy_k4⟩) (by assumption) ?rest_k4
    case hi_k4 => ((simp only [List.getElem?_toArray, List.getElem?_cons_succ, List.getElem?_cons_zero]); rfl)
    case hf_k4 => kernel_rfl
    case hr_k4 => kernel_rfl
    case hQ_k4 => exact fun _ _ _ h => h
    case hw_k4 => rfl
    case hy_k4 => ((intro w hSw; (try dsimp only at hSw); go_simp); all_goals (with_reducible rfl))
    try simp only [Act.put, List.setIfInBounds_toArray, List.set_cons_zero, List.set_cons_succ]
    refine wpAnyH_take (i := 5) (oi := ?oi_k5) (v := ?v_k5) ?hi_k5 (by kernel_rfl) ?hf_k5 ?hr_k5 ?hQ_k5 (Or.inl ⟨?hw_k5, ?hy_k5⟩) (by assumption) ?rest_k5
    case hi_k5 => ((simp only [List.getElem?_toArray, List.getElem?_cons_succ, List.getElem?_cons_zero]); rfl)
    case hf_k5 => kernel_rfl
    case hr_k5 => kernel_rfl
    case hQ_k5 => exact fun _ _ _ h => h
    case hw_k5 => rfl
    case hy_k5 => ((intro w hSw; (try dsimp only at hSw); go_simp); all_goals (with_reducible rfl))
    try simp only [Act.put, List.setIfInBounds_toArray, List.set_cons_zero, List.set_cons_succ]
    refine wpAnyH_ready (rs := [3]) (by kernel_rfl) (by simp) ?_
    refine AllReadyH.cons (o := ?o1_k6) ?hi_k6 (fun K hK => ?rest_k6) AllReadyH.nil
    case hi_k6 => ((simp only [List.getElem?_toArray, List.getElem?_cons_succ, List.getElem?_cons_zero]); rfl)
    go_simp
    have hu3 : Below W1.heap.size W1 (W1.alloc (.cells #[] 5)).drew := belDrew (belAlloc (Below.refl _ _) _)
    have HO3 := Lib.hid (OwnR.later (show OwnR (W1.alloc (.cells #[] 5)) W1.heap.size 5 1 (.slice (some ⟨W1.heap.size, 0, none⟩) 0 0) 0 [] from own_new W1 W1.heap.size 5 .u8 (Nat.le_refl _)) (belDrew (Below.refl _ _)))
    refine hK.out _ _ (by exact hu3) (fun hHeld => ?_)
    clear hK K
    try simp only [Act.put, List.setIfInBounds_toArray, List.set_cons_zero, List.set_cons_succ]
    have HH := Lib.hid hHeld
    refine wpAnyH_ready (rs := [6]) (by kernel_rfl) (by simp) ?_
    refine AllReadyH.cons (o := ?o1_k7) ?hi_k7 (fun K hK => ?rest_k7) AllReadyH.nil
    case hi_k7 => ((simp only [List.getElem?_toArray, List.getElem?_cons_succ, List.getElem?_cons_zero]); rfl)
    refine op_first rfl _ _ 68 rfl (W1.heap.size) 5 _ 1 1 Try.underlying68 info_u8D rfl (by decide) _ (by rfl) HO3.out o.ba o.Z.length o.bc (o.Z.map (Value.int .u8)) (by rfl) ((HZ.out.later HB1.out).1.later hHeld) (ints_one _) (by unfold maxLen; omega) (by omega) (Below.size hHeld) ?_
    intro v4 w4 ho4 hb4
    obtain ⟨ga, gc, rfl, _⟩ := rowR_of_own ho4
    have HI4 := Lib.hid (show Ints .u8 w4 ga o.Z.length gc o.Z from by obtain ⟨a9, c9, e9, hi9⟩ := ints_of_own (show OwnI w4 W1.heap.size 5 .u8 (.slice ga o.Z.length gc) o.Z from ho4) HZ.out.2; simp only [Value.slice.injEq, true_and] at e9; obtain ⟨rfl, rfl⟩ := e9; exact hi9)
    have HOI4 := Lib.hid (show OwnI w4 W1.heap.size 5 .u8 (.slice ga o.Z.length gc) o.Z from ho4)
    have hu4 : Below W1.heap.size W1 w4 := hHeld.trans (hb4.mono (Below.size hHeld))
    have HU4 := Lib.hid hu4
    refine hK.out _ _ (by exact hu4) (fun hHeld => ?_)
    clear hK K
    try simp only [Act.put, List.setIfInBounds_toArray, List.set_cons_zero, List.set_cons_succ]
    refine wpAnyH_take (i := 7) (oi := ?oi_k8) (v := ?v_k8) ?hi_k8 (by kernel_rfl) ?hf_k8 ?hr_k8 ?hQ_k8 (Or.inl ⟨?hw_k8, ?hy_k8⟩) (by assumption) ?rest_k8
    case hi_k8 => ((simp only [List.getElem?_toArray, List.getElem?_cons_succ, List.getElem?_cons_zero]); rfl)
    case hf_k8 => kernel_rfl
    case hr_k8 => kernel_rfl
    case hQ_k8 => exact fun _ _ _ h => h
    case hw_k8 => rfl
    case hy_k8 => ((intro w hSw; (try dsimp only at hSw); go_simp); all_goals (with_reducible rfl))
    try simp only [Act.put, List.setIfInBounds_toArray, List.set_cons_zero, List.set_cons_succ]
    refine wpAnyH_ready (rs := [8]) (by kernel_rfl) (by simp) ?_
    refine AllReadyH.cons (o := ?o1_k9) ?hi_k9 (fun K hK => ?rest_k9) AllReadyH.nil
    case hi_k9 => ((simp only [List.getElem?_toArray, List.getElem?_cons_succ, List.getElem?_cons_zero]); rfl)
    go_simp
    (go_at_call 113; (with_reducible refine (CP.out _ HU4.out o.name ga gc o.Z L a c ((HR.out.later HB1.out).later HU4.out) HSO.out (by omega) HI4.out (by omega) HS1.out).mono ?_); rintro e wq ⟨v, rfl, KL, ho9, hm9, hk9, hb9⟩)
    try go_simp
    have hu8 := belStep HU4.out hb9
    have HU8 := Lib.hid hu8
    have HB9 := Lib.hid hb9
    have HKO := Lib.hid ho9
    have HKM := Lib.hid hm9
    have HKK := Lib.hid hk9
    refine hK.out _ _ (by exact hu8) (fun hHeld => ?_)
    clear hK K
    try simp only [Act.put, List.setIfInBounds_toArray, List.set_cons_zero, List.set_cons_succ]
    refine wpAnyH_take (i := 9) (oi := ?oi_k10) (v := ?v_k10) ?hi_k10 (by kernel_rfl) ?hf_k10 ?hr_k10 ?hQ_k10 (Or.inl ⟨?hw_k10, ?hy_k10⟩) (by assumption) ?rest_k10
    case hi_k10 => ((simp only [List.getElem?_toArray, List.getElem?_cons_succ, List.getElem?_cons_zero]); rfl)
    case hf_k10 => kernel_rfl
    case hr_k10 => kernel_rfl
    case hQ_k10 => exact fun _ _ _ h => h
    case hw_k10 => rfl
    case hy_k10 => ((intro w hSw; (try dsimp only at hSw); go_simp); all_goals (with_reducible rfl))
    try simp only [Act.put, List.setIfInBounds_toArray, List.set_cons_zero, List.set_cons_succ]
    refine wpAnyH_done (by kernel_rfl) ?_ _
    clear hHeld hbel y0 y1 y2 y3
    go_wp2
    go_ret
    exact ⟨_, rfl, KL, fin_own (X := X) HKO.out (fun f hf => (HKK.out f hf).elim (fun q => by subst q; exact ⟨HI4.out.later HB9.out, by show o.Z.length ≤ 1000; omega, HS1.out⟩) (fun q => (((HGL.out f q).later HB1.out).later HU4.out).later HB9.out)) (fun f hf hne x e => (HKK.out f hf).elim (fun q => by subst q; have e2 : ga = some x := e; have h9 := HOI4.out; rw [e2] at h9; exact .inr (Nat.le_trans HBB.out (row_ge h9 hne))) (fun q => .inl (HXZ.out f q hne x e))) (Nat.le_trans HBB.out HU4.out.size), by rw [HE.out]; exact HKM.out, belStep HB1.out HU8.out⟩
  · have d1 : (o.kind == (1 : Int)) = false := by rw [beq_eq_false_iff_ne]; exact k1
    have HK1 := Lib.hid k1
    have hn9 : o.name.size ≤ 9223372036854775807 := by have := HS1.out; unfold maxLen at this; omega
    have y0 := keep (HOB.out.cell (j := 0) rfl)
    have y1 := keep (HOB.out.cell (j := 1) rfl)
    have y2 := keep (HOB.out.cell (j := 2) rfl)
    have y3 := keep (HOB.out.cell (j := 3) rfl)
    have hbel : Below W1.heap.size W1 W1 := Below.refl _ _
    have CF := Lib.hid (fr_Find a L.length c L o.name W1 rfl (HR.out.later HB1.out))
    go_upto_region 4 with (go_at_call 114; (with_reducible refine (CF.out).mono ?_); rintro e w2 ⟨q, rfl, hq_, hb_⟩; have HQ := Lib.hid hq_; have hbz := belStep hbel hb_; clear hbel; have hbel := hbz; clear hbz hq_ hb_)
    clear CF k1
    rcases HQ.out with ⟨rfl, hnone⟩ | ⟨k, f, rfl, hf, hfn, hget⟩
    · have HEE := Lib.hid (show applyF (L.map FileV.m) o.m = L.map FileV.m by unfold applyF OpV.m; dsimp only; rw [if_neg HK1.out]; by_cases k2 : o.kind = 2; rw [if_pos k2, move_none hnone]; rw [if_neg k2, if_pos (by have := HK.out; have := HK1.out; omega), getF_del_none hnone])
      clear hnone
      go_wp2
      go_ret
      exact ⟨_, rfl, L, ⟨X, ⟨a, c, rfl, HR.out.later (belStep HB1.out hbel), HXR.out, fun f hf => ⟨(HGL.out f hf).later (belStep HB1.out hbel), HXZ.out f hf⟩⟩, fun b hb => .inl hb⟩, HEE.out.symm, belStep HB1.out hbel⟩
    · have hlt : k < L.length := (List.getElem?_eq_some_iff.1 hf).1
      have hki : (k : Int) < (L.length : Int) := by omega
      have hk0 : (0 : Int) ≤ (k : Int) := by omega
      have hkn : ¬ (k : Int) < 0 := by omega
      have hdn : decide ((k : Int) < 0) = false := decide_eq_false (by omega)
      have HFG := Lib.hid (HGL.out f (List.mem_of_getElem? hf))
      have HGET := Lib.hid hget
      have HFM := Lib.hid (List.mem_of_getElem? hf)
      have HHR := Lib.hid (HR.out.later HB1.out)
      obtain ⟨bc, oc, ec, _, hcc⟩ := (HHR.out).elem FileV.cells_len (by omega) hf
      subst ec
      have c1 := keep (hcc 1 _ rfl)
      have hfz1 : f.Z.length ≤ f.bc := HFG.out.1.1.2.1
      have hfz2 : f.bc ≤ 9223372036854775807 := by have := HFG.out.1.1.2.2.1; unfold maxLen at this; omega
      clear hcc hf hfn hget
      have HB2 := Lib.hid hbel
      have CW := Lib.hid (fr_without _ L.length c L o.name w2 rfl (HHR.out.later HB2.out) (by omega))
      obtain ⟨W, hW⟩ : ∃ W, L.filter (fun x : FileV => !(x.name.toList == o.name.toList)) = W := ⟨_, rfl⟩
      rw [hW] at CW
      have hWl : W.length ≤ L.length := by rw [← hW]; exact List.length_filter_le _ _
      have HWM := Lib.hid (show W.map FileV.m = delF (L.map FileV.m) o.name by rw [← hW]; exact delV_map L o.name)
      have HWG := Lib.hid (show ∀ x ∈ W, x ∈ L from fun x hx => by rw [← hW] at hx; exact (List.mem_filter.1 hx).1)
      clear hW
      go_upto_region 8 with (go_at_call 115; (with_reducible refine (CW.out).mono ?_); rintro e w3 ⟨v, rfl, ho_, hb_⟩; obtain ⟨wa, wc, rfl, hr_⟩ := rowR_of_own ho_; have HRW := Lib.hid hr_; have HOW := Lib.hid ho_; have HB3 := Lib.hid (belStep HB2.out hb_); clear ho_ hr_ hb_)
      clear hbel c1 CW
      have hbel := HB3.out
      have hwc1 : W.length ≤ wc := HRW.out.2.1
      have hwc2 : wc ≤ 9223372036854775807 := by have := HRW.out.2.2.1; unfold maxLen at this; omega
      have HWGG := Lib.hid (show ∀ x ∈ W, x.good w3 from fun x hx => ((HGL.out x (HWG.out x hx)).later HB1.out).later HB3.out)
      by_cases k2 : o.kind = 2
      · have d2 : (o.kind == (2 : Int)) = true := by rw [k2]; rfl
        have HE := Lib.hid (show applyF (L.map FileV.m) o.m = putF (delF (L.map FileV.m) o.name) o.dst f.Z by unfold applyF OpV.m; dsimp only; rw [if_neg HK1.out, if_pos k2]; exact move_put HSO.out HGET.out)
        clear k2
        have hd9 : o.dst.size ≤ 9223372036854775807 := by have := HS2.out; unfold maxLen at this; omega
        have hi9 := (HFG.out.1.later HB1.out).later hbel
        have hz3 := HFG.out.2.1
        have hs9 : SortedF (W.map FileV.m) := by rw [HWM.out]; exact sorted_delF HSO.out _
        go_wp2_with (go_at_call 113; (with_reducible refine (CP.out _ hbel o.dst f.ba f.bc f.Z W wa wc HRW.out hs9 (by omega) hi9 hz3 HS2.out).mono ?_); rintro e w4 ⟨v, rfl, K, ho9, hm9, hk9, hb9⟩)
        have HB4 := Lib.hid (belStep HB3.out hb9)
        go_ret
        exact ⟨_, rfl, K, fin_own (X := X) ho9 (fun x hx => (hk9 x hx).elim (fun q => by subst q; exact ⟨((HFG.out.1.later HB1.out).later HB4.out), HFG.out.2.1, HS2.out⟩) (fun q => (HWGG.out x q).later hb9)) (fun x hx hne y e => (hk9 x hx).elim (fun q => by subst q; exact .inl (HXZ.out f HFM.out hne y e)) (fun q => .inl (HXZ.out x (HWG.out x q) hne y e))) (Nat.le_trans HBB.out HB3.out.size), by rw [HE.out, ← HWM.out]; exact hm9, belStep HB1.out HB4.out⟩
      · have d2 : (o.kind == (2 : Int)) = false := by rw [beq_eq_false_iff_ne]; exact k2
        have HE := Lib.hid (show applyF (L.map FileV.m) o.m = delF (L.map FileV.m) o.name by unfold applyF OpV.m; dsimp only; rw [if_neg HK1.out, if_neg k2, if_pos (by have := HK.out; have := HK1.out; omega)])
        clear k2
        go_wp2
        go_ret
        exact ⟨_, rfl, W, fin_own (X := X) HOW.out HWGG.out (fun x hx hne y e => .inl (HXZ.out x (HWG.out x hx) hne y e)) (Nat.le_trans HBB.out HB2.out.size), by rw [HE.out]; exact HWM.out, belStep HB1.out HB3.out⟩
end Go.Proofs.Ytcnjcldfbidkmaa
