
/- WorldLife holds for all its arguments. No conditions. -/
import Derived.Test.YtampkolkbjmmkaaWl5
namespace Go.Proofs.Ytampkolkbjmmkaa.worldLife
open Go.ChangeShapes Go.WideShapes Go.ChangeAt Go.RowKit
open Go.ChangeMaps (open_string shut_string)
set_option linter.unusedVariables false
set_option linter.unusedSimpArgs false
open Go.Sort
theorem life_cells {w : World} {B : Nat} {a : Option Addr} {c : Nat} (h : OwnI w B 3 .i64 (.slice a 4 c) ([1, 2, 3] ++ [4])) : ∃ b o, a = some ⟨b, o, none⟩ ∧ (4 ≤ c ∧ c ≤ 9223372036854775807) ∧ ∀ k : Nat, k < 4 → w.cell? ⟨b, o + k, none⟩ = some (.int .i64 ((k : Int) + 1)) := by
  obtain ⟨a2, c2, e, _, h1, h2, _, h5⟩ := rowR_of_own h
  simp only [Value.slice.injEq] at e
  obtain ⟨rfl, _, rfl⟩ := e
  rcases h5 with h5 | ⟨b, o, rfl, h5⟩
  · simp at h5
  · refine ⟨b, o, rfl, ⟨h1, by unfold maxLen at h2; exact h2⟩, fun k hk => ?_⟩
    rw [h5 k (by simpa using hk)]
    match k, hk with
    | 0, _ | 1, _ | 2, _ | 3, _ => rfl
def lf1 (id : ByteArray) (r : Int) : WorldV := ⟨0, [], [⟨id, 1, 0, r⟩], []⟩
def lf2 (id nm : ByteArray) (z r : Int) : WorldV := ⟨0, [], [⟨id, 2, 0, r⟩], [⟨nm, z, r⟩]⟩
def lf3 (id nm : ByteArray) (z r q : Int) : WorldV := ⟨0, [], [⟨id, 3, 0, q⟩], [⟨nm, z, r⟩]⟩
def lf4 (id nm : ByteArray) (z r q : Int) : WorldV := ⟨0, [], [⟨id, 4, 0, q⟩], [⟨nm, z, r⟩]⟩
def lf5 (nm : ByteArray) (z r : Int) : WorldV := ⟨0, [], [], [⟨nm, z, r⟩]⟩
def lf6 : WorldV := ⟨0, [], [], []⟩
def lf0 : WorldV := ⟨0, [], [], []⟩
theorem pullW_one {r : Int} {O : List Bool} {I : List ImgV} {x : ContV} {nm : ByteArray} {size round : Int} (ht : toS x.state 1 ≠ 0) : pullW ⟨r, O, [x], I⟩ x.id nm size round = { retries := r, outs := if thereB I nm then O else O.tail, boxes := if (newC x 1 (pullV ⟨r, O, [x], I⟩ nm) round r).state = 5 then [] else [newC x 1 (pullV ⟨r, O, [x], I⟩ nm) round r], images := if pullV ⟨r, O, [x], I⟩ nm then putI I nm size round else I } := by
  unfold pullW
  rw [if_pos (show mayC [x] x.id 1 = 0 by rw [mayC_one, if_neg ht])]
  show (⟨_, _, settleC [x] (placeC [x] x.id) (fndC [x] x.id) _ _ _ _, _⟩ : WorldV) = _
  rw [placeC_one, fndC_one]
  rfl
theorem lq1 (id : ByteArray) (r : Int) : createE lf0.boxes id = 0 ∧ ({ lf0 with boxes := createC lf0.boxes id r } : WorldV) = lf1 id r := ⟨rfl, rfl⟩
theorem lq2 (id nm : ByteArray) (z r q : Int) : mayC (lf1 id r).boxes id 1 = 0 ∧ pullB (lf1 id r) id nm = true ∧ pullN (lf1 id r) id nm = true ∧ pullW (lf1 id r) id nm z q = lf2 id nm z q := by
  have h0 : mayC [(⟨id, 1, 0, r⟩ : ContV)] (⟨id, 1, 0, r⟩ : ContV).id 1 = 0 := by rw [mayC_one]; rfl
  refine ⟨h0, ?_, ?_, ?_⟩
  · unfold pullB; rw [if_pos (show mayC (lf1 id r).boxes id 1 = 0 from h0)]; rfl
  · unfold pullN; rw [if_pos (show mayC (lf1 id r).boxes id 1 = 0 from h0)]; rfl
  · show pullW ⟨0, [], [⟨id, 1, 0, r⟩], []⟩ (⟨id, 1, 0, r⟩ : ContV).id nm z q = _
    rw [pullW_one (show toS 1 1 ≠ 0 by decide)]
    rfl
theorem lq3 (id nm : ByteArray) (z r q : Int) : askC (lf2 id nm z r) id 2 = 0 ∧ askB (lf2 id nm z r) id 2 = true ∧ askW (lf2 id nm z r) id 2 q = lf3 id nm z r q :=
  ⟨askC_one (x := ⟨id, 2, 0, r⟩) rfl (show toS 2 2 ≠ 0 by decide) (by decide), askB_one (x := ⟨id, 2, 0, r⟩) rfl (show toS 2 2 ≠ 0 by decide) (by decide), by
    show askW ⟨0, [], [⟨id, 2, 0, r⟩], _⟩ (⟨id, 2, 0, r⟩ : ContV).id 2 q = _
    rw [askW_one (show toS 2 2 ≠ 0 by decide) (by decide)]; rfl⟩
theorem lq4 (id nm : ByteArray) (z r p q : Int) : askC (lf3 id nm z r p) id 3 = 0 ∧ askB (lf3 id nm z r p) id 3 = true ∧ askW (lf3 id nm z r p) id 3 q = lf4 id nm z r q :=
  ⟨askC_one (x := ⟨id, 3, 0, p⟩) rfl (show toS 3 3 ≠ 0 by decide) (by decide), askB_one (x := ⟨id, 3, 0, p⟩) rfl (show toS 3 3 ≠ 0 by decide) (by decide), by
    show askW ⟨0, [], [⟨id, 3, 0, p⟩], _⟩ (⟨id, 3, 0, p⟩ : ContV).id 3 q = _
    rw [askW_one (show toS 3 3 ≠ 0 by decide) (by decide)]; rfl⟩
theorem lq5 (id nm : ByteArray) (z r p q : Int) : askC (lf4 id nm z r p) id 4 = 0 ∧ askB (lf4 id nm z r p) id 4 = true ∧ askW (lf4 id nm z r p) id 4 q = lf5 nm z r :=
  ⟨askC_one (x := ⟨id, 4, 0, p⟩) rfl (show toS 4 4 ≠ 0 by decide) (by decide), askB_one (x := ⟨id, 4, 0, p⟩) rfl (show toS 4 4 ≠ 0 by decide) (by decide), by
    show askW ⟨0, [], [⟨id, 4, 0, p⟩], _⟩ (⟨id, 4, 0, p⟩ : ContV).id 4 q = _
    rw [askW_one (show toS 4 4 ≠ 0 by decide) (by decide)]; rfl⟩
theorem lt_one (x : ImgV) : thereB [x] x.name = true := by unfold thereB; simp
theorem ld_one (x : ImgV) : dropI [x] x.name = [] := by unfold dropI; simp
theorem lq6 (nm : ByteArray) (z r : Int) : dropC (lf5 nm z r) nm = 0 ∧ dropB (lf5 nm z r) nm = true ∧ dropW (lf5 nm z r) nm = lf6 := by
  have h : thereB (lf5 nm z r).images nm = true := lt_one ⟨nm, z, r⟩
  have h2 : dropI (lf5 nm z r).images nm = [] := ld_one ⟨nm, z, r⟩
  unfold dropC dropB dropW
  rw [h, h2]
  exact ⟨rfl, rfl, rfl⟩
theorem lq7 (nm : ByteArray) : dropC lf6 nm = 4 ∧ dropB lf6 nm = false ∧ dropW lf6 nm = lf6 := ⟨rfl, rfl, rfl⟩
theorem lb (id : ByteArray) (s t q : Int) : thereC [(⟨id, s, t, q⟩ : ContV)] id = true ∧ (fndC [(⟨id, s, t, q⟩ : ContV)] id).state = s ∧ (fndC [(⟨id, s, t, q⟩ : ContV)] id).tries = t := by
  have h := fndC_one ⟨id, s, t, q⟩
  refine ⟨thereC_one ⟨id, s, t, q⟩, ?_, ?_⟩ <;> (have e : fndC [(⟨id, s, t, q⟩ : ContV)] id = ⟨id, s, t, q⟩ := h; rw [e])
theorem lg1 {id : ByteArray} (hid : id.size ≤ maxLen) {r : Int} (hr : InI r) : (lf1 id r).Good 1 := (lq1 id r).2 ▸ good_create (good_new 0) hid hr
theorem lg2 {id : ByteArray} (hid : id.size ≤ maxLen) (nm : ByteArray) (z : Int) {q : Int} (hq : InI q) : (lf2 id nm z q).Good 2 := (lq2 id nm z 0 q).2.2.2 ▸ good_pull (lg1 hid (r := 0) (by unfold InI; simp)) _ _ _ hq
theorem lg3 {id : ByteArray} (hid : id.size ≤ maxLen) (nm : ByteArray) (z : Int) {r q : Int} (hr : InI r) (hq : InI q) : (lf3 id nm z r q).Good 2 := (lq3 id nm z r q).2.2 ▸ good_ask (lg2 hid nm z hr) _ _ hq
theorem lg4 {id : ByteArray} (hid : id.size ≤ maxLen) (nm : ByteArray) (z : Int) {r q : Int} (hr : InI r) (hq : InI q) : (lf4 id nm z r q).Good 2 := (lq4 id nm z r 0 q).2.2 ▸ good_ask (lg3 hid nm z hr (q := 0) (by unfold InI; simp)) _ _ hq
theorem lg5 (nm : ByteArray) (z r : Int) : (lf5 nm z r).Good 1 := ⟨List.Pairwise.nil, List.pairwise_singleton _ _, by simp [lf5], by simp [lf5], by simp [lf5], fun x hx => by cases hx⟩
set_option maxRecDepth 100000 in
set_option maxHeartbeats 32000000 in
theorem walk (id nm : ByteArray) (z r : Int) (w : World) (hid : id.size ≤ maxLen) (hnm : nm.size ≤ maxLen) (hz : 0 ≤ z ∧ z ≤ 4294967295) (hr : 0 ≤ r ∧ r ≤ 4294967295) :
    Calls Try.prog 15 #[.string id, .string nm, .int .u32 z, .int .u32 r] w fun e w' => e = .returned (.bool true) ∧ Below w.heap.size w w' := by
  have hw : Below w.heap.size w w := Below.refl _ _
  have hbel := hw
  obtain ⟨hr0, hr9⟩ := hr
  obtain ⟨hz0, hz9⟩ := hz
  have hcz : IntKind.i64.wrap z = z := IntWalk.i64_in _ (by omega)
  have hcr : IntKind.i64.wrap r = r := IntWalk.i64_in _ (by omega)
  have hc1 : IntKind.i64.wrap (r + 1) = r + 1 := IntWalk.i64_in _ (by omega)
  have hc2 : IntKind.i64.wrap (r + 2) = r + 2 := IntWalk.i64_in _ (by omega)
  have hc3 : IntKind.i64.wrap (r + 3) = r + 3 := IntWalk.i64_in _ (by omega)
  have hc4 : IntKind.i64.wrap (r + 4) = r + 4 := IntWalk.i64_in _ (by omega)
  have HID := Lib.hid hid
  have HN := Lib.hid hnm
  have hids : id.size ≤ 9223372036854775807 := by unfold maxLen at hid; omega
  have hnms : nm.size ≤ 9223372036854775807 := by unfold maxLen at hnm; omega
  clear hid hnm
  go_enter Try.func15, Try.ntmps15
  by_cases h1 : 60 < id.size
  · have t5 : decide (60 < (id.size : Int)) = true := decide_eq_true (by omega)
    have t6 : (60 : Int) < (id.size : Int) := by omega
    go_wp2_with (first | (go_at_call 37; (with_reducible refine (awake16 _).mono ?_); rintro e w1 ⟨rfl, hb1⟩; replace hbel := belStep hbel hb1; clear hb1))
    go_ret
    exact ⟨rfl, hbel⟩
  · have t1 : decide (60 < (id.size : Int)) = false := decide_eq_false (by omega)
    have u1 : ¬ (60 : Int) < (id.size : Int) := by omega
    by_cases h2 : 60 < nm.size
    · have t5 : decide (60 < (nm.size : Int)) = true := decide_eq_true (by omega)
      have t6 : (60 : Int) < (nm.size : Int) := by omega
      go_wp2_with (first | (go_at_call 37; (with_reducible refine (awake16 _).mono ?_); rintro e w1 ⟨rfl, hb1⟩; replace hbel := belStep hbel hb1; clear hb1))
      go_ret
      exact ⟨rfl, hbel⟩
    · have t2 : decide (60 < (nm.size : Int)) = false := decide_eq_false (by omega)
      have u2 : ¬ (60 : Int) < (nm.size : Int) := by omega
      go_upto_region 7 with (first | (go_at_call 37; (with_reducible refine (awake16 _).mono ?_); rintro e w1 ⟨rfl, hb1⟩; replace hbel := belStep hbel hb1; clear hb1) | (go_at_call 39; (with_reducible refine (wl_NewM 0 w _ hbel).mono ?_); rintro e w1 ⟨M, rfl, hS_, hb_⟩; have HS := Lib.hid hS_; clear hS_ hb_))
      clear hbel t1 u1 t2 u2 h1 h2 hids hnms hw
      go_upto_region 8 with fail
      have HS := Lib.hid (show LifeS w (w1.alloc (.cells #[.int .i64 1] 3)) M none (.slice (some ⟨w1.heap.size, 0, none⟩) 1 1) [1] 0 0 lf0 from ⟨HS.out.grown (Apart.of_below (belAlloc (Below.refl _ _) _)) (fun y hy => by simp [lX, Value.ownBlock] at hy; subst hy; exact .inr ⟨Nat.le_refl _, by simp⟩), own_lit1 _ _ HS.out.below.size 1, fun x e => by cases e⟩)
      generalize w1.alloc (.cells #[.int .i64 1] 3) = W1 at *
      generalize w1.heap.size = g0 at *
      have hi0 : InI r := (by unfold InI; omega)
      have hi1 : InI (r + 1) := (by unfold InI; omega)
      have hi2 : InI (r + 2) := (by unfold InI; omega)
      have hi3 : InI (r + 3) := (by unfold InI; omega)
      have C1 := Lib.hid (fun u xo v l s t (h : LifeS w u M xo v l s t lf0) => wl_Create w u M (lX xo v) lf0 0 h.1 (good_new 0) (by omega) id r 0 (lf1 id r) (lq1 id r).1 (lq1 id r).2)
      have C2 := Lib.hid (fun u xo v l s t (h : LifeS w u M xo v l s t (lf1 id r)) => wl_Pull w u M (lX xo v) (lf1 id r) 1 h.1 (lg1 HID.out hi0) (by omega) id nm z (r + 1) 0 true true (lf2 id nm z (r + 1)) (lq2 id nm z r (r + 1)).1 (lq2 id nm z r (r + 1)).2.1 (lq2 id nm z r (r + 1)).2.2.1 (lq2 id nm z r (r + 1)).2.2.2)
      have C3 := Lib.hid (fun u xo v l s t (h : LifeS w u M xo v l s t (lf2 id nm z (r + 1))) => wl_Box w u M (lX xo v) (lf2 id nm z (r + 1)) 2 h.1 (lg2 HID.out nm z hi1) (by omega) id true 2 0 (lb id 2 0 (r + 1)).1 (lb id 2 0 (r + 1)).2.1 (lb id 2 0 (r + 1)).2.2)
      have C4 := Lib.hid (fun u xo v l s t (h : LifeS w u M xo v l s t (lf2 id nm z (r + 1))) => wl_Ask w u M (lX xo v) (lf2 id nm z (r + 1)) 2 h.1 (lg2 HID.out nm z hi1) (by omega) id 2 (r + 2) 0 true (lf3 id nm z (r + 1) (r + 2)) (by unfold InI; omega) (lq3 id nm z (r + 1) (r + 2)).1 (lq3 id nm z (r + 1) (r + 2)).2.1 (lq3 id nm z (r + 1) (r + 2)).2.2)
      have C5 := Lib.hid (fun u xo v l s t (h : LifeS w u M xo v l s t (lf3 id nm z (r + 1) (r + 2))) => wl_Box w u M (lX xo v) (lf3 id nm z (r + 1) (r + 2)) 2 h.1 (lg3 HID.out nm z hi1 hi2) (by omega) id true 3 0 (lb id 3 0 (r + 2)).1 (lb id 3 0 (r + 2)).2.1 (lb id 3 0 (r + 2)).2.2)
      have C6 := Lib.hid (fun u xo v l s t (h : LifeS w u M xo v l s t (lf3 id nm z (r + 1) (r + 2))) => wl_Ask w u M (lX xo v) (lf3 id nm z (r + 1) (r + 2)) 2 h.1 (lg3 HID.out nm z hi1 hi2) (by omega) id 3 (r + 3) 0 true (lf4 id nm z (r + 1) (r + 3)) (by unfold InI; omega) (lq4 id nm z (r + 1) (r + 2) (r + 3)).1 (lq4 id nm z (r + 1) (r + 2) (r + 3)).2.1 (lq4 id nm z (r + 1) (r + 2) (r + 3)).2.2)
      have C7 := Lib.hid (fun u xo v l s t (h : LifeS w u M xo v l s t (lf4 id nm z (r + 1) (r + 3))) => wl_Box w u M (lX xo v) (lf4 id nm z (r + 1) (r + 3)) 2 h.1 (lg4 HID.out nm z hi1 hi3) (by omega) id true 4 0 (lb id 4 0 (r + 3)).1 (lb id 4 0 (r + 3)).2.1 (lb id 4 0 (r + 3)).2.2)
      have C8 := Lib.hid (fun u (h : WL w u M [] (lf4 id nm z (r + 1) (r + 3))) => wl_Ask w u M [] (lf4 id nm z (r + 1) (r + 3)) 2 h (lg4 HID.out nm z hi1 hi3) (by omega) id 4 (r + 4) 0 true (lf5 nm z (r + 1)) (by unfold InI; omega) (lq5 id nm z (r + 1) (r + 3) (r + 4)).1 (lq5 id nm z (r + 1) (r + 3) (r + 4)).2.1 (lq5 id nm z (r + 1) (r + 3) (r + 4)).2.2)
      have C9 := Lib.hid (fun u (h : WL w u M [] (lf5 nm z (r + 1))) => wl_Box w u M [] (lf5 nm z (r + 1)) 1 h (lg5 nm z (r + 1)) (by omega) id false 0 0 rfl rfl rfl)
      have CA := Lib.hid (fun u (h : WL w u M [] (lf5 nm z (r + 1))) => wl_Images w u M [] (lf5 nm z (r + 1)) 1 h (lg5 nm z (r + 1)) (by omega) 1 rfl)
      have CB := Lib.hid (fun u (h : WL w u M [] (lf5 nm z (r + 1))) => wl_Containers w u M [] (lf5 nm z (r + 1)) 1 h (lg5 nm z (r + 1)) (by omega) 0 rfl)
      have CC := Lib.hid (fun u (h : WL w u M [] (lf5 nm z (r + 1))) => wl_Drop w u M [] (lf5 nm z (r + 1)) 1 h (lg5 nm z (r + 1)) (by omega) nm 0 true lf6 (lq6 nm z (r + 1)).1 (lq6 nm z (r + 1)).2.1 (lq6 nm z (r + 1)).2.2)
      have CD := Lib.hid (fun u (h : WL w u M [] lf6) => wl_Drop w u M [] lf6 0 h (good_new 0) (by omega) nm 4 false lf6 (lq7 nm).1 (lq7 nm).2.1 (lq7 nm).2.2)
      have CE := Lib.hid (fun u (h : WL w u M [] lf6) => wl_Images w u M [] lf6 0 h (good_new 0) (by omega) 0 rfl)
      clear hi0 hi1 hi2 hi3
      go_upto_region 9 with (go_at_call 45; (with_reducible refine (C1.out _ _ _ _ _ _ HS.out).mono ?_); rintro e w2 ⟨rfl, hS_, hK_, hz_⟩; replace HS := Lib.hid (HS.out.call hS_ hK_); clear hS_ hK_ hz_)
      go_upto_region 10 with (go_at_call 46; (with_reducible refine (C2.out _ _ _ _ _ _ HS.out).mono ?_); rintro e w3 ⟨rfl, hS_, hK_, hz_⟩; replace HS := Lib.hid (HS.out.call hS_ hK_); clear hS_ hK_ hz_)
      go_upto_region 11 with (go_at_call 41; (with_reducible refine (C3.out _ _ _ _ _ _ HS.out).mono ?_); rintro e w4 ⟨rfl, hS_, hb_⟩; replace HS := Lib.hid (HS.out.later hb_); clear hS_ hb_)
      have HS := Lib.hid (HS.out.box 2 0)
      generalize w4.alloc (.cells #[.int .i64 2, .int .i64 0] 33) = W4 at *
      generalize w4.heap.size = xb at *
      have x0 := (HS.out.2.2 xb rfl).cell (j := 0) rfl
      have x1 := (HS.out.2.2 xb rfl).cell (j := 1) rfl
      have HA := Lib.hid (HS.out.later (belAlloc (Below.refl _ _) (.cells #[.int .i64 2] 3)))
      go_upto_region 12 with (at_builtin; refine wpList_app_one rfl _ _ 85 rfl w.heap.size 3 .i64 8 Try.underlying85 info_intW _ [1] rfl (HA.out.2.1) _ 2 rfl (by simp <;> rfl) (by unfold maxLen; simp) (by simp) HA.out.1.below.size ?_; intro v5 w5 ho_ hb_ hg_ hm_; replace HS := Lib.hid (HA.out.app ho_ hg_ hm_); obtain ⟨a9_, c9_, e9_, _⟩ := rowR_of_own ho_; simp only [List.length_append, List.length_cons, List.length_nil, Nat.zero_add, Nat.reduceAdd] at e9_; subst e9_; clear HA ho_ hb_ hg_ hm_)
      go_upto_region 13 with (go_at_call 50; (with_reducible refine (C4.out _ _ _ _ _ _ HS.out).mono ?_); rintro e w6 ⟨rfl, hS_, hK_, hz_⟩; replace HS := Lib.hid (HS.out.call hS_ hK_); clear hS_ hK_ hz_)
      go_upto_region 14 with (go_at_call 41; (with_reducible refine (C5.out _ _ _ _ _ _ HS.out).mono ?_); rintro e w7 ⟨rfl, hS_, hb_⟩; replace HS := Lib.hid (HS.out.later hb_); have x0 := (HS.out.2.2 xb rfl).cell (j := 0) rfl; have x1 := (HS.out.2.2 xb rfl).cell (j := 1) rfl; have xf := (HS.out.2.2 xb rfl).frozen; clear hS_ hb_)
      clear x0 x1 xf
      have HS := Lib.hid (HS.out.store 3 0)
      generalize (w7.setCell ⟨xb, 0, none⟩ (.int .i64 3)).setCell ⟨xb, 1, none⟩ (.int .i64 0) = W7 at *
      have x0 := (HS.out.2.2 xb rfl).cell (j := 0) rfl
      have x1 := (HS.out.2.2 xb rfl).cell (j := 1) rfl
      have HA := Lib.hid (HS.out.later (belAlloc (Below.refl _ _) (.cells #[.int .i64 3] 3)))
      go_upto_region 15 with (at_builtin; refine wpList_app_one rfl _ _ 85 rfl w.heap.size 3 .i64 8 Try.underlying85 info_intW _ [1, 2] rfl (HA.out.2.1) _ 3 rfl (by simp <;> rfl) (by unfold maxLen; simp) (by simp) HA.out.1.below.size ?_; intro v8 w8 ho_ hb_ hg_ hm_; replace HS := Lib.hid (HA.out.app ho_ hg_ hm_); obtain ⟨a9_, c9_, e9_, _⟩ := rowR_of_own ho_; simp only [List.length_append, List.length_cons, List.length_nil, Nat.zero_add, Nat.reduceAdd] at e9_; subst e9_; clear HA ho_ hb_ hg_ hm_)
      go_upto_region 16 with (go_at_call 50; (with_reducible refine (C6.out _ _ _ _ _ _ HS.out).mono ?_); rintro e w9 ⟨rfl, hS_, hK_, hz_⟩; replace HS := Lib.hid (HS.out.call hS_ hK_); clear hS_ hK_ hz_)
      go_upto_region 17 with (go_at_call 41; (with_reducible refine (C7.out _ _ _ _ _ _ HS.out).mono ?_); rintro e wA ⟨rfl, hS_, hb_⟩; replace HS := Lib.hid (HS.out.later hb_); have x0 := (HS.out.2.2 xb rfl).cell (j := 0) rfl; have x1 := (HS.out.2.2 xb rfl).cell (j := 1) rfl; have xf := (HS.out.2.2 xb rfl).frozen; clear hS_ hb_)
      clear x0 x1 xf
      have HS := Lib.hid (HS.out.store 4 0)
      generalize (wA.setCell ⟨xb, 0, none⟩ (.int .i64 4)).setCell ⟨xb, 1, none⟩ (.int .i64 0) = WA at *
      have x0 := (HS.out.2.2 xb rfl).cell (j := 0) rfl
      have x1 := (HS.out.2.2 xb rfl).cell (j := 1) rfl
      have HA := Lib.hid (HS.out.later (belAlloc (Below.refl _ _) (.cells #[.int .i64 4] 3)))
      go_upto_region 18 with (at_builtin; refine wpList_app_one rfl _ _ 85 rfl w.heap.size 3 .i64 8 Try.underlying85 info_intW _ [1, 2, 3] rfl (HA.out.2.1) _ 4 rfl (by simp <;> rfl) (by unfold maxLen; simp) (by simp) HA.out.1.below.size ?_; intro vB wB ho_ hb_ hg_ hm_; replace HS := Lib.hid (HA.out.app ho_ hg_ hm_); obtain ⟨a9_, c9_, e9_, _⟩ := rowR_of_own ho_; simp only [List.length_append, List.length_cons, List.length_nil, Nat.zero_add, Nat.reduceAdd] at e9_; subst e9_; clear HA ho_ hb_ hg_ hm_)
      generalize wB = W9 at *
      have HWL := Lib.hid (show WL w W9 M [] (lf4 id nm z (r + 1) (r + 3)) from HS.out.1.sub (fun y hy => by cases hy))
      have HCE := Lib.hid (life_cells HS.out.2.1)
      clear HS
      have hb9 : Below W9.heap.size W9 W9 := Below.refl _ _
      obtain ⟨bR, oR, rfl, hc9, hcell⟩ := HCE.out
      have HCL := Lib.hid hcell
      clear hcell
      go_wp2
      go_loopw [17] (fun iv wr => ∃ k : Nat, k ≤ 4 ∧ iv = .int .i64 k ∧ Below W9.heap.size W9 wr) (fun iv _ => 4 - (intOf iv).toNat)
      case atStart => exact ⟨0, Nat.zero_le _, rfl, hb9⟩
      case round =>
        clear hb9
        obtain ⟨k, hk, rfl, hbel⟩ := hrel
        obtain ⟨hc91, hc92⟩ := hc9
        by_cases hlt : k < 4
        · have hd : decide ((k : Int) < 4) = true := decide_eq_true (by omega)
          have hki : (k : Int) < 4 := by omega
          have hk0 : (0 : Int) ≤ (k : Int) := by omega
          have c0 := keep (HCL.out k hlt)
          have hwk : IntKind.i64.wrap ((k : Int) + 1) = (k : Int) + 1 := IntWalk.i64_in _ (by omega)
          go_wp2
          go_roundw
          case rel => exact ⟨k + 1, by omega, by push_cast; rfl, hbel⟩
          case measure => simp [intOf] <;> omega
        · obtain rfl : k = 4 := by omega
          have HS := Lib.hid (HWL.out.later hbel)
          clear hbel
          have heqi := fun u => show (Op.equalIn 10000 46 (.agg #[.string nm, .int .i64 z, .int .i64 (r + 1)]) (.agg #[.string nm, .int .i64 z, .int .i64 (r + 1)])).run Try.prog u = .ok true u from by have h := eq_img ⟨nm, z, r + 1⟩ ⟨nm, z, r + 1⟩ u; rwa [show eqImg (⟨nm, z, r + 1⟩ : ImgV) ⟨nm, z, r + 1⟩ = true from (eqImg_iff _ _).2 rfl] at h
          go_upto_region 24 with (go_at_call 50; (with_reducible refine (C8.out _ HS.out).mono ?_); rintro e wC ⟨rfl, hS_, hK_, hz_⟩; replace HS := Lib.hid hS_; clear hS_ hK_ hz_)
          go_upto_region 25 with (go_at_call 41; (with_reducible refine (C9.out _ HS.out).mono ?_); rintro e wD ⟨rfl, hS_, hb_⟩; replace HS := Lib.hid hS_; clear hS_ hb_)
          replace HS := Lib.hid (HS.out.later (belAlloc (Below.refl _ _) (.cells #[.int .i64 0, .int .i64 0] 33)))
          generalize wD.alloc (.cells #[.int .i64 0, .int .i64 0] 33) = WD at *
          go_upto_region 26 with (go_at_call 49; (with_reducible refine (CA.out _ HS.out).mono ?_); rintro e wE ⟨aI, cI, rfl, ho_, hr_, hS_, hb_⟩; have HI := Lib.hid hr_; clear ho_ hr_; replace HS := Lib.hid hS_; clear hS_ hb_)
          obtain ⟨bI, oI, eI, _, hcI⟩ := HI.out.elem ImgV.cells_len (by omega) (show (lf5 nm z (r + 1)).images[0]? = some ⟨nm, z, r + 1⟩ from rfl)
          subst eI
          generalize wE = WE at *
          have hbel : Below WE.heap.size WE WE := Below.refl _ _
          have i0 := keep (hcI 0 _ rfl)
          have i1 := keep (hcI 1 _ rfl)
          have i2 := keep (hcI 2 _ rfl)
          simp only [Nat.zero_mul, Nat.add_zero] at i0 i1 i2
          clear hcI
          have n0 : 0 < 1 := by omega
          have hbI : 1 ≤ cI ∧ cI ≤ 9223372036854775807 := by obtain ⟨_, h1, h2, _⟩ := HI.out; unfold maxLen at h2; exact ⟨h1, h2⟩
          obtain ⟨hbI1, hbI2⟩ := hbI
          go_wp2_with (first | (go_at_call 48; (with_reducible refine (CB.out _ HS.out).mono ?_); rintro e wF ⟨aB, cB, rfl, ho_, hr_, hS_, hb_⟩; have hbz := belStep hbel hb_; clear hbel; have hbel := hbz; replace HS := Lib.hid hS_; clear hS_ hb_ ho_ hr_ hbz) | (go_at_call 51; (with_reducible refine (CC.out _ HS.out).mono ?_); rintro e wG ⟨rfl, hS_, hK_, hz_⟩; replace HS := Lib.hid hS_; clear hS_ hK_ hz_) | (go_at_call 51; (with_reducible refine (CD.out _ HS.out).mono ?_); rintro e wH ⟨rfl, hS_, hK_, hz_⟩; replace HS := Lib.hid hS_; clear hS_ hK_ hz_) | (go_at_call 49; (with_reducible refine (CE.out _ HS.out).mono ?_); rintro e wI ⟨aJ, cJ, rfl, ho_, hr_, hS_, hb_⟩; replace HS := Lib.hid hS_; clear hS_ hb_ ho_ hr_))
          go_ret
          exact ⟨rfl, HS.out.below⟩

set_option maxRecDepth 100000 in
theorem lifted (os : Os) (started : os.Started) (H : Type) (enc : TypeId × Value → H) :
    ReturnsInHanded {} Try.checked os 15 .any (Rows.worldLifeSpec.pre6 enc Try.prog Try.f15 Rows.worldLifeRow.domain false) (Rows.worldLifeSpec.post enc Try.prog Try.f15 false true false false) := by
  refine returnsInHanded_of_change (C := Try.checked) own started (by kernel_rfl) Try.func15
    (ChangeSpec.witness6 (enc := enc) (C := Try.checked) false ⟨#[], #[.string ByteArray.empty, .string ByteArray.empty, .int .u32 0, .int .u32 0], []⟩ 8 (by kernel_rfl) (by kernel_rfl) (by kernel_rfl) (by kernel_rfl)) ?_
  intro W base args ds gs before hval0 hW hcnd _
  have hval : ∀ (j : Nat) t v, Try.f15.params[j]? = some t → args[j]? = some v → Value.okWide Try.prog W .any base t v := hval0
  have hW' := hW
  obtain ⟨p, q, hA0, hV, rfl, hfz, hnd⟩ := hW
  have hA : DataW.TrodAll enc Try.prog W 0 (fun _ => true) true Try.f15.params.toList args.toList ds p := hA0
  rw [Try.params15] at hA hval
  obtain ⟨v0, vs0, d0, ds0, p0, q0, hargs, rfl, rfl, h0, r0⟩ := trodAll_cons hA
  obtain ⟨v1, vs1, d1, ds1, p1, q1, rfl, rfl, rfl, h1, r1⟩ := trodAll_cons r0
  obtain ⟨v2, vs2, d2, ds2, p2, q2, rfl, rfl, rfl, h2, r2⟩ := trodAll_cons r1
  obtain ⟨v3, vs3, d3, ds3, p3, q3, rfl, rfl, rfl, h3, r3⟩ := trodAll_cons r2
  obtain ⟨rfl, rfl, rfl⟩ := trodAll_nil r3
  obtain rfl : args = #[v0, v1, v2, v3] := by cases args; simp_all
  obtain ⟨rfl, rfl⟩ := trodVars_none hV
  have k0 := h0
  have lt0 : ∀ x ∈ p0, x.block < W.heap.size := by obtain ⟨m, hm⟩ := k0; exact DataW.trod_lt m _ _ _ hm
  have o0 : Value.okWide Try.prog W .any base 9 v0 := hval 0 9 v0 rfl rfl
  obtain ⟨a0, rfl, rfl, rfl, w0⟩ := open_string Try.underlying9 o0 h0
  have k1 := h1
  have lt1 : ∀ x ∈ p1, x.block < W.heap.size := by obtain ⟨m, hm⟩ := k1; exact DataW.trod_lt m _ _ _ hm
  have o1 : Value.okWide Try.prog W .any base 9 v1 := hval 1 9 v1 rfl rfl
  obtain ⟨a1, rfl, rfl, rfl, w1⟩ := open_string Try.underlying9 o1 h1
  have k2 := h2
  have lt2 : ∀ x ∈ p2, x.block < W.heap.size := by obtain ⟨m, hm⟩ := k2; exact DataW.trod_lt m _ _ _ hm
  have o2 : Value.okWide Try.prog W .any base 84 v2 := hval 2 84 v2 rfl rfl
  obtain ⟨a2, rfl, rfl, rfl, w2⟩ := open_int Try.underlying84 o2 h2
  have k3 := h3
  have lt3 : ∀ x ∈ p3, x.block < W.heap.size := by obtain ⟨m, hm⟩ := k3; exact DataW.trod_lt m _ _ _ hm
  have o3 : Value.okWide Try.prog W .any base 84 v3 := hval 3 84 v3 rfl rfl
  obtain ⟨a3, rfl, rfl, rfl, w3⟩ := open_int Try.underlying84 o3 h3
  clear hA0 hval0
  refine (walk a0 a1 a2 a3 W w0 w1 (in32_of_wf w2) (in32_of_wf w3)).mono fun e W' ⟨he, bel⟩ => ?_
  subst he
  exact ⟨_, rfl, _, _, _, [], _, [], hW', trodAll_mk1 (shut_bool Try.underlying4 _), (trodAll_cons_mk (Below.trod laidOut (by kernel_rfl) (of_decide_eq_true (by kernel_rfl)) k0 bel lt0) (trodAll_cons_mk (Below.trod laidOut (by kernel_rfl) (of_decide_eq_true (by kernel_rfl)) k1 bel lt1) (trodAll_cons_mk (Below.trod laidOut (by kernel_rfl) (of_decide_eq_true (by kernel_rfl)) k2 bel lt2) (trodAll_cons_mk (Below.trod laidOut (by kernel_rfl) (of_decide_eq_true (by kernel_rfl)) k3 bel lt3) trodAll_mk0)))), rfl, bel.frame _, fun h => by cases h⟩

theorem over : Rows.worldLifeRow.holds Try.pinned (OpenSpec.ofChange Rows.worldLifeSpec) :=
  OpenClaim.holds_of_wide 15 Try.f15 rfl rfl rfl rfl rfl rfl rfl ⟨rfl, rfl, rfl, rfl, rfl⟩ rfl rfl rfl rfl rfl (by kernel_rfl) Try.func15 (by kernel_rfl)
    (of_decide_eq_true (by kernel_rfl)) (by unfold Func.isWrapper; first | (rw [if_pos (by decide +kernel)]; kernel_rfl) | (rw [if_neg (by decide +kernel)]; exact ⟨rfl, rfl⟩))
    (fun os started H enc _ => lifted os started H enc)

/-- The statement. -/
theorem proved : Rows.WorldLifeSaid := over
#print axioms proved

end Go.Proofs.Ytampkolkbjmmkaa.worldLife
